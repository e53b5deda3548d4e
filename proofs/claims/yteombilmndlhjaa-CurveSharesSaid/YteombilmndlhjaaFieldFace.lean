/-
  WHAT PACKAGE field OWES, AS ONE PREMISE (FieldOk), AND WHAT FOLLOWS: orloplaw07.same and awake. Conditions: FieldOk (proved of the code elsewhere).
-/
import Derived.Test.YteombilmndlhjaaRefInv
import Derived.Test.YteombilmndlhjaaWordC
import Derived.Test.YteombilmndlhjaaApart
import Derived.Test.YteombilmndlhjaaFieldB
namespace Go.Proofs.Yteombilmndlhjaa
open Go.RowKit
set_option linter.unusedVariables false

/-- Fe L n: the cells L are an element's, the number n. -/
structure FieldOk (Fe : List Value → Nat → Prop) : Prop where
  len : ∀ {L n}, Fe L n → L.length = 5
  one : ∀ {L n}, Fe L n → ∀ u ∈ L, u.oneCell' = true
  lt : ∀ {L n}, Fe L n → n < M.Q
  from_ : ∀ (v : Value) (bs : List UInt8) (w : World), IsB w v bs → Calls Try.prog 17 #[v] w (GivesE Fe w (M.told bs % M.Q))
  bytes_ : ∀ (L : List Value) (n : Nat) (w : World), Fe L n → Calls Try.prog 20 #[.agg L.toArray] w (Makes w (M.le n 32))
  add_ : ∀ (K L : List Value) (m n : Nat) (w : World), Fe K m → Fe L n → Calls Try.prog 42 #[.agg K.toArray, .agg L.toArray] w (GivesE Fe w ((m + n) % M.Q))
  sub_ : ∀ (K L : List Value) (m n : Nat) (w : World), Fe K m → Fe L n → Calls Try.prog 43 #[.agg K.toArray, .agg L.toArray] w (GivesE Fe w ((m + (M.Q - n)) % M.Q))
  mul_ : ∀ (K L : List Value) (m n : Nat) (w : World), Fe K m → Fe L n → Calls Try.prog 31 #[.agg K.toArray, .agg L.toArray] w (GivesE Fe w (m * n % M.Q))
  square_ : ∀ (K : List Value) (m : Nat) (w : World), Fe K m → Calls Try.prog 44 #[.agg K.toArray] w (GivesE Fe w (m * m % M.Q))
  times_ : ∀ (K : List Value) (m n : Nat) (w : World), Fe K m → n < 4294967296 → Calls Try.prog 45 #[.agg K.toArray, .int .u32 (n : Int)] w (GivesE Fe w (m * n % M.Q))
  invert_ : ∀ (K : List Value) (m : Nat) (w : World), Fe K m → Calls Try.prog 32 #[.agg K.toArray] w (GivesE Fe w (m ^ (M.Q - 2) % M.Q))
  swap_ : ∀ (b : Nat) (K L : List Value) (m n : Nat) (w : World), b < 18446744073709551616 → Fe K m → Fe L n → Calls Try.prog 41 #[.int .u64 (b : Int), .agg K.toArray, .agg L.toArray] w (GivesEE Fe w (if b % 2 = 1 then n else m) (if b % 2 = 1 then m else n))

/-! The same, each result's number under a name. -/

variable {Fe : List Value → Nat → Prop} (F : FieldOk Fe)
include F

theorem FieldOk.add_at {K L : List Value} {m n r : Nat} (w : World) (hK : Hid (Fe K m)) (hL : Hid (Fe L n)) (hr : Hid ((m + n) % M.Q = r)) : Calls Try.prog 42 #[.agg K.toArray, .agg L.toArray] w (GivesE Fe w r) := by
  rw [← hr.out]; exact F.add_ K L m n w hK.out hL.out

theorem FieldOk.sub_at {K L : List Value} {m n r : Nat} (w : World) (hK : Hid (Fe K m)) (hL : Hid (Fe L n)) (hr : Hid ((m + (M.Q - n)) % M.Q = r)) : Calls Try.prog 43 #[.agg K.toArray, .agg L.toArray] w (GivesE Fe w r) := by
  rw [← hr.out]; exact F.sub_ K L m n w hK.out hL.out

theorem FieldOk.mul_at {K L : List Value} {m n r : Nat} (w : World) (hK : Hid (Fe K m)) (hL : Hid (Fe L n)) (hr : Hid (m * n % M.Q = r)) : Calls Try.prog 31 #[.agg K.toArray, .agg L.toArray] w (GivesE Fe w r) := by
  rw [← hr.out]; exact F.mul_ K L m n w hK.out hL.out

theorem FieldOk.square_at {K : List Value} {m r : Nat} (w : World) (hK : Hid (Fe K m)) (hr : Hid (m * m % M.Q = r)) : Calls Try.prog 44 #[.agg K.toArray] w (GivesE Fe w r) := by
  rw [← hr.out]; exact F.square_ K m w hK.out

theorem FieldOk.times_at {K : List Value} {m n r : Nat} (w : World) (hK : Hid (Fe K m)) (hn : Hid (n < 4294967296)) (hr : Hid (m * n % M.Q = r)) : Calls Try.prog 45 #[.agg K.toArray, .int .u32 (n : Int)] w (GivesE Fe w r) := by
  rw [← hr.out]; exact F.times_ K m n w hK.out hn.out

theorem FieldOk.invert_at {K : List Value} {m r : Nat} (w : World) (hK : Hid (Fe K m)) (hr : Hid (m ^ (M.Q - 2) % M.Q = r)) : Calls Try.prog 32 #[.agg K.toArray] w (GivesE Fe w r) := by
  rw [← hr.out]; exact F.invert_ K m w hK.out

theorem FieldOk.bytes_at {K : List Value} {m : Nat} {bs : List UInt8} (w : World) (hK : Hid (Fe K m)) (hr : Hid (M.le m 32 = bs)) : Calls Try.prog 20 #[.agg K.toArray] w (Makes w bs) := by
  rw [← hr.out]; exact F.bytes_ K m w hK.out

theorem FieldOk.from_at {v : Value} {bs : List UInt8} {r : Nat} (w : World) (hi : IsB w v bs) (hr : Hid (M.told bs % M.Q = r)) : Calls Try.prog 17 #[v] w (GivesE Fe w r) := by
  rw [← hr.out]; exact F.from_ v bs w hi

omit F

theorem radd_at {K L : List Value} {m n r : Nat} (w : World) (hK : Hid (IsN K m)) (hL : Hid (IsN L n)) (hr : Hid ((m + n) % M.Q = r)) : Calls Try.prog 35 #[.agg K.toArray, .agg L.toArray] w (GivesN w r) := by
  rw [← hr.out]; exact radd_n w hK.out hL.out

theorem rsub_at {K L : List Value} {m n r : Nat} (w : World) (hK : Hid (IsN K m)) (hL : Hid (IsN L n)) (hn : Hid (n < M.Q)) (hr : Hid ((m + (M.Q - n)) % M.Q = r)) : Calls Try.prog 36 #[.agg K.toArray, .agg L.toArray] w (GivesN w r) := by
  rw [← hr.out]; exact rsub_n w hK.out hL.out (Nat.le_of_lt hn.out)

theorem rmul_at {K L : List Value} {m n r : Nat} (w : World) (hK : Hid (IsN K m)) (hL : Hid (IsN L n)) (hr : Hid (m * n % M.Q = r)) : Calls Try.prog 37 #[.agg K.toArray, .agg L.toArray] w (GivesN w r) := by
  rw [← hr.out]; exact rmul_n w hK.out hL.out

theorem rinvert_at {K : List Value} {m r : Nat} (w : World) (hK : Hid (IsN K m)) (hr : Hid (m ^ (M.Q - 2) % M.Q = r)) : Calls Try.prog 38 #[.agg K.toArray] w (GivesN w r) := by
  rw [← hr.out]; exact rinvert_n w hK.out

theorem rfrom_at {v : Value} {bs : List UInt8} {r : Nat} (w : World) (hi : IsB w v bs) (hr : Hid (M.told bs % M.Q = r)) : Calls Try.prog 23 #[v] w (GivesN w r) := by
  rw [← hr.out]; exact rfrom_n v bs w hi

theorem rsmall_at {n : Nat} (w : World) (hn : Hid (n < 4294967296)) : Calls Try.prog 24 #[.int .u32 (n : Int)] w (GivesN w n) := small_n n w hn.out

theorem equal_at {v1 v2 : Value} {bs : List UInt8} (w : World) (h1 : IsB w v1 bs) (h2 : IsB w v2 bs) : Calls Try.prog 10 #[v1, v2] w fun e w' => e = .returned (.bool true) ∧ Below w.heap.size w w' :=
  (requal_b v1 v2 bs bs w h1 h2).mono fun e w' h => ⟨by rw [h.1, decide_eq_true rfl], h.2⟩

namespace M
theorem told_ff : told (List.replicate 32 255) % Q = 18 := by decide +kernel
theorem told_2 : told [2] % Q = 2 := by decide +kernel
theorem told_3 : told [3] % Q = 3 := by decide +kernel
theorem six_mod : 2 * 3 % Q = 6 := by decide +kernel
theorem le_18 : (le 18 32).take 2 = [18, 0] := by decide +kernel
theorem le_6 : (le 6 32).take 1 = [6] := by decide +kernel
end M

theorem getD_take7 (l : List UInt8) (n i : Nat) (ys : List UInt8) (h : l.take n = ys) (hi : i < n) : l.getD i 0 = ys.getD i 0 := by
  rw [← h]
  simp [List.getD_eq_getElem?_getD, hi]

def ffs (k : Nat) : List UInt8 := List.replicate k 255 ++ List.replicate (32 - k) 0

theorem ffs_length (k : Nat) (h : k ≤ 32) : (ffs k).length = 32 := by rw [ffs, List.length_append, List.length_replicate, List.length_replicate]; omega

theorem ffs_set (k : Nat) (h : k < 32) : (Lib.byteCells (ffs k)).set k (.int .u8 255) = Lib.byteCells (ffs (k + 1)) := by
  obtain ⟨m, hm⟩ : ∃ m, 32 - k = m + 1 := ⟨31 - k, by omega⟩
  rw [ffs, ffs, hm, show 32 - (k + 1) = m by omega, byteCells_append, List.set_append_right _ _ (by rw [byteCells_length]; simp), byteCells_length, List.length_replicate, Nat.sub_self, List.replicate_succ (n := m),
    List.replicate_succ' (n := k), byteCells_append, byteCells_append, List.append_assoc]
  rfl

end Go.Proofs.Yteombilmndlhjaa
