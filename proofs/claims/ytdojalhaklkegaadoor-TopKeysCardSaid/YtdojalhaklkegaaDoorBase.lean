/-
  WHAT LATER TEXTS SHARE: bytes in memory, the call's own or come in, and how they last over later calls. Nothing of the program but the number of its type uint8. Conditions: none.
-/
import Derived.WalkKit
import Derived.Lib.UnsafeStr
import Derived.Lib.EndianBits
import Derived.Laws.BitsAllLaws
import Derived.Deep.Draws
import Derived.Test.YtdojalhaklkegaaDoorChecked
import Derived.Test.YtdojalhaklkegaaDoorMath
namespace Go.Proofs.YtdojalhaklkegaaDoor
open Go.RowKit

/-- The bytes bs lie at the address (or there are none). -/
def At (w : World) (ao : Option Addr) (bs : List UInt8) : Prop :=
  bs = [] ∨ ∃ b off, ao = some ⟨b, off, none⟩ ∧ ∀ i, i < bs.length → w.cell? ⟨b, off + i, none⟩ = some (.int .u8 ((bs.getD i 0).toNat : Int))

/-- The value is a slice of the bytes bs. -/
def IsB (w : World) (v : Value) (bs : List UInt8) : Prop := ∃ ao cap, v = .slice ao bs.length cap ∧ bs.length ≤ cap ∧ cap ≤ maxLen ∧ At w ao bs

/-- The value is a slice of the bytes bs, a row of the call's own (of blocks from B on). -/
def Own (w : World) (B : Nat) (v : Value) (bs : List UInt8) : Prop := w.ownsRow B 5 1 v bs.length (Lib.byteCells bs)

/-- The call hands back the bytes bs in memory of its own; what was there stands. -/
def Makes (w : World) (bs : List UInt8) (e : Ending) (w' : World) : Prop := ∃ r, e = .returned r ∧ Own w' w.heap.size r bs ∧ Below w.heap.size w w'

theorem byteCells_getElem? (bs : List UInt8) (i : Nat) (h : i < bs.length) : (Lib.byteCells bs)[i]? = some (.int .u8 ((bs.getD i 0).toNat : Int)) := by
  simp [Lib.byteCells, h]

theorem byteCells_length (bs : List UInt8) : (Lib.byteCells bs).length = bs.length := by simp [Lib.byteCells]

theorem byteCells_append (a b : List UInt8) : Lib.byteCells (a ++ b) = Lib.byteCells a ++ Lib.byteCells b := by simp [Lib.byteCells]

theorem byteCells_oneCell (bs : List UInt8) : ∀ u ∈ Lib.byteCells bs, u.oneCell' = true := by
  intro u hu
  obtain ⟨_, _, rfl⟩ := List.mem_map.1 hu
  rfl

theorem IsB.nil (w : World) : IsB w (.slice none 0 0) [] := ⟨none, 0, rfl, Nat.le_refl _, Nat.zero_le _, .inl rfl⟩

theorem Own.isB {w : World} {B : Nat} {v : Value} {bs : List UInt8} (h : Own w B v bs) : IsB w v bs := by
  rcases h.2 with ⟨rfl, hn⟩ | ⟨g, cap, cur, rfl, hb, hg, hn, hm, hs, ht⟩
  · have : bs = [] := List.eq_nil_of_length_eq_zero hn
    subst this
    exact IsB.nil w
  · refine ⟨_, cap, rfl, hn, hm, .inr ⟨g, 0, rfl, fun i hi => ?_⟩⟩
    have h' : w.ownsRow B 5 1 (.slice (some ⟨g, 0, none⟩) bs.length cap) bs.length (Lib.byteCells bs) := ⟨h.1, .inr ⟨g, cap, cur, rfl, hb, hg, hn, hm, hs, ht⟩⟩
    rw [Nat.zero_add, h'.cellAt i (by omega)]
    exact byteCells_getElem? bs i hi

theorem Own.below {w w' : World} {B : Nat} {v : Value} {bs : List UInt8} (h : Own w B v bs) (k : Below w.heap.size w w') : Own w' B v bs := by
  refine ⟨h.1, ?_⟩
  rcases h.2 with hn | ⟨g, cap, cur, rfl, hb, hg, rest⟩
  · exact .inl hn
  · refine .inr ⟨g, cap, cur, rfl, hb, ?_, rest⟩
    rw [k.block g (Array.getElem?_eq_some_iff.1 hg).1]
    exact hg

theorem At.below {w w' : World} {ao : Option Addr} {bs : List UInt8} (h : At w ao bs) (k : Below w.heap.size w w') : At w' ao bs := by
  rcases h with h | ⟨b, off, rfl, h⟩
  · exact .inl h
  · refine .inr ⟨b, off, rfl, fun i hi => ?_⟩
    have hc := h i hi
    rw [k.cell (by exact World.block_lt_of_cell? w _ hc)]
    exact hc

theorem IsB.below {w w' : World} {v : Value} {bs : List UInt8} (h : IsB w v bs) (k : Below w.heap.size w w') : IsB w' v bs := by
  obtain ⟨ao, cap, rfl, h1, h2, h3⟩ := h
  exact ⟨ao, cap, rfl, h1, h2, h3.below k⟩

theorem Own.row {w : World} {B : Nat} {v : Value} {bs : List UInt8} (h : Own w B v bs) : w.ownsRow B 5 1 v bs.length (Lib.byteCells bs) := h

theorem Own.shape {w : World} {B : Nat} {v : Value} {bs : List UInt8} (h : Own w B v bs) (hne : 0 < bs.length) : ∃ g cap, v = .slice (some ⟨g, 0, none⟩) bs.length cap ∧ B ≤ g := by
  rcases h.2 with ⟨_, hn⟩ | ⟨g, cap, cur, rfl, hb, _⟩
  · omega
  · exact ⟨g, cap, rfl, hb⟩

theorem Own.cells {w : World} {B g cap : Nat} {bs : List UInt8} (h : Own w B (.slice (some ⟨g, 0, none⟩) bs.length cap) bs) :
    ∀ (j : Nat) (u : Value), (Lib.byteCells bs)[j]? = some u → w.cell? (Addr.add ⟨g, 0, none⟩ j) = some u := by
  intro j u hj
  have hlt : j < bs.length := by
    have := (List.getElem?_eq_some_iff.1 hj).1
    rwa [byteCells_length] at this
  rw [Addr.add_lit, Nat.zero_add, h.row.cellAt j (by omega)]
  exact hj

theorem Own.mono {w : World} {B B' : Nat} {v : Value} {bs : List UInt8} (h : Own w B v bs) (hb : B' ≤ B) : Own w B' v bs := by
  refine ⟨h.1, ?_⟩
  rcases h.2 with hn | ⟨g, cap, cur, rfl, hg, rest⟩
  · exact .inl hn
  · exact .inr ⟨g, cap, cur, rfl, Nat.le_trans hb hg, rest⟩

theorem Makes.mono {w w1 : World} {bs : List UInt8} {e : Ending} {w' : World} (h : Makes w1 bs e w') (k : Below w.heap.size w w1) : Makes w bs e w' := by
  obtain ⟨r, rfl, h1, h2⟩ := h
  exact ⟨r, rfl, h1.mono k.size, k.trans (h2.mono k.size)⟩

/-- What 'append(out, x)' lays in a block of its own. -/
theorem one_new (w : World) (x : Value) (t : TypeId) : ∀ (j : Nat) (u : Value), [x][j]? = some u → (w.alloc (.cells #[x] t)).cell? (Addr.add ⟨w.heap.size, 0, none⟩ j) = some u := by
  intro j u hj
  match j, hj with
  | 0, hj =>
    simp at hj
    subst hj
    simp [Addr.add]

theorem one_oneCell (k : IntKind) (n : Int) : ∀ u ∈ [Value.int k n], u.oneCell' = true := by
  intro u hu
  simp at hu
  subst hu
  rfl

theorem below_draws (w : World) (n : Nat) : Below w.heap.size w (w.drewN n) := ⟨rfl, rfl, rfl, Nat.le_refl _, fun _ _ => rfl⟩

theorem Below.of_grown {w wr w1 : World} {v : Value} {o : Obj} {n : Nat} {xs : List Value} {e : TypeId} (hb : Below w.heap.size w wr) (hown : wr.ownsRow w.heap.size e 1 v n xs) (hg : (wr.alloc o).grownBy w1 v.ownBlock) : Below w.heap.size w w1 :=
  (hb.alloc hb.size o).grown hg (by have := hb.size; simp; omega) (fun k hk => (hown.lt k hk).1)

theorem Tryd.info5 : (Tryd.prog.info? 5).map (fun i => (i.zero, i.size, i.bytes)) = some (some (.int .u8 0), 1, 1) := by kernel_rfl

/-- 'byte(v >> (8 * k))', as the walk shows it. -/
theorem byte_of (v k : Nat) : Value.int .u8 ((v : Int) / 2 ^ (8 * k) % 256) = .int .u8 ((UInt8.ofNat (v / 256 ^ k)).toNat : Int) := by
  have e : (2 : Nat) ^ (8 * k) = 256 ^ k := by rw [Nat.pow_mul]
  congr 1
  rw [show (UInt8.ofNat (v / 256 ^ k)).toNat = v / 256 ^ k % 256 by simp, ← e]
  simp

theorem byte_up (c k : Nat) (hk : k ≤ 7) (hc : c < 256) : IntKind.u64.wrap (IntKind.u64.wrap (c : Int) * 2 ^ (8 * k)) = ((c * 256 ^ k : Nat) : Int) ∧ c * 256 ^ k < 18446744073709551616 := by
  have e : (2 : Int) ^ (8 * k) = ((256 ^ k : Nat) : Int) := by
    rw [show (256 : Nat) ^ k = 2 ^ (8 * k) by rw [Nat.pow_mul]]
    simp
  have h1 : c * 256 ^ k < 256 ^ (k + 1) := by
    rw [Nat.pow_succ, Nat.mul_comm (256 ^ k)]
    exact (Nat.mul_lt_mul_right (M.pow_pos k)).2 hc
  have h2 : (256 : Nat) ^ (k + 1) ≤ 256 ^ 8 := Nat.pow_le_pow_right (by omega) (by omega)
  have h3 : (256 : Nat) ^ 8 = 18446744073709551616 := by decide
  have h4 : c * 256 ^ k < 18446744073709551616 := by omega
  refine ⟨?_, h4⟩
  rw [wraps_u64 (c : Int) (by omega) (by omega), e, ← Int.natCast_mul, wraps_u64 _ (by omega) (by omega)]

/-- 'v | uint64(c) << (8 * k)', as the walk shows it, where v lies below. -/
theorem or_byte_up (a c k : Nat) (h : a < 256 ^ k) (hk : k ≤ 7) (hc : c < 256) :
    bits BinOp.or .u64 (a : Int) (IntKind.u64.wrap (IntKind.u64.wrap (c : Int) * 2 ^ (8 * k))) = ((a + c * 256 ^ k : Nat) : Int) := by
  obtain ⟨e, hb⟩ := byte_up c k hk hc
  have h2 : (256 : Nat) ^ k ≤ 256 ^ 8 := Nat.pow_le_pow_right (by omega) (by omega)
  have h3 : (256 : Nat) ^ 8 = 18446744073709551616 := by decide
  rw [e, u64_or_nat a _ (by omega) (by omega), M.or_up a c k h]

/-- The same where v is a multiple of what lies above. -/
theorem or_byte_down (a c k : Nat) (ha : a * 256 ^ (k + 1) < 18446744073709551616) (hk : k ≤ 7) (hc : c < 256) :
    bits BinOp.or .u64 ((a * 256 ^ (k + 1) : Nat) : Int) (IntKind.u64.wrap (IntKind.u64.wrap (c : Int) * 2 ^ (8 * k))) = (((a * 256 + c) * 256 ^ k : Nat) : Int) := by
  obtain ⟨e, hb⟩ := byte_up c k hk hc
  have h1 : c * 256 ^ k < 256 ^ (k + 1) := by
    rw [Nat.pow_succ, Nat.mul_comm (256 ^ k)]
    exact (Nat.mul_lt_mul_right (M.pow_pos k)).2 hc
  rw [e, u64_or_nat _ _ ha hb, M.or_down a (c * 256 ^ k) (k + 1) h1, Nat.add_mul, Nat.pow_succ, Nat.mul_assoc, Nat.mul_comm 256]

/-- A store into the next place of a row that is filled from its head on. -/
theorem set_next (xs : List Value) (u z : Value) (k m : Nat) (hk : xs.length = k) (hm : 0 < m) : (xs ++ List.replicate m z).set k u = (xs ++ [u]) ++ List.replicate (m - 1) z := by
  obtain ⟨m', rfl⟩ : ∃ m', m = m' + 1 := ⟨m - 1, by omega⟩
  subst hk
  simp [List.replicate_succ]

/-- A store into the last place of what is still to fill of a row that is filled from its end on. -/
theorem set_prev (xs : List Value) (u z : Value) (k m : Nat) (hk : k + 1 = m) : (List.replicate m z ++ xs).set k u = List.replicate k z ++ (u :: xs) := by
  subst hk
  rw [List.replicate_succ', List.append_assoc]
  simp

end Go.Proofs.YtdojalhaklkegaaDoor
