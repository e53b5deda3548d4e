/-
  FROM THE ROW's LISTED VARIABLES TO 'Laid': sha's two tables, cell by cell; and the start that the witness begins in. Conditions: none.
  PLAIN MATHEMATICS OF LAYER 4 (ChaCha20): quarters, blocks, the stream on lists of 32-bit words and bytes; nothing of the program. Conditions: none.
  CONTRACTS OF math/bits.RotateLeft32 (to the left), orlopref04.rol AND orlopref04.quarter. Conditions: the places are 1 to 31.
-/
import Derived.Test.YtdojalhaklkegaaDoorRows
import Derived.Test.YtdojalhaklkegaaDoorPn3
import Derived.ProofKit
import Derived.LaidMore
import Derived.OpenShut
import Derived.Stop.Joined
import Derived.Test.YtdojalhaklkegaaDoorPn2

namespace Go.Proofs.YtdojalhaklkegaaDoor
open Go.ChangeShapes Go.WideShapes Go.ChangeAt Go.WideMaps Go.WideElems Go.RowKit
set_option linter.unusedVariables false

theorem gBeg : Tryd.prog.globalNamed "orlop/sha.beginning" = some 1 := by kernel_rfl
theorem gCon : Tryd.prog.globalNamed "orlop/sha.constants" = some 2 := by kernel_rfl
theorem tBeg : (Tryd.prog.globals[1]?).map (·.type) = some 154 := by kernel_rfl
theorem tCon : (Tryd.prog.globals[2]?).map (·.type) = some 157 := by kernel_rfl

/-- The cells of an array of words that reads as known words. -/
theorem words_of_trod {W : World} {enc : TypeId × Value → Unit} {sp : Nat → Bool} {held : Bool} {fuel n : Nat} {t : TypeId} {cs : List Value} {p : List MemPlace} {l : List UInt32} (ht : Tryd.prog.underlying t = some (.array n 58))
    (hl : l.length = n) (hd : DataW.trod enc Tryd.prog W 0 sp held fuel t cs = some (.agg (l.map fun x => .lit (.int .u32 (x.toNat : Int))), p)) : ∀ i, i < n → cs[i]? = some (.int .u32 ((l.getD i 0).toNat : Int)) := by
  intro i hi
  obtain ⟨xs, m, rfl, hx, hlen, hn, hel⟩ := DataW.trod_array ht hd
  have c1 : Tryd.prog.cellsOf 58 = 1 := by kernel_rfl
  have h := hel i hi
  rw [c1, Nat.mul_one] at h
  simp only [Prod.mk.injEq, DataW.agg.injEq] at hx
  have hxi : i < xs.length := by omega
  rw [List.getElem?_eq_getElem hxi] at h
  obtain ⟨k, e1, e2, _⟩ := DataW.trod_int Tryd.underlying58 h
  have e3 := congrArg (fun q => q[i]?) hx.1
  simp only [List.getElem?_map, List.getElem?_eq_getElem hxi, e2, Option.map_some] at e3
  have hli : i < l.length := by omega
  rw [List.getElem?_eq_getElem hli] at e3
  simp only [Option.map_some, Option.some.injEq, DataW.lit.injEq, Lit.int.injEq, true_and] at e3
  have e4 : (List.take 1 (List.drop i cs))[0]? = cs[i]? := by
    rw [List.getElem?_take_of_lt (by omega), List.getElem?_drop, Nat.add_zero]
  rw [← e4, e1, ← e3]
  simp [List.getD_eq_getElem?_getD, hli]

end Go.Proofs.YtdojalhaklkegaaDoor

namespace Go.Proofs.YtdojalhaklkegaaDoor.M

def rol (x : UInt32) (n : Nat) : UInt32 := ror x (32 - n)

/-- Four numbers, worked. -/
def qr (a b c d : UInt32) : UInt32 × UInt32 × UInt32 × UInt32 :=
  let a1 := a + b
  let d1 := rol (d ^^^ a1) 16
  let c1 := c + d1
  let b1 := rol (b ^^^ c1) 12
  let a2 := a1 + b1
  let d2 := rol (d1 ^^^ a2) 8
  let c2 := c1 + d2
  let b2 := rol (b1 ^^^ c2) 7
  (a2, b2, c2, d2)

/-- The numbers at four places, worked where they lie. -/
def qAt (s : List UInt32) (i j k l : Nat) : List UInt32 :=
  let q := qr (s.getD i 0) (s.getD j 0) (s.getD k 0) (s.getD l 0)
  (((s.set i q.1).set j q.2.1).set k q.2.2.1).set l q.2.2.2

/-- The j-th place of the k-th quarter. -/
def pl (k j : Nat) : Nat := if k < 4 then 4 * j + k else 4 * j + (k + j) % 4

/-- The numbers behind k quarters. -/
def part (s : List UInt32) : Nat → List UInt32
  | 0 => s
  | k + 1 => qAt (part s k) (pl k 0) (pl k 1) (pl k 2) (pl k 3)

/-- The numbers behind n times all eight. -/
def ten (s : List UInt32) : Nat → List UInt32
  | 0 => s
  | n + 1 => part (ten s n) 8

/-- The first k numbers' bytes of the sums. -/
def outs (s r : List UInt32) : Nat → List UInt8
  | 0 => []
  | k + 1 => outs s r k ++ le (r.getD k 0 + s.getD k 0).toNat 4

/-- The block of numbers. -/
def blk (s : List UInt32) : List UInt8 := outs s (ten s 10) 16

/-- The first k numbers of bytes. -/
def wds (b : List UInt8) : Nat → List UInt32
  | 0 => []
  | k + 1 => wds b k ++ [UInt32.ofNat (gl (b.drop (4 * k)) 4)]

def sigma : List UInt32 := [1634760805, 857760878, 2036477234, 1797285236]

def first (key nonce : List UInt8) (ctr : UInt32) : List UInt32 := sigma ++ wds key 8 ++ [ctr] ++ wds nonce 3

/-- The block of a key, a nonce and a counter. -/
def cblk (key nonce : List UInt8) (ctr : UInt32) : List UInt8 := blk (first key nonce ctr)

/-- The stream's byte i. -/
def strm (key nonce : List UInt8) (ctr : UInt32) (i : Nat) : UInt8 := (cblk key nonce (ctr + UInt32.ofNat (i / 64))).getD (i % 64) 0

/-- The first k bytes, each exclusive or its byte of a stream. -/
def xo (S : Nat → UInt8) (b : List UInt8) : Nat → List UInt8
  | 0 => []
  | k + 1 => xo S b k ++ [b.getD k 0 ^^^ S k]

theorem wds_length (b : List UInt8) (k : Nat) : (wds b k).length = k := by
  induction k with
  | zero => rfl
  | succ k ih => simp [wds, ih]

theorem first_length (key nonce : List UInt8) (ctr : UInt32) : (first key nonce ctr).length = 16 := by
  simp [first, wds_length, sigma]

theorem qAt_length (s : List UInt32) (i j k l : Nat) : (qAt s i j k l).length = s.length := by simp [qAt]

theorem part_length (s : List UInt32) (k : Nat) : (part s k).length = s.length := by
  induction k with
  | zero => rfl
  | succ k ih => rw [part, qAt_length, ih]

theorem ten_length (s : List UInt32) (k : Nat) : (ten s k).length = s.length := by
  induction k with
  | zero => rfl
  | succ k ih => rw [ten, part_length, ih]

theorem outs_length (s r : List UInt32) (k : Nat) : (outs s r k).length = 4 * k := by
  induction k with
  | zero => rfl
  | succ k ih => rw [outs, List.length_append, ih, le_length]; omega

theorem blk_length (s : List UInt32) : (blk s).length = 64 := outs_length _ _ 16

theorem cblk_length (key nonce : List UInt8) (ctr : UInt32) : (cblk key nonce ctr).length = 64 := blk_length _

theorem pl_lt (k j : Nat) (h : j < 4) : pl k j < 16 := by
  unfold pl
  split <;> omega

theorem xo_length (S : Nat → UInt8) (b : List UInt8) (k : Nat) : (xo S b k).length = k := by
  induction k with
  | zero => rfl
  | succ k ih => simp [xo, ih]

theorem getD_left (a b : List UInt8) (i : Nat) (h : i < a.length) : (a ++ b).getD i 0 = a.getD i 0 := by
  simp [List.getD_eq_getElem?_getD, List.getElem?_append_left h]

theorem getD_right (a b : List UInt8) (i : Nat) (h : a.length ≤ i) : (a ++ b).getD i 0 = b.getD (i - a.length) 0 := by
  simp [List.getD_eq_getElem?_getD, List.getElem?_append_right h]

theorem xo_getD (S : Nat → UInt8) (b : List UInt8) (k i : Nat) (h : i < k) : (xo S b k).getD i 0 = b.getD i 0 ^^^ S i := by
  induction k with
  | zero => omega
  | succ k ih =>
    rw [xo]
    by_cases hi : i < k
    · rw [getD_left _ _ _ (by rw [xo_length]; exact hi)]
      exact ih hi
    · obtain rfl : i = k := by omega
      rw [getD_right _ _ _ (by rw [xo_length]; exact Nat.le_refl _), xo_length, Nat.sub_self]
      rfl

theorem ext_getD (a b : List UInt8) (hl : a.length = b.length) (h : ∀ i, i < a.length → a.getD i 0 = b.getD i 0) : a = b := by
  apply List.ext_getElem hl
  intro i h1 h2
  have := h i h1
  simpa [h1, h2] using this

/-- Done twice it is as it was. -/
theorem xo_twice (S : Nat → UInt8) (b : List UInt8) : xo S (xo S b b.length) b.length = b := by
  refine ext_getD _ _ (by rw [xo_length]) fun i hi => ?_
  rw [xo_length] at hi
  rw [xo_getD _ _ _ _ hi, xo_getD _ _ _ _ hi]
  rw [UInt8.xor_assoc, UInt8.xor_self, UInt8.xor_zero]

/-- From the next counter on it goes on behind 64 bytes. -/
theorem strm_on (key nonce : List UInt8) (ctr : UInt32) (m j : Nat) : strm key nonce ctr (64 * m + j) = strm key nonce (ctr + UInt32.ofNat m) j := by
  unfold strm
  have e1 : (64 * m + j) / 64 = m + j / 64 := by omega
  have e2 : (64 * m + j) % 64 = j % 64 := by omega
  rw [e1, e2, UInt32.ofNat_add, ← UInt32.add_assoc]

theorem xo_split (S : Nat → UInt8) (b : List UInt8) (n k : Nat) (_hn : n ≤ b.length) (_hk : n + k ≤ b.length) : xo S b (n + k) = xo S (b.take n) n ++ xo (fun j => S (n + j)) (b.drop n) k := by
  refine ext_getD _ _ (by simp [xo_length]) fun i hi => ?_
  rw [xo_length] at hi
  rw [xo_getD _ _ _ _ hi]
  by_cases h : i < n
  · rw [getD_left _ _ _ (by rw [xo_length]; exact h), xo_getD _ _ _ _ h]
    simp [List.getD_eq_getElem?_getD, h]
  · rw [getD_right _ _ _ (by rw [xo_length]; omega), xo_length, xo_getD _ _ _ _ (by omega)]
    simp [List.getD_eq_getElem?_getD, show n + (i - n) = i by omega]

theorem xo_congr (S S' : Nat → UInt8) (b : List UInt8) (k : Nat) (h : ∀ i, i < k → S i = S' i) : xo S b k = xo S' b k := by
  induction k with
  | zero => rfl
  | succ k ih => rw [xo, xo, ih (fun i hi => h i (by omega)), h k (by omega)]

/-- A text in two parts, the first one being some blocks. -/
theorem parts (key nonce : List UInt8) (ctr : UInt32) (b : List UInt8) (m : Nat) (h : 64 * m ≤ b.length) :
    xo (strm key nonce ctr) b b.length = xo (strm key nonce ctr) (b.take (64 * m)) (64 * m) ++ xo (strm key nonce (ctr + UInt32.ofNat m)) (b.drop (64 * m)) (b.length - 64 * m) := by
  have e := xo_split (strm key nonce ctr) b (64 * m) (b.length - 64 * m) h (by omega)
  rw [show 64 * m + (b.length - 64 * m) = b.length by omega] at e
  have e2 := xo_congr (fun j => strm key nonce ctr (64 * m + j)) (strm key nonce (ctr + UInt32.ofNat m)) (b.drop (64 * m)) (b.length - 64 * m) (fun i _ => strm_on key nonce ctr m i)
  rw [e, e2]

/-- Chunk c of 64 bytes. -/
def chk (b : List UInt8) (c : Nat) : List UInt8 := (b.drop (64 * c)).take 64

/-- Chunks, one behind the other, each exclusive or the block of its place's counter. -/
def xl (key nonce : List UInt8) (ctr : UInt32) (b : List UInt8) : List Nat → Nat → List UInt8
  | [], _ => []
  | c :: cs, n => xo (fun i => (cblk key nonce (ctr + UInt32.ofNat n)).getD i 0) (chk b c) (chk b c).length ++ xl key nonce ctr b cs (n + 1)

theorem xl_snoc (key nonce : List UInt8) (ctr : UInt32) (b : List UInt8) (pre : List Nat) (c n : Nat) :
    xl key nonce ctr b (pre ++ [c]) n = xl key nonce ctr b pre n ++ xo (fun i => (cblk key nonce (ctr + UInt32.ofNat (n + pre.length))).getD i 0) (chk b c) (chk b c).length := by
  induction pre generalizing n with
  | nil => simp [xl]
  | cons x pre ih => simp [xl, ih, Nat.add_assoc, Nat.add_comm 1]

theorem chk_le (b : List UInt8) (c : Nat) : (chk b c).length ≤ 64 := by simp [chk]; omega

theorem chk_length (b : List UInt8) (c : Nat) : (chk b c).length = min 64 (b.length - 64 * c) := by simp [chk]

theorem xl_le (key nonce : List UInt8) (ctr : UInt32) (b : List UInt8) (pre : List Nat) (n : Nat) : (xl key nonce ctr b pre n).length ≤ 64 * pre.length := by
  induction pre generalizing n with
  | nil => simp [xl]
  | cons x pre ih =>
    have := ih (n + 1)
    have := chk_le b x
    simp [xl, xo_length]
    omega

/-- All chunks in their order are the whole text. -/
theorem xl_range (key nonce : List UInt8) (ctr : UInt32) (b : List UInt8) (n : Nat) : xl key nonce ctr b (List.range n) 0 = xo (strm key nonce ctr) b (min (64 * n) b.length) := by
  induction n with
  | zero => simp [xl, xo]
  | succ n ih =>
    rw [List.range_succ, xl_snoc, ih, List.length_range, Nat.zero_add]
    by_cases h : b.length ≤ 64 * n
    · rw [Nat.min_eq_right h, Nat.min_eq_right (by omega)]
      have : (chk b n).length = 0 := by rw [chk_length]; omega
      rw [this]
      simp [xo]
    · have hc : (chk b n).length = min 64 (b.length - 64 * n) := chk_length b n
      have e : min (64 * (n + 1)) b.length = 64 * n + (chk b n).length := by omega
      rw [e, xo_split _ b (64 * n) _ (by omega) (by omega), Nat.min_eq_left (by omega)]
      have e1 : xo (strm key nonce ctr) b (64 * n) = xo (strm key nonce ctr) (b.take (64 * n)) (64 * n) := by
        have := xo_split (strm key nonce ctr) b (64 * n) 0 (by omega) (by omega)
        simpa [xo] using this
      have e2 : xo (fun i => (cblk key nonce (ctr + UInt32.ofNat n)).getD i 0) (chk b n) (chk b n).length = xo (fun j => strm key nonce ctr (64 * n + j)) (b.drop (64 * n)) (chk b n).length := by
        refine ext_getD _ _ (by rw [xo_length, xo_length]) fun i hi => ?_
        rw [xo_length] at hi
        have h64 : i < 64 := Nat.lt_of_lt_of_le hi (chk_le b n)
        have e3 : (chk b n).getD i 0 = (b.drop (64 * n)).getD i 0 := by simp [chk, List.getD_eq_getElem?_getD, h64]
        have e4 : strm key nonce ctr (64 * n + i) = (cblk key nonce (ctr + UInt32.ofNat n)).getD i 0 := by
          rw [strm_on]
          unfold strm
          rw [show i / 64 = 0 by omega, show i % 64 = i by omega, show UInt32.ofNat 0 = 0 from rfl, UInt32.add_zero]
        rw [xo_getD _ _ _ _ hi, xo_getD _ _ _ _ hi, e3, e4]
      rw [e1, e2]

end Go.Proofs.YtdojalhaklkegaaDoor.M

namespace Go.Proofs.YtdojalhaklkegaaDoor
open Go.RowKit
set_option linter.unusedVariables false

theorem and31 (m : Nat) (h : m ≤ 31) : bits BinOp.and IntKind.u64 (m : Int) 31 = (m : Int) := by
  rw [show (31 : Int) = ((31 : Nat) : Int) from rfl, u64_and_nat _ _ (by omega) (by omega), show (31 : Nat) = 2 ^ 5 - 1 from rfl, Nat.and_two_pow_sub_one_eq_mod]
  congr 1
  omega

theorem rotl_any (x : UInt32) (m : Nat) (w : World) (h1 : 1 ≤ m) (h2 : m ≤ 31) :
    Calls Tryd.prog 105 #[.int .u32 x.toNat, .int .i64 m] w fun e w' => e = .returned (.int .u32 (M.rol x m).toNat) ∧ w' = w := by
  have hk := and31 m h2
  go_enter Tryd.func105, Tryd.ntmps105
  go_wp2
  go_ret
  exact ⟨ret_w32 (ror_spelled2 x m h1 h2), rfl⟩

/-- At a literal. -/
theorem rotl_lit (x : UInt32) (z : Int) (w : World) (h1 : 1 ≤ z) (h2 : z ≤ 31) :
    Calls Tryd.prog 105 #[.int .u32 x.toNat, .int .i64 z] w fun e w' => e = .returned (.int .u32 (M.rol x z.toNat).toNat) ∧ w' = w := by
  have h := rotl_any x z.toNat w (by omega) (by omega)
  rw [show ((z.toNat : Nat) : Int) = z by omega] at h
  exact h

/-- The same, the result under a name. -/
theorem rotl_ex (x : UInt32) (z : Int) (w : World) (h1 : 1 ≤ z) (h2 : z ≤ 31) :
    Calls Tryd.prog 105 #[.int .u32 x.toNat, .int .i64 z] w fun e w' => ∃ y, Hid (y = M.rol x z.toNat) ∧ e = .returned (.int .u32 y.toNat) ∧ w' = w :=
  (rotl_lit x z w h1 h2).mono fun _ _ ⟨h, k⟩ => ⟨_, rfl, h, k⟩

end Go.Proofs.YtdojalhaklkegaaDoor
