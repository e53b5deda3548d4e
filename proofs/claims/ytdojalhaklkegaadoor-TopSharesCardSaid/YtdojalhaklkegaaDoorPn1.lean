/-
  PLAIN MATHEMATICS OF LAYER 1 (numbers as bytes): lists of bytes and natural numbers, nothing of the program. Conditions: none.
  WHAT LATER TEXTS SHARE: bytes in memory, the call's own or come in, and how they last over later calls. Nothing of the program but the number of its type uint8. Conditions: none.
  'append' OF BYTES ONTO A ROW OF THE CALL'S OWN, AS LAWS FOR THE WALK: whatever slice is appended, nil and empty ones too; and what becomes of the slice that was appended to. Conditions: the sum of the lengths is at most 2^47.
-/
import Derived.WalkKit
import Derived.Lib.UnsafeStr
import Derived.Lib.EndianBits
import Derived.Laws.BitsAllLaws
import Derived.Deep.Draws
import Derived.Test.YtdojalhaklkegaaDoorChecked
import Derived.Laws.AppendOwnNone
import Derived.ArgAppend

namespace Go.Proofs.YtdojalhaklkegaaDoor.M

/-- The first n bytes of a number, the least first. -/
def le (v : Nat) : Nat → List UInt8
  | 0 => []
  | n + 1 => le v n ++ [UInt8.ofNat (v / 256 ^ n)]

/-- The number of the first k bytes, the least first; those that there aren't are 0. -/
def gl (b : List UInt8) : Nat → Nat
  | 0 => 0
  | k + 1 => gl b k + (b.getD k 0).toNat * 256 ^ k

/-- The number of the first k bytes, the greatest first; those that there aren't are 0. -/
def gb (b : List UInt8) : Nat → Nat
  | 0 => 0
  | k + 1 => gb b k * 256 + (b.getD k 0).toNat

theorem le_length (v n : Nat) : (le v n).length = n := by
  induction n with
  | zero => rfl
  | succ n ih => simp [le, ih]

theorem le_getD (v n k : Nat) (h : k < n) : (le v n).getD k 0 = UInt8.ofNat (v / 256 ^ k) := by
  induction n with
  | zero => omega
  | succ n ih =>
    by_cases hk : k < n
    · have := ih hk
      simp only [le, List.getD_eq_getElem?_getD]
      rw [List.getElem?_append_left (by rw [le_length]; exact hk)]
      simpa [List.getD_eq_getElem?_getD] using this
    · have : k = n := by omega
      subst this
      simp [le, List.getD_eq_getElem?_getD, le_length]

theorem pow_pos (k : Nat) : 0 < 256 ^ k := Nat.pow_pos (by omega)

theorem gl_lt (b : List UInt8) (k : Nat) : gl b k < 256 ^ k := by
  induction k with
  | zero => simp [gl]
  | succ k ih =>
    have h := (b.getD k 0).toNat_lt
    have h2 : (b.getD k 0).toNat * 256 ^ k ≤ 255 * 256 ^ k := Nat.mul_le_mul_right _ (by omega)
    simp only [gl, Nat.pow_succ]
    omega

theorem gb_lt (b : List UInt8) (k : Nat) : gb b k < 256 ^ k := by
  induction k with
  | zero => simp [gb]
  | succ k ih =>
    have h := (b.getD k 0).toNat_lt
    simp only [gb, Nat.pow_succ]
    omega

theorem gl_past (b : List UInt8) (k : Nat) (h : b.length ≤ k) : ∀ j, gl b (k + j) = gl b k := by
  intro j
  induction j with
  | zero => rfl
  | succ j ih =>
    rw [← Nat.add_assoc, gl, ih]
    simp [List.getD_eq_getElem?_getD, List.getElem?_eq_none (show b.length ≤ k + j by omega)]

theorem gb_past (b : List UInt8) (k : Nat) (h : b.length ≤ k) : ∀ j, gb b (k + j) = gb b k * 256 ^ j := by
  intro j
  induction j with
  | zero => simp
  | succ j ih =>
    rw [← Nat.add_assoc, gb, ih]
    simp [List.getD_eq_getElem?_getD, List.getElem?_eq_none (show b.length ≤ k + j by omega), Nat.pow_succ, Nat.mul_assoc]

theorem take_next (xs ys : List UInt8) (k : Nat) (hx : k < xs.length) (hy : k < ys.length) (h : xs.take k = ys.take k) (e : (xs.getD k 0).toNat = (ys.getD k 0).toNat) :
    xs.take (k + 1) = ys.take (k + 1) := by
  rw [List.take_succ_eq_append_getElem hx, List.take_succ_eq_append_getElem hy, h]
  have e' : xs.getD k 0 = ys.getD k 0 := UInt8.toNat_inj.1 e
  simp [hx, hy] at e'
  rw [e']

theorem gl_le (v n : Nat) : ∀ k, k ≤ n → gl (le v n) k = v % 256 ^ k := by
  intro k
  induction k with
  | zero => intro _; simp [gl, Nat.mod_one]
  | succ k ih =>
    intro h
    have e : (UInt8.ofNat (v / 256 ^ k)).toNat = v / 256 ^ k % 256 := by simp
    rw [gl, ih (by omega), le_getD v n k (by omega), e, Nat.mod_pow_succ, Nat.mul_comm (256 ^ k)]

theorem gb_back (v n : Nat) : ∀ k, k ≤ n → gb (le v n).reverse k = (v % 256 ^ n) / 256 ^ (n - k) := by
  intro k
  induction k with
  | zero => intro _; simp [gb, Nat.div_eq_of_lt (Nat.mod_lt v (pow_pos n))]
  | succ k ih =>
    intro h
    have e : (UInt8.ofNat (v / 256 ^ (n - 1 - k))).toNat = v / 256 ^ (n - 1 - k) % 256 := by simp
    have g : (le v n).reverse.getD k 0 = UInt8.ofNat (v / 256 ^ (n - 1 - k)) := by
      rw [← le_getD v n (n - 1 - k) (by omega)]
      simp only [List.getD_eq_getElem?_getD]
      rw [List.getElem?_reverse (by rw [le_length]; omega), le_length]
    have s : n - k = (n - 1 - k) + 1 := by omega
    have t : n - (k + 1) = n - 1 - k := by omega
    rw [gb, ih (by omega), g, e, s, t]
    generalize hm : n - 1 - k = m
    have hmn : m < n := by omega
    have q : v / 256 ^ m % 256 = v % 256 ^ n / 256 ^ m % 256 := by
      have hp : 256 ^ n = 256 ^ m * 256 * 256 ^ (n - 1 - m) := by
        rw [← Nat.pow_succ, ← Nat.pow_add]
        congr 1
        omega
      have h1 : v % 256 ^ n / 256 ^ m = v / 256 ^ m % (256 * 256 ^ (n - 1 - m)) := by
        rw [hp, Nat.mul_assoc, Nat.mod_mul_right_div_self]
      rw [h1, Nat.mod_mul_right_mod]
    rw [q]
    generalize v % 256 ^ n = V
    rw [Nat.pow_succ, ← Nat.div_div_eq_div_mul]
    have := Nat.div_add_mod (V / 256 ^ m) 256
    omega

theorem gl_of_le (v n : Nat) (h : v < 256 ^ n) : gl (le v n) n = v := by
  rw [gl_le v n n (Nat.le_refl _), Nat.mod_eq_of_lt h]

theorem gb_of_back (v n : Nat) (h : v < 256 ^ n) : gb (le v n).reverse n = v := by
  rw [gb_back v n n (Nat.le_refl _), Nat.mod_eq_of_lt h]
  simp

theorem le_mod (v a : Nat) : ∀ n, n ≤ a → le (v % 256 ^ a) n = le v n := by
  intro n
  induction n with
  | zero => intro _; rfl
  | succ n ih =>
    intro h
    have hp : 256 ^ a = 256 ^ n * (256 * 256 ^ (a - 1 - n)) := by
      rw [← Nat.mul_assoc, ← Nat.pow_succ, ← Nat.pow_add]
      congr 1
      omega
    have e : UInt8.ofNat (v % 256 ^ a / 256 ^ n) = UInt8.ofNat (v / 256 ^ n) := by
      rw [hp, Nat.mod_mul_right_div_self]
      apply UInt8.toNat_inj.1
      simp [Nat.mod_mul_right_mod]
    simp only [le]
    rw [ih (by omega), e]

theorem le_add (v a : Nat) : ∀ n, le v (a + n) = le v a ++ le (v / 256 ^ a) n := by
  intro n
  induction n with
  | zero => simp [le]
  | succ n ih =>
    rw [← Nat.add_assoc, le, ih, le, List.append_assoc, Nat.div_div_eq_div_mul, ← Nat.pow_add]

/-- A sum of a small number and a multiple of a power of two beyond it is their 'or'. -/
theorem or_up (a b k : Nat) (h : a < 256 ^ k) : a ||| b * 256 ^ k = a + b * 256 ^ k := by
  have e : (256 : Nat) ^ k = 2 ^ (8 * k) := by rw [Nat.pow_mul]
  rw [e] at h ⊢
  rw [← Nat.shiftLeft_eq, Nat.or_comm, ← Nat.shiftLeft_add_eq_or_of_lt h, Nat.add_comm]

theorem or_down (a b k : Nat) (h : b < 256 ^ k) : a * 256 ^ k ||| b = a * 256 ^ k + b := by
  have e : (256 : Nat) ^ k = 2 ^ (8 * k) := by rw [Nat.pow_mul]
  rw [e] at h ⊢
  rw [← Nat.shiftLeft_eq, Nat.shiftLeft_add_eq_or_of_lt h]

end Go.Proofs.YtdojalhaklkegaaDoor.M

namespace Go.Proofs.YtdojalhaklkegaaDoor
open Go.RowKit

/-- The bytes bs lie at the address (or there are none). -/
def At (w : World) (ao : Option Addr) (bs : List UInt8) : Prop :=
  bs = [] ∨ ∃ b off, ao = some ⟨b, off, none⟩ ∧ ∀ i, i < bs.length → w.cell? ⟨b, off + i, none⟩ = some (.int .u8 ((bs.getD i 0).toNat : Int))

/-- The value is a slice of the bytes bs. -/
def IsB (w : World) (v : Value) (bs : List UInt8) : Prop := ∃ ao cap, v = .slice ao bs.length cap ∧ bs.length ≤ cap ∧ cap ≤ maxLen ∧ At w ao bs

/-- The value is a slice of the bytes bs, a row of the call's own (of blocks from B on). -/
def Own (w : World) (B : Nat) (v : Value) (bs : List UInt8) : Prop := w.ownsRow B 5 1 v bs.length (Lib.byteCells bs)

/-- The call hands back the bytes bs in memory of its own; what was there stands. -/
def Makes (w : World) (bs : List UInt8) (e : Ending) (w' : World) : Prop := ∃ r, e = .returned r ∧ Own w' w.heap.size r bs ∧ Below w.heap.size w w'

theorem byteCells_getElem? (bs : List UInt8) (i : Nat) (h : i < bs.length) : (Lib.byteCells bs)[i]? = some (.int .u8 ((bs.getD i 0).toNat : Int)) := by
  simp [Lib.byteCells, h]

theorem byteCells_length (bs : List UInt8) : (Lib.byteCells bs).length = bs.length := by simp [Lib.byteCells]

theorem byteCells_append (a b : List UInt8) : Lib.byteCells (a ++ b) = Lib.byteCells a ++ Lib.byteCells b := by simp [Lib.byteCells]

theorem byteCells_oneCell (bs : List UInt8) : ∀ u ∈ Lib.byteCells bs, u.oneCell' = true := by
  intro u hu
  obtain ⟨_, _, rfl⟩ := List.mem_map.1 hu
  rfl

theorem IsB.nil (w : World) : IsB w (.slice none 0 0) [] := ⟨none, 0, rfl, Nat.le_refl _, Nat.zero_le _, .inl rfl⟩

theorem Own.isB {w : World} {B : Nat} {v : Value} {bs : List UInt8} (h : Own w B v bs) : IsB w v bs := by
  rcases h.2 with ⟨rfl, hn⟩ | ⟨g, cap, cur, rfl, hb, hg, hn, hm, hs, ht⟩
  · have : bs = [] := List.eq_nil_of_length_eq_zero hn
    subst this
    exact IsB.nil w
  · refine ⟨_, cap, rfl, hn, hm, .inr ⟨g, 0, rfl, fun i hi => ?_⟩⟩
    have h' : w.ownsRow B 5 1 (.slice (some ⟨g, 0, none⟩) bs.length cap) bs.length (Lib.byteCells bs) := ⟨h.1, .inr ⟨g, cap, cur, rfl, hb, hg, hn, hm, hs, ht⟩⟩
    rw [Nat.zero_add, h'.cellAt i (by omega)]
    exact byteCells_getElem? bs i hi

theorem Own.below {w w' : World} {B : Nat} {v : Value} {bs : List UInt8} (h : Own w B v bs) (k : Below w.heap.size w w') : Own w' B v bs := by
  refine ⟨h.1, ?_⟩
  rcases h.2 with hn | ⟨g, cap, cur, rfl, hb, hg, rest⟩
  · exact .inl hn
  · refine .inr ⟨g, cap, cur, rfl, hb, ?_, rest⟩
    rw [k.block g (Array.getElem?_eq_some_iff.1 hg).1]
    exact hg

theorem At.below {w w' : World} {ao : Option Addr} {bs : List UInt8} (h : At w ao bs) (k : Below w.heap.size w w') : At w' ao bs := by
  rcases h with h | ⟨b, off, rfl, h⟩
  · exact .inl h
  · refine .inr ⟨b, off, rfl, fun i hi => ?_⟩
    have hc := h i hi
    rw [k.cell (by exact World.block_lt_of_cell? w _ hc)]
    exact hc

theorem IsB.below {w w' : World} {v : Value} {bs : List UInt8} (h : IsB w v bs) (k : Below w.heap.size w w') : IsB w' v bs := by
  obtain ⟨ao, cap, rfl, h1, h2, h3⟩ := h
  exact ⟨ao, cap, rfl, h1, h2, h3.below k⟩

theorem Own.row {w : World} {B : Nat} {v : Value} {bs : List UInt8} (h : Own w B v bs) : w.ownsRow B 5 1 v bs.length (Lib.byteCells bs) := h

theorem Own.shape {w : World} {B : Nat} {v : Value} {bs : List UInt8} (h : Own w B v bs) (hne : 0 < bs.length) : ∃ g cap, v = .slice (some ⟨g, 0, none⟩) bs.length cap ∧ B ≤ g := by
  rcases h.2 with ⟨_, hn⟩ | ⟨g, cap, cur, rfl, hb, _⟩
  · omega
  · exact ⟨g, cap, rfl, hb⟩

theorem Own.cells {w : World} {B g cap : Nat} {bs : List UInt8} (h : Own w B (.slice (some ⟨g, 0, none⟩) bs.length cap) bs) :
    ∀ (j : Nat) (u : Value), (Lib.byteCells bs)[j]? = some u → w.cell? (Addr.add ⟨g, 0, none⟩ j) = some u := by
  intro j u hj
  have hlt : j < bs.length := by
    have := (List.getElem?_eq_some_iff.1 hj).1
    rwa [byteCells_length] at this
  rw [Addr.add_lit, Nat.zero_add, h.row.cellAt j (by omega)]
  exact hj

theorem Own.mono {w : World} {B B' : Nat} {v : Value} {bs : List UInt8} (h : Own w B v bs) (hb : B' ≤ B) : Own w B' v bs := by
  refine ⟨h.1, ?_⟩
  rcases h.2 with hn | ⟨g, cap, cur, rfl, hg, rest⟩
  · exact .inl hn
  · exact .inr ⟨g, cap, cur, rfl, Nat.le_trans hb hg, rest⟩

theorem Makes.mono {w w1 : World} {bs : List UInt8} {e : Ending} {w' : World} (h : Makes w1 bs e w') (k : Below w.heap.size w w1) : Makes w bs e w' := by
  obtain ⟨r, rfl, h1, h2⟩ := h
  exact ⟨r, rfl, h1.mono k.size, k.trans (h2.mono k.size)⟩

theorem below_draws (w : World) (n : Nat) : Below w.heap.size w (w.drewN n) := ⟨rfl, rfl, rfl, Nat.le_refl _, fun _ _ => rfl⟩

theorem Below.of_grown {w wr w1 : World} {v : Value} {o : Obj} {n : Nat} {xs : List Value} {e : TypeId} (hb : Below w.heap.size w wr) (hown : wr.ownsRow w.heap.size e 1 v n xs) (hg : (wr.alloc o).grownBy w1 v.ownBlock) : Below w.heap.size w w1 :=
  (hb.alloc hb.size o).grown hg (by have := hb.size; simp; omega) (fun k hk => (hown.lt k hk).1)

theorem Tryd.info5 : (Tryd.prog.info? 5).map (fun i => (i.zero, i.size, i.bytes)) = some (some (.int .u8 0), 1, 1) := by kernel_rfl

/-- 'byte(v >> (8 * k))', as the walk shows it. -/
theorem byte_of (v k : Nat) : Value.int .u8 ((v : Int) / 2 ^ (8 * k) % 256) = .int .u8 ((UInt8.ofNat (v / 256 ^ k)).toNat : Int) := by
  have e : (2 : Nat) ^ (8 * k) = 256 ^ k := by rw [Nat.pow_mul]
  congr 1
  rw [show (UInt8.ofNat (v / 256 ^ k)).toNat = v / 256 ^ k % 256 by simp, ← e]
  simp

theorem byte_up (c k : Nat) (hk : k ≤ 7) (hc : c < 256) : IntKind.u64.wrap (IntKind.u64.wrap (c : Int) * 2 ^ (8 * k)) = ((c * 256 ^ k : Nat) : Int) ∧ c * 256 ^ k < 18446744073709551616 := by
  have e : (2 : Int) ^ (8 * k) = ((256 ^ k : Nat) : Int) := by
    rw [show (256 : Nat) ^ k = 2 ^ (8 * k) by rw [Nat.pow_mul]]
    simp
  have h1 : c * 256 ^ k < 256 ^ (k + 1) := by
    rw [Nat.pow_succ, Nat.mul_comm (256 ^ k)]
    exact (Nat.mul_lt_mul_right (M.pow_pos k)).2 hc
  have h2 : (256 : Nat) ^ (k + 1) ≤ 256 ^ 8 := Nat.pow_le_pow_right (by omega) (by omega)
  have h3 : (256 : Nat) ^ 8 = 18446744073709551616 := by decide
  have h4 : c * 256 ^ k < 18446744073709551616 := by omega
  refine ⟨?_, h4⟩
  rw [wraps_u64 (c : Int) (by omega) (by omega), e, ← Int.natCast_mul, wraps_u64 _ (by omega) (by omega)]

/-- 'v | uint64(c) << (8 * k)', as the walk shows it, where v lies below. -/
theorem or_byte_up (a c k : Nat) (h : a < 256 ^ k) (hk : k ≤ 7) (hc : c < 256) :
    bits BinOp.or .u64 (a : Int) (IntKind.u64.wrap (IntKind.u64.wrap (c : Int) * 2 ^ (8 * k))) = ((a + c * 256 ^ k : Nat) : Int) := by
  obtain ⟨e, hb⟩ := byte_up c k hk hc
  have h2 : (256 : Nat) ^ k ≤ 256 ^ 8 := Nat.pow_le_pow_right (by omega) (by omega)
  have h3 : (256 : Nat) ^ 8 = 18446744073709551616 := by decide
  rw [e, u64_or_nat a _ (by omega) (by omega), M.or_up a c k h]

/-- The same where v is a multiple of what lies above. -/
theorem or_byte_down (a c k : Nat) (ha : a * 256 ^ (k + 1) < 18446744073709551616) (hk : k ≤ 7) (hc : c < 256) :
    bits BinOp.or .u64 ((a * 256 ^ (k + 1) : Nat) : Int) (IntKind.u64.wrap (IntKind.u64.wrap (c : Int) * 2 ^ (8 * k))) = (((a * 256 + c) * 256 ^ k : Nat) : Int) := by
  obtain ⟨e, hb⟩ := byte_up c k hk hc
  have h1 : c * 256 ^ k < 256 ^ (k + 1) := by
    rw [Nat.pow_succ, Nat.mul_comm (256 ^ k)]
    exact (Nat.mul_lt_mul_right (M.pow_pos k)).2 hc
  rw [e, u64_or_nat _ _ ha hb, M.or_down a (c * 256 ^ k) (k + 1) h1, Nat.add_mul, Nat.pow_succ, Nat.mul_assoc, Nat.mul_comm 256]

/-- A store into the next place of a row that is filled from its head on. -/
theorem set_next (xs : List Value) (u z : Value) (k m : Nat) (hk : xs.length = k) (hm : 0 < m) : (xs ++ List.replicate m z).set k u = (xs ++ [u]) ++ List.replicate (m - 1) z := by
  obtain ⟨m', rfl⟩ : ∃ m', m = m' + 1 := ⟨m - 1, by omega⟩
  subst hk
  simp [List.replicate_succ]

/-- A store into the last place of what is still to fill of a row that is filled from its end on. -/
theorem set_prev (xs : List Value) (u z : Value) (k m : Nat) (hk : k + 1 = m) : (List.replicate m z ++ xs).set k u = List.replicate k z ++ (u :: xs) := by
  subst hk
  rw [List.replicate_succ', List.append_assoc]
  simp

end Go.Proofs.YtdojalhaklkegaaDoor

namespace Go.Proofs.YtdojalhaklkegaaDoor
open Go.RowKit

theorem Own.front {w : World} {B g n cap : Nat} {bs ys : List UInt8} (h : Own w B (.slice (some ⟨g, 0, none⟩) n cap) (bs ++ ys)) : Own w B (.slice (some ⟨g, 0, none⟩) bs.length cap) bs := by
  rcases h.2 with ⟨h', _⟩ | ⟨g', cap', cur, h', hb, hg, hn, hm, hs, ht⟩
  · simp at h'
  · simp only [Value.slice.injEq, Option.some.injEq, Addr.mk.injEq, and_true] at h'
    obtain ⟨rfl, -, rfl⟩ := h'
    rw [List.length_append] at hn ht
    refine ⟨by rw [byteCells_length]; omega, .inr ⟨g, cap, cur, rfl, hb, hg, by omega, hm, hs, ?_⟩⟩
    have e := congrArg (List.take (bs.length * 1)) ht
    rw [List.take_take, byteCells_append, Nat.min_eq_left (by omega)] at e
    rw [e, List.take_append_of_le_length (by rw [byteCells_length]; omega), List.take_of_length_le (by rw [byteCells_length]; omega)]

theorem Own.address {w : World} {B : Nat} {v : Value} {bs : List UInt8} (h : Own w B v bs) (hne : ¬ v = .slice none 0 0) : ∃ g cap, v = .slice (some ⟨g, 0, none⟩) bs.length cap ∧ B ≤ g := by
  rcases h.2 with ⟨e, _⟩ | ⟨g, cap, cur, rfl, hb, _⟩
  · exact absurd e hne
  · exact ⟨g, cap, rfl, hb⟩

theorem Own.nil0 {w : World} {B : Nat} {v : Value} {bs : List UInt8} (h : Own w B v bs) : ∀ n c, v = .slice none n c → c = 0 := by
  intro n c e
  rcases h.2 with ⟨e', _⟩ | ⟨g, cap, cur, e', _⟩
  · rw [e] at e'
    injection e'
  · rw [e] at e'
    injection e' with e1
    cases e1

theorem own_empty (w : World) : Own (w.alloc (.cells #[] 5)) w.heap.size (.slice (some ⟨w.heap.size, 0, none⟩) 0 0) [] :=
  World.ownsRow_made w #[] 0 (Nat.le_refl _) (Nat.zero_le _) rfl

theorem isB_one (w : World) (t : TypeId) (c : UInt8) (x : Int) (h : x = c.toNat) : IsB (w.alloc (.cells #[.int .u8 x] t)) (.slice (some ⟨w.heap.size, 0, none⟩) 1 1) [c] := by
  subst h
  refine ⟨_, 1, rfl, Nat.le_refl _, by unfold maxLen; omega, .inr ⟨w.heap.size, 0, rfl, fun i hi => ?_⟩⟩
  match i, hi with
  | 0, _ => simp

theorem IsB.cells {w : World} {ao : Option Addr} {n cap : Nat} {ys : List UInt8} (h : IsB w (.slice ao n cap) ys) :
    n = ys.length ∧ (ao = none → ys = []) ∧ ∀ ad, ao = some ad → ∀ (j : Nat) (u : Value), (Lib.byteCells ys)[j]? = some u → w.cell? (ad.add j) = some u := by
  obtain ⟨ao', cap', e, _, _, h⟩ := h
  injection e with e1 e2 e3
  subst e1 e2 e3
  refine ⟨rfl, fun hn => ?_, fun ad had j u hj => ?_⟩
  · rcases h with h | ⟨b, off, h, _⟩
    · exact h
    · rw [hn] at h; cases h
  · have hlt : j < ys.length := by
      have := (List.getElem?_eq_some_iff.1 hj).1
      rwa [byteCells_length] at this
    rcases h with h | ⟨b, off, h, hc⟩
    · rw [h] at hlt; simp at hlt
    · rw [h] at had
      cases had
      rw [Addr.add_lit, hc j hlt]
      rw [byteCells_getElem? ys j hlt] at hj
      exact hj

theorem wpList_app (w : World) {ops : Array Oper} {rest : List Oper} {o : Oper} {a : Act} {Q : Exit → Act → World → Prop} (hg : o.guard = none) (s x : Operand)
    (ho : o.op = .call { callee := .builtin .append, args := #[s, x], argTypes := #[24, 24] })
    (B : Nat) (v : Value) (bs : List UInt8) (hs : a.eval s = v) (hown : Own w B v bs) (sv : Value) (ys : List UInt8) (hx : a.eval x = sv) (hi : IsB w sv ys) (hnil : ∀ n c, sv = .slice none n c → c = 0)
    (hlen : bs.length + ys.length ≤ 140737488355328) (hB : B ≤ w.heap.size)
    (h : ∀ v' w', Own w' B v' (bs ++ ys) → Below B w w' → (v' = .slice none 0 0 → v = .slice none 0 0) → wpList Tryd.prog ops Q rest (a.put o.dst v') w') : wpList Tryd.prog ops Q (o :: rest) a w := by
  obtain ⟨i0, h0, hz0, hz1, hz2⟩ := info_parts Tryd.info5
  obtain ⟨ao, cap, rfl⟩ : ∃ ao cap, sv = .slice ao ys.length cap := by
    obtain ⟨ao, cap, e, _⟩ := hi
    exact ⟨ao, cap, e⟩
  obtain ⟨_, hn, hc⟩ := hi.cells
  cases ao with
  | none =>
    obtain rfl := hn rfl
    obtain rfl := hnil _ _ rfl
    exact wpList_append_own_none hg s x _ ho B 5 i0 1 Tryd.underlying24 h0 v bs.length _ hs hown.row hx (h _ _ (by rw [List.append_nil]; exact hown) (Below.refl _ _) id)
  | some ad =>
    refine wpList_append_own w hg s x _ ho B 5 i0 (.int .u8 0) 1 1 Tryd.underlying24 h0 hz0 hz1 hz2 rfl (by decide) v bs.length _ hs hown.row ad ys.length cap (Lib.byteCells ys) hx (by rw [byteCells_length, Nat.mul_one]) (hc ad rfl) (byteCells_oneCell _) (by unfold maxLen; omega) (by omega) hB ?_
    intro v' w' hown' hgrow hz
    refine h v' w' ?_ ((Below.refl B w).grown hgrow hB fun k hk => (hown.row.lt k hk).1) (fun e => (hz.1 e).1)
    rw [Own, List.length_append, byteCells_append]
    exact hown'

/-- 'make([]byte, n, m)'. -/
theorem wpList_make_cap (w : World) {ops : Array Oper} {rest : List Oper} {o : Oper} {a : Act} {Q : Exit → Act → World → Prop} (hg : o.guard = none) (l c : Operand) (ho : o.op = .makeSlice 24 l c)
    (kl kc : IntKind) (L C : Int) (n m : Nat) (hl : a.eval l = .int kl L) (hc : a.eval c = .int kc C) (hL : L = (n : Int)) (hC : C = (m : Int)) (hnm : n ≤ m) (hm : m ≤ 140737488355328)
    (h : ∀ w', Own w' w.heap.size (.slice (some ⟨w.heap.size, 0, none⟩) n m) (List.replicate n 0) → Below w.heap.size w w' → wpList Tryd.prog ops Q rest (a.put o.dst (.slice (some ⟨w.heap.size, 0, none⟩) n m)) w') :
    wpList Tryd.prog ops Q (o :: rest) a w := by
  obtain ⟨i0, h0, hz0, hz1, hz2⟩ := info_parts Tryd.info5
  refine wpList_plain hg fun K hK' => ?_
  subst hL hC
  have hb : (i0.bytes : Int) * (m : Int) ≤ 281474976710656 := by rw [hz2]; omega
  have hrun := run_make (P := Tryd.prog) w 24 5 i0 (.int .u8 0) Tryd.underlying24 h0 hz0 kl kc n m (by omega) (by omega) hb (by omega)
  simp only [Int.toNat_natCast] at hrun
  unfold Oper.wp
  simp [execOp, ho, hl, hc, hrun, Result.andThen]
  refine hK' _ _ (h _ ?_ ((Below.refl _ _).alloc (Nat.le_refl _) _))
  have e : (madeCells (Value.int IntKind.u8 0).cells (m * i0.size)).toList = List.replicate m (.int .u8 0) := by
    rw [hz1, Nat.mul_one]
    exact toList_madeCells_one _ _
  have hsz : (madeCells (Value.int IntKind.u8 0).cells (m * i0.size)).size = m := by rw [← Array.length_toList, e, List.length_replicate]
  refine ⟨by rw [byteCells_length, Nat.mul_one], .inr ⟨w.heap.size, m, _, by rw [List.length_replicate], Nat.le_refl _, heap_alloc_new w _, by rw [List.length_replicate]; exact hnm, by unfold maxLen; omega, by rw [hsz, Nat.mul_one], ?_⟩⟩
  rw [e, List.length_replicate, Nat.mul_one, List.take_replicate, Nat.min_eq_left hnm]
  simp [Lib.byteCells]

end Go.Proofs.YtdojalhaklkegaaDoor
