/-
  WHAT LATER TEXTS SHARE: bytes in memory, the call's own or come in, and how they last over later calls. Nothing of the program but the number of its type uint8. Conditions: none.
  'append' OF BYTES ONTO A ROW OF THE CALL'S OWN, AS LAWS FOR THE WALK: whatever slice is appended, nil and empty ones too; and what becomes of the slice that was appended to. Conditions: the sum of the lengths is at most 2^47.
  ROWS OF THE CALL'S OWN SIDE BY SIDE: 'append' onto one of them, what has turned, where the new row lies. Conditions: the sum of the lengths is at most 2^47.
  PLAIN MATHEMATICS OF LAYER 2 (SHA-256): rounds, blocks, padding on lists of bytes and 32-bit words; nothing of the program. Conditions: none.
  CONTRACTS OF math/bits.RotateLeft32, sha.ror AND orlopref02.ror: a number of 32 bits turned right. Conditions: the places are 1 to 31.
-/
import Derived.WalkKit
import Derived.Lib.UnsafeStr
import Derived.Lib.EndianBits
import Derived.Laws.BitsAllLaws
import Derived.Deep.Draws
import Derived.Test.YtbgadfaiehkanaaGreatDoorChecked
import Derived.Test.YtbgadfaiehkanaaGreatDoorPj1
import Derived.Laws.AppendOwnNone
import Derived.ArgAppend
import Derived.Maps.AppendAt
import Derived.WalkSpells

namespace Go.Proofs.YtbgadfaiehkanaaGreatDoor
open Go.RowKit

/-- The bytes bs lie at the address (or there are none). -/
def At (w : World) (ao : Option Addr) (bs : List UInt8) : Prop :=
  bs = [] ∨ ∃ b off, ao = some ⟨b, off, none⟩ ∧ ∀ i, i < bs.length → w.cell? ⟨b, off + i, none⟩ = some (.int .u8 ((bs.getD i 0).toNat : Int))

/-- The value is a slice of the bytes bs. -/
def IsB (w : World) (v : Value) (bs : List UInt8) : Prop := ∃ ao cap, v = .slice ao bs.length cap ∧ bs.length ≤ cap ∧ cap ≤ maxLen ∧ At w ao bs

/-- The value is a slice of the bytes bs, a row of the call's own (of blocks from B on). -/
def Own (w : World) (B : Nat) (v : Value) (bs : List UInt8) : Prop := w.ownsRow B 5 1 v bs.length (Lib.byteCells bs)

/-- The call hands back the bytes bs in memory of its own; what was there stands. -/
def Makes (w : World) (bs : List UInt8) (e : Ending) (w' : World) : Prop := ∃ r, e = .returned r ∧ Own w' w.heap.size r bs ∧ Below w.heap.size w w'

theorem byteCells_getElem? (bs : List UInt8) (i : Nat) (h : i < bs.length) : (Lib.byteCells bs)[i]? = some (.int .u8 ((bs.getD i 0).toNat : Int)) := by
  simp [Lib.byteCells, h]

theorem byteCells_length (bs : List UInt8) : (Lib.byteCells bs).length = bs.length := by simp [Lib.byteCells]

theorem byteCells_append (a b : List UInt8) : Lib.byteCells (a ++ b) = Lib.byteCells a ++ Lib.byteCells b := by simp [Lib.byteCells]

theorem byteCells_oneCell (bs : List UInt8) : ∀ u ∈ Lib.byteCells bs, u.oneCell' = true := by
  intro u hu
  obtain ⟨_, _, rfl⟩ := List.mem_map.1 hu
  rfl

theorem IsB.nil (w : World) : IsB w (.slice none 0 0) [] := ⟨none, 0, rfl, Nat.le_refl _, Nat.zero_le _, .inl rfl⟩

theorem Own.isB {w : World} {B : Nat} {v : Value} {bs : List UInt8} (h : Own w B v bs) : IsB w v bs := by
  rcases h.2 with ⟨rfl, hn⟩ | ⟨g, cap, cur, rfl, hb, hg, hn, hm, hs, ht⟩
  · have : bs = [] := List.eq_nil_of_length_eq_zero hn
    subst this
    exact IsB.nil w
  · refine ⟨_, cap, rfl, hn, hm, .inr ⟨g, 0, rfl, fun i hi => ?_⟩⟩
    have h' : w.ownsRow B 5 1 (.slice (some ⟨g, 0, none⟩) bs.length cap) bs.length (Lib.byteCells bs) := ⟨h.1, .inr ⟨g, cap, cur, rfl, hb, hg, hn, hm, hs, ht⟩⟩
    rw [Nat.zero_add, h'.cellAt i (by omega)]
    exact byteCells_getElem? bs i hi

theorem Own.below {w w' : World} {B : Nat} {v : Value} {bs : List UInt8} (h : Own w B v bs) (k : Below w.heap.size w w') : Own w' B v bs := by
  refine ⟨h.1, ?_⟩
  rcases h.2 with hn | ⟨g, cap, cur, rfl, hb, hg, rest⟩
  · exact .inl hn
  · refine .inr ⟨g, cap, cur, rfl, hb, ?_, rest⟩
    rw [k.block g (Array.getElem?_eq_some_iff.1 hg).1]
    exact hg

theorem At.below {w w' : World} {ao : Option Addr} {bs : List UInt8} (h : At w ao bs) (k : Below w.heap.size w w') : At w' ao bs := by
  rcases h with h | ⟨b, off, rfl, h⟩
  · exact .inl h
  · refine .inr ⟨b, off, rfl, fun i hi => ?_⟩
    have hc := h i hi
    rw [k.cell (by exact World.block_lt_of_cell? w _ hc)]
    exact hc

theorem IsB.below {w w' : World} {v : Value} {bs : List UInt8} (h : IsB w v bs) (k : Below w.heap.size w w') : IsB w' v bs := by
  obtain ⟨ao, cap, rfl, h1, h2, h3⟩ := h
  exact ⟨ao, cap, rfl, h1, h2, h3.below k⟩

theorem Own.row {w : World} {B : Nat} {v : Value} {bs : List UInt8} (h : Own w B v bs) : w.ownsRow B 5 1 v bs.length (Lib.byteCells bs) := h

theorem Own.shape {w : World} {B : Nat} {v : Value} {bs : List UInt8} (h : Own w B v bs) (hne : 0 < bs.length) : ∃ g cap, v = .slice (some ⟨g, 0, none⟩) bs.length cap ∧ B ≤ g := by
  rcases h.2 with ⟨_, hn⟩ | ⟨g, cap, cur, rfl, hb, _⟩
  · omega
  · exact ⟨g, cap, rfl, hb⟩

theorem Own.cells {w : World} {B g cap : Nat} {bs : List UInt8} (h : Own w B (.slice (some ⟨g, 0, none⟩) bs.length cap) bs) :
    ∀ (j : Nat) (u : Value), (Lib.byteCells bs)[j]? = some u → w.cell? (Addr.add ⟨g, 0, none⟩ j) = some u := by
  intro j u hj
  have hlt : j < bs.length := by
    have := (List.getElem?_eq_some_iff.1 hj).1
    rwa [byteCells_length] at this
  rw [Addr.add_lit, Nat.zero_add, h.row.cellAt j (by omega)]
  exact hj

theorem Own.mono {w : World} {B B' : Nat} {v : Value} {bs : List UInt8} (h : Own w B v bs) (hb : B' ≤ B) : Own w B' v bs := by
  refine ⟨h.1, ?_⟩
  rcases h.2 with hn | ⟨g, cap, cur, rfl, hg, rest⟩
  · exact .inl hn
  · exact .inr ⟨g, cap, cur, rfl, Nat.le_trans hb hg, rest⟩

theorem Makes.mono {w w1 : World} {bs : List UInt8} {e : Ending} {w' : World} (h : Makes w1 bs e w') (k : Below w.heap.size w w1) : Makes w bs e w' := by
  obtain ⟨r, rfl, h1, h2⟩ := h
  exact ⟨r, rfl, h1.mono k.size, k.trans (h2.mono k.size)⟩

/-- What 'append(out, x)' lays in a block of its own. -/
theorem one_new (w : World) (x : Value) (t : TypeId) : ∀ (j : Nat) (u : Value), [x][j]? = some u → (w.alloc (.cells #[x] t)).cell? (Addr.add ⟨w.heap.size, 0, none⟩ j) = some u := by
  intro j u hj
  match j, hj with
  | 0, hj =>
    simp at hj
    subst hj
    simp [Addr.add]

theorem one_oneCell (k : IntKind) (n : Int) : ∀ u ∈ [Value.int k n], u.oneCell' = true := by
  intro u hu
  simp at hu
  subst hu
  rfl

theorem below_draws (w : World) (n : Nat) : Below w.heap.size w (w.drewN n) := ⟨rfl, rfl, rfl, Nat.le_refl _, fun _ _ => rfl⟩

theorem Below.of_grown {w wr w1 : World} {v : Value} {o : Obj} {n : Nat} {xs : List Value} {e : TypeId} (hb : Below w.heap.size w wr) (hown : wr.ownsRow w.heap.size e 1 v n xs) (hg : (wr.alloc o).grownBy w1 v.ownBlock) : Below w.heap.size w w1 :=
  (hb.alloc hb.size o).grown hg (by have := hb.size; simp; omega) (fun k hk => (hown.lt k hk).1)

theorem Tryz.info5 : (Tryz.prog.info? 5).map (fun i => (i.zero, i.size, i.bytes)) = some (some (.int .u8 0), 1, 1) := by kernel_rfl

/-- 'byte(v >> (8 * k))', as the walk shows it. -/
theorem byte_of (v k : Nat) : Value.int .u8 ((v : Int) / 2 ^ (8 * k) % 256) = .int .u8 ((UInt8.ofNat (v / 256 ^ k)).toNat : Int) := by
  have e : (2 : Nat) ^ (8 * k) = 256 ^ k := by rw [Nat.pow_mul]
  congr 1
  rw [show (UInt8.ofNat (v / 256 ^ k)).toNat = v / 256 ^ k % 256 by simp, ← e]
  simp

theorem byte_up (c k : Nat) (hk : k ≤ 7) (hc : c < 256) : IntKind.u64.wrap (IntKind.u64.wrap (c : Int) * 2 ^ (8 * k)) = ((c * 256 ^ k : Nat) : Int) ∧ c * 256 ^ k < 18446744073709551616 := by
  have e : (2 : Int) ^ (8 * k) = ((256 ^ k : Nat) : Int) := by
    rw [show (256 : Nat) ^ k = 2 ^ (8 * k) by rw [Nat.pow_mul]]
    simp
  have h1 : c * 256 ^ k < 256 ^ (k + 1) := by
    rw [Nat.pow_succ, Nat.mul_comm (256 ^ k)]
    exact (Nat.mul_lt_mul_right (M.pow_pos k)).2 hc
  have h2 : (256 : Nat) ^ (k + 1) ≤ 256 ^ 8 := Nat.pow_le_pow_right (by omega) (by omega)
  have h3 : (256 : Nat) ^ 8 = 18446744073709551616 := by decide
  have h4 : c * 256 ^ k < 18446744073709551616 := by omega
  refine ⟨?_, h4⟩
  rw [wraps_u64 (c : Int) (by omega) (by omega), e, ← Int.natCast_mul, wraps_u64 _ (by omega) (by omega)]

/-- 'v | uint64(c) << (8 * k)', as the walk shows it, where v lies below. -/
theorem or_byte_up (a c k : Nat) (h : a < 256 ^ k) (hk : k ≤ 7) (hc : c < 256) :
    bits BinOp.or .u64 (a : Int) (IntKind.u64.wrap (IntKind.u64.wrap (c : Int) * 2 ^ (8 * k))) = ((a + c * 256 ^ k : Nat) : Int) := by
  obtain ⟨e, hb⟩ := byte_up c k hk hc
  have h2 : (256 : Nat) ^ k ≤ 256 ^ 8 := Nat.pow_le_pow_right (by omega) (by omega)
  have h3 : (256 : Nat) ^ 8 = 18446744073709551616 := by decide
  rw [e, u64_or_nat a _ (by omega) (by omega), M.or_up a c k h]

/-- The same where v is a multiple of what lies above. -/
theorem or_byte_down (a c k : Nat) (ha : a * 256 ^ (k + 1) < 18446744073709551616) (hk : k ≤ 7) (hc : c < 256) :
    bits BinOp.or .u64 ((a * 256 ^ (k + 1) : Nat) : Int) (IntKind.u64.wrap (IntKind.u64.wrap (c : Int) * 2 ^ (8 * k))) = (((a * 256 + c) * 256 ^ k : Nat) : Int) := by
  obtain ⟨e, hb⟩ := byte_up c k hk hc
  have h1 : c * 256 ^ k < 256 ^ (k + 1) := by
    rw [Nat.pow_succ, Nat.mul_comm (256 ^ k)]
    exact (Nat.mul_lt_mul_right (M.pow_pos k)).2 hc
  rw [e, u64_or_nat _ _ ha hb, M.or_down a (c * 256 ^ k) (k + 1) h1, Nat.add_mul, Nat.pow_succ, Nat.mul_assoc, Nat.mul_comm 256]

/-- A store into the next place of a row that is filled from its head on. -/
theorem set_next (xs : List Value) (u z : Value) (k m : Nat) (hk : xs.length = k) (hm : 0 < m) : (xs ++ List.replicate m z).set k u = (xs ++ [u]) ++ List.replicate (m - 1) z := by
  obtain ⟨m', rfl⟩ : ∃ m', m = m' + 1 := ⟨m - 1, by omega⟩
  subst hk
  simp [List.replicate_succ]

/-- A store into the last place of what is still to fill of a row that is filled from its end on. -/
theorem set_prev (xs : List Value) (u z : Value) (k m : Nat) (hk : k + 1 = m) : (List.replicate m z ++ xs).set k u = List.replicate k z ++ (u :: xs) := by
  subst hk
  rw [List.replicate_succ', List.append_assoc]
  simp

end Go.Proofs.YtbgadfaiehkanaaGreatDoor

namespace Go.Proofs.YtbgadfaiehkanaaGreatDoor
open Go.RowKit

theorem Own.front {w : World} {B g n cap : Nat} {bs ys : List UInt8} (h : Own w B (.slice (some ⟨g, 0, none⟩) n cap) (bs ++ ys)) : Own w B (.slice (some ⟨g, 0, none⟩) bs.length cap) bs := by
  rcases h.2 with ⟨h', _⟩ | ⟨g', cap', cur, h', hb, hg, hn, hm, hs, ht⟩
  · simp at h'
  · simp only [Value.slice.injEq, Option.some.injEq, Addr.mk.injEq, and_true] at h'
    obtain ⟨rfl, -, rfl⟩ := h'
    rw [List.length_append] at hn ht
    refine ⟨by rw [byteCells_length]; omega, .inr ⟨g, cap, cur, rfl, hb, hg, by omega, hm, hs, ?_⟩⟩
    have e := congrArg (List.take (bs.length * 1)) ht
    rw [List.take_take, byteCells_append, Nat.min_eq_left (by omega)] at e
    rw [e, List.take_append_of_le_length (by rw [byteCells_length]; omega), List.take_of_length_le (by rw [byteCells_length]; omega)]

theorem Own.address {w : World} {B : Nat} {v : Value} {bs : List UInt8} (h : Own w B v bs) (hne : ¬ v = .slice none 0 0) : ∃ g cap, v = .slice (some ⟨g, 0, none⟩) bs.length cap ∧ B ≤ g := by
  rcases h.2 with ⟨e, _⟩ | ⟨g, cap, cur, rfl, hb, _⟩
  · exact absurd e hne
  · exact ⟨g, cap, rfl, hb⟩

theorem Own.nil0 {w : World} {B : Nat} {v : Value} {bs : List UInt8} (h : Own w B v bs) : ∀ n c, v = .slice none n c → c = 0 := by
  intro n c e
  rcases h.2 with ⟨e', _⟩ | ⟨g, cap, cur, e', _⟩
  · rw [e] at e'
    injection e'
  · rw [e] at e'
    injection e' with e1
    cases e1

theorem own_empty (w : World) : Own (w.alloc (.cells #[] 5)) w.heap.size (.slice (some ⟨w.heap.size, 0, none⟩) 0 0) [] :=
  World.ownsRow_made w #[] 0 (Nat.le_refl _) (Nat.zero_le _) rfl

theorem isB_one (w : World) (t : TypeId) (c : UInt8) (x : Int) (h : x = c.toNat) : IsB (w.alloc (.cells #[.int .u8 x] t)) (.slice (some ⟨w.heap.size, 0, none⟩) 1 1) [c] := by
  subst h
  refine ⟨_, 1, rfl, Nat.le_refl _, by unfold maxLen; omega, .inr ⟨w.heap.size, 0, rfl, fun i hi => ?_⟩⟩
  match i, hi with
  | 0, _ => simp

theorem IsB.cells {w : World} {ao : Option Addr} {n cap : Nat} {ys : List UInt8} (h : IsB w (.slice ao n cap) ys) :
    n = ys.length ∧ (ao = none → ys = []) ∧ ∀ ad, ao = some ad → ∀ (j : Nat) (u : Value), (Lib.byteCells ys)[j]? = some u → w.cell? (ad.add j) = some u := by
  obtain ⟨ao', cap', e, _, _, h⟩ := h
  injection e with e1 e2 e3
  subst e1 e2 e3
  refine ⟨rfl, fun hn => ?_, fun ad had j u hj => ?_⟩
  · rcases h with h | ⟨b, off, h, _⟩
    · exact h
    · rw [hn] at h; cases h
  · have hlt : j < ys.length := by
      have := (List.getElem?_eq_some_iff.1 hj).1
      rwa [byteCells_length] at this
    rcases h with h | ⟨b, off, h, hc⟩
    · rw [h] at hlt; simp at hlt
    · rw [h] at had
      cases had
      rw [Addr.add_lit, hc j hlt]
      rw [byteCells_getElem? ys j hlt] at hj
      exact hj

theorem wpList_app (w : World) {ops : Array Oper} {rest : List Oper} {o : Oper} {a : Act} {Q : Exit → Act → World → Prop} (hg : o.guard = none) (s x : Operand)
    (ho : o.op = .call { callee := .builtin .append, args := #[s, x], argTypes := #[22, 22] })
    (B : Nat) (v : Value) (bs : List UInt8) (hs : a.eval s = v) (hown : Own w B v bs) (sv : Value) (ys : List UInt8) (hx : a.eval x = sv) (hi : IsB w sv ys) (hnil : ∀ n c, sv = .slice none n c → c = 0)
    (hlen : bs.length + ys.length ≤ 140737488355328) (hB : B ≤ w.heap.size)
    (h : ∀ v' w', Own w' B v' (bs ++ ys) → Below B w w' → (v' = .slice none 0 0 → v = .slice none 0 0) → wpList Tryz.prog ops Q rest (a.put o.dst v') w') : wpList Tryz.prog ops Q (o :: rest) a w := by
  obtain ⟨i0, h0, hz0, hz1, hz2⟩ := info_parts Tryz.info5
  obtain ⟨ao, cap, rfl⟩ : ∃ ao cap, sv = .slice ao ys.length cap := by
    obtain ⟨ao, cap, e, _⟩ := hi
    exact ⟨ao, cap, e⟩
  obtain ⟨_, hn, hc⟩ := hi.cells
  cases ao with
  | none =>
    obtain rfl := hn rfl
    obtain rfl := hnil _ _ rfl
    exact wpList_append_own_none hg s x _ ho B 5 i0 1 Tryz.underlying22 h0 v bs.length _ hs hown.row hx (h _ _ (by rw [List.append_nil]; exact hown) (Below.refl _ _) id)
  | some ad =>
    refine wpList_append_own w hg s x _ ho B 5 i0 (.int .u8 0) 1 1 Tryz.underlying22 h0 hz0 hz1 hz2 rfl (by decide) v bs.length _ hs hown.row ad ys.length cap (Lib.byteCells ys) hx (by rw [byteCells_length, Nat.mul_one]) (hc ad rfl) (byteCells_oneCell _) (by unfold maxLen; omega) (by omega) hB ?_
    intro v' w' hown' hgrow hz
    refine h v' w' ?_ ((Below.refl B w).grown hgrow hB fun k hk => (hown.row.lt k hk).1) (fun e => (hz.1 e).1)
    rw [Own, List.length_append, byteCells_append]
    exact hown'

theorem wpList_app_keep (w : World) {ops : Array Oper} {rest : List Oper} {o : Oper} {a : Act} {Q : Exit → Act → World → Prop} (hg : o.guard = none) (s x : Operand)
    (ho : o.op = .call { callee := .builtin .append, args := #[s, x], argTypes := #[22, 22] })
    (B g cap : Nat) (bs : List UInt8) (hs : a.eval s = .slice (some ⟨g, 0, none⟩) bs.length cap) (hown : Own w B (.slice (some ⟨g, 0, none⟩) bs.length cap) bs) (ad : Addr) (c : Nat) (ys : List UInt8) (hx : a.eval x = .slice (some ad) ys.length c) (hi : IsB w (.slice (some ad) ys.length c) ys)
    (hlen : bs.length + ys.length ≤ 140737488355328) (hB : B ≤ w.heap.size)
    (h : ∀ v' w', Own w' B v' (bs ++ ys) → Own w' B (.slice (some ⟨g, 0, none⟩) bs.length cap) bs → Below B w w' → wpList Tryz.prog ops Q rest (a.put o.dst v') w') : wpList Tryz.prog ops Q (o :: rest) a w := by
  obtain ⟨i0, h0, hz0, hz1, hz2⟩ := info_parts Tryz.info5
  obtain ⟨_, hn, hc⟩ := hi.cells
  have hgB := (hown.row.lt g rfl).1
  by_cases hcap : bs.length + ys.length ≤ cap
  · refine wpList_append_fits w hg s x _ ho B 5 i0 1 Tryz.underlying22 h0 hz1 g bs.length cap _ hs hown.row ad ys.length c (Lib.byteCells ys) hx (by rw [byteCells_length, Nat.mul_one]) (hc ad rfl) (byteCells_oneCell _) hcap ?_
    intro w' hown' hgrow
    have ho' : Own w' B (.slice (some ⟨g, 0, none⟩) (bs.length + ys.length) cap) (bs ++ ys) := by
      rw [Own, List.length_append, byteCells_append]
      exact hown'
    exact h _ w' ho' ho'.front ((Below.refl B w).grown hgrow hB fun k hk => by cases hk; exact hgB)
  · refine wpList_append_grows w hg s x _ ho 5 i0 (.int .u8 0) 1 1 Tryz.underlying22 h0 hz0 hz1 hz2 rfl (by decide) (some ⟨g, 0, none⟩) bs.length cap (Lib.byteCells bs) hs (fun hh => by cases hh) (by rw [byteCells_length, Nat.mul_one]) (fun b hb => by cases hb; exact hown.cells) ad ys.length c (Lib.byteCells ys) hx (by rw [byteCells_length, Nat.mul_one]) (hc ad rfl) (byteCells_oneCell _) (by omega) (by unfold maxLen; omega) (by omega) ?_
    intro v' w' hown' hgrow
    have ho' : Own w' w.heap.size v' (bs ++ ys) := by
      rw [Own, List.length_append, byteCells_append]
      exact hown'
    exact h _ w' (ho'.mono hB) (hown.row.kept hgrow (.inr (by simp [Value.ownBlock]))) ((Below.refl B w).grown hgrow hB fun k hk => by cases hk)

/-- A guarded operation that is wanted is carried out as an unguarded one. -/
theorem wpList_unguard {P : Program} {ops : Array Oper} {rest : List Oper} {o : Oper} {a : Act} {w : World} {Q : Exit → Act → World → Prop} (hw : Region.wanted o (yielded ops a.tmps) = true)
    (h : wpList P ops Q ({ o with guard := none } :: rest) a w) : wpList P ops Q (o :: rest) a w := by
  unfold wpList at h ⊢
  rw [if_pos hw]
  rw [if_pos (by simp [Region.wanted])] at h
  exact h

/-- 'make([]byte, n, m)'. -/
theorem wpList_make_cap (w : World) {ops : Array Oper} {rest : List Oper} {o : Oper} {a : Act} {Q : Exit → Act → World → Prop} (hg : o.guard = none) (l c : Operand) (ho : o.op = .makeSlice 22 l c)
    (kl kc : IntKind) (L C : Int) (n m : Nat) (hl : a.eval l = .int kl L) (hc : a.eval c = .int kc C) (hL : L = (n : Int)) (hC : C = (m : Int)) (hnm : n ≤ m) (hm : m ≤ 140737488355328)
    (h : ∀ w', Own w' w.heap.size (.slice (some ⟨w.heap.size, 0, none⟩) n m) (List.replicate n 0) → Below w.heap.size w w' → wpList Tryz.prog ops Q rest (a.put o.dst (.slice (some ⟨w.heap.size, 0, none⟩) n m)) w') :
    wpList Tryz.prog ops Q (o :: rest) a w := by
  obtain ⟨i0, h0, hz0, hz1, hz2⟩ := info_parts Tryz.info5
  refine wpList_plain hg fun K hK' => ?_
  subst hL hC
  have hb : (i0.bytes : Int) * (m : Int) ≤ 281474976710656 := by rw [hz2]; omega
  have hrun := run_make (P := Tryz.prog) w 22 5 i0 (.int .u8 0) Tryz.underlying22 h0 hz0 kl kc n m (by omega) (by omega) hb (by omega)
  simp only [Int.toNat_natCast] at hrun
  unfold Oper.wp
  simp [execOp, ho, hl, hc, hrun, Result.andThen]
  refine hK' _ _ (h _ ?_ ((Below.refl _ _).alloc (Nat.le_refl _) _))
  have e : (madeCells (Value.int IntKind.u8 0).cells (m * i0.size)).toList = List.replicate m (.int .u8 0) := by
    rw [hz1, Nat.mul_one]
    exact toList_madeCells_one _ _
  have hsz : (madeCells (Value.int IntKind.u8 0).cells (m * i0.size)).size = m := by rw [← Array.length_toList, e, List.length_replicate]
  refine ⟨by rw [byteCells_length, Nat.mul_one], .inr ⟨w.heap.size, m, _, by rw [List.length_replicate], Nat.le_refl _, heap_alloc_new w _, by rw [List.length_replicate]; exact hnm, by unfold maxLen; omega, by rw [hsz, Nat.mul_one], ?_⟩⟩
  rw [e, List.length_replicate, Nat.mul_one, List.take_replicate, Nat.min_eq_left hnm]
  simp [Lib.byteCells]

end Go.Proofs.YtbgadfaiehkanaaGreatDoor

namespace Go.Proofs.YtbgadfaiehkanaaGreatDoor
open Go.RowKit
set_option linter.unusedVariables false

theorem IsB.shape {w : World} {v : Value} {bs : List UInt8} (h : IsB w v bs) : ∃ ao cap, v = .slice ao bs.length cap := by
  obtain ⟨ao, cap, e, _⟩ := h
  exact ⟨ao, cap, e⟩

theorem IsB.take {w : World} {ao : Option Addr} {n cap : Nat} {bs : List UInt8} (h : IsB w (.slice ao n cap) bs) (m : Nat) (hm : m ≤ n) : IsB w (.slice ao m cap) (bs.take m) := by
  obtain ⟨ao', cap', e, h1, h2, h3⟩ := h
  injection e with e1 e2 e3
  subst e1 e2 e3
  have hl : (bs.take m).length = m := by rw [List.length_take]; omega
  refine ⟨ao, cap, by rw [hl], by omega, h2, ?_⟩
  rcases h3 with h | ⟨b, off, e, h⟩
  · exact .inl (by rw [h]; simp)
  · refine .inr ⟨b, off, e, fun i hi => ?_⟩
    rw [hl] at hi
    rw [h i (by omega)]
    simp [List.getD_eq_getElem?_getD, hi]

theorem Own.shape' {w : World} {B : Nat} {v : Value} {bs : List UInt8} (h : Own w B v bs) : ∃ ao cap, v = .slice ao bs.length cap := h.isB.shape

/-- As wpList_app; what is appended to is all that has turned. -/
theorem wpList_app2 (w : World) {ops : Array Oper} {rest : List Oper} {o : Oper} {a : Act} {Q : Exit → Act → World → Prop} (hg : o.guard = none) (s x : Operand)
    (ho : o.op = .call { callee := .builtin .append, args := #[s, x], argTypes := #[22, 22] })
    (B : Nat) (v : Value) (bs : List UInt8) (hs : a.eval s = v) (hown : Own w B v bs) (sv : Value) (ys : List UInt8) (hx : a.eval x = sv) (hi : IsB w sv ys) (hnil : ∀ n c, sv = .slice none n c → c = 0)
    (hlen : bs.length + ys.length ≤ 140737488355328) (hB : B ≤ w.heap.size)
    (h : ∀ v' w', Own w' B v' (bs ++ ys) → w.grownBy w' v.ownBlock → wpList Tryz.prog ops Q rest (a.put o.dst v') w') : wpList Tryz.prog ops Q (o :: rest) a w := by
  obtain ⟨i0, h0, hz0, hz1, hz2⟩ := info_parts Tryz.info5
  obtain ⟨ao, cap, rfl⟩ : ∃ ao cap, sv = .slice ao ys.length cap := by
    obtain ⟨ao, cap, e, _⟩ := hi
    exact ⟨ao, cap, e⟩
  obtain ⟨_, hn, hc⟩ := hi.cells
  cases ao with
  | none =>
    obtain rfl := hn rfl
    obtain rfl := hnil _ _ rfl
    exact wpList_append_own_none hg s x _ ho B 5 i0 1 Tryz.underlying22 h0 v bs.length _ hs hown.row hx (h _ _ (by rw [List.append_nil]; exact hown) (World.grownBy.refl _ _))
  | some ad =>
    refine wpList_append_own w hg s x _ ho B 5 i0 (.int .u8 0) 1 1 Tryz.underlying22 h0 hz0 hz1 hz2 rfl (by decide) v bs.length _ hs hown.row ad ys.length cap (Lib.byteCells ys) hx (by rw [byteCells_length, Nat.mul_one]) (hc ad rfl) (byteCells_oneCell _) (by unfold maxLen; omega) (by omega) hB ?_
    intro v' w' hown' hgrow hz
    refine h v' w' ?_ hgrow
    rw [Own, List.length_append, byteCells_append]
    exact hown'

/-- The block of a row of the call's own is there. -/
theorem Own.block_lt {w : World} {B : Nat} {v : Value} {bs : List UInt8} (h : Own w B v bs) : ∀ k, v.ownBlock = some k → B ≤ k ∧ k < w.heap.size := fun k hk => by
  have := h.row.lt k hk
  exact this

theorem Own.far {w w' : World} {B g n cap : Nat} {bs : List UInt8} {row : Option Nat} (h : Own w B (.slice (some ⟨g, 0, none⟩) n cap) bs) (hgrow : w.grownBy w' row) (hne : row ≠ some g) : Own w' B (.slice (some ⟨g, 0, none⟩) n cap) bs :=
  h.row.kept hgrow (.inr fun e => hne e.symm)

/-- As wpList_app2; and where the new row lies. -/
theorem wpList_app3 (w : World) {ops : Array Oper} {rest : List Oper} {o : Oper} {a : Act} {Q : Exit → Act → World → Prop} (hg : o.guard = none) (s x : Operand)
    (ho : o.op = .call { callee := .builtin .append, args := #[s, x], argTypes := #[22, 22] })
    (B : Nat) (v : Value) (bs : List UInt8) (hs : a.eval s = v) (hown : Own w B v bs) (sv : Value) (ys : List UInt8) (hx : a.eval x = sv) (hi : IsB w sv ys) (hnil : ∀ n c, sv = .slice none n c → c = 0)
    (hlen : bs.length + ys.length ≤ 140737488355328) (hB : B ≤ w.heap.size)
    (h : ∀ v' w', Own w' B v' (bs ++ ys) → w.grownBy w' v.ownBlock → (v'.ownBlock = v.ownBlock ∨ v'.ownBlock = some w.heap.size) → wpList Tryz.prog ops Q rest (a.put o.dst v') w') : wpList Tryz.prog ops Q (o :: rest) a w := by
  obtain ⟨i0, h0, hz0, hz1, hz2⟩ := info_parts Tryz.info5
  obtain ⟨ao, cap, rfl⟩ : ∃ ao cap, sv = .slice ao ys.length cap := by
    obtain ⟨ao, cap, e, _⟩ := hi
    exact ⟨ao, cap, e⟩
  obtain ⟨_, hn, hc⟩ := hi.cells
  cases ao with
  | none =>
    obtain rfl := hn rfl
    obtain rfl := hnil _ _ rfl
    exact wpList_append_own_none hg s x _ ho B 5 i0 1 Tryz.underlying22 h0 v bs.length _ hs hown.row hx (h _ _ (by rw [List.append_nil]; exact hown) (World.grownBy.refl _ _) (.inl rfl))
  | some ad =>
    refine wpList_append_own_at w hg s x _ ho B 5 i0 (.int .u8 0) 1 1 Tryz.underlying22 h0 hz0 hz1 hz2 rfl (by decide) v bs.length _ hs hown.row ad ys.length cap (Lib.byteCells ys) hx (by rw [byteCells_length, Nat.mul_one]) (hc ad rfl) (byteCells_oneCell _) (by unfold maxLen; omega) (by omega) hB ?_
    intro v' w' hown' hgrow hz hat
    refine h v' w' ?_ hgrow hat
    rw [Own, List.length_append, byteCells_append]
    exact hown'

theorem Own.kept {w w' : World} {B : Nat} {v : Value} {bs : List UInt8} {row : Option Nat} (h : Own w B v bs) (g : w.grownBy w' row) (hne : ∀ k, v.ownBlock = some k → row ≠ some k) : Own w' B v bs := by
  refine h.row.kept g ?_
  cases hv : v.ownBlock with
  | none => exact .inl rfl
  | some k => exact .inr fun e => hne k hv e.symm

/-- Two rows of the call's own don't lie in one block. -/
def Apart (x y : Value) : Prop := ∀ k, x.ownBlock = some k → y.ownBlock ≠ some k

theorem Apart.symm {x y : Value} (h : Apart x y) : Apart y x := fun k e1 e2 => h k e2 e1

theorem Apart.next {w : World} {B : Nat} {x x' y : Value} {bs : List UInt8} (h : Apart x y) (hy : Own w B y bs) (n : Nat) (hn : w.heap.size ≤ n) (hat : x'.ownBlock = x.ownBlock ∨ x'.ownBlock = some n) : Apart x' y := by
  intro k e1 e2
  rcases hat with hat | hat
  · exact h k (hat ▸ e1) e2
  · rw [hat] at e1
    injection e1 with e1
    have := (hy.block_lt k e2).2
    omega

/-- 'make([]byte, n)'. -/
theorem make_run (n : Nat) (hm : n ≤ 140737488355328) : ∃ C : Array Value, ∀ w : World, (Instr.makeSlice 22 (.int .i64 (n : Int)) (.int .i64 (n : Int))).run Tryz.prog w = .ok (.slice (some ⟨w.heap.size, 0, none⟩) n n) (w.alloc (.cells C 5)) ∧
    Own (w.alloc (.cells C 5)) w.heap.size (.slice (some ⟨w.heap.size, 0, none⟩) n n) (List.replicate n 0) := by
  obtain ⟨i0, h0, hz0, hz1, hz2⟩ := info_parts Tryz.info5
  have hb : (i0.bytes : Int) * (n : Int) ≤ 281474976710656 := by rw [hz2]; omega
  have e : (madeCells (Value.int IntKind.u8 0).cells (n * i0.size)).toList = List.replicate n (.int .u8 0) := by
    rw [hz1, Nat.mul_one]
    exact toList_madeCells_one _ _
  have hsz : (madeCells (Value.int IntKind.u8 0).cells (n * i0.size)).size = n := by rw [← Array.length_toList, e, List.length_replicate]
  refine ⟨madeCells (Value.int IntKind.u8 0).cells (n * i0.size), fun w => ⟨?_, ?_⟩⟩
  · have hrun := run_make (P := Tryz.prog) w 22 5 i0 (.int .u8 0) Tryz.underlying22 h0 hz0 .i64 .i64 n n (by omega) (by omega) hb (by omega)
    simp only [Int.toNat_natCast] at hrun
    exact hrun
  · refine ⟨by rw [byteCells_length, Nat.mul_one], .inr ⟨w.heap.size, n, _, by rw [List.length_replicate], Nat.le_refl _, heap_alloc_new w _, by rw [List.length_replicate]; exact Nat.le_refl _, by unfold maxLen; omega, by rw [hsz, Nat.mul_one], ?_⟩⟩
    rw [e, List.length_replicate, Nat.mul_one, List.take_replicate, Nat.min_eq_left (Nat.le_refl _)]
    simp [Lib.byteCells]

end Go.Proofs.YtbgadfaiehkanaaGreatDoor

namespace Go.Proofs.YtbgadfaiehkanaaGreatDoor.M

def ror (x : UInt32) (n : Nat) : UInt32 := UInt32.ofNat (x.toNat / 2 ^ n ||| x.toNat * 2 ^ (32 - n) % 4294967296)

structure St where
  a : UInt32
  b : UInt32
  c : UInt32
  d : UInt32
  e : UInt32
  f : UInt32
  g : UInt32
  h : UInt32

def tK : List UInt32 := [1116352408, 1899447441, 3049323471, 3921009573, 961987163, 1508970993, 2453635748, 2870763221, 3624381080, 310598401, 607225278, 1426881987, 1925078388, 2162078206, 2614888103, 3248222580, 3835390401, 4022224774, 264347078, 604807628, 770255983, 1249150122, 1555081692, 1996064986, 2554220882, 2821834349, 2952996808, 3210313671, 3336571891, 3584528711, 113926993, 338241895, 666307205, 773529912, 1294757372, 1396182291, 1695183700, 1986661051, 2177026350, 2456956037, 2730485921, 2820302411, 3259730800, 3345764771, 3516065817, 3600352804, 4094571909, 275423344, 430227734, 506948616, 659060556, 883997877, 958139571, 1322822218, 1537002063, 1747873779, 1955562222, 2024104815, 2227730452, 2361852424, 2428436474, 2756734187, 3204031479, 3329325298]

def H0 : St := ⟨1779033703, 3144134277, 1013904242, 2773480762, 1359893119, 2600822924, 528734635, 1541459225⟩

def s0 (x : UInt32) : UInt32 := ror x 7 ^^^ ror x 18 ^^^ x >>> 3

def s1 (x : UInt32) : UInt32 := ror x 17 ^^^ ror x 19 ^^^ x >>> 10

def ws (blk : List UInt8) : Nat → List UInt32
  | 0 => []
  | k + 1 => ws blk k ++ [if k < 16 then UInt32.ofNat (gb (blk.drop (4 * k)) 4) else (ws blk k).getD (k - 16) 0 + s0 ((ws blk k).getD (k - 15) 0) + (ws blk k).getD (k - 7) 0 + s1 ((ws blk k).getD (k - 2) 0)]

def t1 (s : St) (k w : UInt32) : UInt32 := s.h + (ror s.e 6 ^^^ ror s.e 11 ^^^ ror s.e 25) + ((s.e &&& s.f) ^^^ (~~~ s.e &&& s.g)) + k + w

def t2 (s : St) : UInt32 := (ror s.a 2 ^^^ ror s.a 13 ^^^ ror s.a 22) + ((s.a &&& s.b) ^^^ (s.a &&& s.c) ^^^ (s.b &&& s.c))

def rnd (s : St) (k w : UInt32) : St := ⟨t1 s k w + t2 s, s.a, s.b, s.c, s.d + t1 s k w, s.e, s.f, s.g⟩

def rounds (s : St) (W : List UInt32) : Nat → St
  | 0 => s
  | n + 1 => rnd (rounds s W n) (tK.getD n 0) (W.getD n 0)

def add (s t : St) : St := ⟨s.a + t.a, s.b + t.b, s.c + t.c, s.d + t.d, s.e + t.e, s.f + t.f, s.g + t.g, s.h + t.h⟩

def work (s : St) (blk : List UInt8) : St := add s (rounds s (ws blk 64) 64)

def blocks (s : St) (p : List UInt8) : Nat → St
  | 0 => s
  | n + 1 => work (blocks s p n) ((p.drop (64 * n)).take 64)

def pad (n : Nat) : List UInt8 := 128 :: List.replicate ((119 - n % 64) % 64) 0 ++ (le (8 * n % 18446744073709551616) 8).reverse

def St.l (s : St) : List UInt32 := [s.a, s.b, s.c, s.d, s.e, s.f, s.g, s.h]

def out (s : St) : List UInt8 := s.l.flatMap fun v => (le v.toNat 4).reverse

def sha (b : List UInt8) : List UInt8 := out (blocks H0 (b ++ pad b.length) ((b ++ pad b.length).length / 64))

theorem sha_abc : (sha [97, 98, 99]).take 4 = [186, 120, 22, 191] := by decide +kernel

theorem sha_none : (sha []).take 4 = [227, 176, 196, 66] := by decide +kernel

theorem out_length (s : St) : (out s).length = 32 := by simp [out, St.l, le_length]

theorem sha_length (b : List UInt8) : (sha b).length = 32 := out_length _

theorem l_length (s : St) : s.l.length = 8 := rfl

theorem ws_length (blk : List UInt8) (k : Nat) : (ws blk k).length = k := by
  induction k with
  | zero => rfl
  | succ k ih => simp [ws, ih]

theorem pad_length (n : Nat) : (pad n).length = 9 + (119 - n % 64) % 64 := by
  simp [pad, le_length]
  omega

theorem pad_whole (n : Nat) : (n + (pad n).length) % 64 = 0 := by
  rw [pad_length]
  omega

theorem take64 (p q : List UInt8) (n : Nat) (h : 64 * (n + 1) ≤ p.length) : ((p ++ q).drop (64 * n)).take 64 = (p.drop (64 * n)).take 64 := by
  rw [List.drop_append_of_le_length (by omega), List.take_append_of_le_length (by rw [List.length_drop]; omega)]

theorem blocks_append (s : St) (p q : List UInt8) : ∀ n, 64 * n ≤ p.length → blocks s (p ++ q) n = blocks s p n := by
  intro n
  induction n with
  | zero => intro _; rfl
  | succ n ih =>
    intro h
    rw [blocks, blocks, ih (by omega), take64 p q n h]

end Go.Proofs.YtbgadfaiehkanaaGreatDoor.M

namespace Go.Proofs.YtbgadfaiehkanaaGreatDoor
open Go.RowKit
set_option linter.unusedVariables false

theorem ret_w32 {a b : Int} (h : a = b) : Ending.returned (.int .u32 a) = .returned (.int .u32 b) := by rw [h]

theorem w_lt (x : UInt32) : x.toNat < 4294967296 := x.toNat_lt

theorem w_xor (a b : UInt32) : bits BinOp.xor .u32 (a.toNat : Int) (b.toNat : Int) = ((a ^^^ b).toNat : Int) := by
  rw [u32_xor_nat _ _ (w_lt a) (w_lt b), UInt32.toNat_xor]

theorem w_and (a b : UInt32) : bits BinOp.and .u32 (a.toNat : Int) (b.toNat : Int) = ((a &&& b).toNat : Int) := by
  rw [u32_and_nat _ _ (w_lt a) (w_lt b), UInt32.toNat_and]

theorem w_or (a b : UInt32) : bits BinOp.or .u32 (a.toNat : Int) (b.toNat : Int) = ((a ||| b).toNat : Int) := by
  rw [u32_or_nat _ _ (w_lt a) (w_lt b), UInt32.toNat_or]

theorem w_add (a b : UInt32) : ((a.toNat : Int) + (b.toNat : Int)) % 4294967296 = ((a + b).toNat : Int) := by
  rw [UInt32.toNat_add]
  omega

theorem w_wrap (a b : UInt32) : IntKind.u32.wrap ((a.toNat : Int) + (b.toNat : Int)) = ((a + b).toNat : Int) := w_add a b

theorem w_not (a : UInt32) : bits BinOp.xor .u32 IntKind.u32.max (a.toNat : Int) = ((~~~ a).toNat : Int) := by
  have h : (4294967295 ^^^ a.toNat) = (~~~ a).toNat := by
    have e := congrArg BitVec.toNat (BitVec.allOnes_xor (x := a.toBitVec))
    rw [BitVec.toNat_xor] at e
    exact e
  rw [show IntKind.u32.max = ((4294967295 : Nat) : Int) from rfl, u32_xor_nat _ _ (by decide) (w_lt a), h]

theorem ror_toNat (x : UInt32) (n : Nat) : (M.ror x n).toNat = (x.toNat / 2 ^ n ||| x.toNat * 2 ^ (32 - n) % 4294967296) := by
  have h := w_lt x
  have e1 : x.toNat / 2 ^ n < 2 ^ 32 := Nat.lt_of_le_of_lt (Nat.div_le_self _ _) h
  have e2 : x.toNat * 2 ^ (32 - n) % 4294967296 < 2 ^ 32 := Nat.mod_lt _ (by decide)
  have e3 : (x.toNat / 2 ^ n ||| x.toNat * 2 ^ (32 - n) % 4294967296) < 4294967296 := Nat.or_lt_two_pow e1 e2
  rw [M.ror, UInt32.toNat_ofNat', Nat.mod_eq_of_lt e3]

theorem ror_spelled (x : UInt32) (n : Nat) (h1 : 1 ≤ n) (h2 : n ≤ 31) :
    bits BinOp.or IntKind.u32 ((x.toNat : Int) / 2 ^ n) ((x.toNat : Int) * 2 ^ (32 - n) % 4294967296) = ((M.ror x n).toNat : Int) := by
  have h := w_lt x
  have e1 : x.toNat / 2 ^ n < 4294967296 := Nat.lt_of_le_of_lt (Nat.div_le_self _ _) h
  have e2 : x.toNat * 2 ^ (32 - n) % 4294967296 < 4294967296 := Nat.mod_lt _ (by decide)
  have c1 : (x.toNat : Int) / 2 ^ n = ((x.toNat / 2 ^ n : Nat) : Int) := by simp
  have c2 : (x.toNat : Int) * 2 ^ (32 - n) % 4294967296 = ((x.toNat * 2 ^ (32 - n) % 4294967296 : Nat) : Int) := by simp
  rw [c1, c2, u32_or_nat _ _ e1 e2, ror_toNat x n]

theorem ror_spelled2 (x : UInt32) (m : Nat) (h1 : 1 ≤ m) (h2 : m ≤ 31) :
    bits BinOp.or IntKind.u32 ((x.toNat : Int) * 2 ^ m % 4294967296) ((x.toNat : Int) / 2 ^ (32 - m)) = ((M.ror x (32 - m)).toNat : Int) := by
  have h := w_lt x
  have e1 : x.toNat / 2 ^ (32 - m) < 4294967296 := Nat.lt_of_le_of_lt (Nat.div_le_self _ _) h
  have e2 : x.toNat * 2 ^ m % 4294967296 < 4294967296 := Nat.mod_lt _ (by decide)
  have c1 : (x.toNat : Int) / 2 ^ (32 - m) = ((x.toNat / 2 ^ (32 - m) : Nat) : Int) := by simp
  have c2 : (x.toNat : Int) * 2 ^ m % 4294967296 = ((x.toNat * 2 ^ m % 4294967296 : Nat) : Int) := by simp
  rw [c1, c2, u32_or_nat _ _ e2 e1, ror_toNat x (32 - m), Nat.or_comm, show 32 - (32 - m) = m by omega]

theorem neg_and (m : Nat) (h1 : 1 ≤ m) (h2 : m ≤ 31) : bits BinOp.and IntKind.u64 (IntKind.u64.wrap (-((32 - m : Nat) : Int))) 31 = (m : Int) := by
  have e : IntKind.u64.wrap (-((32 - m : Nat) : Int)) = ((18446744073709551584 + m : Nat) : Int) := by
    rw [show IntKind.u64.wrap (-((32 - m : Nat) : Int)) = (-((32 - m : Nat) : Int)) % 18446744073709551616 from rfl]
    omega
  rw [e, show (31 : Int) = ((31 : Nat) : Int) from rfl, u64_and_nat _ _ (by omega) (by omega), show (31 : Nat) = 2 ^ 5 - 1 from rfl, Nat.and_two_pow_sub_one_eq_mod]
  congr 1
  omega

end Go.Proofs.YtbgadfaiehkanaaGreatDoor
