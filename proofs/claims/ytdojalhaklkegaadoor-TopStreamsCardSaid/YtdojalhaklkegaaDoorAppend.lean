/-
  'append' OF BYTES ONTO A ROW OF THE CALL'S OWN, AS LAWS FOR THE WALK: whatever slice is appended, nil and empty ones too; and what becomes of the slice that was appended to. Conditions: the sum of the lengths is at most 2^47.
-/
import Derived.Test.YtdojalhaklkegaaDoorPtN
import Derived.Laws.AppendOwnNone
import Derived.ArgAppend
namespace Go.Proofs.YtdojalhaklkegaaDoor
open Go.RowKit

theorem Own.front {w : World} {B g n cap : Nat} {bs ys : List UInt8} (h : Own w B (.slice (some ⟨g, 0, none⟩) n cap) (bs ++ ys)) : Own w B (.slice (some ⟨g, 0, none⟩) bs.length cap) bs := by
  rcases h.2 with ⟨h', _⟩ | ⟨g', cap', cur, h', hb, hg, hn, hm, hs, ht⟩
  · simp at h'
  · simp only [Value.slice.injEq, Option.some.injEq, Addr.mk.injEq, and_true] at h'
    obtain ⟨rfl, -, rfl⟩ := h'
    rw [List.length_append] at hn ht
    refine ⟨by rw [byteCells_length]; omega, .inr ⟨g, cap, cur, rfl, hb, hg, by omega, hm, hs, ?_⟩⟩
    have e := congrArg (List.take (bs.length * 1)) ht
    rw [List.take_take, byteCells_append, Nat.min_eq_left (by omega)] at e
    rw [e, List.take_append_of_le_length (by rw [byteCells_length]; omega), List.take_of_length_le (by rw [byteCells_length]; omega)]

theorem Own.address {w : World} {B : Nat} {v : Value} {bs : List UInt8} (h : Own w B v bs) (hne : ¬ v = .slice none 0 0) : ∃ g cap, v = .slice (some ⟨g, 0, none⟩) bs.length cap ∧ B ≤ g := by
  rcases h.2 with ⟨e, _⟩ | ⟨g, cap, cur, rfl, hb, _⟩
  · exact absurd e hne
  · exact ⟨g, cap, rfl, hb⟩

theorem Own.nil0 {w : World} {B : Nat} {v : Value} {bs : List UInt8} (h : Own w B v bs) : ∀ n c, v = .slice none n c → c = 0 := by
  intro n c e
  rcases h.2 with ⟨e', _⟩ | ⟨g, cap, cur, e', _⟩
  · rw [e] at e'
    injection e'
  · rw [e] at e'
    injection e' with e1
    cases e1

theorem own_empty (w : World) : Own (w.alloc (.cells #[] 5)) w.heap.size (.slice (some ⟨w.heap.size, 0, none⟩) 0 0) [] :=
  World.ownsRow_made w #[] 0 (Nat.le_refl _) (Nat.zero_le _) rfl

theorem isB_one (w : World) (t : TypeId) (c : UInt8) (x : Int) (h : x = c.toNat) : IsB (w.alloc (.cells #[.int .u8 x] t)) (.slice (some ⟨w.heap.size, 0, none⟩) 1 1) [c] := by
  subst h
  refine ⟨_, 1, rfl, Nat.le_refl _, by unfold maxLen; omega, .inr ⟨w.heap.size, 0, rfl, fun i hi => ?_⟩⟩
  match i, hi with
  | 0, _ => simp

theorem IsB.cells {w : World} {ao : Option Addr} {n cap : Nat} {ys : List UInt8} (h : IsB w (.slice ao n cap) ys) :
    n = ys.length ∧ (ao = none → ys = []) ∧ ∀ ad, ao = some ad → ∀ (j : Nat) (u : Value), (Lib.byteCells ys)[j]? = some u → w.cell? (ad.add j) = some u := by
  obtain ⟨ao', cap', e, _, _, h⟩ := h
  injection e with e1 e2 e3
  subst e1 e2 e3
  refine ⟨rfl, fun hn => ?_, fun ad had j u hj => ?_⟩
  · rcases h with h | ⟨b, off, h, _⟩
    · exact h
    · rw [hn] at h; cases h
  · have hlt : j < ys.length := by
      have := (List.getElem?_eq_some_iff.1 hj).1
      rwa [byteCells_length] at this
    rcases h with h | ⟨b, off, h, hc⟩
    · rw [h] at hlt; simp at hlt
    · rw [h] at had
      cases had
      rw [Addr.add_lit, hc j hlt]
      rw [byteCells_getElem? ys j hlt] at hj
      exact hj

theorem wpList_app (w : World) {ops : Array Oper} {rest : List Oper} {o : Oper} {a : Act} {Q : Exit → Act → World → Prop} (hg : o.guard = none) (s x : Operand)
    (ho : o.op = .call { callee := .builtin .append, args := #[s, x], argTypes := #[24, 24] })
    (B : Nat) (v : Value) (bs : List UInt8) (hs : a.eval s = v) (hown : Own w B v bs) (sv : Value) (ys : List UInt8) (hx : a.eval x = sv) (hi : IsB w sv ys) (hnil : ∀ n c, sv = .slice none n c → c = 0)
    (hlen : bs.length + ys.length ≤ 140737488355328) (hB : B ≤ w.heap.size)
    (h : ∀ v' w', Own w' B v' (bs ++ ys) → Below B w w' → (v' = .slice none 0 0 → v = .slice none 0 0) → wpList Tryd.prog ops Q rest (a.put o.dst v') w') : wpList Tryd.prog ops Q (o :: rest) a w := by
  obtain ⟨i0, h0, hz0, hz1, hz2⟩ := info_parts Tryd.info5
  obtain ⟨ao, cap, rfl⟩ : ∃ ao cap, sv = .slice ao ys.length cap := by
    obtain ⟨ao, cap, e, _⟩ := hi
    exact ⟨ao, cap, e⟩
  obtain ⟨_, hn, hc⟩ := hi.cells
  cases ao with
  | none =>
    obtain rfl := hn rfl
    obtain rfl := hnil _ _ rfl
    exact wpList_append_own_none hg s x _ ho B 5 i0 1 Tryd.underlying24 h0 v bs.length _ hs hown.row hx (h _ _ (by rw [List.append_nil]; exact hown) (Below.refl _ _) id)
  | some ad =>
    refine wpList_append_own w hg s x _ ho B 5 i0 (.int .u8 0) 1 1 Tryd.underlying24 h0 hz0 hz1 hz2 rfl (by decide) v bs.length _ hs hown.row ad ys.length cap (Lib.byteCells ys) hx (by rw [byteCells_length, Nat.mul_one]) (hc ad rfl) (byteCells_oneCell _) (by unfold maxLen; omega) (by omega) hB ?_
    intro v' w' hown' hgrow hz
    refine h v' w' ?_ ((Below.refl B w).grown hgrow hB fun k hk => (hown.row.lt k hk).1) (fun e => (hz.1 e).1)
    rw [Own, List.length_append, byteCells_append]
    exact hown'

theorem wpList_app_keep (w : World) {ops : Array Oper} {rest : List Oper} {o : Oper} {a : Act} {Q : Exit → Act → World → Prop} (hg : o.guard = none) (s x : Operand)
    (ho : o.op = .call { callee := .builtin .append, args := #[s, x], argTypes := #[24, 24] })
    (B g cap : Nat) (bs : List UInt8) (hs : a.eval s = .slice (some ⟨g, 0, none⟩) bs.length cap) (hown : Own w B (.slice (some ⟨g, 0, none⟩) bs.length cap) bs) (ad : Addr) (c : Nat) (ys : List UInt8) (hx : a.eval x = .slice (some ad) ys.length c) (hi : IsB w (.slice (some ad) ys.length c) ys)
    (hlen : bs.length + ys.length ≤ 140737488355328) (hB : B ≤ w.heap.size)
    (h : ∀ v' w', Own w' B v' (bs ++ ys) → Own w' B (.slice (some ⟨g, 0, none⟩) bs.length cap) bs → Below B w w' → wpList Tryd.prog ops Q rest (a.put o.dst v') w') : wpList Tryd.prog ops Q (o :: rest) a w := by
  obtain ⟨i0, h0, hz0, hz1, hz2⟩ := info_parts Tryd.info5
  obtain ⟨_, hn, hc⟩ := hi.cells
  have hgB := (hown.row.lt g rfl).1
  by_cases hcap : bs.length + ys.length ≤ cap
  · refine wpList_append_fits w hg s x _ ho B 5 i0 1 Tryd.underlying24 h0 hz1 g bs.length cap _ hs hown.row ad ys.length c (Lib.byteCells ys) hx (by rw [byteCells_length, Nat.mul_one]) (hc ad rfl) (byteCells_oneCell _) hcap ?_
    intro w' hown' hgrow
    have ho' : Own w' B (.slice (some ⟨g, 0, none⟩) (bs.length + ys.length) cap) (bs ++ ys) := by
      rw [Own, List.length_append, byteCells_append]
      exact hown'
    exact h _ w' ho' ho'.front ((Below.refl B w).grown hgrow hB fun k hk => by cases hk; exact hgB)
  · refine wpList_append_grows w hg s x _ ho 5 i0 (.int .u8 0) 1 1 Tryd.underlying24 h0 hz0 hz1 hz2 rfl (by decide) (some ⟨g, 0, none⟩) bs.length cap (Lib.byteCells bs) hs (fun hh => by cases hh) (by rw [byteCells_length, Nat.mul_one]) (fun b hb => by cases hb; exact hown.cells) ad ys.length c (Lib.byteCells ys) hx (by rw [byteCells_length, Nat.mul_one]) (hc ad rfl) (byteCells_oneCell _) (by omega) (by unfold maxLen; omega) (by omega) ?_
    intro v' w' hown' hgrow
    have ho' : Own w' w.heap.size v' (bs ++ ys) := by
      rw [Own, List.length_append, byteCells_append]
      exact hown'
    exact h _ w' (ho'.mono hB) (hown.row.kept hgrow (.inr (by simp [Value.ownBlock]))) ((Below.refl B w).grown hgrow hB fun k hk => by cases hk)

/-- A guarded operation that is wanted is carried out as an unguarded one. -/
theorem wpList_unguard {P : Program} {ops : Array Oper} {rest : List Oper} {o : Oper} {a : Act} {w : World} {Q : Exit → Act → World → Prop} (hw : Region.wanted o (yielded ops a.tmps) = true)
    (h : wpList P ops Q ({ o with guard := none } :: rest) a w) : wpList P ops Q (o :: rest) a w := by
  unfold wpList at h ⊢
  rw [if_pos hw]
  rw [if_pos (by simp [Region.wanted])] at h
  exact h

/-- 'make([]byte, n, m)'. -/
theorem wpList_make_cap (w : World) {ops : Array Oper} {rest : List Oper} {o : Oper} {a : Act} {Q : Exit → Act → World → Prop} (hg : o.guard = none) (l c : Operand) (ho : o.op = .makeSlice 24 l c)
    (kl kc : IntKind) (L C : Int) (n m : Nat) (hl : a.eval l = .int kl L) (hc : a.eval c = .int kc C) (hL : L = (n : Int)) (hC : C = (m : Int)) (hnm : n ≤ m) (hm : m ≤ 140737488355328)
    (h : ∀ w', Own w' w.heap.size (.slice (some ⟨w.heap.size, 0, none⟩) n m) (List.replicate n 0) → Below w.heap.size w w' → wpList Tryd.prog ops Q rest (a.put o.dst (.slice (some ⟨w.heap.size, 0, none⟩) n m)) w') :
    wpList Tryd.prog ops Q (o :: rest) a w := by
  obtain ⟨i0, h0, hz0, hz1, hz2⟩ := info_parts Tryd.info5
  refine wpList_plain hg fun K hK' => ?_
  subst hL hC
  have hb : (i0.bytes : Int) * (m : Int) ≤ 281474976710656 := by rw [hz2]; omega
  have hrun := run_make (P := Tryd.prog) w 24 5 i0 (.int .u8 0) Tryd.underlying24 h0 hz0 kl kc n m (by omega) (by omega) hb (by omega)
  simp only [Int.toNat_natCast] at hrun
  unfold Oper.wp
  simp [execOp, ho, hl, hc, hrun, Result.andThen]
  refine hK' _ _ (h _ ?_ ((Below.refl _ _).alloc (Nat.le_refl _) _))
  have e : (madeCells (Value.int IntKind.u8 0).cells (m * i0.size)).toList = List.replicate m (.int .u8 0) := by
    rw [hz1, Nat.mul_one]
    exact toList_madeCells_one _ _
  have hsz : (madeCells (Value.int IntKind.u8 0).cells (m * i0.size)).size = m := by rw [← Array.length_toList, e, List.length_replicate]
  refine ⟨by rw [byteCells_length, Nat.mul_one], .inr ⟨w.heap.size, m, _, by rw [List.length_replicate], Nat.le_refl _, heap_alloc_new w _, by rw [List.length_replicate]; exact hnm, by unfold maxLen; omega, by rw [hsz, Nat.mul_one], ?_⟩⟩
  rw [e, List.length_replicate, Nat.mul_one, List.take_replicate, Nat.min_eq_left hnm]
  simp [Lib.byteCells]

end Go.Proofs.YtdojalhaklkegaaDoor
