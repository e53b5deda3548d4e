/-
  CONTRACT OF orlopref15.items, if value holds: lists. Conditions: rows of up to 2^40 bytes.
-/
import Derived.Test.YtbgadfaiehkanaaGreatDoorRefJsN
import Derived.Test.YtbgadfaiehkanaaGreatDoorPj16
namespace Go.Proofs.YtbgadfaiehkanaaGreatDoor
open Go.RowKit
set_option linter.unusedVariables false
set_option maxRecDepth 100000

/-- value holds, where values may be d deep. -/
def ValueOk (d q : Nat) : Prop := ∀ (bv : Value) (b : List UInt8) (w : World) (i : Nat), IsB w bv b → i ≤ b.length → b.length ≤ 1099511627776 →
  Calls Tryz.prog 39 #[bv, .int .i64 (i : Int), .int .i64 (q : Int)] w (ValEnds w b i d (M.val d (b.drop i)))

theorem M.items_err {val : List UInt8 → M.Res} {f : Nat} {s : List UInt8} {l : List M.GV} {m : List (List UInt8 × M.GV)} {e : Int} (h : val s = .err e) : M.items val true (f + 1) s l m = .err e := by
  unfold M.items
  simp only [if_true]
  rw [h]
theorem M.items_ok {val : List UInt8 → M.Res} {f : Nat} {s r : List UInt8} {l : List M.GV} {m : List (List UInt8 × M.GV)} {x : M.GV} (h : val s = .ok x r) : M.items val true (f + 1) s l m = (match M.blk r with
    | [] => .err 8
    | c :: r2 => if c = 93 then .ok (M.vList (l ++ [x])) r2 else if c = 44 then M.items val true f r2 (l ++ [x]) m else .err 8) := by
  rw [M.items]
  simp only [if_true]
  rw [h]
  dsimp only
  cases M.blk r <;> rfl
theorem M.top_nil {d : Nat} {r : List UInt8} (h : M.blk r = []) : M.itemsTop d 91 r = M.items (M.val d) true (r.length + 1) [] [] [] := by
  unfold M.itemsTop
  rw [h]
  rfl
theorem M.top_shut {d : Nat} {r r2 : List UInt8} (h : M.blk r = 93 :: r2) : M.itemsTop d 91 r = .ok (M.vList []) r2 := by
  unfold M.itemsTop
  rw [h]
  rfl
theorem M.top_more {d : Nat} {e : UInt8} {r r2 : List UInt8} (h : M.blk r = e :: r2) (he : e ≠ 93) : M.itemsTop d 91 r = M.items (M.val d) true (r.length + 1) (e :: r2) [] [] := by
  unfold M.itemsTop
  rw [h]
  dsimp only
  rw [if_neg (by simpa using he)]
  rfl

/-- The memory of a list that is read: the result's cell, the list's, its elements. -/
structure ListMem (w0 : World) (d g6 g10 : Nat) (wr : World) (L : List M.GV) (lss : List (List Value)) (lv : Value) (Q : Nat → Prop) : Prop where
  k6 : Blk wr g6 27 [.int .i64 0, .bool false, .int .i64 0, .string ⟨#[]⟩, .slice none 0 0, .slice none 0 0]
  k10 : Blk wr g10 27 [.int .i64 4, .bool false, .int .i64 0, .string ⟨#[]⟩, lv, .slice none 0 0]
  row : wr.ownsRow (g10 + 1) 27 6 lv L.length lss.flatten
  ln : lss.length = L.length
  each : ∀ i, i < L.length → IsV Q wr d (lss.getD i []) (L.getD i M.vNull)
  q : ∀ x, Q x → g10 < x ∧ x < wr.heap.size ∧ lv.ownBlock ≠ some x
  bel : Below w0.heap.size w0 wr
  lt : g10 < wr.heap.size
  lg : g6 < g10
  l0 : w0.heap.size ≤ g6

theorem getD_snoc_ge {α : Type} (l : List α) (x z : α) (i : Nat) (h : i = l.length) : (l ++ [x]).getD i z = x := by rw [h]; exact getD_snoc_last l x z

theorem ListMem.add {w0 wz w8 W10 w11 : World} {d g6 g10 : Nat} {L : List M.GV} {lss : List (List Value)} {lv v5 : Value} {Q : Nat → Prop} (S : ListMem w0 d g6 g10 wz L lss lv Q) {cs : List Value} {gx : M.GV} (k8 : Below wz.heap.size wz w8) (iv : IsV (fun x => wz.heap.size ≤ x) w8 d cs gx) (kk : Below w8.heap.size w8 W10)
    (o9 : w11.ownsRow (g10 + 1) 27 6 v5 (L.length + 1) (lss.flatten ++ cs)) (g9 : W10.grownBy w11 lv.ownBlock) (a9 : v5.ownBlock = lv.ownBlock ∨ v5.ownBlock = some W10.heap.size) :
    ListMem w0 d g6 g10 (w11.setCell ⟨g10, 4, none⟩ v5) (L ++ [gx]) (lss ++ [cs]) v5 (fun x => Q x ∨ (wz.heap.size ≤ x ∧ x < w8.heap.size)) := by
  have hlt := S.lt
  have hlg := S.lg
  have hl0 := S.l0
  have s8 := k8.size
  have s10 := kk.size
  have s11 := g9.size
  have hown : ∀ x, lv.ownBlock = some x → g10 < x ∧ x < wz.heap.size := fun x hx => by have := S.row.lt x hx; omega
  have c8 : Chg (fun _ => False) wz w8 := Chg.of_below k8
  have c10 : Chg (fun x => x = g10 ∨ lv.ownBlock = some x) w8 (w11.setCell ⟨g10, 4, none⟩ v5) := by
    have h1 : Chg (fun x => x = g10 ∨ lv.ownBlock = some x) w8 W10 := Chg.of_below kk
    have h2 : Chg (fun x => x = g10 ∨ lv.ownBlock = some x) W10 w11 := Chg.of_grown g9 fun k hk => .inr hk
    exact (h1.trans h2 fun _ _ h => h).setCell _ _ (.inl (.inl rfl))
  have hz : Chg (fun x => x = g10 ∨ lv.ownBlock = some x) wz (w11.setCell ⟨g10, 4, none⟩ v5) := (c8.mono fun _ _ h => h.elim).trans c10 fun _ _ h => h
  refine ⟨S.k6.chg hz ?_, ?_, ?_, ?_, ?_, ?_, ?_, ?_, hlg, hl0⟩
  · rintro (h | h)
    · omega
    · have := hown _ h; omega
  · have h1 : Blk w11 g10 27 [.int .i64 4, .bool false, .int .i64 0, .string ⟨#[]⟩, lv, .slice none 0 0] :=
      ((S.k10.below k8 hlt).below kk (by omega)).grown g9 fun e => by have := hown _ e.symm; omega
    exact h1.set_ 4 v5
  · rw [List.length_append, List.flatten_append, List.length_singleton, List.flatten_cons, List.flatten_nil, List.append_nil]
    refine own_chg (F := fun x => x = g10) o9 ((Chg.refl _ _).cell 4 v5) fun x hx e => ?_
    have := o9.lt x hx
    omega
  · rw [List.length_append, List.length_append, S.ln]
    rfl
  · intro i hi
    rw [List.length_append, List.length_singleton] at hi
    by_cases h : i < L.length
    · rw [getD_snoc_lt _ _ _ _ (by rw [S.ln]; exact h), getD_snoc_lt _ _ _ _ h]
      refine IsV.mono (fun x _ hx => .inl hx) d (IsV.chg hz ?_ d (S.each i h))
      intro x hx hf
      have h3 := S.q x hx
      rcases hf with rfl | hf
      · omega
      · exact h3.2.2 hf
    · have e : i = L.length := by omega
      rw [getD_snoc_ge _ _ _ _ (by rw [S.ln]; exact e), getD_snoc_ge _ _ _ _ e]
      refine IsV.chg c10 ?_ d (IsV.mono (R := fun x => Q x ∨ (wz.heap.size ≤ x ∧ x < w8.heap.size)) (fun x h1 h2 => .inr ⟨h2, h1⟩) d iv)
      rintro x (hx | hx) hf
      · have h3 := S.q x hx
        rcases hf with rfl | hf
        · omega
        · exact h3.2.2 hf
      · rcases hf with rfl | hf
        · omega
        · have := hown _ hf; omega
  · rw [World.size_setCell]
    rintro x (hx | hx)
    · have h3 := S.q x hx
      refine ⟨h3.1, by omega, fun e => ?_⟩
      rcases a9 with a | a
      · exact h3.2.2 (a ▸ e)
      · rw [a] at e
        injection e with e
        omega
    · refine ⟨by omega, by omega, fun e => ?_⟩
      rcases a9 with a | a
      · have := hown x (a ▸ e); omega
      · rw [a] at e
        injection e with e
        omega
  · exact S.bel.trans (hz.below (by have := S.bel.size; exact this) (by
      rintro x (rfl | hx)
      · omega
      · have := hown x hx; omega))
  · rw [World.size_setCell]
    omega

/-- What was read, as a value. -/
theorem ListMem.val {w0 wr : World} {d g6 g10 : Nat} {L : List M.GV} {lss : List (List Value)} {lv : Value} {Q : Nat → Prop} (S : ListMem w0 d g6 g10 wr L lss lv Q) : IsV (fun x => g10 < x) wr (d + 1) (vcs 4 false 0 [] lv (.slice none 0 0)) (M.vList L) := by
  have hlg := S.lg
  have hl0 := S.l0
  refine ⟨lv, .slice none 0 0, lss, [], rfl, S.ln, RowAt.own S.row fun x hx => ?_, fun i hi => ?_, rfl, RowAt.nil _ _ _, fun i hi => absurd hi (Nat.not_lt_zero i)⟩
  · have := S.row.lt x hx
    show g10 < x
    omega
  · exact IsV.mono (fun x _ hx => by have := S.q x hx; show g10 < x; omega) d (S.each i hi)

theorem rowV_shape {w : World} {B n size : Nat} {e : TypeId} {v : Value} {xs : List Value} (h : w.ownsRow B e size v n xs) : ∃ a m c, v = .slice a m c := by
  rcases h.2 with ⟨rfl, _⟩ | ⟨g, cap, cur, rfl, _⟩ <;> exact ⟨_, _, _, rfl⟩

theorem vcs_arr (k : Int) (b : Bool) (n : Int) (t : List UInt8) (lv mv : Value) : (vcs k b n t lv mv).toArray = #[.int .i64 k, .bool b, .int .i64 n, .string ⟨t.toArray⟩, lv, mv] := rfl

theorem IsV.shape {S : Nat → Prop} {w : World} {d : Nat} {k : Int} {b : Bool} {n : Int} {t : List UInt8} {lv mv : Value} {g : M.GV} (h : IsV S w d (vcs k b n t lv mv) g) : (∃ a n c, lv = .slice a n c) ∧ ∃ a n c, mv = .slice a n c := by
  cases d with
  | zero => exact h.elim
  | succ d =>
    obtain ⟨l2, m2, ls, ms, e, _, ⟨a1, c1, r1, _⟩, _, _, ⟨a2, c2, r2, _⟩, _⟩ := h
    simp only [vcs, List.cons.injEq, and_true] at e
    obtain ⟨_, _, _, _, e5, e6⟩ := e
    exact ⟨⟨a1, _, c1, e5.trans r1⟩, ⟨a2, _, c2, e6.trans r2⟩⟩

theorem rowsV : RowTy 24 27 6 88 zeroV := ⟨Tryz.underlying24, Tryz.infoV, rfl, by decide⟩


end Go.Proofs.YtbgadfaiehkanaaGreatDoor
