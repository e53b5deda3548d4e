/-
  MAPS AS THEY ARE READ: the memory, and items' laws. Conditions: none.
-/
import Derived.Test.YtbgadfaiehkanaaGreatDoorRefJsP
namespace Go.Proofs.YtbgadfaiehkanaaGreatDoor
open Go.RowKit
set_option linter.unusedVariables false
set_option maxRecDepth 100000

/-- The memory of a map that is read: the result's cell, the map's, its members. -/
structure MapMem (w0 : World) (d g6 g10 : Nat) (wr : World) (L : List (List UInt8 × M.GV)) (lss : List (List Value)) (lv : Value) (Q : Nat → Prop) : Prop where
  k6 : Blk wr g6 27 [.int .i64 0, .bool false, .int .i64 0, .string ⟨#[]⟩, .slice none 0 0, .slice none 0 0]
  k10 : Blk wr g10 27 [.int .i64 5, .bool false, .int .i64 0, .string ⟨#[]⟩, .slice none 0 0, lv]
  row : wr.ownsRow (g10 + 1) 55 7 lv L.length lss.flatten
  ln : lss.length = L.length
  each : ∀ i, i < L.length → ∃ c, lss.getD i [] = .string ⟨(L.getD i ([], M.vNull)).1.toArray⟩ :: c ∧ IsV Q wr d c (L.getD i ([], M.vNull)).2
  q : ∀ x, Q x → g10 < x ∧ x < wr.heap.size ∧ lv.ownBlock ≠ some x
  bel : Below w0.heap.size w0 wr
  lt : g10 < wr.heap.size
  lg : g6 < g10
  l0 : w0.heap.size ≤ g6

theorem MapMem.add {w0 wz w8 W10 w11 : World} {d g6 g10 : Nat} {L : List (List UInt8 × M.GV)} {lss : List (List Value)} {lv v5 : Value} {Q : Nat → Prop} (S : MapMem w0 d g6 g10 wz L lss lv Q) {cs : List Value} {nm : List UInt8} {gx : M.GV} (k8 : Below wz.heap.size wz w8) (iv : IsV (fun x => wz.heap.size ≤ x) w8 d cs gx) (kk : Below w8.heap.size w8 W10)
    (o9 : w11.ownsRow (g10 + 1) 55 7 v5 (L.length + 1) (lss.flatten ++ (.string ⟨nm.toArray⟩ :: cs))) (g9 : W10.grownBy w11 lv.ownBlock) (a9 : v5.ownBlock = lv.ownBlock ∨ v5.ownBlock = some W10.heap.size) :
    MapMem w0 d g6 g10 (w11.setCell ⟨g10, 5, none⟩ v5) (L ++ [(nm, gx)]) (lss ++ [.string ⟨nm.toArray⟩ :: cs]) v5 (fun x => Q x ∨ (wz.heap.size ≤ x ∧ x < w8.heap.size)) := by
  have hlt := S.lt
  have hlg := S.lg
  have hl0 := S.l0
  have s8 := k8.size
  have s10 := kk.size
  have s11 := g9.size
  have hown : ∀ x, lv.ownBlock = some x → g10 < x ∧ x < wz.heap.size := fun x hx => by have := S.row.lt x hx; omega
  have c8 : Chg (fun _ => False) wz w8 := Chg.of_below k8
  have c10 : Chg (fun x => x = g10 ∨ lv.ownBlock = some x) w8 (w11.setCell ⟨g10, 5, none⟩ v5) := by
    have h1 : Chg (fun x => x = g10 ∨ lv.ownBlock = some x) w8 W10 := Chg.of_below kk
    have h2 : Chg (fun x => x = g10 ∨ lv.ownBlock = some x) W10 w11 := Chg.of_grown g9 fun k hk => .inr hk
    exact (h1.trans h2 fun _ _ h => h).setCell _ _ (.inl (.inl rfl))
  have hz : Chg (fun x => x = g10 ∨ lv.ownBlock = some x) wz (w11.setCell ⟨g10, 5, none⟩ v5) := (c8.mono fun _ _ h => h.elim).trans c10 fun _ _ h => h
  refine ⟨S.k6.chg hz ?_, ?_, ?_, ?_, ?_, ?_, ?_, ?_, hlg, hl0⟩
  · rintro (h | h)
    · omega
    · have := hown _ h; omega
  · have h1 : Blk w11 g10 27 [.int .i64 5, .bool false, .int .i64 0, .string ⟨#[]⟩, .slice none 0 0, lv] :=
      ((S.k10.below k8 hlt).below kk (by omega)).grown g9 fun e => by have := hown _ e.symm; omega
    exact h1.set_ 5 v5
  · rw [List.length_append, List.flatten_append, List.length_singleton, List.flatten_cons, List.flatten_nil, List.append_nil]
    refine own_chg (F := fun x => x = g10) o9 ((Chg.refl _ _).cell 5 v5) fun x hx e => ?_
    have := o9.lt x hx
    omega
  · rw [List.length_append, List.length_append, S.ln]
    rfl
  · intro i hi
    rw [List.length_append, List.length_singleton] at hi
    by_cases h : i < L.length
    · rw [getD_snoc_lt _ _ _ _ (by rw [S.ln]; exact h), getD_snoc_lt _ _ _ _ h]
      obtain ⟨c, ec, vc⟩ := S.each i h
      refine ⟨c, ec, IsV.mono (fun x _ hx => .inl hx) d (IsV.chg hz ?_ d vc)⟩
      intro x hx hf
      have h3 := S.q x hx
      rcases hf with rfl | hf
      · omega
      · exact h3.2.2 hf
    · have e : i = L.length := by omega
      rw [getD_snoc_ge _ _ _ _ (by rw [S.ln]; exact e), getD_snoc_ge _ _ _ _ e]
      refine ⟨cs, rfl, IsV.chg c10 ?_ d (IsV.mono (R := fun x => Q x ∨ (wz.heap.size ≤ x ∧ x < w8.heap.size)) (fun x h1 h2 => .inr ⟨h2, h1⟩) d iv)⟩
      rintro x (hx | hx) hf
      · have h3 := S.q x hx
        rcases hf with rfl | hf
        · omega
        · exact h3.2.2 hf
      · rcases hf with rfl | hf
        · omega
        · have := hown _ hf; omega
  · rw [World.size_setCell]
    rintro x (hx | hx)
    · have h3 := S.q x hx
      refine ⟨h3.1, by omega, fun e => ?_⟩
      rcases a9 with a | a
      · exact h3.2.2 (a ▸ e)
      · rw [a] at e
        injection e with e
        omega
    · refine ⟨by omega, by omega, fun e => ?_⟩
      rcases a9 with a | a
      · have := hown x (a ▸ e); omega
      · rw [a] at e
        injection e with e
        omega
  · exact S.bel.trans (hz.below (by have := S.bel.size; exact this) (by
      rintro x (rfl | hx)
      · omega
      · have := hown x hx; omega))
  · rw [World.size_setCell]
    omega

/-- What was read, as a value. -/
theorem MapMem.val {w0 wr : World} {d g6 g10 : Nat} {L : List (List UInt8 × M.GV)} {lss : List (List Value)} {lv : Value} {Q : Nat → Prop} (S : MapMem w0 d g6 g10 wr L lss lv Q) : IsV (fun x => g10 < x) wr (d + 1) (vcs 5 false 0 [] (.slice none 0 0) lv) (M.vMap L) := by
  have hlg := S.lg
  have hl0 := S.l0
  refine ⟨.slice none 0 0, lv, [], lss, rfl, rfl, RowAt.nil _ _ _, fun i hi => absurd hi (Nat.not_lt_zero i), S.ln, RowAt.own S.row fun x hx => ?_, fun i hi => ?_⟩
  · have := S.row.lt x hx
    show g10 < x
    omega
  · obtain ⟨c, ec, vc⟩ := S.each i hi
    exact ⟨c, ec, IsV.mono (fun x _ hx => by have := S.q x hx; show g10 < x; omega) d vc⟩

/-- A member's name, where it lies. -/
theorem MapMem.name {w0 wr : World} {d g6 g10 : Nat} {L : List (List UInt8 × M.GV)} {lss : List (List Value)} {lv : Value} {Q : Nat → Prop} (S : MapMem w0 d g6 g10 wr L lss lv Q) (i : Nat) (hi : i < L.length) :
    ∃ g cap, lv = .slice (some ⟨g, 0, none⟩) L.length cap ∧ wr.cell? ⟨g, i * 7, none⟩ = some (.string ⟨(L.getD i ([], M.vNull)).1.toArray⟩) := by
  have h7 : ∀ l ∈ lss, l.length = 7 := by
    intro l hl
    obtain ⟨j, hj, rfl⟩ := List.getElem_of_mem hl
    obtain ⟨c, ec, vc⟩ := S.each j (by rw [← S.ln]; exact hj)
    rw [List.getD_eq_getElem?_getD, List.getElem?_eq_getElem hj] at ec
    have ec2 : lss[j] = _ := ec
    rw [ec2, List.length_cons, vc.len]
  have hf := flat_at 7 lss h7 i 0 (by rw [S.ln]; exact hi) (by decide)
  obtain ⟨c, ec, vc⟩ := S.each i hi
  rw [ec] at hf
  have hr := S.row
  rcases hr.2 with ⟨rfl, hn⟩ | ⟨g, cap, cur, rfl, hb, hg, hn, hm, hs, ht⟩
  · omega
  · refine ⟨g, cap, rfl, ?_⟩
    rw [hr.cellAt (i * 7) (by have := Nat.mul_le_mul_right 7 (Nat.succ_le_of_lt hi); rw [Nat.succ_mul] at this; omega)]
    exact hf

theorem MapMem.below {w0 wr w' : World} {d g6 g10 : Nat} {L : List (List UInt8 × M.GV)} {lss : List (List Value)} {lv : Value} {Q : Nat → Prop} (S : MapMem w0 d g6 g10 wr L lss lv Q) (k : Below wr.heap.size wr w') : MapMem w0 d g6 g10 w' L lss lv Q where
  k6 := S.k6.below k (by have := S.lg; have := S.lt; omega)
  k10 := S.k10.below k S.lt
  row := own_chg (F := fun _ => False) S.row (Chg.of_below k) (fun _ _ h => h)
  ln := S.ln
  each := fun i hi => by
    obtain ⟨c, ec, vc⟩ := S.each i hi
    exact ⟨c, ec, vc.below k⟩
  q := fun x hx => by have h1 := S.q x hx; have h2 := k.size; exact ⟨h1.1, by omega, h1.2.2⟩
  bel := S.bel.trans (k.mono S.bel.size)
  lt := Nat.lt_of_lt_of_le S.lt k.size
  lg := S.lg
  l0 := S.l0

theorem str_eqJ (a b : List UInt8) : ((⟨a.toArray⟩ : ByteArray).toList == (⟨b.toArray⟩ : ByteArray).toList) = (a == b) := by
  rw [ByteArray.toList_eq, ByteArray.toList_eq]

theorem rowV_len {w : World} {B n size : Nat} {e : TypeId} {v : Value} {xs : List Value} (h : w.ownsRow B e size v n xs) : ∃ a c, v = .slice a n c := by
  rcases h.2 with ⟨rfl, hn⟩ | ⟨g, cap, cur, rfl, _⟩
  · exact ⟨_, _, by rw [hn]⟩
  · exact ⟨_, _, rfl⟩

theorem rowsMJ : RowTy 25 55 7 104 (.agg #[.string ⟨#[]⟩, .int .i64 0, .bool false, .int .i64 0, .string ⟨#[]⟩, .slice none 0 0, .slice none 0 0]) := ⟨Tryz.underlying25, by kernel_rfl, rfl, by decide⟩

/-- The head of a member: its name, and what is behind its colon; none: there is none, or the name is taken. -/
def M.hdM (m : List (List UInt8 × M.GV)) (s : List UInt8) : Option (List UInt8 × List UInt8) :=
  match M.text (M.blk s) with
  | none => none
  | some (nm, r) => if (m.any fun x => x.1 == nm) then none else match M.blk r with
    | [] => none
    | c :: r2 => if c = 58 then some (nm, r2) else none
/-- What items makes of a member's head. -/
def M.itemsH (val : List UInt8 → M.Res) (f : Nat) (m : List (List UInt8 × M.GV)) : Option (List UInt8 × List UInt8) → M.Res
  | none => .err 8
  | some (nm, s2) => match val s2 with
    | .err e => .err e
    | .ok x r => match M.blk r with
      | [] => .err 8
      | c :: r2 => if c = 125 then .ok (M.vMap (m ++ [(nm, x)])) r2 else if c = 44 then M.items val false f r2 [] (m ++ [(nm, x)]) else .err 8
theorem M.itemsH_err {val : List UInt8 → M.Res} {f : Nat} {m : List (List UInt8 × M.GV)} {nm s2 : List UInt8} {e : Int} (h : val s2 = .err e) : M.itemsH val f m (some (nm, s2)) = .err e := by
  unfold M.itemsH
  dsimp only
  rw [h]
theorem M.itemsH_ok {val : List UInt8 → M.Res} {f : Nat} {m : List (List UInt8 × M.GV)} {nm s2 r : List UInt8} {x : M.GV} (h : val s2 = .ok x r) : M.itemsH val f m (some (nm, s2)) = (match M.blk r with
    | [] => .err 8
    | c :: r2 => if c = 125 then .ok (M.vMap (m ++ [(nm, x)])) r2 else if c = 44 then M.items val false f r2 [] (m ++ [(nm, x)]) else .err 8) := by
  unfold M.itemsH
  dsimp only
  rw [h]
theorem M.itemsM_eq (val : List UInt8 → M.Res) (f : Nat) (s : List UInt8) (m : List (List UInt8 × M.GV)) : M.items val false (f + 1) s [] m = M.itemsH val f m (M.hdM m s) := by
  rw [M.items]
  simp only [Bool.false_eq_true, if_false]
  unfold M.hdM
  cases M.text (M.blk s) with
  | none => rfl
  | some p =>
    obtain ⟨nm, r⟩ := p
    dsimp only
    by_cases h : (m.any fun x => x.1 == nm) = true
    · rw [if_pos h, if_pos h]
      rfl
    · rw [if_neg h, if_neg h]
      cases M.blk r with
      | nil => rfl
      | cons c r2 =>
        dsimp only
        by_cases hc : c = 58
        · rw [if_pos hc]
          unfold M.itemsH
          dsimp only
          cases val r2 with
          | err e => rfl
          | ok x r => cases M.blk r <;> rfl
        · rw [if_neg hc]
          rfl

theorem M.hdM_taken {m : List (List UInt8 × M.GV)} {s nm r : List UInt8} (h : M.text (M.blk s) = some (nm, r)) (ha : (m.any fun x => x.1 == nm) = true) : M.hdM m s = none := by
  unfold M.hdM
  rw [h]
  dsimp only
  rw [if_pos ha]
theorem M.hdM_free {m : List (List UInt8 × M.GV)} {s nm r : List UInt8} (h : M.text (M.blk s) = some (nm, r)) (ha : (m.any fun x => x.1 == nm) = false) : M.hdM m s = (match M.blk r with
    | [] => none
    | c :: r2 => if c = 58 then some (nm, r2) else none) := by
  unfold M.hdM
  rw [h]
  dsimp only
  rw [if_neg (by rw [ha]; exact Bool.false_ne_true)]
theorem any_succ (m : List (List UInt8 × M.GV)) (nm : List UInt8) (u : Nat) (h : u < m.length) : ((m.take (u + 1)).any fun x => x.1 == nm) = (((m.take u).any fun x => x.1 == nm) || (m.getD u ([], M.vNull)).1 == nm) := by
  rw [List.take_add_one, List.any_append, List.getD_eq_getElem?_getD, List.getElem?_eq_getElem h]
  simp

theorem M.topM_nil {d : Nat} {r : List UInt8} (h : M.blk r = []) : M.itemsTop d 123 r = M.items (M.val d) false (r.length + 1) [] [] [] := by
  unfold M.itemsTop
  rw [h]
  rfl
theorem M.topM_shut {d : Nat} {r r2 : List UInt8} (h : M.blk r = 125 :: r2) : M.itemsTop d 123 r = .ok (M.vMap []) r2 := by
  unfold M.itemsTop
  rw [h]
  rfl
theorem M.topM_more {d : Nat} {e : UInt8} {r r2 : List UInt8} (h : M.blk r = e :: r2) (he : e ≠ 125) : M.itemsTop d 123 r = M.items (M.val d) false (r.length + 1) (e :: r2) [] [] := by
  unfold M.itemsTop
  rw [h]
  dsimp only
  rw [if_neg (by simpa using he)]
  rfl

end Go.Proofs.YtbgadfaiehkanaaGreatDoor
