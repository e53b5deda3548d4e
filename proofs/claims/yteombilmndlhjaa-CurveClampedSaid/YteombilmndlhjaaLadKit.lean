/-
  A LADDER IN MEMORY: a block of five elements (u, x2, z2, x3, z3), and laws for loads of one and stores into one, in regions that draw their order and in others. Conditions: as each says.
-/
import Derived.Test.YteombilmndlhjaaFieldFace
import Derived.Test.YteombilmndlhjaaHeldA
import Derived.Deep.MidRow
namespace Go.Proofs.Yteombilmndlhjaa
open Go.RowKit
set_option linter.unusedVariables false

/-- The list l with what begins at o written over by vs. -/
def lay (l : List Value) (o : Nat) : List Value → List Value
  | [] => l
  | v :: r => lay (l.set o v) (o + 1) r

theorem lay_length (vs : List Value) : ∀ (l : List Value) (o : Nat), (lay l o vs).length = l.length := by
  induction vs with
  | nil => intro l o; rfl
  | cons v r ih => intro l o; rw [lay, ih, List.length_set]

theorem lay_mid (B : List Value) : ∀ (A C vs : List Value), vs.length = B.length → lay (A ++ (B ++ C)) A.length vs = A ++ (vs ++ C) := by
  induction B with
  | nil =>
    intro A C vs h
    obtain rfl : vs = [] := List.eq_nil_of_length_eq_zero h
    rfl
  | cons b B ih =>
    intro A C vs h
    match vs, h with
    | v :: vs, h =>
      have h' : vs.length = B.length := by simpa using h
      have := ih (A ++ [v]) C vs h'
      rw [lay, List.set_append_right _ _ (Nat.le_refl _), Nat.sub_self, List.cons_append, List.set_cons_zero]
      simpa using this

theorem Blk.setCells {g : Nat} {t : TypeId} (vs : List Value) : ∀ {w : World} {cs : List Value} (o : Nat), Blk w g t cs → Blk (w.setCells g o vs) g t (lay cs o vs) := by
  induction vs with
  | nil => intro w cs o h; exact h
  | cons v r ih => intro w cs o h; exact ih (o + 1) (h.set_ o v)

theorem only_setCells (g : Nat) (vs : List Value) : ∀ (w a : World) (o : Nat), Only g a w → Only g a (w.setCells g o vs) := by
  induction vs with
  | nil => intro w a o h; exact h
  | cons v r ih => intro w a o h; exact ih _ a (o + 1) (h.setCell (Or.inl rfl) v)

theorem Blk.there {w : World} {g : Nat} {t : TypeId} {cs : List Value} (h : Blk w g t cs) (o n : Nat) (hn : o + n ≤ cs.length) : w.there g o n := fun j hj => by
  refine ⟨?_, h.frozen _⟩
  rw [h.cell, List.getElem?_eq_getElem (by omega)]
  rfl

/-- A ladder's block. -/
def LadB (w : World) (g : Nat) (A B C D E : List Value) : Prop :=
  Blk w g 42 (A ++ (B ++ (C ++ (D ++ E)))) ∧ A.length = 5 ∧ B.length = 5 ∧ C.length = 5 ∧ D.length = 5 ∧ E.length = 5

section
variable {w : World} {g : Nat} {A B C D E : List Value}

theorem LadB.lt (h : LadB w g A B C D E) : g < w.heap.size := h.1.lt
theorem LadB.below {w' : World} {b : Nat} (h : LadB w g A B C D E) (k : Below b w w') (hg : g < b) : LadB w' g A B C D E := ⟨h.1.below k hg, h.2⟩
theorem LadB.grown {w' : World} {row : Option Nat} (h : LadB w g A B C D E) (k : w.grownBy w' row) (hg : some g ≠ row) : LadB w' g A B C D E := ⟨h.1.grown k hg, h.2⟩
theorem LadB.at0 (h : LadB w g A B C D E) : w.rangeAt g 0 A := h.1.range 0 A _ rfl
theorem drop_front8 (A R : List Value) (n : Nat) (h : A.length = n) : (A ++ R).drop n = R := by rw [← h, List.drop_left]
theorem LadB.at1 (h : LadB w g A B C D E) : w.rangeAt g 5 B := h.1.range 5 B _ (drop_front8 A _ 5 h.2.1)
theorem LadB.at2 (h : LadB w g A B C D E) : w.rangeAt g 10 C := h.1.range 10 C _ (by
  rw [show A ++ (B ++ (C ++ (D ++ E))) = (A ++ B) ++ (C ++ (D ++ E)) by simp]
  exact drop_front8 _ _ 10 (by rw [List.length_append, h.2.1, h.2.2.1]))
theorem LadB.at3 (h : LadB w g A B C D E) : w.rangeAt g 15 D := h.1.range 15 D _ (by
  rw [show A ++ (B ++ (C ++ (D ++ E))) = (A ++ (B ++ C)) ++ (D ++ E) by simp]
  exact drop_front8 _ _ 15 (by simp only [List.length_append, h.2.1, h.2.2.1, h.2.2.2.1]))
theorem LadB.at4 (h : LadB w g A B C D E) : w.rangeAt g 20 E := h.1.range 20 E [] (by
  rw [show A ++ (B ++ (C ++ (D ++ E))) = (A ++ (B ++ (C ++ D))) ++ (E ++ []) by simp]
  exact drop_front8 _ _ 20 (by simp only [List.length_append, h.2.1, h.2.2.1, h.2.2.2.1, h.2.2.2.2.1]))

theorem LadB.len (h : LadB w g A B C D E) : (A ++ (B ++ (C ++ (D ++ E)))).length = 25 := by
  simp only [List.length_append, h.2.1, h.2.2.1, h.2.2.2.1, h.2.2.2.2.1, h.2.2.2.2.2]

theorem LadB.there (h : LadB w g A B C D E) (o : Nat) (ho : o + 5 ≤ 25) : w.there g o 5 := h.1.there o 5 (by rw [h.len]; exact ho)

theorem LadB.set1 (h : LadB w g A B C D E) {M : List Value} (hm : M.length = 5) : LadB (w.setCells g 5 M) g A M C D E := by
  refine ⟨?_, h.2.1, hm, h.2.2.2⟩
  have := h.1.setCells M 5
  rwa [show lay (A ++ (B ++ (C ++ (D ++ E)))) 5 M = A ++ (M ++ (C ++ (D ++ E))) by
    have := lay_mid B A (C ++ (D ++ E)) M (by rw [hm, h.2.2.1])
    rwa [h.2.1] at this] at this

theorem LadB.set2 (h : LadB w g A B C D E) {M : List Value} (hm : M.length = 5) : LadB (w.setCells g 10 M) g A B M D E := by
  refine ⟨?_, h.2.1, h.2.2.1, hm, h.2.2.2.2⟩
  have := h.1.setCells M 10
  rwa [show lay (A ++ (B ++ (C ++ (D ++ E)))) 10 M = A ++ (B ++ (M ++ (D ++ E))) by
    have := lay_mid C (A ++ B) (D ++ E) M (by rw [hm, h.2.2.2.1])
    rw [List.length_append, h.2.1, h.2.2.1] at this
    simpa using this] at this

theorem LadB.set3 (h : LadB w g A B C D E) {M : List Value} (hm : M.length = 5) : LadB (w.setCells g 15 M) g A B C M E := by
  refine ⟨?_, h.2.1, h.2.2.1, h.2.2.2.1, hm, h.2.2.2.2.2⟩
  have := h.1.setCells M 15
  rwa [show lay (A ++ (B ++ (C ++ (D ++ E)))) 15 M = A ++ (B ++ (C ++ (M ++ E))) by
    have := lay_mid D (A ++ (B ++ C)) E M (by rw [hm, h.2.2.2.2.1])
    simp only [List.length_append, h.2.1, h.2.2.1, h.2.2.2.1] at this
    simpa using this] at this

theorem LadB.set4 (h : LadB w g A B C D E) {M : List Value} (hm : M.length = 5) : LadB (w.setCells g 20 M) g A B C D M := by
  refine ⟨?_, h.2.1, h.2.2.1, h.2.2.2.1, h.2.2.2.2.1, hm⟩
  have := h.1.setCells M 20
  rwa [show lay (A ++ (B ++ (C ++ (D ++ E)))) 20 M = A ++ (B ++ (C ++ (D ++ M))) by
    have := lay_mid E (A ++ (B ++ (C ++ D))) [] M (by rw [hm, h.2.2.2.2.2])
    simp only [List.length_append, h.2.1, h.2.2.1, h.2.2.2.1, h.2.2.2.2.1] at this
    simpa using this] at this
end

/-- A whole element into the middle of a block, as one step of a region that draws. -/
theorem step_store_part {ops : Array Oper} {o : Oper} {a : Act} {w : World} {K : Act → World → Prop} {Q : Exit → Act → World → Prop} {E : Prop} (hgd : o.guard = none) (x y : Operand) (ho : o.op = .store 40 x y)
    (g off : Nat) (M : List Value) (hx : a.eval x = .pointer (some ⟨g, off, none⟩)) (hy : a.eval y = .agg M.toArray) (hm : M.length = 5) (h1 : ∀ v ∈ M, v.oneCell' = true) (ht : w.there g off 5)
    (h : ∀ w', w' = w.setCells g off M → Only g w w' → K (a.put o.dst undef) w') : if Region.wanted o (yielded ops a.tmps) = true then Oper.wp Try.prog o a w K Q else E := by
  have hw : Region.wanted o (yielded ops a.tmps) = true := by simp [Region.wanted, hgd]
  rw [if_pos hw]
  refine wp_store_mid (P := Try.prog) _ x y ho g off M.toArray hx hy (by rw [List.size_toArray, hm]; exact ht) (by rw [List.size_toArray, hm]; kernel_rfl) (all_oneCell_toArray h1) ?_
  rw [List.toList_toArray]
  exact h _ rfl (only_setCells g M w w off (Only.refl g w))

/-- .. in a plain region. -/
theorem wpList_store_part {ops : Array Oper} {rest : List Oper} {o : Oper} {a : Act} {w : World} {Q : Exit → Act → World → Prop} (hgd : o.guard = none) (hd : o.dst = none) (x y : Operand) (ho : o.op = .store 40 x y)
    (g off : Nat) (M : List Value) (hx : a.eval x = .pointer (some ⟨g, off, none⟩)) (hy : a.eval y = .agg M.toArray) (hm : M.length = 5) (h1 : ∀ v ∈ M, v.oneCell' = true) (ht : w.there g off 5)
    (h : ∀ w', w' = w.setCells g off M → Only g w w' → wpList Try.prog ops Q rest a w') : wpList Try.prog ops Q (o :: rest) a w := by
  refine wpList_store_mid (P := Try.prog) hgd _ x y ho g off M.toArray hx hy (by rw [List.size_toArray, hm]; exact ht) (by rw [List.size_toArray, hm]; kernel_rfl) (all_oneCell_toArray h1) ?_
  rw [List.toList_toArray, hd]
  exact h _ rfl (only_setCells g M w w off (Only.refl g w))

/-- An element out of the middle of a block. -/
theorem wpList_load_part {ops : Array Oper} {rest : List Oper} {o : Oper} {a : Act} {w : World} {Q : Exit → Act → World → Prop} (hgd : o.guard = none) (x : Operand) (ho : o.op = .load 40 x)
    (g off : Nat) (hx : a.eval x = .pointer (some ⟨g, off, none⟩)) (M : List Value) (hm : M.length = 5) (hr : w.rangeAt g off M)
    (h : wpList Try.prog ops Q rest (a.put o.dst (.agg M.toArray)) w) : wpList Try.prog ops Q (o :: rest) a w :=
  wpList_load_mid (P := Try.prog) hgd _ x ho g off hx M _ hr Try.underlying40 rfl (by rw [hm]; kernel_rfl) h

/-- A new element, as one step of a region that draws. -/
theorem step_alloc_el {ops : Array Oper} {o : Oper} {a : Act} {w : World} {K : Act → World → Prop} {Q : Exit → Act → World → Prop} {E : Prop} (hgd : o.guard = none) (ho : o.op = .alloc 40)
    (h : ∀ w' gd, w.heap.size ≤ gd → Blk w' gd 40 z5 → Below w.heap.size w w' → K (a.put o.dst (.pointer (some ⟨gd, 0, none⟩))) w') : if Region.wanted o (yielded ops a.tmps) = true then Oper.wp Try.prog o a w K Q else E := by
  have hw : Region.wanted o (yielded ops a.tmps) = true := by simp [Region.wanted, hgd]
  rw [if_pos hw]
  have := h (w.alloc (.cells z5.toArray 40)) w.heap.size (Nat.le_refl _) (Blk.newAt _ _ _ _ _ rfl rfl) ((Below.refl _ _).alloc (Nat.le_refl _) _)
  clear h
  rw [z5_arr] at this
  unfold Oper.wp execOp
  simp only [ho]
  go_simp
  exact this

end Go.Proofs.Yteombilmndlhjaa
