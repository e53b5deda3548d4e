/-
  WHAT PACKAGE field OWES, AS ONE PREMISE (FieldOk), AND WHAT FOLLOWS: orloplaw07.same and awake. Conditions: FieldOk (proved of the code elsewhere).
  A BLOCK WRITTEN OVER IN ITS MIDDLE. Nothing of the program. Conditions: none.
  A LADDER IN MEMORY: a block of five elements (u, x2, z2, x3, z3), and laws for loads of one and stores into one, in regions that draw their order and in others. Conditions: as each says.
-/
import Derived.Test.YtdojalhaklkegaaDoorPn20
import Derived.Test.YtdojalhaklkegaaDoorPn15
import Derived.Test.YtdojalhaklkegaaDoorPn13
import Derived.Test.YtdojalhaklkegaaDoorPn2
import Derived.Deep.MidRow
import Derived.Test.YtdojalhaklkegaaDoorPn10

namespace Go.Proofs.YtdojalhaklkegaaDoor
open Go.RowKit
set_option linter.unusedVariables false

/-- Fe L n: the cells L are an element's, the number n. -/
structure FieldOk (Fe : List Value → Nat → Prop) : Prop where
  len : ∀ {L n}, Fe L n → L.length = 5
  one : ∀ {L n}, Fe L n → ∀ u ∈ L, u.oneCell' = true
  lt : ∀ {L n}, Fe L n → n < M.Q
  from_ : ∀ (v : Value) (bs : List UInt8) (w : World), IsB w v bs → Calls Tryd.prog 30 #[v] w (GivesE Fe w (M.told bs % M.Q))
  bytes_ : ∀ (L : List Value) (n : Nat) (w : World), Fe L n → Calls Tryd.prog 33 #[.agg L.toArray] w (Makes w (M.le n 32))
  add_ : ∀ (K L : List Value) (m n : Nat) (w : World), Fe K m → Fe L n → Calls Tryd.prog 85 #[.agg K.toArray, .agg L.toArray] w (GivesE Fe w ((m + n) % M.Q))
  sub_ : ∀ (K L : List Value) (m n : Nat) (w : World), Fe K m → Fe L n → Calls Tryd.prog 86 #[.agg K.toArray, .agg L.toArray] w (GivesE Fe w ((m + (M.Q - n)) % M.Q))
  mul_ : ∀ (K L : List Value) (m n : Nat) (w : World), Fe K m → Fe L n → Calls Tryd.prog 61 #[.agg K.toArray, .agg L.toArray] w (GivesE Fe w (m * n % M.Q))
  square_ : ∀ (K : List Value) (m : Nat) (w : World), Fe K m → Calls Tryd.prog 87 #[.agg K.toArray] w (GivesE Fe w (m * m % M.Q))
  times_ : ∀ (K : List Value) (m n : Nat) (w : World), Fe K m → n < 4294967296 → Calls Tryd.prog 88 #[.agg K.toArray, .int .u32 (n : Int)] w (GivesE Fe w (m * n % M.Q))
  invert_ : ∀ (K : List Value) (m : Nat) (w : World), Fe K m → Calls Tryd.prog 62 #[.agg K.toArray] w (GivesE Fe w (m ^ (M.Q - 2) % M.Q))
  swap_ : ∀ (b : Nat) (K L : List Value) (m n : Nat) (w : World), b < 18446744073709551616 → Fe K m → Fe L n → Calls Tryd.prog 84 #[.int .u64 (b : Int), .agg K.toArray, .agg L.toArray] w (GivesEE Fe w (if b % 2 = 1 then n else m) (if b % 2 = 1 then m else n))

/-! The same, each result's number under a name. -/

variable {Fe : List Value → Nat → Prop} (F : FieldOk Fe)
include F

theorem FieldOk.add_at {K L : List Value} {m n r : Nat} (w : World) (hK : Hid (Fe K m)) (hL : Hid (Fe L n)) (hr : Hid ((m + n) % M.Q = r)) : Calls Tryd.prog 85 #[.agg K.toArray, .agg L.toArray] w (GivesE Fe w r) := by
  rw [← hr.out]; exact F.add_ K L m n w hK.out hL.out

theorem FieldOk.sub_at {K L : List Value} {m n r : Nat} (w : World) (hK : Hid (Fe K m)) (hL : Hid (Fe L n)) (hr : Hid ((m + (M.Q - n)) % M.Q = r)) : Calls Tryd.prog 86 #[.agg K.toArray, .agg L.toArray] w (GivesE Fe w r) := by
  rw [← hr.out]; exact F.sub_ K L m n w hK.out hL.out

theorem FieldOk.mul_at {K L : List Value} {m n r : Nat} (w : World) (hK : Hid (Fe K m)) (hL : Hid (Fe L n)) (hr : Hid (m * n % M.Q = r)) : Calls Tryd.prog 61 #[.agg K.toArray, .agg L.toArray] w (GivesE Fe w r) := by
  rw [← hr.out]; exact F.mul_ K L m n w hK.out hL.out

theorem FieldOk.square_at {K : List Value} {m r : Nat} (w : World) (hK : Hid (Fe K m)) (hr : Hid (m * m % M.Q = r)) : Calls Tryd.prog 87 #[.agg K.toArray] w (GivesE Fe w r) := by
  rw [← hr.out]; exact F.square_ K m w hK.out

theorem FieldOk.times_at {K : List Value} {m n r : Nat} (w : World) (hK : Hid (Fe K m)) (hn : Hid (n < 4294967296)) (hr : Hid (m * n % M.Q = r)) : Calls Tryd.prog 88 #[.agg K.toArray, .int .u32 (n : Int)] w (GivesE Fe w r) := by
  rw [← hr.out]; exact F.times_ K m n w hK.out hn.out

theorem FieldOk.invert_at {K : List Value} {m r : Nat} (w : World) (hK : Hid (Fe K m)) (hr : Hid (m ^ (M.Q - 2) % M.Q = r)) : Calls Tryd.prog 62 #[.agg K.toArray] w (GivesE Fe w r) := by
  rw [← hr.out]; exact F.invert_ K m w hK.out

end Go.Proofs.YtdojalhaklkegaaDoor

namespace Go.Proofs.YtdojalhaklkegaaDoor
open Go.RowKit
set_option linter.unusedVariables false

/-- The list l with what begins at o written over by vs. -/
def lay (l : List Value) (o : Nat) : List Value → List Value
  | [] => l
  | v :: r => lay (l.set o v) (o + 1) r

theorem lay_mid (B : List Value) : ∀ (A C vs : List Value), vs.length = B.length → lay (A ++ (B ++ C)) A.length vs = A ++ (vs ++ C) := by
  induction B with
  | nil =>
    intro A C vs h
    obtain rfl : vs = [] := List.eq_nil_of_length_eq_zero h
    rfl
  | cons b B ih =>
    intro A C vs h
    match vs, h with
    | v :: vs, h =>
      have h' : vs.length = B.length := by simpa using h
      have := ih (A ++ [v]) C vs h'
      rw [lay, List.set_append_right _ _ (Nat.le_refl _), Nat.sub_self, List.cons_append, List.set_cons_zero]
      simpa using this

theorem Blk.setCells {g : Nat} {t : TypeId} (vs : List Value) : ∀ {w : World} {cs : List Value} (o : Nat), Blk w g t cs → Blk (w.setCells g o vs) g t (lay cs o vs) := by
  induction vs with
  | nil => intro w cs o h; exact h
  | cons v r ih => intro w cs o h; exact ih (o + 1) (h.set_ o v)

theorem only_setCells (g : Nat) (vs : List Value) : ∀ (w a : World) (o : Nat), Only g a w → Only g a (w.setCells g o vs) := by
  induction vs with
  | nil => intro w a o h; exact h
  | cons v r ih => intro w a o h; exact ih _ a (o + 1) (h.setCell (Or.inl rfl) v)

theorem Blk.there {w : World} {g : Nat} {t : TypeId} {cs : List Value} (h : Blk w g t cs) (o n : Nat) (hn : o + n ≤ cs.length) : w.there g o n := fun j hj => by
  refine ⟨?_, h.frozen _⟩
  rw [h.cell, List.getElem?_eq_getElem (by omega)]
  rfl

end Go.Proofs.YtdojalhaklkegaaDoor

namespace Go.Proofs.YtdojalhaklkegaaDoor
open Go.RowKit
set_option linter.unusedVariables false

/-- A ladder's block. -/
def LadB (w : World) (g : Nat) (A B C D E : List Value) : Prop :=
  Blk w g 64 (A ++ (B ++ (C ++ (D ++ E)))) ∧ A.length = 5 ∧ B.length = 5 ∧ C.length = 5 ∧ D.length = 5 ∧ E.length = 5

section
variable {w : World} {g : Nat} {A B C D E : List Value}

theorem LadB.lt (h : LadB w g A B C D E) : g < w.heap.size := h.1.lt
theorem LadB.below {w' : World} {b : Nat} (h : LadB w g A B C D E) (k : Below b w w') (hg : g < b) : LadB w' g A B C D E := ⟨h.1.below k hg, h.2⟩
theorem LadB.grown {w' : World} {row : Option Nat} (h : LadB w g A B C D E) (k : w.grownBy w' row) (hg : some g ≠ row) : LadB w' g A B C D E := ⟨h.1.grown k hg, h.2⟩
theorem LadB.at0 (h : LadB w g A B C D E) : w.rangeAt g 0 A := h.1.range 0 A _ rfl
theorem drop_front8 (A R : List Value) (n : Nat) (h : A.length = n) : (A ++ R).drop n = R := by rw [← h, List.drop_left]
theorem LadB.at1 (h : LadB w g A B C D E) : w.rangeAt g 5 B := h.1.range 5 B _ (drop_front8 A _ 5 h.2.1)
theorem LadB.at2 (h : LadB w g A B C D E) : w.rangeAt g 10 C := h.1.range 10 C _ (by
  rw [show A ++ (B ++ (C ++ (D ++ E))) = (A ++ B) ++ (C ++ (D ++ E)) by simp]
  exact drop_front8 _ _ 10 (by rw [List.length_append, h.2.1, h.2.2.1]))
theorem LadB.at3 (h : LadB w g A B C D E) : w.rangeAt g 15 D := h.1.range 15 D _ (by
  rw [show A ++ (B ++ (C ++ (D ++ E))) = (A ++ (B ++ C)) ++ (D ++ E) by simp]
  exact drop_front8 _ _ 15 (by simp only [List.length_append, h.2.1, h.2.2.1, h.2.2.2.1]))
theorem LadB.at4 (h : LadB w g A B C D E) : w.rangeAt g 20 E := h.1.range 20 E [] (by
  rw [show A ++ (B ++ (C ++ (D ++ E))) = (A ++ (B ++ (C ++ D))) ++ (E ++ []) by simp]
  exact drop_front8 _ _ 20 (by simp only [List.length_append, h.2.1, h.2.2.1, h.2.2.2.1, h.2.2.2.2.1]))

theorem LadB.len (h : LadB w g A B C D E) : (A ++ (B ++ (C ++ (D ++ E)))).length = 25 := by
  simp only [List.length_append, h.2.1, h.2.2.1, h.2.2.2.1, h.2.2.2.2.1, h.2.2.2.2.2]

theorem LadB.there (h : LadB w g A B C D E) (o : Nat) (ho : o + 5 ≤ 25) : w.there g o 5 := h.1.there o 5 (by rw [h.len]; exact ho)

theorem LadB.set1 (h : LadB w g A B C D E) {M : List Value} (hm : M.length = 5) : LadB (w.setCells g 5 M) g A M C D E := by
  refine ⟨?_, h.2.1, hm, h.2.2.2⟩
  have := h.1.setCells M 5
  rwa [show lay (A ++ (B ++ (C ++ (D ++ E)))) 5 M = A ++ (M ++ (C ++ (D ++ E))) by
    have := lay_mid B A (C ++ (D ++ E)) M (by rw [hm, h.2.2.1])
    rwa [h.2.1] at this] at this

theorem LadB.set2 (h : LadB w g A B C D E) {M : List Value} (hm : M.length = 5) : LadB (w.setCells g 10 M) g A B M D E := by
  refine ⟨?_, h.2.1, h.2.2.1, hm, h.2.2.2.2⟩
  have := h.1.setCells M 10
  rwa [show lay (A ++ (B ++ (C ++ (D ++ E)))) 10 M = A ++ (B ++ (M ++ (D ++ E))) by
    have := lay_mid C (A ++ B) (D ++ E) M (by rw [hm, h.2.2.2.1])
    rw [List.length_append, h.2.1, h.2.2.1] at this
    simpa using this] at this

theorem LadB.set3 (h : LadB w g A B C D E) {M : List Value} (hm : M.length = 5) : LadB (w.setCells g 15 M) g A B C M E := by
  refine ⟨?_, h.2.1, h.2.2.1, h.2.2.2.1, hm, h.2.2.2.2.2⟩
  have := h.1.setCells M 15
  rwa [show lay (A ++ (B ++ (C ++ (D ++ E)))) 15 M = A ++ (B ++ (C ++ (M ++ E))) by
    have := lay_mid D (A ++ (B ++ C)) E M (by rw [hm, h.2.2.2.2.1])
    simp only [List.length_append, h.2.1, h.2.2.1, h.2.2.2.1] at this
    simpa using this] at this

theorem LadB.set4 (h : LadB w g A B C D E) {M : List Value} (hm : M.length = 5) : LadB (w.setCells g 20 M) g A B C D M := by
  refine ⟨?_, h.2.1, h.2.2.1, h.2.2.2.1, h.2.2.2.2.1, hm⟩
  have := h.1.setCells M 20
  rwa [show lay (A ++ (B ++ (C ++ (D ++ E)))) 20 M = A ++ (B ++ (C ++ (D ++ M))) by
    have := lay_mid E (A ++ (B ++ (C ++ D))) [] M (by rw [hm, h.2.2.2.2.2])
    simp only [List.length_append, h.2.1, h.2.2.1, h.2.2.2.1, h.2.2.2.2.1] at this
    simpa using this] at this
end

/-- A whole element into the middle of a block, as one step of a region that draws. -/
theorem step_store_part {ops : Array Oper} {o : Oper} {a : Act} {w : World} {K : Act → World → Prop} {Q : Exit → Act → World → Prop} {E : Prop} (hgd : o.guard = none) (x y : Operand) (ho : o.op = .store 62 x y)
    (g off : Nat) (M : List Value) (hx : a.eval x = .pointer (some ⟨g, off, none⟩)) (hy : a.eval y = .agg M.toArray) (hm : M.length = 5) (h1 : ∀ v ∈ M, v.oneCell' = true) (ht : w.there g off 5)
    (h : ∀ w', w' = w.setCells g off M → Only g w w' → K (a.put o.dst undef) w') : if Region.wanted o (yielded ops a.tmps) = true then Oper.wp Tryd.prog o a w K Q else E := by
  have hw : Region.wanted o (yielded ops a.tmps) = true := by simp [Region.wanted, hgd]
  rw [if_pos hw]
  refine wp_store_mid (P := Tryd.prog) _ x y ho g off M.toArray hx hy (by rw [List.size_toArray, hm]; exact ht) (by rw [List.size_toArray, hm]; kernel_rfl) (all_oneCell_toArray h1) ?_
  rw [List.toList_toArray]
  exact h _ rfl (only_setCells g M w w off (Only.refl g w))

/-- .. in a plain region. -/
theorem wpList_store_part {ops : Array Oper} {rest : List Oper} {o : Oper} {a : Act} {w : World} {Q : Exit → Act → World → Prop} (hgd : o.guard = none) (hd : o.dst = none) (x y : Operand) (ho : o.op = .store 62 x y)
    (g off : Nat) (M : List Value) (hx : a.eval x = .pointer (some ⟨g, off, none⟩)) (hy : a.eval y = .agg M.toArray) (hm : M.length = 5) (h1 : ∀ v ∈ M, v.oneCell' = true) (ht : w.there g off 5)
    (h : ∀ w', w' = w.setCells g off M → Only g w w' → wpList Tryd.prog ops Q rest a w') : wpList Tryd.prog ops Q (o :: rest) a w := by
  refine wpList_store_mid (P := Tryd.prog) hgd _ x y ho g off M.toArray hx hy (by rw [List.size_toArray, hm]; exact ht) (by rw [List.size_toArray, hm]; kernel_rfl) (all_oneCell_toArray h1) ?_
  rw [List.toList_toArray, hd]
  exact h _ rfl (only_setCells g M w w off (Only.refl g w))

/-- A new element, as one step of a region that draws. -/
theorem step_alloc_el {ops : Array Oper} {o : Oper} {a : Act} {w : World} {K : Act → World → Prop} {Q : Exit → Act → World → Prop} {E : Prop} (hgd : o.guard = none) (ho : o.op = .alloc 62)
    (h : ∀ w' gd, w.heap.size ≤ gd → Blk w' gd 62 z5 → Below w.heap.size w w' → K (a.put o.dst (.pointer (some ⟨gd, 0, none⟩))) w') : if Region.wanted o (yielded ops a.tmps) = true then Oper.wp Tryd.prog o a w K Q else E := by
  have hw : Region.wanted o (yielded ops a.tmps) = true := by simp [Region.wanted, hgd]
  rw [if_pos hw]
  have := h (w.alloc (.cells z5.toArray 62)) w.heap.size (Nat.le_refl _) (Blk.newAt _ _ _ _ _ rfl rfl) ((Below.refl _ _).alloc (Nat.le_refl _) _)
  clear h
  rw [z5_arr] at this
  unfold Oper.wp execOp
  simp only [ho]
  go_simp
  exact this

end Go.Proofs.YtdojalhaklkegaaDoor
