/-
  FILES AS THEY LIE (IsFs: a slice of api.File; RefIn: the document's files), and how they last. Conditions: none.
-/
import Derived.Test.YtgmhfianpdhnmaaGreatDoorPf27
import Derived.Test.YtgmhfianpdhnmaaGreatDoorPf12
namespace Go.Proofs.YtgmhfianpdhnmaaGreatDoor
open Go.RowKit
set_option linter.unusedVariables false

/-- The cells of files: each one's name, and its bytes' value. -/
def fcs : M.Fs → List Value → List Value
  | f :: F, x :: xs => .string ⟨f.nm.toArray⟩ :: x :: fcs F xs
  | _, _ => []

theorem fcs_len : ∀ {F : M.Fs} {xs : List Value}, xs.length = F.length → (fcs F xs).length = F.length * 2
  | [], [], _ => rfl
  | f :: F, x :: xs, h => by
    have := fcs_len (F := F) (xs := xs) (by simpa using h)
    rw [fcs, List.length_cons, List.length_cons, List.length_cons, this]
    omega

theorem fcs_append : ∀ {F G : M.Fs} {xs ys : List Value}, xs.length = F.length → fcs (F ++ G) (xs ++ ys) = fcs F xs ++ fcs G ys
  | [], G, [], ys, _ => rfl
  | f :: F, G, x :: xs, ys, h => by
    have := fcs_append (F := F) (G := G) (xs := xs) (ys := ys) (by simpa using h)
    rw [List.cons_append, List.cons_append, fcs, this]
    rfl

theorem fcs_take {F : M.Fs} {xs : List Value} (h : xs.length = F.length) (i : Nat) (hi : i ≤ F.length) : fcs (F.take i) (xs.take i) = (fcs F xs).take (i * 2) := by
  have e := fcs_append (F := F.take i) (G := F.drop i) (xs := xs.take i) (ys := xs.drop i) (by rw [List.length_take, List.length_take, h])
  rw [List.take_append_drop, List.take_append_drop] at e
  have l := fcs_len (F := F.take i) (xs := xs.take i) (by rw [List.length_take, List.length_take, h])
  rw [List.length_take, Nat.min_eq_left hi] at l
  rw [e, ← l, List.take_left]

theorem fcs_drop {F : M.Fs} {xs : List Value} (h : xs.length = F.length) (i : Nat) (hi : i ≤ F.length) : fcs (F.drop i) (xs.drop i) = (fcs F xs).drop (i * 2) := by
  have e := fcs_append (F := F.take i) (G := F.drop i) (xs := xs.take i) (ys := xs.drop i) (by rw [List.length_take, List.length_take, h])
  rw [List.take_append_drop, List.take_append_drop] at e
  have l := fcs_len (F := F.take i) (xs := xs.take i) (by rw [List.length_take, List.length_take, h])
  rw [List.length_take, Nat.min_eq_left hi] at l
  rw [e, ← l, List.drop_left]

theorem fcs_at : ∀ {F : M.Fs} {xs : List Value} (i : Nat), xs.length = F.length → i < F.length → (fcs F xs)[i * 2]? = some (.string ⟨(F.getD i default).nm.toArray⟩) ∧ (fcs F xs)[i * 2 + 1]? = some (xs.getD i undef)
  | f :: F, x :: xs, 0, _, _ => ⟨rfl, rfl⟩
  | f :: F, x :: xs, i + 1, h, hi => by
    have ih := fcs_at (F := F) (xs := xs) i (by simpa using h) (by simpa using hi)
    rw [show (i + 1) * 2 = i * 2 + 2 by omega, fcs]
    exact ih

/-- The files' bytes lie so, in blocks of S; where there are none, there is no room. -/
structure FsD (S : Nat → Prop) (w : World) (F : M.Fs) (xs : List Value) : Prop where
  len : xs.length = F.length
  each : ∀ i, i < F.length → IsB w (xs.getD i undef) (F.getD i default).data ∧ (∀ n c, xs.getD i undef = .slice none n c → c = 0) ∧ Lies S (xs.getD i undef) ∧ (F.getD i default).nm.length ≤ maxLen

theorem FsD.chg {S G : Nat → Prop} {w w' : World} {F : M.Fs} {xs : List Value} (h : FsD S w F xs) (c : Chg G w w') (hs : ∀ k, S k → ¬ G k) : FsD S w' F xs :=
  ⟨h.len, fun i hi => ⟨(h.each i hi).1.chg c ((h.each i hi).2.2.1.mono hs), (h.each i hi).2⟩⟩

theorem FsD.below {S : Nat → Prop} {w w' : World} {F : M.Fs} {xs : List Value} (h : FsD S w F xs) (c : Below w.heap.size w w') : FsD S w' F xs :=
  h.chg (Chg.of_below (F := fun _ => False) c) fun _ _ h => h

theorem FsD.mono {S R : Nat → Prop} {w : World} {F : M.Fs} {xs : List Value} (h : FsD S w F xs) (hs : ∀ k, S k → R k) : FsD R w F xs :=
  ⟨h.len, fun i hi => ⟨(h.each i hi).1, (h.each i hi).2.1, (h.each i hi).2.2.1.mono hs, (h.each i hi).2.2.2⟩⟩

theorem FsD.nil (S : Nat → Prop) (w : World) : FsD S w [] [] := ⟨rfl, fun i hi => by cases hi⟩

theorem FsD.append {S : Nat → Prop} {w : World} {F G : M.Fs} {xs ys : List Value} (h : FsD S w F xs) (k : FsD S w G ys) : FsD S w (F ++ G) (xs ++ ys) where
  len := by rw [List.length_append, List.length_append, h.len, k.len]
  each := fun i hi => by
    by_cases hlt : i < F.length
    · have e1 : (xs ++ ys).getD i undef = xs.getD i undef := by rw [List.getD_eq_getElem?_getD, List.getElem?_append_left (by rw [h.len]; exact hlt), ← List.getD_eq_getElem?_getD]
      have e2 : (F ++ G).getD i default = F.getD i default := by rw [List.getD_eq_getElem?_getD, List.getElem?_append_left hlt, ← List.getD_eq_getElem?_getD]
      rw [e1, e2]
      exact h.each i hlt
    · rw [List.length_append] at hi
      have e1 : (xs ++ ys).getD i undef = ys.getD (i - F.length) undef := by rw [List.getD_eq_getElem?_getD, List.getElem?_append_right (by rw [h.len]; omega), h.len, ← List.getD_eq_getElem?_getD]
      have e2 : (F ++ G).getD i default = G.getD (i - F.length) default := by rw [List.getD_eq_getElem?_getD, List.getElem?_append_right (by omega), ← List.getD_eq_getElem?_getD]
      rw [e1, e2]
      exact k.each (i - F.length) (by omega)

theorem FsD.take {S : Nat → Prop} {w : World} {F : M.Fs} {xs : List Value} (h : FsD S w F xs) (n : Nat) : FsD S w (F.take n) (xs.take n) where
  len := by rw [List.length_take, List.length_take, h.len]
  each := fun i hi => by
    rw [List.length_take] at hi
    have e1 : (xs.take n).getD i undef = xs.getD i undef := by rw [List.getD_eq_getElem?_getD, List.getElem?_take, if_pos (by omega), ← List.getD_eq_getElem?_getD]
    have e2 : (F.take n).getD i default = F.getD i default := by rw [List.getD_eq_getElem?_getD, List.getElem?_take, if_pos (by omega), ← List.getD_eq_getElem?_getD]
    rw [e1, e2]
    exact h.each i (by omega)

theorem FsD.drop {S : Nat → Prop} {w : World} {F : M.Fs} {xs : List Value} (h : FsD S w F xs) (n : Nat) : FsD S w (F.drop n) (xs.drop n) where
  len := by rw [List.length_drop, List.length_drop, h.len]
  each := fun i hi => by
    rw [List.length_drop] at hi
    have e1 : (xs.drop n).getD i undef = xs.getD (n + i) undef := by rw [List.getD_eq_getElem?_getD, List.getElem?_drop, ← List.getD_eq_getElem?_getD]
    have e2 : (F.drop n).getD i default = F.getD (n + i) default := by rw [List.getD_eq_getElem?_getD, List.getElem?_drop, ← List.getD_eq_getElem?_getD]
    rw [e1, e2]
    exact h.each (n + i) (by omega)

theorem oneCell_B {w : World} {v : Value} {bs : List UInt8} (h : IsB w v bs) : v.oneCell' = true := by
  obtain ⟨a, c, rfl⟩ := h.shape
  rfl

theorem fcs_one {S : Nat → Prop} {w : World} : ∀ {F : M.Fs} {xs : List Value}, FsD S w F xs → ∀ u ∈ fcs F xs, u.oneCell' = true
  | [], [], _, u, hu => by cases hu
  | [], _ :: _, h, _, _ => by have := h.len; simp at this
  | _ :: _, [], h, _, _ => by have := h.len; simp at this
  | f :: F, x :: xs, h, u, hu => by
    rw [fcs] at hu
    rcases List.mem_cons.1 hu with rfl | hu
    · rfl
    · rcases List.mem_cons.1 hu with rfl | hu
      · exact oneCell_B (h.each 0 (by simp)).1
      · exact fcs_one (h.drop 1) u hu

/-- The value is a slice of files, in blocks of S. -/
def IsFs (S : Nat → Prop) (w : World) (v : Value) (F : M.Fs) (xs : List Value) : Prop := FsD S w F xs ∧ ∃ ao cap, v = .slice ao F.length cap ∧ F.length ≤ cap ∧ cap ≤ maxLen ∧ (ao = none → cap = 0) ∧
  (F = [] ∨ ∃ b off, ao = some ⟨b, off, none⟩ ∧ S b ∧ b < w.heap.size ∧ ∀ j u, (fcs F xs)[j]? = some u → w.cell? ⟨b, off + j, none⟩ = some u)

theorem IsFs.nil (S : Nat → Prop) (w : World) : IsFs S w (.slice none 0 0) [] [] := ⟨FsD.nil S w, none, 0, rfl, Nat.le_refl _, Nat.zero_le _, fun _ => rfl, .inl rfl⟩

theorem IsFs.shape {S : Nat → Prop} {w : World} {v : Value} {F : M.Fs} {xs : List Value} (h : IsFs S w v F xs) : ∃ ao cap, v = .slice ao F.length cap := by
  obtain ⟨_, ao, cap, rfl, _⟩ := h
  exact ⟨ao, cap, rfl⟩

theorem IsFs.chg {S G : Nat → Prop} {w w' : World} {v : Value} {F : M.Fs} {xs : List Value} (h : IsFs S w v F xs) (c : Chg G w w') (hs : ∀ k, S k → ¬ G k) : IsFs S w' v F xs := by
  obtain ⟨d, ao, cap, e, h1, h2, h3, h4⟩ := h
  refine ⟨d.chg c hs, ao, cap, e, h1, h2, h3, h4.imp_right fun ⟨b, off, e, hb, hlt, hc⟩ => ⟨b, off, e, hb, Nat.lt_of_lt_of_le hlt c.size, fun j u hj => ?_⟩⟩
  rw [World.cell?_of_block (c.block b hlt (hs b hb)), hc j u hj]

theorem IsFs.below {S : Nat → Prop} {w w' : World} {v : Value} {F : M.Fs} {xs : List Value} (h : IsFs S w v F xs) (c : Below w.heap.size w w') : IsFs S w' v F xs :=
  h.chg (Chg.of_below (F := fun _ => False) c) fun _ _ h => h

theorem IsFs.mono {S R : Nat → Prop} {w : World} {v : Value} {F : M.Fs} {xs : List Value} (h : IsFs S w v F xs) (hs : ∀ k, S k → R k) : IsFs R w v F xs := by
  obtain ⟨d, ao, cap, e, h1, h2, h3, h4⟩ := h
  exact ⟨d.mono hs, ao, cap, e, h1, h2, h3, h4.imp_right fun ⟨b, off, e, hb, h⟩ => ⟨b, off, e, hs b hb, h⟩⟩

/-- One of them. -/
theorem IsFs.at_ {S : Nat → Prop} {w : World} {ao : Option Addr} {n cap : Nat} {F : M.Fs} {xs : List Value} (h : IsFs S w (.slice ao n cap) F xs) (i : Nat) (hi : i < F.length) :
    ∃ b off, ao = some ⟨b, off, none⟩ ∧ w.cell? ⟨b, off + i * 2, none⟩ = some (.string ⟨(F.getD i default).nm.toArray⟩) ∧ w.cell? ⟨b, off + i * 2 + 1, none⟩ = some (xs.getD i undef) ∧ IsB w (xs.getD i undef) (F.getD i default).data ∧ (F.getD i default).nm.length ≤ maxLen := by
  obtain ⟨d, ao', cap', e, h1, h2, h3, h4⟩ := h
  injection e with e1 e2 e3
  subst e1
  rcases h4 with h4 | ⟨b, off, e, hb, hlt, hc⟩
  · subst h4; cases hi
  · have := fcs_at i d.len hi
    exact ⟨b, off, e, hc _ _ this.1, by rw [Nat.add_assoc]; exact hc _ _ this.2, (d.each i hi).1, (d.each i hi).2.2.2⟩

theorem rowsF : RowTy 30 55 2 40 (.agg #[.string ⟨#[]⟩, .slice none 0 0]) := ⟨Tryz.underlying30, by kernel_rfl, rfl, by decide⟩

/-- An owned row of files is a slice of files. -/
theorem isFs_own {S : Nat → Prop} {w : World} {B : Nat} {v : Value} {F : M.Fs} {xs : List Value} (o : w.ownsRow B 55 2 v F.length (fcs F xs)) (d : FsD S w F xs) (hs : ∀ k, v.ownBlock = some k → S k) : IsFs S w v F xs := by
  refine ⟨d, ?_⟩
  rcases o.2 with ⟨e, hn⟩ | ⟨g, cap', cur, e, hb, hg, hn, hm, hsz, ht⟩
  · have h0 : F = [] := by cases F with | nil => rfl | cons a r => simp at hn
    subst h0
    exact ⟨none, 0, e, Nat.le_refl _, Nat.zero_le _, fun _ => rfl, .inl rfl⟩
  · subst e
    refine ⟨_, cap', rfl, by omega, hm, (fun h => by cases h), ?_⟩
    by_cases h0 : F = []
    · exact .inl h0
    · refine .inr ⟨g, 0, rfl, hs g rfl, (o.lt g rfl).2, fun j u hj => ?_⟩
      have hl := fcs_len d.len
      have hj' : j < (fcs F xs).length := (List.getElem?_eq_some_iff.1 hj).1
      obtain ⟨g2, e9, _, cs, _⟩ := ownCells o (by cases F; exact absurd rfl h0; simp)
      injection e9 with e9
      injection e9 with e9
      subst e9
      rw [Nat.zero_add, cs _ hj', ← hj]

end Go.Proofs.YtgmhfianpdhnmaaGreatDoor
