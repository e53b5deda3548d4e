/-
  WHAT IS LEFT BEHIND A VALUE IS NO LONGER THAN WHAT WAS THERE. Conditions: none.
  A BLOCK WRITTEN OVER IN ITS MIDDLE. Nothing of the program. Conditions: none.
  AN OWNED ROW WHOSE LAST ELEMENT IS WRITTEN OVER. Nothing of the program. Conditions: as each says.
  VALUES AS THEY LIE, EACH ROW BY ITSELF (IsT: as IsV, and no block serves two rows). Conditions: none.
  THE PROGRAM'S READER: a list's part, if value holds. Conditions: texts of up to 65536 bytes; the library's variables lie as laid.
-/
import Derived.Test.YtbgadfaiehkanaaGreatDoorJsC6
import Derived.Test.YtbgadfaiehkanaaGreatDoorPj3
import Derived.Deep.MidRow
import Derived.Test.YtbgadfaiehkanaaGreatDoorPj19
import Derived.Test.YtbgadfaiehkanaaGreatDoorPj9
import Derived.Test.YtbgadfaiehkanaaGreatDoorRefJsN

namespace Go.Proofs.YtbgadfaiehkanaaGreatDoor
set_option linter.unusedVariables false
set_option maxRecDepth 100000

theorem M.blk_le (s : List UInt8) : (M.blk s).length ≤ s.length := by
  unfold M.blk
  exact (List.dropWhile_sublist _).length_le

theorem M.txtU_le (n : Nat) : ∀ (s o t r : List UInt8), s.length ≤ n → M.txtU s o = some (t, r) → r.length ≤ s.length := by
  induction n with
  | zero =>
    intro s o t r hn h
    have e : s = [] := List.eq_nil_of_length_eq_zero (by omega)
    rw [e] at h
    cases h
  | succ n ih =>
    intro s o t r hn h
    by_cases h34 : [34] <+: s
    · obtain ⟨q, rfl⟩ := h34
      rw [List.singleton_append, M.txtU_end] at h
      injection h with h
      injection h with _ h
      rw [← h]
      simp
    · rw [M.txtU_sgn s o h34] at h
      cases hs : M.sgn s with
      | none => rw [hs] at h; cases h
      | some p =>
        obtain ⟨v, q⟩ := p
        rw [hs] at h
        have := (M.sgn_less hs).1
        have := ih q _ t r (by omega) h
        omega

theorem M.num2_le {s r : List UInt8} {v : Int} (h : M.num2 s = some (v, r)) : r.length ≤ s.length := by
  unfold M.num2 at h
  cases hn : M.num s with
  | none => rw [hn] at h; cases h
  | some p =>
    obtain ⟨n, q⟩ := p
    rw [hn] at h
    dsimp only at h
    by_cases h45 : q.head? = some 45
    · rw [if_pos h45] at h; cases h
    · rw [if_neg h45] at h
      injection h with h
      injection h with _ h
      rw [← h, (M.itoa_num hn).1, List.length_append]
      omega

/-- A part leaves no more than there was. -/
def M.StepLe {α : Type} (step : List UInt8 → α → M.PR α) : Prop := ∀ s a a2 r, step s a = .ok a2 r → r.length ≤ s.length

theorem M.loopG_le {α : Type} {step : List UInt8 → α → M.PR α} (h : M.StepLe step) (shut : UInt8) (f : Nat) : M.StepLe (fun s a => M.loopG step shut f s a) := by
  induction f with
  | zero => intro s a a2 r e; cases e
  | succ f ih =>
    intro s a a2 r e
    dsimp only at e
    unfold M.loopG at e
    cases hs : step s a with
    | err c => rw [hs] at e; cases e
    | ok a3 r3 =>
      rw [hs] at e
      have h1 := h s a a3 r3 hs
      cases r3 with
      | nil => cases e
      | cons c r4 =>
        dsimp only at e
        rw [List.length_cons] at h1
        by_cases h2 : c = shut
        · rw [if_pos h2] at e
          injection e with _ e
          rw [← e]
          omega
        rw [if_neg h2] at e
        by_cases h3 : c = 44
        · rw [if_pos h3] at e
          have := ih r4 a3 a2 r e
          omega
        · rw [if_neg h3] at e; cases e

theorem M.partsG_le {α : Type} {step : List UInt8 → α → M.PR α} (h : M.StepLe step) (shut : UInt8) : M.StepLe (fun s a => M.partsG step shut s a) := by
  intro s a a2 r e
  dsimp only at e
  unfold M.partsG at e
  have hb := M.blk_le s
  cases hk : M.blk s with
  | nil =>
    rw [hk] at e
    have := M.loopG_le h shut _ _ _ _ _ e
    simp at this
    rw [this]
    simp
  | cons c q =>
    rw [hk] at e hb
    rw [List.length_cons] at hb
    dsimp only at e
    by_cases h1 : c = shut
    · rw [if_pos h1] at e
      injection e with _ e
      rw [← e]
      omega
    · rw [if_neg h1] at e
      have := M.loopG_le h shut _ _ _ _ _ e
      rw [List.length_cons] at this
      omega

def M.ValLe (val : List UInt8 → M.Res) : Prop := ∀ s x r, val s = .ok x r → r.length ≤ s.length

theorem M.lstep_le {val : List UInt8 → M.Res} (h : M.ValLe val) : M.StepLe (M.lstep val) := by
  intro s a a2 r e
  unfold M.lstep at e
  cases hv : val s with
  | err c => rw [hv] at e; cases e
  | ok x q =>
    rw [hv] at e
    injection e with _ e
    have := h s x q hv
    have := M.blk_le q
    rw [← e]
    omega

theorem M.mstep_le {val : List UInt8 → M.Res} (h : M.ValLe val) : M.StepLe (M.mstep val) := by
  intro s a a2 r e
  unfold M.mstep at e
  have hb := M.blk_le s
  cases hk : M.blk s with
  | nil => rw [hk] at e; cases e
  | cons c q =>
    rw [hk] at e hb
    rw [List.length_cons] at hb
    dsimp only at e
    by_cases h1 : c = 34
    · rw [if_pos h1] at e
      unfold M.mname at e
      cases ht : M.txt (q.length + 1) q [] with
      | none => rw [ht] at e; cases e
      | some p =>
        obtain ⟨nm, r1⟩ := p
        rw [ht] at e
        have h2 : r1.length ≤ q.length := M.txtU_le q.length q [] nm r1 (Nat.le_refl _) ht
        dsimp only at e
        cases ha : (a.any fun x => x.1 == nm) with
        | true => rw [ha] at e; cases e
        | false =>
          rw [ha] at e
          simp only [Bool.false_eq_true, if_false] at e
          have h3 := M.blk_le r1
          cases hk1 : M.blk r1 with
          | nil => rw [hk1] at e; cases e
          | cons c2 r2 =>
            rw [hk1] at e h3
            rw [List.length_cons] at h3
            unfold M.mtail at e
            dsimp only at e
            by_cases h4 : c2 = 58
            · rw [if_pos h4] at e
              cases hv : val r2 with
              | err c => rw [hv] at e; cases e
              | ok x r3 =>
                rw [hv] at e
                injection e with _ e
                have := h r2 x r3 hv
                have := M.blk_le r3
                rw [← e]
                omega
            · rw [if_neg h4] at e; cases e
    · rw [if_neg h1] at e; cases e

theorem M.mstep_len {val : List UInt8 → M.Res} {s : List UInt8} {a a2 : List (List UInt8 × M.GV)} {r : List UInt8} (e : M.mstep val s a = .ok a2 r) : a2.length = a.length + 1 := by
  unfold M.mstep at e
  cases hk : M.blk s with
  | nil => rw [hk] at e; cases e
  | cons c q =>
    rw [hk] at e
    dsimp only at e
    by_cases h1 : c = 34
    · rw [if_pos h1] at e
      unfold M.mname at e
      cases ht : M.txt (q.length + 1) q [] with
      | none => rw [ht] at e; cases e
      | some p =>
        obtain ⟨nm, r1⟩ := p
        rw [ht] at e
        dsimp only at e
        cases ha : (a.any fun x => x.1 == nm) with
        | true => rw [ha] at e; cases e
        | false =>
          rw [ha] at e
          simp only [Bool.false_eq_true, if_false] at e
          cases hk1 : M.blk r1 with
          | nil => rw [hk1] at e; cases e
          | cons c2 r2 =>
            rw [hk1] at e
            unfold M.mtail at e
            dsimp only at e
            by_cases h4 : c2 = 58
            · rw [if_pos h4] at e
              cases hv : val r2 with
              | err c => rw [hv] at e; cases e
              | ok x r3 =>
                rw [hv] at e
                injection e with e _
                rw [← e, List.length_append]
                rfl
            · rw [if_neg h4] at e; cases e
    · rw [if_neg h1] at e; cases e

theorem M.toRes_ok {α : Type} {f : α → M.GV} {p : M.PR α} {x : M.GV} {r : List UInt8} (h : p.toRes f = .ok x r) : ∃ a, p = .ok a r := by
  cases p with
  | err c => cases h
  | ok a q => injection h with _ h; exact ⟨a, by rw [h]⟩

theorem M.bare_le {val : List UInt8 → M.Res} (h : M.ValLe val) : M.ValLe (M.bare val) := by
  intro s x r e
  unfold M.bare at e
  by_cases h1 : M.wNull <+: s
  · rw [if_pos h1] at e; injection e with _ e; rw [← e, List.length_drop]; omega
  rw [if_neg h1] at e
  by_cases h2 : M.wTrue <+: s
  · rw [if_pos h2] at e; injection e with _ e; rw [← e, List.length_drop]; omega
  rw [if_neg h2] at e
  by_cases h3 : M.wFalse <+: s
  · rw [if_pos h3] at e; injection e with _ e; rw [← e, List.length_drop]; omega
  rw [if_neg h3] at e
  cases s with
  | nil => cases e
  | cons c q =>
    rw [List.length_cons]
    dsimp only at e
    by_cases c1 : c = 34
    · rw [if_pos c1] at e
      cases ht : M.txt (q.length + 1) q [] with
      | none => rw [ht] at e; cases e
      | some p =>
        obtain ⟨t, r1⟩ := p
        rw [ht] at e
        injection e with _ e
        have : r1.length ≤ q.length := M.txtU_le q.length q [] t r1 (Nat.le_refl _) ht
        rw [← e]
        omega
    rw [if_neg c1] at e
    by_cases c2 : c = 91
    · rw [if_pos c2] at e
      obtain ⟨a, e⟩ := M.toRes_ok e
      have := M.partsG_le (M.lstep_le h) 93 _ _ _ _ e
      omega
    rw [if_neg c2] at e
    by_cases c3 : c = 123
    · rw [if_pos c3] at e
      obtain ⟨a, e⟩ := M.toRes_ok e
      have := M.partsG_le (M.mstep_le h) 125 _ _ _ _ e
      omega
    rw [if_neg c3] at e
    cases hn : M.num2 (c :: q) with
    | none => rw [hn] at e; cases e
    | some p =>
      obtain ⟨n, r1⟩ := p
      rw [hn] at e
      injection e with _ e
      have := M.num2_le hn
      rw [← e]
      simpa using this

theorem M.val2_le (d : Nat) : M.ValLe (M.val2 d) := by
  induction d with
  | zero => intro s x r e; cases e
  | succ d ih =>
    intro s x r e
    have := M.bare_le ih (M.blk s) x r e
    have := M.blk_le s
    omega

end Go.Proofs.YtbgadfaiehkanaaGreatDoor

namespace Go.Proofs.YtbgadfaiehkanaaGreatDoor
open Go.RowKit
set_option linter.unusedVariables false

/-- The list l with what begins at o written over by vs. -/
def lay (l : List Value) (o : Nat) : List Value → List Value
  | [] => l
  | v :: r => lay (l.set o v) (o + 1) r

theorem lay_length (vs : List Value) : ∀ (l : List Value) (o : Nat), (lay l o vs).length = l.length := by
  induction vs with
  | nil => intro l o; rfl
  | cons v r ih => intro l o; rw [lay, ih, List.length_set]

theorem lay_mid (B : List Value) : ∀ (A C vs : List Value), vs.length = B.length → lay (A ++ (B ++ C)) A.length vs = A ++ (vs ++ C) := by
  induction B with
  | nil =>
    intro A C vs h
    obtain rfl : vs = [] := List.eq_nil_of_length_eq_zero h
    rfl
  | cons b B ih =>
    intro A C vs h
    match vs, h with
    | v :: vs, h =>
      have h' : vs.length = B.length := by simpa using h
      have := ih (A ++ [v]) C vs h'
      rw [lay, List.set_append_right _ _ (Nat.le_refl _), Nat.sub_self, List.cons_append, List.set_cons_zero]
      simpa using this

theorem Blk.setCells {g : Nat} {t : TypeId} (vs : List Value) : ∀ {w : World} {cs : List Value} (o : Nat), Blk w g t cs → Blk (w.setCells g o vs) g t (lay cs o vs) := by
  induction vs with
  | nil => intro w cs o h; exact h
  | cons v r ih => intro w cs o h; exact ih (o + 1) (h.set_ o v)

theorem only_setCells (g : Nat) (vs : List Value) : ∀ (w a : World) (o : Nat), Only g a w → Only g a (w.setCells g o vs) := by
  induction vs with
  | nil => intro w a o h; exact h
  | cons v r ih => intro w a o h; exact ih _ a (o + 1) (h.setCell (Or.inl rfl) v)

theorem Blk.there {w : World} {g : Nat} {t : TypeId} {cs : List Value} (h : Blk w g t cs) (o n : Nat) (hn : o + n ≤ cs.length) : w.there g o n := fun j hj => by
  refine ⟨?_, h.frozen _⟩
  rw [h.cell, List.getElem?_eq_getElem (by omega)]
  rfl

end Go.Proofs.YtbgadfaiehkanaaGreatDoor

namespace Go.Proofs.YtbgadfaiehkanaaGreatDoor
open Go.RowKit
set_option linter.unusedVariables false
set_option maxRecDepth 100000

theorem size_setCells (g : Nat) (vs : List Value) : ∀ (w : World) (o : Nat), (w.setCells g o vs).heap.size = w.heap.size := by
  induction vs with
  | nil => intro w o; rfl
  | cons v r ih =>
    intro w o
    rw [show w.setCells g o (v :: r) = (w.setCell ⟨g, o, none⟩ v).setCells g (o + 1) r from rfl, ih, World.size_setCell]

/-- What lies behind a row stays; its last element is written over. -/
theorem own_last {w : World} {B size n : Nat} {e : TypeId} {b cap m : Nat} {xs ys vs : List Value} (h : w.ownsRow B e size (.slice (some ⟨b, 0, none⟩) m cap) n (xs ++ ys)) (hv : vs.length = ys.length) :
    (w.setCells b xs.length vs).ownsRow B e size (.slice (some ⟨b, 0, none⟩) m cap) n (xs ++ vs) := by
  obtain ⟨h1, h2⟩ := h
  refine ⟨by rw [← h1, List.length_append, List.length_append, hv], ?_⟩
  rcases h2 with ⟨h2, _⟩ | ⟨g, cp, cur, he, hb, hg, hn, hm, hs, ht⟩
  · cases h2
  · injection he with e1 e2 e3
    injection e1 with e1
    injection e1 with e1
    subst e1 e2 e3
    have hB : Blk w b e cur.toList := by unfold Blk; rw [hg]
    have hB2 := hB.setCells vs xs.length
    obtain ⟨R, hR⟩ : ∃ R, R = cur.toList.drop (m * size) := ⟨_, rfl⟩
    have hsplit : cur.toList = xs ++ (ys ++ R) := by
      rw [hR, ← List.append_assoc, ← ht, List.take_append_drop]
    have hlen : cap * size = xs.length + (ys.length + R.length) := by
      rw [← hs, ← Array.length_toList, hsplit, List.length_append, List.length_append]
    rw [hsplit, lay_mid ys xs _ vs hv] at hB2
    refine .inr ⟨b, cap, (xs ++ (vs ++ R)).toArray, rfl, hb, hB2, hn, hm, ?_, ?_⟩
    · rw [List.size_toArray, List.length_append, List.length_append, hv, hlen]
    · show (xs ++ (vs ++ R)).take (m * size) = xs ++ vs
      have h3 : m * size = (xs ++ vs).length := by rw [← h1, List.length_append, List.length_append, hv]
      rw [← List.append_assoc, h3, List.take_left]

/-- The place behind a row's first elements may be written. -/
theorem own_there {w : World} {B size n : Nat} {e : TypeId} {b cap m : Nat} {xs ys : List Value} (h : w.ownsRow B e size (.slice (some ⟨b, 0, none⟩) m cap) n (xs ++ ys)) : w.there b xs.length ys.length := by
  obtain ⟨h1, h2⟩ := h
  rcases h2 with ⟨h2, _⟩ | ⟨g, cp, cur, he, hb, hg, hn, hm, hs, ht⟩
  · cases h2
  · injection he with e1 e2 e3
    injection e1 with e1
    injection e1 with e1
    subst e1 e2 e3
    have hB : Blk w b e cur.toList := by unfold Blk; rw [hg]
    refine hB.there _ _ ?_
    have h3 := congrArg List.length ht
    rw [List.length_take, List.length_append] at h3
    omega

theorem chg_setCells {F : Nat → Prop} (g : Nat) (vs : List Value) : ∀ (w a : World) (o : Nat), Chg F a w → (F g ∨ a.heap.size ≤ g) → Chg F a (w.setCells g o vs) := by
  induction vs with
  | nil => intro w a o h _; exact h
  | cons v r ih => intro w a o h hg; exact ih _ a (o + 1) (h.setCell _ v hg) hg

/-- An element into a row, as one step of a region that draws. -/
theorem step_store_last {P : Program} {ops : Array Oper} {o : Oper} {a : Act} {w : World} {K : Act → World → Prop} {Q : Exit → Act → World → Prop} {E : Prop} (hgd : o.guard = none) (ty : TypeId) (x y : Operand) (ho : o.op = .store ty x y)
    (B size n : Nat) (e : TypeId) (b cap m off : Nat) (xs ys vs : List Value) (hx : a.eval x = .pointer (some ⟨b, off, none⟩)) (hy : a.eval y = .agg vs.toArray) (hi : (P.info? ty).map (·.size) = some vs.length) (hoff : off = xs.length)
    (h1 : ∀ v ∈ vs, v.oneCell' = true) (hown : w.ownsRow B e size (.slice (some ⟨b, 0, none⟩) m cap) n (xs ++ ys)) (hv : vs.length = ys.length)
    (h : ∀ w', w'.ownsRow B e size (.slice (some ⟨b, 0, none⟩) m cap) n (xs ++ vs) → Chg (fun k => k = b) w w' → w'.heap.size = w.heap.size → K (a.put o.dst undef) w') : if Region.wanted o (yielded ops a.tmps) = true then Oper.wp P o a w K Q else E := by
  have hw : Region.wanted o (yielded ops a.tmps) = true := by simp [Region.wanted, hgd]
  rw [if_pos hw]
  subst hoff
  refine wp_store_mid (P := P) _ x y ho b xs.length vs.toArray hx hy (by rw [List.size_toArray, hv]; exact own_there hown) (by rw [List.size_toArray]; exact hi) (all_oneCell_toArray h1) ?_
  rw [List.toList_toArray]
  exact h _ (own_last hown hv) (chg_setCells b vs w w xs.length (Chg.refl _ w) (.inl rfl)) (size_setCells b vs w xs.length)


end Go.Proofs.YtbgadfaiehkanaaGreatDoor

namespace Go.Proofs.YtbgadfaiehkanaaGreatDoor
open Go.RowKit
set_option linter.unusedVariables false
set_option maxRecDepth 100000

/-- Things that lie in parts of Q, no two of them in one block. -/
def Fam (Q : Nat → Prop) (P : Nat → (Nat → Prop) → Prop) (n : Nat) : Prop :=
  ∃ T : Nat → Nat → Prop, (∀ i x, T i x → Q x) ∧ (∀ i j x, i ≠ j → T i x → T j x → False) ∧ ∀ i, i < n → P i (T i)

theorem Fam.map {Q R : Nat → Prop} {P P2 : Nat → (Nat → Prop) → Prop} {n : Nat} (h : Fam Q P n) (hq : ∀ x, Q x → R x) (hp : ∀ i T, i < n → (∀ x, T x → Q x) → P i T → P2 i T) : Fam R P2 n := by
  obtain ⟨T, h1, h2, h3⟩ := h
  exact ⟨T, fun i x hx => hq x (h1 i x hx), h2, fun i hi => hp i _ hi (h1 i) (h3 i hi)⟩

theorem Fam.all {Q : Nat → Prop} {P : Nat → (Nat → Prop) → Prop} {n : Nat} (h : Fam Q P n) : ∀ i, i < n → ∃ T : Nat → Prop, (∀ x, T x → Q x) ∧ P i T := by
  obtain ⟨T, h1, h2, h3⟩ := h
  exact fun i hi => ⟨T i, h1 i, h3 i hi⟩

theorem Fam.zero (Q : Nat → Prop) (P : Nat → (Nat → Prop) → Prop) : Fam Q P 0 := ⟨fun _ _ => False, fun _ _ h => h.elim, fun _ _ _ _ h => h.elim, fun i hi => absurd hi (Nat.not_lt_zero i)⟩

/-- One more, that lies by itself. -/
theorem Fam.snoc {Q R : Nat → Prop} {P P2 : Nat → (Nat → Prop) → Prop} {n : Nat} (h : Fam Q P n) (hp : ∀ i T, i < n → (∀ x, T x → Q x) → P i T → P2 i T) (hn : P2 n R) (hd : ∀ x, Q x → R x → False) : Fam (fun x => Q x ∨ R x) P2 (n + 1) := by
  obtain ⟨T, h1, h2, h3⟩ := h
  refine ⟨fun i x => if i < n then T i x else i = n ∧ R x, fun i x hx => ?_, fun i j x hij hi hj => ?_, fun i hi => ?_⟩
  · dsimp only at hx
    by_cases h : i < n
    · rw [if_pos h] at hx; exact .inl (h1 i x hx)
    · rw [if_neg h] at hx; exact .inr hx.2
  · dsimp only at hi hj
    by_cases h : i < n
    · rw [if_pos h] at hi
      by_cases k : j < n
      · rw [if_pos k] at hj; exact h2 i j x hij hi hj
      · rw [if_neg k] at hj; exact hd x (h1 i x hi) hj.2
    · rw [if_neg h] at hi
      by_cases k : j < n
      · rw [if_pos k] at hj; exact hd x (h1 j x hj) hi.2
      · rw [if_neg k] at hj; omega
  · dsimp only
    by_cases h : i < n
    · have := hp i (T i) h (h1 i) (h3 i h)
      simpa only [if_pos h] using this
    · have e : i = n := by omega
      subst e
      have : (fun x => if i < i then T i x else i = i ∧ R x) = R := by
        funext x
        rw [if_neg (Nat.lt_irrefl i)]
        exact propext ⟨fun h => h.2, fun h => ⟨rfl, h⟩⟩
      rw [this]
      exact hn

/-- Six cells are the value g, as deep as d at most, and no block serves two of its rows. -/
def IsT (S : Nat → Prop) (w : World) : Nat → List Value → M.GV → Prop
  | 0, _, _ => False
  | d + 1, cs, g => ∃ (lv mv : Value) (ls ms : List (List Value)) (Q R : Nat → Prop), cs = vcs g.k g.b g.n g.t lv mv ∧
      ls.length = g.l.length ∧ RowAt S w 6 lv g.l.length ls.flatten ∧ Fam Q (fun i T => IsT T w d (ls.getD i []) (g.l.getD i M.vNull)) g.l.length ∧
      ms.length = g.m.length ∧ RowAt S w 7 mv g.m.length ms.flatten ∧ Fam R (fun i T => ∃ c, ms.getD i [] = .string ⟨(g.m.getD i ([], M.vNull)).1.toArray⟩ :: c ∧ IsT T w d c (g.m.getD i ([], M.vNull)).2) g.m.length ∧
      (∀ x, Q x → S x ∧ lv.ownBlock ≠ some x ∧ mv.ownBlock ≠ some x ∧ ¬ R x) ∧ (∀ x, R x → S x ∧ lv.ownBlock ≠ some x ∧ mv.ownBlock ≠ some x) ∧ ∀ x, lv.ownBlock = some x → mv.ownBlock ≠ some x

theorem IsT.isV {S : Nat → Prop} {w : World} (d : Nat) : ∀ {S : Nat → Prop} {cs : List Value} {g : M.GV}, IsT S w d cs g → IsV S w d cs g := by
  induction d with
  | zero => exact fun h => h
  | succ d ih =>
    intro S cs g h
    obtain ⟨lv, mv, ls, ms, Q, R, rfl, h1, h2, h3, h4, h5, h6, h7, h8, _⟩ := h
    refine ⟨lv, mv, ls, ms, rfl, h1, h2, fun i hi => ?_, h4, h5, fun i hi => ?_⟩
    · obtain ⟨T, hT, h⟩ := h3.all i hi
      exact IsV.mono (fun x _ hx => (h7 x (hT x hx)).1) d (ih h)
    · obtain ⟨T, hT, c, e, h⟩ := h6.all i hi
      exact ⟨c, e, IsV.mono (fun x _ hx => (h8 x (hT x hx)).1) d (ih h)⟩

theorem IsT.v {S : Nat → Prop} {w : World} {d : Nat} {cs : List Value} {g : M.GV} (h : IsT S w d cs g) : IsV S w d cs g := IsT.isV (S := S) d h

theorem IsT.len {S : Nat → Prop} {w : World} {d : Nat} {cs : List Value} {g : M.GV} (h : IsT S w d cs g) : cs.length = 6 := h.v.len

theorem IsT.one {S : Nat → Prop} {w : World} {d : Nat} {cs : List Value} {g : M.GV} (h : IsT S w d cs g) : ∀ v ∈ cs, v.oneCell' = true := h.v.one

theorem IsT.chgS {F : Nat → Prop} {w w' : World} (d : Nat) (k : Chg F w w') : ∀ {S : Nat → Prop} {cs : List Value} {g : M.GV}, (∀ b, S b → ¬ F b) → IsT S w d cs g → IsT S w' d cs g := by
  induction d with
  | zero => exact fun _ h => h
  | succ d ih =>
    intro S cs g hF h
    obtain ⟨lv, mv, ls, ms, Q, R, rfl, h1, h2, h3, h4, h5, h6, h7, h8, h9⟩ := h
    refine ⟨lv, mv, ls, ms, Q, R, rfl, h1, h2.chg k hF, h3.map (fun _ h => h) (fun i T hi hT h => ih (fun b hb => hF b (h7 b (hT b hb)).1) h), h4, h5.chg k hF, h6.map (fun _ h => h) (fun i T hi hT h => ?_), h7, h8, h9⟩
    obtain ⟨c, e, h⟩ := h
    exact ⟨c, e, ih (fun b hb => hF b (h8 b (hT b hb)).1) h⟩

theorem IsT.monoS {R S : Nat → Prop} {w : World} (hs : ∀ b, S b → R b) (d : Nat) {cs : List Value} {g : M.GV} (h : IsT S w d cs g) : IsT R w d cs g := by
  cases d with
  | zero => exact h
  | succ d =>
    obtain ⟨lv, mv, ls, ms, Q, P, rfl, h1, h2, h3, h4, h5, h6, h7, h8, h9⟩ := h
    exact ⟨lv, mv, ls, ms, Q, P, rfl, h1, h2.mono (fun b _ hb => hs b hb), h3, h4, h5.mono (fun b _ hb => hs b hb), h6, fun x hx => ⟨hs x (h7 x hx).1, (h7 x hx).2⟩, fun x hx => ⟨hs x (h8 x hx).1, (h8 x hx).2⟩, h9⟩

theorem IsT.up {w : World} (d : Nat) : ∀ {S : Nat → Prop} {d' : Nat} {cs : List Value} {g : M.GV}, IsT S w d cs g → d ≤ d' → IsT S w d' cs g := by
  induction d with
  | zero => exact fun h => h.elim
  | succ d ih =>
    intro S d' cs g h hd
    obtain ⟨e, rfl⟩ : ∃ e, d' = e + 1 := ⟨d' - 1, by omega⟩
    obtain ⟨lv, mv, ls, ms, Q, R, rfl, h1, h2, h3, h4, h5, h6, h7, h8, h9⟩ := h
    refine ⟨lv, mv, ls, ms, Q, R, rfl, h1, h2, h3.map (fun _ h => h) (fun i T hi hT h => ih h (by omega)), h4, h5, h6.map (fun _ h => h) (fun i T hi hT h => ?_), h7, h8, h9⟩
    obtain ⟨c, e2, h⟩ := h
    exact ⟨c, e2, ih h (by omega)⟩

theorem IsT.below {S : Nat → Prop} {w w' : World} (k : Below w.heap.size w w') {d : Nat} {cs : List Value} {g : M.GV} (h : IsT S w d cs g) : IsT S w' d cs g := IsT.chgS d (Chg.of_below (F := fun _ => False) k) (fun _ _ h => h) h

theorem IsT.chg {S F : Nat → Prop} {w w' : World} (k : Chg F w w') (hF : ∀ b, S b → ¬ F b) (d : Nat) {cs : List Value} {g : M.GV} (h : IsT S w d cs g) : IsT S w' d cs g := IsT.chgS d k hF h

/-- All its blocks are there. -/
theorem IsT.lt {w : World} (d : Nat) : ∀ {S : Nat → Prop} {cs : List Value} {g : M.GV}, IsT S w d cs g → IsT (fun x => S x ∧ x < w.heap.size) w d cs g := by
  induction d with
  | zero => exact fun h => h
  | succ d ih =>
    intro S cs g h
    obtain ⟨lv, mv, ls, ms, Q, R, rfl, h1, h2, h3, h4, h5, h6, h7, h8, h9⟩ := h
    have up : ∀ {size n : Nat} {v : Value} {xs : List Value}, RowAt S w size v n xs → RowAt (fun x => S x ∧ x < w.heap.size) w size v n xs := fun h => h.mono fun b hb hs => ⟨hs, hb⟩
    refine ⟨lv, mv, ls, ms, fun x => Q x ∧ x < w.heap.size, fun x => R x ∧ x < w.heap.size, rfl, h1, up h2, ?_, h4, up h5, ?_, fun x hx => ?_, fun x hx => ?_, h9⟩
    · obtain ⟨T, t1, t2, t3⟩ := h3
      exact ⟨fun i x => T i x ∧ x < w.heap.size, fun i x hx => ⟨t1 i x hx.1, hx.2⟩, fun i j x hij a b => t2 i j x hij a.1 b.1, fun i hi => ih (t3 i hi)⟩
    · obtain ⟨T, t1, t2, t3⟩ := h6
      refine ⟨fun i x => T i x ∧ x < w.heap.size, fun i x hx => ⟨t1 i x hx.1, hx.2⟩, fun i j x hij a b => t2 i j x hij a.1 b.1, fun i hi => ?_⟩
      obtain ⟨c, e, h⟩ := t3 i hi
      exact ⟨c, e, ih h⟩
    · have := h7 x hx.1
      exact ⟨⟨this.1, hx.2⟩, this.2.1, this.2.2.1, fun h => this.2.2.2 h.1⟩
    · have := h8 x hx.1
      exact ⟨⟨this.1, hx.2⟩, this.2⟩

theorem IsT.mono {R S : Nat → Prop} {w : World} (hs : ∀ b, b < w.heap.size → S b → R b) (d : Nat) {cs : List Value} {g : M.GV} (h : IsT S w d cs g) : IsT R w d cs g := IsT.monoS (fun b hb => hs b hb.2 hb.1) d (IsT.lt d h)

/-- A value without rows. -/
theorem IsT.leaf (S : Nat → Prop) (w : World) (d : Nat) (k : Int) (b : Bool) (n : Int) (t : List UInt8) : IsT S w (d + 1) (vcs k b n t (.slice none 0 0) (.slice none 0 0)) (.mk k b n t [] []) :=
  ⟨_, _, [], [], fun _ => False, fun _ => False, rfl, rfl, RowAt.nil S w 6, Fam.zero _ _, rfl, RowAt.nil S w 7, Fam.zero _ _, fun _ h => h.elim, fun _ h => h.elim, fun _ h => by cases h⟩

end Go.Proofs.YtbgadfaiehkanaaGreatDoor

namespace Go.Proofs.YtbgadfaiehkanaaGreatDoor
open Go.RowKit Go.Proofs Go.Shelf
set_option linter.unusedVariables false
set_option maxRecDepth 100000

abbrev PanT (T : TypeId) : Ending := .panicked [{ v := .iface T (.agg #[]), recovered := false }]
/-- Which panic tells which code. -/
def PanOf (T : TypeId) (c : Int) : Prop := T = 65 ∧ c = 3 ∨ T = 69 ∧ c = 8

/-- How value and bare end. -/
def JEnds (w : World) (g d : Nat) (res : M.Res) (e : Ending) (w' : World) : Prop :=
  match res with
  | .err c => ∃ T, e = PanT T ∧ PanOf T c ∧ Chg (fun b => b = g) w w'
  | .ok x r => ∃ lv mv, e = .returned (.agg (vcs x.k x.b x.n x.t lv mv).toArray) ∧ IsT (fun b => w.heap.size ≤ b) w' d (vcs x.k x.b x.n x.t lv mv) x ∧ Reads w g r w'

def M.blkR : M.Res → M.Res
  | .err c => .err c
  | .ok x r => .ok x (M.blk r)

/-- value holds, where values may be d deep. -/
def JVal (d : Nat) (q : Int) : Prop := ∀ (g : Nat) (s : List UInt8) (w : World), Rd w g s → s.length ≤ 65536 → JLaid w → 6 ≤ g →
  Calls Tryz.prog 38 #[.pointer (some ⟨g, 0, none⟩), .int .i64 q] w (JEnds w g d (M.blkR (M.val2 d s)))

/-- A list that is being read: what its closure holds, and the elements so far. -/
structure JL (w0 : World) (g gR gD gO d : Nat) (q : Int) (wr : World) (L : List M.GV) (lss : List (List Value)) (lv : Value) (Q : Nat → Prop) : Prop where
  kR : Blk wr gR 127 [.pointer (some ⟨g, 0, none⟩)]
  kD : Blk wr gD 3 [.int .i64 q]
  kO : Blk wr gO 24 [lv]
  row : wr.ownsRow (gO + 1) 27 6 lv L.length lss.flatten
  ln : lss.length = L.length
  each : Fam Q (fun i T => IsT T wr d (lss.getD i []) (L.getD i M.vNull)) L.length
  q : ∀ x, Q x → gO < x ∧ x < wr.heap.size ∧ lv.ownBlock ≠ some x
  chg : Chg (fun b => b = g) w0 wr
  l1 : g < w0.heap.size
  l2 : w0.heap.size ≤ gR
  l3 : gR < gD
  l4 : gD < gO

theorem JL.lt {w0 : World} {g gR gD gO d : Nat} {q : Int} {wr : World} {L : List M.GV} {lss : List (List Value)} {lv : Value} {Q : Nat → Prop} (S : JL w0 g gR gD gO d q wr L lss lv Q) : gO < wr.heap.size := S.kO.lt

/-- The reader goes on. -/
theorem JL.goes {w0 : World} {g gR gD gO d : Nat} {q : Int} {wr w' : World} {L : List M.GV} {lss : List (List Value)} {lv : Value} {Q : Nat → Prop} (S : JL w0 g gR gD gO d q wr L lss lv Q) (k : Chg (fun b => b = g) wr w') : JL w0 g gR gD gO d q w' L lss lv Q := by
  have h1 := S.l1; have h2 := S.l2; have h3 := S.l3; have h4 := S.l4
  refine ⟨S.kR.chg k (by omega), S.kD.chg k (by omega), S.kO.chg k (by omega), own_chg S.row k ?_, S.ln, S.each.map (fun _ h => h) (fun i T hi hT h => IsT.chg k ?_ d h), fun x hx => ?_, S.chg.go k, h1, h2, h3, h4⟩
  · intro b hb e
    have := (S.row.lt b hb).1
    omega
  · intro b hb e
    have := (S.q b (hT b hb)).1
    omega
  · have := S.q x hx
    have := k.size
    exact ⟨by omega, by omega, by have := S.q x hx; exact this.2.2⟩

/-- One element more. -/
theorem JL.add {w0 wz WA w11 w12 : World} {g gR gD gO d : Nat} {q : Int} {L : List M.GV} {lss : List (List Value)} {lv v5 : Value} {Q : Nat → Prop} (S : JL w0 g gR gD gO d q wz L lss lv Q) {cs : List Value} {gx : M.GV}
    (kA : Chg (fun b => b = g) wz WA) (iv : IsT (fun b => wz.heap.size ≤ b) WA d cs gx) (hlt : ∀ b, lv.ownBlock = some b → b < wz.heap.size)
    (g9 : WA.grownBy w11 lv.ownBlock) (a9 : v5.ownBlock = lv.ownBlock ∨ v5.ownBlock = some WA.heap.size)
    (o12 : w12.ownsRow (gO + 1) 27 6 v5 (L.length + 1) (lss.flatten ++ cs)) (k12 : Chg (fun b => v5.ownBlock = some b ∨ b = gO) w11 w12) (kO : Blk w12 gO 24 [v5]) :
    JL w0 g gR gD gO d q w12 (L ++ [gx]) (lss ++ [cs]) v5 (fun x => Q x ∨ (wz.heap.size ≤ x ∧ x < WA.heap.size)) := by
  have h1 := S.l1; have h2 := S.l2; have h3 := S.l3; have h4 := S.l4
  have hzl := S.lt
  have sA := kA.size
  have s11 := g9.size
  have s12 := k12.size
  have hw0 := S.chg.size
  have hz : Chg (fun x => x = g ∨ x = gO ∨ lv.ownBlock = some x ∨ WA.heap.size ≤ x) wz w12 := by
    have c1 : Chg (fun x => x = g ∨ x = gO ∨ lv.ownBlock = some x ∨ WA.heap.size ≤ x) wz WA := kA.mono fun _ _ h => .inl h
    have c2 : Chg (fun x => x = g ∨ x = gO ∨ lv.ownBlock = some x ∨ WA.heap.size ≤ x) WA w11 := Chg.of_grown g9 fun k hk => .inr (.inr (.inl hk))
    refine (c1.trans c2 fun _ _ h => h).trans k12 ?_
    rintro x _ (hx | hx)
    · rcases a9 with a | a
      · exact .inr (.inr (.inl (a ▸ hx)))
      · rw [a] at hx; injection hx with hx; exact .inr (.inr (.inr (by omega)))
    · exact .inr (.inl hx)
  have hA : Chg (fun x => x = gO ∨ lv.ownBlock = some x ∨ WA.heap.size ≤ x) WA w12 := by
    have c2 : Chg (fun x => x = gO ∨ lv.ownBlock = some x ∨ WA.heap.size ≤ x) WA w11 := Chg.of_grown g9 fun k hk => .inr (.inl hk)
    refine c2.trans k12 ?_
    rintro x _ (hx | hx)
    · rcases a9 with a | a
      · exact .inr (.inl (a ▸ hx))
      · rw [a] at hx; injection hx with hx; exact .inr (.inr (by omega))
    · exact .inl hx
  have hown : ∀ x, lv.ownBlock = some x → gO < x ∧ x < wz.heap.size := fun x hx => by have := (S.row.lt x hx).1; exact ⟨by omega, hlt x hx⟩
  refine ⟨S.kR.chg hz ?_, S.kD.chg hz ?_, kO, ?_, ?_, ?_, ?_, ?_, h1, h2, h3, h4⟩
  · rintro (h | h | h | h)
    · omega
    · omega
    · have := hown _ h; omega
    · omega
  · rintro (h | h | h | h)
    · omega
    · omega
    · have := hown _ h; omega
    · omega
  · rw [List.length_append, List.flatten_append, List.length_singleton, List.flatten_cons, List.flatten_nil, List.append_nil]
    exact o12
  · rw [List.length_append, List.length_append, S.ln]
    rfl
  · rw [List.length_append, List.length_singleton]
    refine Fam.snoc S.each (fun i T h hT hI => ?_) ?_ (fun x hx hr => by have := S.q x hx; omega)
    · rw [getD_snoc_lt _ _ _ _ (by rw [S.ln]; exact h), getD_snoc_lt _ _ _ _ h]
      refine IsT.chg hz ?_ d hI
      intro x hx hf
      have h5 := S.q x (hT x hx)
      rcases hf with hf | hf | hf | hf
      · omega
      · omega
      · exact h5.2.2 hf
      · omega
    · rw [getD_snoc_ge _ _ _ _ S.ln.symm, getD_snoc_ge _ _ _ _ rfl]
      refine IsT.chg hA ?_ d (IsT.mono (R := fun x => wz.heap.size ≤ x ∧ x < WA.heap.size) (fun x h1 h2 => ⟨h2, h1⟩) d iv)
      rintro x hx hf
      rcases hf with hf | hf | hf
      · omega
      · have := hown _ hf; omega
      · omega
  · rintro x (hx | hx)
    · have h5 := S.q x hx
      refine ⟨h5.1, by omega, fun e => ?_⟩
      rcases a9 with a | a
      · exact h5.2.2 (a ▸ e)
      · rw [a] at e
        injection e with e
        omega
    · refine ⟨by omega, by omega, fun e => ?_⟩
      rcases a9 with a | a
      · have := hown x (a ▸ e); omega
      · rw [a] at e
        injection e with e
        omega
  · refine ⟨hz.os.trans S.chg.os, hz.tape.trans S.chg.tape, hz.output.trans S.chg.output, by have := hz.size; omega, fun k hk hf => ?_⟩
    rw [hz.block k (by omega) ?_]
    · exact S.chg.block k hk hf
    · rintro (h | h | h | h)
      · exact hf h
      · omega
      · have := hown _ h; omega
      · omega

end Go.Proofs.YtbgadfaiehkanaaGreatDoor
