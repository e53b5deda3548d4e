/-
  WHAT IS READ IS AS LONG AS IT MAY BE: names, texts, how many members. Conditions: none.
  CONTRACTS OF May: of a value that may be; of a number, whatever it is. Conditions: names and texts as long as they may be; fewer than 100000 members; the library's tables lie as laid.
  CONTRACTS OF Go's LIBRARY THAT word.Hex AND word.Unhex LEAN ON ((*strings.Builder).Grow, WriteByte, String; strings.IndexByte): the library's contracts at this translation's numbers. Conditions: as each says.
  PLAIN MATHEMATICS OF HEXADECIMAL TEXTS: lists of bytes, nothing of the program. Conditions: none.
  CONTRACTS OF word.Hex AND word.Unhex. Conditions: rows of up to 2^40 bytes.
-/
import Derived.Test.YtbgadfaiehkanaaGreatDoorJsF4
import Derived.Shelf.Strings.Builder1
import Derived.Shelf.Strings.Builder2
import Derived.Shelf.Small.Strs
import Derived.Test.YtbgadfaiehkanaaGreatDoorChecked
import Derived.Lib.Bytealg
import Derived.Test.YtbgadfaiehkanaaGreatDoorPj2
import Derived.WalkSpells

namespace Go.Proofs.YtbgadfaiehkanaaGreatDoor
set_option linter.unusedVariables false
set_option maxRecDepth 100000

/-- What holds of what was read so far, and of what is left. -/
theorem M.loopG_inv {α : Type} {step : List UInt8 → α → M.PR α} (I F : List UInt8 → α → Prop) (hs : ∀ s a a2 r, I s a → step s a = .ok a2 r → ∀ c r2, r = c :: r2 → I r2 a2) (hf : ∀ s a, I s a → F s a) (shut : UInt8) (f : Nat) : ∀ s a a2 r, I s a → M.loopG step shut f s a = .ok a2 r → F r a2 := by
  induction f with
  | zero => intro s a a2 r _ e; cases e
  | succ f ih =>
    intro s a a2 r hi e
    unfold M.loopG at e
    cases hst : step s a with
    | err c => rw [hst] at e; cases e
    | ok a3 r3 =>
      rw [hst] at e
      cases r3 with
      | nil => cases e
      | cons c r4 =>
        have h1 := hs s a a3 _ hi hst c r4 rfl
        dsimp only at e
        by_cases h2 : c = shut
        · rw [if_pos h2] at e
          injection e with e1 e2
          rw [← e1, ← e2]
          exact hf _ _ h1
        rw [if_neg h2] at e
        by_cases h3 : c = 44
        · rw [if_pos h3] at e
          exact ih r4 a3 a2 r h1 e
        · rw [if_neg h3] at e; cases e

theorem M.partsG_inv {α : Type} {step : List UInt8 → α → M.PR α} (I F : List UInt8 → α → Prop) (hs : ∀ s a a2 r, I s a → step s a = .ok a2 r → ∀ c r2, r = c :: r2 → I r2 a2) (hf : ∀ s a, I s a → F s a) (hm : ∀ s r a, r.length ≤ s.length → I s a → I r a) (shut : UInt8) (s r : List UInt8) (a a2 : α) (hi : I s a) (e : M.partsG step shut s a = .ok a2 r) : F r a2 := by
  unfold M.partsG at e
  have hb := M.blk_le s
  cases hk : M.blk s with
  | nil =>
    rw [hk] at e
    exact M.loopG_inv I F hs hf shut _ _ _ _ _ (hm s [] a (by simp) hi) e
  | cons c q =>
    rw [hk] at e hb
    rw [List.length_cons] at hb
    dsimp only at e
    by_cases h1 : c = shut
    · rw [if_pos h1] at e
      injection e with e1 e2
      rw [← e1, ← e2]
      exact hf _ _ (hm s q a (by omega) hi)
    · rw [if_neg h1] at e
      exact M.loopG_inv I F hs hf shut _ _ _ _ _ (hm s (c :: q) a (by rw [List.length_cons]; omega) hi) e

theorem M.mstep_what {val : List UInt8 → M.Res} {s : List UInt8} {a a2 : List (List UInt8 × M.GV)} {r : List UInt8} (e : M.mstep val s a = .ok a2 r) :
    ∃ nm x q q2 r2, q.length ≤ s.length ∧ M.txtU q [] = some (nm, q2) ∧ a2 = a ++ [(nm, x)] ∧ (∃ s3, s3.length ≤ s.length ∧ val s3 = .ok x r2) := by
  unfold M.mstep at e
  have hb := M.blk_le s
  cases hk : M.blk s with
  | nil => rw [hk] at e; cases e
  | cons c q =>
    rw [hk] at e hb
    rw [List.length_cons] at hb
    dsimp only at e
    by_cases h1 : c = 34
    · rw [if_pos h1] at e
      unfold M.mname at e
      rw [show M.txt (q.length + 1) q [] = M.txtU q [] from rfl] at e
      cases ht : M.txtU q [] with
      | none => rw [ht] at e; cases e
      | some p =>
        obtain ⟨nm, q2⟩ := p
        rw [ht] at e
        dsimp only at e
        split at e
        · cases e
        have h2 := M.txtU_le _ q [] nm q2 (Nat.le_refl _) ht
        have h3 := M.blk_le q2
        cases hk2 : M.blk q2 with
        | nil => rw [hk2] at e; cases e
        | cons c2 q3 =>
          rw [hk2] at e h3
          rw [List.length_cons] at h3
          unfold M.mtail at e
          dsimp only at e
          by_cases h4 : c2 = 58
          · rw [if_pos h4] at e
            cases hv : val q3 with
            | err c => rw [hv] at e; cases e
            | ok x r2 =>
              rw [hv] at e
              injection e with e1 e2
              exact ⟨nm, x, q, q2, r2, by omega, ht, e1.symm, q3, by omega, hv⟩
          · rw [if_neg h4] at e; cases e
    · rw [if_neg h1] at e; cases e

theorem M.fit_leaf (d : Nat) (k : Int) (b : Bool) (n : Int) (t : List UInt8) (h : t.length ≤ maxLen) : M.Fit (d + 1) (.mk k b n t [] []) :=
  ⟨h, by show 0 < 100000; decide, fun x hx => (by cases hx), fun x hx => (by cases hx)⟩

theorem M.val2_fit (d : Nat) : ∀ s x r, s.length ≤ 65536 → M.val2 d s = .ok x r → M.Fit d x := by
  induction d with
  | zero => intro s x r _ e; cases e
  | succ d ih =>
    intro s x r hl e
    rw [show M.val2 (d + 1) s = M.bare (M.val2 d) (M.blk s) from rfl] at e
    have hb := M.blk_le s
    generalize M.blk s = s2 at e hb
    have hm0 : ([] : List UInt8).length ≤ maxLen := by decide
    by_cases h1 : M.wNull <+: s2
    · rw [M.bare_1 h1] at e; injection e with e _; rw [← e]; exact M.fit_leaf d _ _ _ _ hm0
    by_cases h2 : M.wTrue <+: s2
    · rw [M.bare_2 h1 h2] at e; injection e with e _; rw [← e]; exact M.fit_leaf d _ _ _ _ hm0
    by_cases h3 : M.wFalse <+: s2
    · rw [M.bare_3 h1 h2 h3] at e; injection e with e _; rw [← e]; exact M.fit_leaf d _ _ _ _ hm0
    by_cases h4 : [34] <+: s2
    · obtain ⟨q, rfl⟩ := h4
      rw [List.singleton_append, M.bare_t] at e
      cases ht : M.txtU q [] with
      | none => rw [ht] at e; cases e
      | some p =>
        obtain ⟨t, r2⟩ := p
        rw [ht] at e
        injection e with e _
        rw [← e]
        have h5 := M.txtU_len _ q [] t r2 (Nat.le_refl _) ht
        rw [List.singleton_append, List.length_cons] at hb
        exact M.fit_leaf d _ _ _ _ (by unfold maxLen; simp at h5; omega)
    by_cases h5 : [91] <+: s2
    · obtain ⟨q, rfl⟩ := h5
      rw [List.singleton_append, M.bare_l] at e
      rw [List.singleton_append, List.length_cons] at hb
      cases hp : M.partsG (M.lstep (M.val2 d)) 93 q [] with
      | err c => rw [hp] at e; cases e
      | ok L r2 =>
        rw [hp] at e
        injection e with e _
        rw [← e]
        have := M.partsG_inv (fun s L => s.length ≤ 65536 ∧ ∀ x ∈ L, M.Fit d x) (fun _ L => ∀ x ∈ L, M.Fit d x) (by
          intro s a a2 r hi hst c r3 hr
          have hle := M.lstep_le (M.val2_le d) s a a2 r hst
          unfold M.lstep at hst
          cases hv : M.val2 d s with
          | err c => rw [hv] at hst; cases hst
          | ok y q3 =>
            rw [hv] at hst
            injection hst with e1 e2
            rw [hr, List.length_cons] at hle
            refine ⟨by have := hi.1; omega, fun z hz => ?_⟩
            rw [← e1] at hz
            rcases List.mem_append.1 hz with hz | hz
            · exact hi.2 z hz
            · rw [List.mem_singleton.1 hz]; exact ih s y q3 hi.1 hv) (fun s a h => h.2) (fun s r a hle h => ⟨by have := h.1; omega, h.2⟩) 93 q r2 [] L ⟨by omega, fun x hx => by cases hx⟩ hp
        exact ⟨hm0, by show 0 < 100000; decide, this, fun x hx => by cases hx⟩
    by_cases h6 : [123] <+: s2
    · obtain ⟨q, rfl⟩ := h6
      rw [List.singleton_append, M.bare_m] at e
      rw [List.singleton_append, List.length_cons] at hb
      cases hp : M.partsG (M.mstep (M.val2 d)) 125 q [] with
      | err c => rw [hp] at e; cases e
      | ok L r2 =>
        rw [hp] at e
        injection e with e _
        rw [← e]
        have := M.partsG_inv (fun (s : List UInt8) (L : List (List UInt8 × M.GV)) => L.length + s.length ≤ 65536 ∧ ∀ x ∈ L, x.1.length ≤ maxLen ∧ M.Fit d x.2) (fun _ L => L.length ≤ 65536 ∧ ∀ x ∈ L, x.1.length ≤ maxLen ∧ M.Fit d x.2) (by
          intro s a a2 r hi hst c r3 hr
          have hle := M.mstep_le (M.val2_le d) s a a2 r hst
          have hal := M.mstep_len hst
          obtain ⟨nm, y, q1, q2, r4, g1, g2, g3, s3, g4, g5⟩ := M.mstep_what hst
          rw [hr, List.length_cons] at hle
          refine ⟨by have := hi.1; omega, fun z hz => ?_⟩
          rw [g3] at hz
          rcases List.mem_append.1 hz with hz | hz
          · exact hi.2 z hz
          · rw [List.mem_singleton.1 hz]
            have h7 := M.txtU_len _ q1 [] nm q2 (Nat.le_refl _) g2
            have := hi.1
            exact ⟨by unfold maxLen; simp at h7; show nm.length ≤ _; omega, ih s3 y r4 (by omega) g5⟩) (fun s a h => ⟨by have := h.1; omega, h.2⟩) (fun s r a hle h => ⟨by have := h.1; omega, h.2⟩) 125 q r2 [] L ⟨by simp; omega, fun x hx => by cases hx⟩ hp
        exact ⟨hm0, by show L.length < 100000; have := this.1; omega, fun x hx => (by cases hx), this.2⟩
    rw [M.bare_n h1 h2 h3 h4 h5 h6] at e
    cases hn : M.num2 s2 with
    | none => rw [hn] at e; cases e
    | some p =>
      obtain ⟨n, r2⟩ := p
      rw [hn] at e
      injection e with e _
      rw [← e]
      exact M.fit_leaf d _ _ _ _ hm0

theorem M.parse_fit {b r : List UInt8} {g : M.GV} (h : M.parse b = .ok g r) : M.Fit 16 g := by
  rw [← M.parse2_eq] at h
  unfold M.parse2 at h
  split at h
  · cases h
  · rename_i hl
    cases hv : M.val2 16 b with
    | err c => rw [hv] at h; cases h
    | ok x r2 =>
      rw [hv] at h
      dsimp only at h
      split at h
      · injection h with h _
        rw [← h]
        exact M.val2_fit 16 b x r2 (by omega) hv
      · cases h

end Go.Proofs.YtbgadfaiehkanaaGreatDoor

namespace Go.Proofs.YtbgadfaiehkanaaGreatDoor
open Go.RowKit Go.Proofs Go.Shelf
set_option linter.unusedVariables false
set_option maxRecDepth 100000

theorem ma_at (d : Nat) : d ≤ 16 → MA d (17 - (d : Int)) := by
  induction d with
  | zero => intro _ S cs x w iv; exact iv.elim
  | succ d ih =>
    intro hd
    have h := ih (by omega)
    refine mayAt_any (q2 := 17 - (d : Int)) (by omega) ?_ h (mayMem_any h)
    unfold wrap64
    omega

set_option maxHeartbeats 4000000 in
theorem may_of (cs : List Value) (x : M.GV) (w : World) (S : Nat → Prop) (iv : IsV S w 16 cs x) (r : Bool)
    (HA : ∀ w1, Below w.heap.size w w1 → Calls Tryz.prog 41 #[.agg cs.toArray, .int .i64 1] w1 fun e w' => e = .returned (.bool r) ∧ Below w1.heap.size w1 w') :
    Calls Tryz.prog 15 #[.agg cs.toArray] w fun e w' => e = .returned (.bool r) ∧ Below w.heap.size w w' := by
  obtain ⟨a1, n1, e1, a2, n2, e2, hc⟩ := iv.cells
  subst hc
  have k1 : Below w.heap.size w (w.alloc (.cells #[.int .i64 x.k, .bool x.b, .int .i64 x.n, .string ⟨x.t.toArray⟩, .slice a1 n1 e1, .slice a2 n2 e2] 27)) := (Below.refl _ _).alloc (Nat.le_refl _) _
  have HK1 := Lib.hid k1
  have HA1 := Lib.hid (HA _ k1)
  rw [show (vcs x.k x.b x.n x.t (.slice a1 n1 e1) (.slice a2 n2 e2)).toArray = #[.int .i64 x.k, .bool x.b, .int .i64 x.n, .string ⟨x.t.toArray⟩, .slice a1 n1 e1, .slice a2 n2 e2] from rfl] at HA1 ⊢
  clear k1 HA iv
  go_enter Tryz.func15, Tryz.ntmps15
  go_wp2_with fail
  refine HA1.out.mono ?_
  rintro e w2 ⟨rfl, k2⟩
  have HK2 := Lib.hid (HK1.out.trans (k2.mono HK1.out.size))
  clear k2
  go_wp2
  go_ret
  exact ⟨rfl, HK2.out⟩

/-- A value that may be. -/
theorem may_yes (S : Nat → Prop) (cs : List Value) (x : M.GV) (w : World) (iv : IsV S w 16 cs x) (hm : M.MayP 16 x) (hf : M.Fit 16 x) (hL : JLaid w) :
    Calls Tryz.prog 15 #[.agg cs.toArray] w fun e w' => e = .returned (.bool true) ∧ Below w.heap.size w w' :=
  may_of cs x w S iv true fun w1 k1 => ma_at 16 (Nat.le_refl _) S cs x w1 (iv.below k1) hm hf (hL.below k1)

set_option maxHeartbeats 8000000 in
/-- A number that isn't one: mayAt. -/
theorem mayAt_far (n : Int) (w : World) (h : ¬ (-9007199254740991 ≤ n ∧ n ≤ 9007199254740991)) :
    Calls Tryz.prog 41 #[.agg (vcs 2 false n [] (.slice none 0 0) (.slice none 0 0)).toArray, .int .i64 1] w fun e w' => e = .returned (.bool false) ∧ Below w.heap.size w w' := by
  have HAL := Lib.hid fun w1 => alone_yes 2 false n [] none none 0 0 0 0 w1 ⟨.inr (.inr (.inl rfl)), fun _ => rfl, fun h => absurd rfl h, fun _ => rfl, fun _ => rfl, fun _ => rfl⟩
  have HNU := Lib.hid (mayNum_any n)
  have e8 : (decide (-9007199254740991 ≤ n) && decide (n ≤ 9007199254740991)) = false := by
    rw [← Bool.not_eq_true]
    intro e
    simp at e
    exact h e
  rw [e8] at HNU
  obtain ⟨W1, hW1⟩ : ∃ W, W = w.alloc (.cells #[.int .i64 2, .bool false, .int .i64 n, .string ⟨#[]⟩, .slice none 0 0, .slice none 0 0] 27) := ⟨_, rfl⟩
  obtain ⟨gX, hgX⟩ : ∃ y, y = w.heap.size := ⟨_, rfl⟩
  have B1 : Blk W1 gX 27 (vcs 2 false n [] (.slice none 0 0) (.slice none 0 0)) := by rw [hW1]; exact Blk.newAt _ _ _ _ _ hgX rfl
  have k1 : Below w.heap.size w W1 := by rw [hW1]; exact (Below.refl _ _).alloc (Nat.le_refl _) _
  have HB := Lib.hid B1
  have HK := Lib.hid k1
  have E1 := Lib.hid hW1
  have EX := Lib.hid hgX
  rw [show (vcs 2 false n [] (.slice none 0 0) (.slice none 0 0)).toArray = #[.int .i64 2, .bool false, .int .i64 n, .string ⟨#[]⟩, .slice none 0 0, .slice none 0 0] from rfl]
  clear h e8 B1 k1 hW1 hgX
  have cX0 : W1.cell? ⟨gX, 0, none⟩ = some (.int .i64 2) := HB.out.cell 0
  have cX1 : W1.cell? ⟨gX, 1, none⟩ = some (.bool false) := HB.out.cell 1
  have cX2 : W1.cell? ⟨gX, 2, none⟩ = some (.int .i64 n) := HB.out.cell 2
  have cX3 : W1.cell? ⟨gX, 3, none⟩ = some (.string ⟨#[]⟩) := HB.out.cell 3
  have cX4 : W1.cell? ⟨gX, 4, none⟩ = some (.slice none 0 0) := HB.out.cell 4
  have cX5 : W1.cell? ⟨gX, 5, none⟩ = some (.slice none 0 0) := HB.out.cell 5
  go_enter Tryz.func41, Tryz.ntmps41
  go_upto_region 1 with fail
  rw [← EX.out, ← E1.out]
  clear E1 EX
  go_wp2_with fail
  refine (HAL.out W1).mono ?_
  rintro e w2 ⟨rfl, k2⟩
  have B2 := HB.out.below k2 HB.out.lt
  have cX2 : w2.cell? ⟨gX, 2, none⟩ = some (.int .i64 n) := B2.cell 2
  have HK2 : Hid (Below w.heap.size w w2) := HK.out.trans (k2.mono HK.out.size)
  clear k2 B2 HB HK cX0 cX1 cX3 cX4 cX5
  go_wp2_with fail
  refine (HNU.out w2).mono ?_
  rintro e w3 ⟨rfl, rfl⟩
  go_wp2
  go_ret
  exact ⟨rfl, HK2.out⟩

/-- A number that isn't one. -/
theorem may_far (n : Int) (w : World) (h : ¬ (-9007199254740991 ≤ n ∧ n ≤ 9007199254740991)) :
    Calls Tryz.prog 15 #[.agg (vcs 2 false n [] (.slice none 0 0) (.slice none 0 0)).toArray] w fun e w' => e = .returned (.bool false) ∧ Below w.heap.size w w' :=
  may_of _ (M.vNum n) w (fun _ => True) (IsV.leaf _ w 15 2 false n []) false fun w1 _ => mayAt_far n w1 h

end Go.Proofs.YtbgadfaiehkanaaGreatDoor

namespace Go.Proofs.YtbgadfaiehkanaaGreatDoor
open Go.Shelf Go.RowKit Go.Proofs

def bren : Go.Shelf.Ren := ⟨fun | 165 => 174 | 167 => 141 | 169 => 47 | 240 => 138 | 241 => 202 | 276 => 172 | 277 => 223 | n => n, fun | 0 => 0 | 3 => 3 | 4 => 4 | 5 => 5 | 9 => 9 | 20 => 20 | 37 => 22 | 70 => 76 | 72 => 78 | 75 => 136 | 80 => 80 | 127 => 142 | 164 => 210 | n => n, fun | n => n⟩
theorem blays165 : Go.Proofs.Lays.n165 Tryz.prog bren := {
  mixed := by kernel_rfl
  f165 := Tryz.func174.trans (congrArg some (by kernel_rfl))
  f240 := Tryz.func138.trans (congrArg some (by kernel_rfl))
  f241 := Tryz.func202.trans (congrArg some (by kernel_rfl))
  f276 := Tryz.func172.trans (congrArg some (by kernel_rfl))
  f277 := Tryz.func223.trans (congrArg some (by kernel_rfl))
  t0 := Tryz.underlying0
  a0 := Tryz.isAgg0
  z0 := Tryz.sizeOf0
  v0 := Tryz.zeroValue0
  t3 := Tryz.underlying3
  a3 := Tryz.isAgg3
  z3 := Tryz.sizeOf3
  v3 := Tryz.zeroValue3
  t4 := Tryz.underlying4
  a4 := Tryz.isAgg4
  z4 := Tryz.sizeOf4
  v4 := Tryz.zeroValue4
  t9 := Tryz.underlying9
  a9 := Tryz.isAgg9
  z9 := Tryz.sizeOf9
  v9 := Tryz.zeroValue9
  t20 := Tryz.underlying20
  a20 := Tryz.isAgg20
  z20 := Tryz.sizeOf20
  v20 := Tryz.zeroValue20
  t37 := Tryz.underlying22
  a37 := Tryz.isAgg22
  z37 := Tryz.sizeOf22
  v37 := Tryz.zeroValue22
  t70 := Tryz.underlying76
  a70 := Tryz.isAgg76
  z70 := Tryz.sizeOf76
  v70 := Tryz.zeroValue76
  t72 := Tryz.underlying78
  a72 := Tryz.isAgg78
  z72 := Tryz.sizeOf78
  v72 := Tryz.zeroValue78
  t164 := Tryz.underlying210
  a164 := Tryz.isAgg210
  z164 := Tryz.sizeOf210
  v164 := Tryz.zeroValue210 }
theorem blays167 : Go.Proofs.Lays.n167 Tryz.prog bren := {
  mixed := by kernel_rfl
  f167 := Tryz.func141.trans (congrArg some (by kernel_rfl))
  f240 := Tryz.func138.trans (congrArg some (by kernel_rfl))
  f276 := Tryz.func172.trans (congrArg some (by kernel_rfl))
  t0 := Tryz.underlying0
  a0 := Tryz.isAgg0
  z0 := Tryz.sizeOf0
  v0 := Tryz.zeroValue0
  t4 := Tryz.underlying4
  a4 := Tryz.isAgg4
  z4 := Tryz.sizeOf4
  v4 := Tryz.zeroValue4
  t5 := Tryz.underlying5
  a5 := Tryz.isAgg5
  z5 := Tryz.sizeOf5
  v5 := Tryz.zeroValue5
  t9 := Tryz.underlying9
  a9 := Tryz.isAgg9
  z9 := Tryz.sizeOf9
  v9 := Tryz.zeroValue9
  t20 := Tryz.underlying20
  a20 := Tryz.isAgg20
  z20 := Tryz.sizeOf20
  v20 := Tryz.zeroValue20
  t37 := Tryz.underlying22
  a37 := Tryz.isAgg22
  z37 := Tryz.sizeOf22
  v37 := Tryz.zeroValue22
  t70 := Tryz.underlying76
  a70 := Tryz.isAgg76
  z70 := Tryz.sizeOf76
  v70 := Tryz.zeroValue76
  t72 := Tryz.underlying78
  a72 := Tryz.isAgg78
  z72 := Tryz.sizeOf78
  v72 := Tryz.zeroValue78
  t75 := Tryz.underlying136
  a75 := Tryz.isAgg136
  z75 := Tryz.sizeOf136
  v75 := Tryz.zeroValue136
  t164 := Tryz.underlying210
  a164 := Tryz.isAgg210
  z164 := Tryz.sizeOf210
  v164 := Tryz.zeroValue210 }
theorem blays169 : Go.Proofs.Lays.n169 Tryz.prog bren := {
  mixed := by kernel_rfl
  f169 := Tryz.func47.trans (congrArg some (by kernel_rfl))
  t0 := Tryz.underlying0
  a0 := Tryz.isAgg0
  z0 := Tryz.sizeOf0
  v0 := Tryz.zeroValue0
  t3 := Tryz.underlying3
  a3 := Tryz.isAgg3
  z3 := Tryz.sizeOf3
  v3 := Tryz.zeroValue3
  t9 := Tryz.underlying9
  a9 := Tryz.isAgg9
  z9 := Tryz.sizeOf9
  v9 := Tryz.zeroValue9
  t37 := Tryz.underlying22
  a37 := Tryz.isAgg22
  z37 := Tryz.sizeOf22
  v37 := Tryz.zeroValue22
  t70 := Tryz.underlying76
  a70 := Tryz.isAgg76
  z70 := Tryz.sizeOf76
  v70 := Tryz.zeroValue76
  t72 := Tryz.underlying78
  a72 := Tryz.isAgg78
  z72 := Tryz.sizeOf78
  v72 := Tryz.zeroValue78
  t127 := Tryz.underlying142
  a127 := Tryz.isAgg142
  z127 := Tryz.sizeOf142
  v127 := Tryz.zeroValue142 }
theorem bextra : Builder.Extra Tryz.prog bren := {
  sizeBuilder := by kernel_rfl
  liesBuilder := by kernel_rfl
  t5 := Tryz.underlying5
  a5 := Tryz.isAgg5
  z5 := Tryz.sizeOf5
  v5 := Tryz.zeroValue5
  infoByte := by kernel_rfl
  cellsByte := by kernel_rfl
  sizeByte := by kernel_rfl
  neB5 := by decide }

theorem grow_fresh (B b n : Nat) (w : World) (hB : B ≤ b) (hbk : w.heap[b]? = some (.cells #[.pointer none, .slice none 0 0] 78 (0, 0))) (hBw : B ≤ w.heap.size) (hn : n ≤ 281474976710656) :
    Calls Tryz.prog 174 #[.pointer (some ⟨b, 0, none⟩), .int .i64 n] w fun e w' => e = .returned (.tuple #[]) ∧ (Lib.BuilderAt 78 5 B b (.pointer (some ⟨b, 0, none⟩)) [] w' ∧ Below B w w') :=
  Any.Builder_Grow_fresh blays165 bextra B b n w hB hbk hBw hn

theorem writeByte_any (B b : Nat) (bs : List Value) (c : Int) (w : World) (h : Lib.IsBuilder 78 5 B b bs w) (hlen : bs.length + 1 ≤ 140737488355328) (hBw : B ≤ w.heap.size) :
    Calls Tryz.prog 141 #[.pointer (some ⟨b, 0, none⟩), .int .u8 c] w fun e w' => e = .returned .nilIface ∧ (Lib.BuilderAt 78 5 B b (.pointer (some ⟨b, 0, none⟩)) (bs ++ [.int .u8 c]) w' ∧ Below B w w') :=
  Any.Builder_WriteByte blays167 bextra B b bs c w h hlen hBw

theorem string_any (B b : Nat) (l : List UInt8) (w : World) (h : Lib.IsBuilder 78 5 B b (Lib.byteCells l) w) (hBw : B ≤ w.heap.size) :
    Calls Tryz.prog 47 #[.pointer (some ⟨b, 0, none⟩)] w fun e w' => e = .returned (.string ⟨l.toArray⟩) ∧ Below B w w' :=
  Any.Builder_String_any blays169 bextra B b l w h hBw

def iren : Go.Shelf.Ren := ⟨fun | 137 => 176 | 217 => 203 | 266 => 224 | n => n, fun | 9 => 9 | 5 => 5 | 3 => 3 | n => n, fun | n => n⟩
theorem ilays137 : Go.Proofs.Lays.n137 Tryz.prog iren := {
  mixed := by kernel_rfl
  f137 := Tryz.func176.trans (congrArg some (by kernel_rfl))
  f217 := Tryz.func203.trans (congrArg some (by kernel_rfl))
  f266 := Tryz.func224.trans (congrArg some (by kernel_rfl))
  t3 := Tryz.underlying3
  a3 := Tryz.isAgg3
  z3 := Tryz.sizeOf3
  v3 := Tryz.zeroValue3
  t5 := Tryz.underlying5
  a5 := Tryz.isAgg5
  z5 := Tryz.sizeOf5
  v5 := Tryz.zeroValue5
  t9 := Tryz.underlying9
  a9 := Tryz.isAgg9
  z9 := Tryz.sizeOf9
  v9 := Tryz.zeroValue9 }

theorem indexByte_any (s : ByteArray) (c : Int) (w : World) :
    Calls Tryz.prog 176 #[.string s, .int .u8 c] w fun e w' => e = .returned (.int .i64 (Lib.indexByte s.data.toList c.toNat.toUInt8)) ∧ w' = w :=
  Any.strings_IndexByte ilays137 s c w

end Go.Proofs.YtbgadfaiehkanaaGreatDoor

namespace Go.Proofs.YtbgadfaiehkanaaGreatDoor.M

/-- A digit of base sixteen, as a letter. -/
def dig (n : Nat) : UInt8 := if n < 10 then UInt8.ofNat (48 + n) else UInt8.ofNat (87 + n)

/-- Bytes as digits. -/
def hex : List UInt8 → List UInt8
  | [] => []
  | b :: r => dig (b.toNat / 16) :: dig (b.toNat % 16) :: hex r

/-- A letter's worth; 99: it is no digit. -/
def hval (c : UInt8) : Nat := if 48 ≤ c.toNat ∧ c.toNat ≤ 57 then c.toNat - 48 else if 97 ≤ c.toNat ∧ c.toNat ≤ 102 then c.toNat - 87 else 99

def good (s : List UInt8) (j : Nat) : Prop := hval (s.getD (2 * j) 0) ≤ 15 ∧ hval (s.getD (2 * j + 1) 0) ≤ 15

instance (s : List UInt8) (j : Nat) : Decidable (good s j) := by unfold good; infer_instance

def byteAt (s : List UInt8) (j : Nat) : UInt8 := UInt8.ofNat (16 * hval (s.getD (2 * j) 0) + hval (s.getD (2 * j + 1) 0))

/-- The bytes of the first k pairs. -/
def upTo (s : List UInt8) : Nat → List UInt8
  | 0 => []
  | k + 1 => upTo s k ++ [byteAt s k]

/-- A text's bytes, if it is one of digits. -/
def unhex (s : List UInt8) : Option (List UInt8) := if s.length % 2 = 0 ∧ ∀ j < s.length / 2, good s j then some (upTo s (s.length / 2)) else none

theorem hex_length (b : List UInt8) : (hex b).length = 2 * b.length := by
  induction b with
  | nil => rfl
  | cons x r ih => simp only [hex, List.length_cons, ih]; omega

theorem hex_append (a b : List UInt8) : hex (a ++ b) = hex a ++ hex b := by
  induction a with
  | nil => rfl
  | cons x r ih => simp [hex, ih]

theorem upTo_length (s : List UInt8) (k : Nat) : (upTo s k).length = k := by
  induction k with
  | zero => rfl
  | succ k ih => simp [upTo, ih]

theorem val_dig : ∀ n : Fin 16, hval (dig n.val) = n.val := by decide

theorem val_of_dig (n : Nat) (h : n < 16) : hval (dig n) = n := val_dig ⟨n, h⟩

theorem hex_getD (b : List UInt8) : ∀ j, j < b.length → (hex b).getD (2 * j) 0 = dig ((b.getD j 0).toNat / 16) ∧ (hex b).getD (2 * j + 1) 0 = dig ((b.getD j 0).toNat % 16) := by
  induction b with
  | nil => intro j hj; simp at hj
  | cons x r ih =>
    intro j hj
    cases j with
    | zero => exact ⟨rfl, rfl⟩
    | succ j =>
      have := ih j (by simpa using hj)
      rw [show 2 * (j + 1) = 2 * j + 1 + 1 by omega]
      simpa [hex] using this

theorem upTo_hex (b : List UInt8) : ∀ k, k ≤ b.length → upTo (hex b) k = b.take k := by
  intro k
  induction k with
  | zero => intro _; simp [upTo]
  | succ k ih =>
    intro h
    rw [upTo, ih (by omega), List.take_succ_eq_append_getElem (by omega)]
    obtain ⟨e1, e2⟩ := hex_getD b k (by omega)
    have hlt := (b.getD k 0).toNat_lt
    have e : byteAt (hex b) k = b.getD k 0 := by
      rw [byteAt, e1, e2, val_of_dig _ (by omega), val_of_dig _ (by omega), Nat.div_add_mod]
      simp
    rw [e]
    simp [show k < b.length by omega]

theorem val_le (c : UInt8) : hval c ≤ 99 := by
  have := c.toNat_lt
  unfold hval
  split
  · omega
  · split <;> omega

theorem unhex_odd (s : List UInt8) (h : s.length % 2 ≠ 0) : unhex s = none := by
  unfold unhex
  rw [if_neg (fun k => h k.1)]

theorem unhex_none (s : List UInt8) (j : Nat) (hj : j < s.length / 2) (h : ¬ good s j) : unhex s = none := by
  unfold unhex
  rw [if_neg (fun k => h (k.2 j hj))]

theorem unhex_some (s : List UInt8) (h0 : s.length % 2 = 0) (h : ∀ j < s.length / 2, good s j) : unhex s = some (upTo s (s.length / 2)) := by
  unfold unhex
  rw [if_pos ⟨h0, h⟩]

theorem unhex_length (s b : List UInt8) (h : unhex s = some b) : b.length = s.length / 2 := by
  unfold unhex at h
  split at h
  · cases h
    exact upTo_length _ _
  · cases h

theorem unhex_hex (b : List UInt8) : unhex (hex b) = some b := by
  have hl := hex_length b
  have e : (hex b).length / 2 = b.length := by omega
  unfold unhex
  rw [if_pos, e, upTo_hex b b.length (Nat.le_refl _), List.take_length]
  refine ⟨by omega, fun j hj => ?_⟩
  obtain ⟨e1, e2⟩ := hex_getD b j (by omega)
  have hlt := (b.getD j 0).toNat_lt
  rw [good, e1, e2, val_of_dig _ (by omega), val_of_dig _ (by omega)]
  omega

/-- The row of digits. -/
def digits : List UInt8 := [48, 49, 50, 51, 52, 53, 54, 55, 56, 57, 97, 98, 99, 100, 101, 102]

theorem index_digit : ∀ c : Fin 256, Lib.indexByte digits (UInt8.ofNat c.val) = (if hval (UInt8.ofNat c.val) ≤ 15 then ((hval (UInt8.ofNat c.val) : Nat) : Int) else -1) := by decide +kernel

theorem index_of (c : UInt8) : Lib.indexByte digits c = (if hval c ≤ 15 then ((hval c : Nat) : Int) else -1) := by
  have := index_digit ⟨c.toNat, c.toNat_lt⟩
  simpa using this

theorem digits_at : ∀ n : Fin 16, digits.getD n.val 0 = dig n.val := by decide

end Go.Proofs.YtbgadfaiehkanaaGreatDoor.M

namespace Go.Proofs.YtbgadfaiehkanaaGreatDoor
set_option maxRecDepth 100000
open Go.RowKit

theorem digit_at (n : Nat) (h : n < 16) : Value.int .u8 (((ByteArray.mk #[48, 49, 50, 51, 52, 53, 54, 55, 56, 57, 97, 98, 99, 100, 101, 102])[n]'h).toNat : Int) = .int .u8 ((M.dig n).toNat : Int) := by
  have e := M.digits_at ⟨n, h⟩
  simp only at e
  rw [← e]
  have : M.digits.getD n 0 = (ByteArray.mk #[48, 49, 50, 51, 52, 53, 54, 55, 56, 57, 97, 98, 99, 100, 101, 102])[n]'h := by
    have h2 : n < M.digits.length := h
    simp only [List.getD_eq_getElem?_getD, List.getElem?_eq_getElem h2, Option.getD_some]
    rfl
  rw [this]

theorem hex_any (v : Value) (bs : List UInt8) (w : World) (h : IsB w v bs) (hs : bs.length ≤ 1099511627776) :
    Calls Tryz.prog 142 #[v] w fun e w' => e = .returned (.string ⟨(M.hex bs).toArray⟩) ∧ Below w.heap.size w w' := by
  obtain ⟨ao, cap, rfl, hl, hm, h⟩ := h
  unfold maxLen at hm
  have H : Hid (At w ao bs) := h
  clear h
  go_enter Tryz.func142, Tryz.ntmps142
  go_wp2_with fail
  have g := grow_fresh w.heap.size w.heap.size (2 * bs.length) (w.alloc (.cells #[.pointer none, .slice none 0 0] 78)) (Nat.le_refl _) (heap_alloc_new w _) (by simp) (by omega)
  rw [show ((2 * bs.length : Nat) : Int) = 2 * (bs.length : Int) by omega] at g
  refine g.mono ?_
  rintro e w1 ⟨rfl, hB, hb1⟩
  have hb0 : Below w.heap.size w w1 := ((Below.refl _ _).alloc (Nat.le_refl _) _).trans hb1
  clear g hb1
  go_wp2_with fail
  go_loopw [11] (fun i wr => ∃ k : Nat, k ≤ bs.length ∧ i = .int .i64 k ∧ Hid (Lib.BuilderAt 78 5 w.heap.size w.heap.size (.pointer (some ⟨w.heap.size, 0, none⟩)) (Lib.byteCells (M.hex (bs.take k))) wr) ∧ Below w.heap.size w wr)
    (fun i _ => bs.length - (intOf i).toNat)
  case atStart => exact ⟨0, Nat.zero_le _, rfl, hB, hb0⟩
  case round =>
    rename_i wr
    obtain ⟨k, hk, rfl, hbk, hb⟩ := hrel
    have hsz : w.heap.size ≤ wr.heap.size := hb.size
    by_cases hlt : k < bs.length
    · rcases H.out with h0 | ⟨b, off, rfl, hc0⟩
      · subst h0; simp at hlt
      have g := hc0 k hlt
      clear hc0
      obtain ⟨c, hcc⟩ : ∃ c, c = (bs.getD k 0).toNat := ⟨_, rfl⟩
      rw [← hcc] at g
      have hblt : b < w.heap.size := World.block_lt_of_cell? w _ g
      have hc : wr.cell? ⟨b, off + k, none⟩ = some (.int .u8 c) := by
        rw [hb.cell hblt]
        exact g
      have hc256 : c < 256 := by rw [hcc]; exact (bs.getD k 0).toNat_lt
      have HC : Hid (c = (bs.getD k 0).toNat) := hcc
      clear hcc
      have hand : bits BinOp.and .u8 (c : Int) 15 = (c : Int) % 16 := by
        have e := u8_and_nat c 15 hc256 (by omega)
        have e15 : c &&& 15 = c % 16 := Nat.and_two_pow_sub_one_eq_mod c 4
        rw [e15] at e
        exact e
      have HL : Hid ((Lib.byteCells (M.hex (bs.take k))).length = 2 * k) := by
        rw [Hid, byteCells_length, M.hex_length, List.length_take]
        omega
      go_wp2_with fail
      refine (writeByte_any w.heap.size w.heap.size _ _ _ (.inr hbk.out) (by rw [HL.out]; omega) hsz).mono ?_
      rintro e w2 ⟨rfl, hB2, hb2⟩
      have hbb := hb.trans hb2
      have hc2 : w2.cell? ⟨b, off + k, none⟩ = some (.int .u8 c) := by
        rw [hb2.cell hblt]
        exact hc
      have HB2 : Hid (Lib.BuilderAt 78 5 w.heap.size w.heap.size (.pointer (some ⟨w.heap.size, 0, none⟩)) (Lib.byteCells (M.hex (bs.take k)) ++ [.int .u8 ((M.dig (c / 16)).toNat : Int)]) w2) := by
        rw [← digit_at (c / 16) (by omega)]
        exact hB2
      clear hB2 hc
      go_wp2_with fail
      refine (writeByte_any w.heap.size w.heap.size _ _ _ (.inr HB2.out) (by rw [List.length_append, HL.out]; simp; omega) hbb.size).mono ?_
      rintro e w3 ⟨rfl, hB3, hb3⟩
      have hbc := hbb.trans hb3
      have HB3 : Hid (Lib.BuilderAt 78 5 w.heap.size w.heap.size (.pointer (some ⟨w.heap.size, 0, none⟩)) (Lib.byteCells (M.hex (bs.take (k + 1)))) w3) := by
        have e : Lib.byteCells (M.hex (bs.take (k + 1))) = Lib.byteCells (M.hex (bs.take k)) ++ [.int .u8 ((M.dig (c / 16)).toNat : Int)] ++ [.int .u8 ((M.dig (c % 16)).toNat : Int)] := by
          rw [List.take_succ_eq_append_getElem hlt, M.hex_append, byteCells_append, List.append_assoc]
          have ec : (bs[k]'hlt).toNat = c := by
            rw [HC.out]
            simp [hlt]
          simp [M.hex, Lib.byteCells, ec]
        rw [Hid, e, ← digit_at (c % 16) (by omega)]
        exact hB3
      clear hB3 HB2
      go_wp2
      go_roundw
      case rel => exact ⟨k + 1, by omega, by go_num, HB3, hbc⟩
      case measure => simp [intOf]; omega
    · obtain rfl : k = bs.length := by omega
      go_wp2_with fail
      refine (string_any w.heap.size w.heap.size (M.hex bs) _ (.inr (by have := hbk.out; rw [List.take_length] at this; exact this)) hsz).mono ?_
      rintro e w2 ⟨rfl, hb2⟩
      go_wp2
      go_ret
      exact ⟨rfl, hb.trans hb2⟩

theorem byte_at (s : ByteArray) (i : Nat) (h : i < s.size) : s[i] = s.data.toList.getD i 0 := by
  have h2 : i < s.data.toList.length := h
  simp only [List.getD_eq_getElem?_getD, List.getElem?_eq_getElem h2, Option.getD_some]
  rfl

theorem find_digit (c : UInt8) (n : Nat) (w : World) (h : M.hval c = n) (hn : n ≤ 15) :
    Calls Tryz.prog 176 #[.string ⟨#[48, 49, 50, 51, 52, 53, 54, 55, 56, 57, 97, 98, 99, 100, 101, 102]⟩, .int .u8 (c.toNat : Int)] w fun e w' => e = .returned (.int .i64 n) ∧ w = w' := by
  refine (indexByte_any _ _ w).mono ?_
  rintro e w' ⟨rfl, rfl⟩
  have e1 : ((c.toNat : Int).toNat.toUInt8) = c := by simp
  have e2 := M.index_of c
  rw [if_pos (by omega), h] at e2
  refine ⟨?_, rfl⟩
  rw [e1, ← e2]
  rfl

theorem find_none (c : UInt8) (w : World) (h : ¬ M.hval c ≤ 15) :
    Calls Tryz.prog 176 #[.string ⟨#[48, 49, 50, 51, 52, 53, 54, 55, 56, 57, 97, 98, 99, 100, 101, 102]⟩, .int .u8 (c.toNat : Int)] w fun e w' => e = .returned (.int .i64 (-1)) ∧ w = w' := by
  refine (indexByte_any _ _ w).mono ?_
  rintro e w' ⟨rfl, rfl⟩
  have e1 : ((c.toNat : Int).toNat.toUInt8) = c := by simp
  have e2 := M.index_of c
  rw [if_neg h] at e2
  refine ⟨?_, rfl⟩
  rw [e1, ← e2]
  rfl

theorem or_digits : ∀ a b : Fin 16, bits BinOp.or .i64 ((a.val : Int) * 16) (b.val : Int) = (a.val : Int) * 16 + b.val := by decide +kernel

/-- The call hands back what the text says as bytes, and whether it is one of digits. -/
def GivesUnhex (w : World) (s : List UInt8) (e : Ending) (w' : World) : Prop :=
  ∃ r, e = .returned (.tuple #[r, .bool (M.unhex s).isSome]) ∧ IsB w' r ((M.unhex s).getD []) ∧ Below w.heap.size w w'

theorem givesNone {w w' : World} {s : List UInt8} (h : M.unhex s = none) (hb : Below w.heap.size w w') : GivesUnhex w s (.returned (.tuple #[.slice none 0 0, .bool false])) w' :=
  ⟨_, by rw [h]; rfl, by rw [h]; exact IsB.nil w', hb⟩

theorem unhex_any (s : ByteArray) (w : World) (hs : s.size ≤ 1099511627776) :
    Calls Tryz.prog 146 #[.string s] w (GivesUnhex w s.data.toList) := by
  obtain ⟨i0, hi, hz0, hz1, hz2⟩ := info_parts Tryz.info5
  by_cases hodd : s.size % 2 = 0
  · obtain ⟨n, hn⟩ : ∃ n, n = s.size / 2 := ⟨_, rfl⟩
    have HN : Hid (n = s.size / 2) := hn
    have h2n : s.size = 2 * n := by omega
    have H2N : Hid (s.size = 2 * n) := h2n
    clear hn
    go_enter Tryz.func146, Tryz.ntmps146
    go_wp2_with (at_make; go_must (refine wpList_make_full _ rfl _ _ 22 rfl w.heap.size 5 i0 (.int .u8 0) 1 Tryz.underlying22 hi hz0 hz1 .i64 .i64 _ _ n rfl rfl (by omega) (by omega) (by rw [hz2]; omega) (by unfold maxLen; omega) (Nat.le_refl _) ?_))
    intro w1 hown hgrow
    have hb1 : Below w.heap.size w w1 := (Below.refl _ _).grown hgrow (Nat.le_refl _) (by intro k hk; cases hk)
    have HO : Hid (w1.ownsRow w.heap.size 5 1 (.slice (some ⟨w.heap.size, 0, none⟩) n n) n (Lib.byteCells (M.upTo s.data.toList 0) ++ List.replicate (n - 0) (.int .u8 0))) := by
      have e : Lib.byteCells (M.upTo s.data.toList 0) ++ List.replicate (n - 0) (Value.int .u8 0) = (madeCells #[Value.int IntKind.u8 0] n).toList := by
        simp [M.upTo, Lib.byteCells, toList_madeCells_one]
      rw [Hid, e]
      exact hown
    clear hown hgrow hi hz0 hz1 hz2
    go_wp2_with fail
    go_loopw [18] (fun i wr => ∃ k : Nat, k ≤ n ∧ i = .int .i64 k ∧ Hid (∀ j, j < k → M.good s.data.toList j) ∧ Hid (wr.ownsRow w.heap.size 5 1 (.slice (some ⟨w.heap.size, 0, none⟩) n n) n (Lib.byteCells (M.upTo s.data.toList k) ++ List.replicate (n - k) (.int .u8 0))) ∧ Below w.heap.size w wr)
      (fun i _ => n - (intOf i).toNat)
    case atStart => exact ⟨0, Nat.zero_le _, rfl, fun j hj => absurd hj (Nat.not_lt_zero j), HO, hb1⟩
    case round =>
      rename_i wr
      obtain ⟨k, hk, rfl, hgood, hown, hb⟩ := hrel
      by_cases hlt : k < n
      · have h1 : 2 * k < s.size := by omega
        have h2 : 2 * k + 1 < s.size := by omega
        have e1 := byte_at s (2 * k) h1
        have e2 := byte_at s (2 * k + 1) h2
        have E1 : Hid (s[2 * k] = s.data.toList.getD (2 * k) 0) := e1
        have E2 : Hid (s[2 * k + 1] = s.data.toList.getD (2 * k + 1) 0) := e2
        clear e1 e2
        by_cases hg1 : M.hval s[2 * k] ≤ 15
        · by_cases hg2 : M.hval s[2 * k + 1] ≤ 15
          · obtain ⟨n1, hn1⟩ : ∃ n1, M.hval s[2 * k] = n1 := ⟨_, rfl⟩
            obtain ⟨n2, hn2⟩ : ∃ n2, M.hval s[2 * k + 1] = n2 := ⟨_, rfl⟩
            rw [hn1] at hg1
            rw [hn2] at hg2
            have HN1 : Hid (M.hval s[2 * k] = n1) := hn1
            have HN2 : Hid (M.hval s[2 * k + 1] = n2) := hn2
            clear hn1 hn2
            have hor := or_digits ⟨n1, by omega⟩ ⟨n2, by omega⟩
            simp only at hor
            have hc : wr.cell? ⟨w.heap.size, k, none⟩ = some (.int .u8 0) := by
              rw [hown.out.cellAt k (by omega)]
              rw [List.getElem?_append_right (by simp [byteCells_length, M.upTo_length])]
              rw [byteCells_length, M.upTo_length, Nat.sub_self, List.getElem?_replicate, if_pos (by omega)]
            have hf : wr.frozen? ⟨w.heap.size, k, none⟩ = false := hown.out.frozenAt k
            go_wp2_with fail
            refine (find_digit _ n1 _ HN1.out hg1).mono ?_
            rintro e w2 ⟨rfl, rfl⟩
            go_wp2_with fail
            refine (find_digit _ n2 _ HN2.out hg2).mono ?_
            rintro e w2 ⟨rfl, rfl⟩
            go_wp2_with fail
            go_roundw
            case rel =>
              refine ⟨k + 1, by omega, by go_num, ?_, ?_, hb.setCell (Nat.le_refl _) _⟩
              · intro j hj
                by_cases hjk : j < k
                · exact hgood.out j hjk
                · obtain rfl : j = k := by omega
                  rw [M.good, ← E1.out, ← E2.out, HN1.out, HN2.out]
                  exact ⟨hg1, hg2⟩
              · have h := (hown.out.stored k (Value.int IntKind.u8 (↑n1 * 16 + ↑n2))).1
                rw [set_next _ _ _ k (n - k) (by simp [byteCells_length, M.upTo_length]) (by omega)] at h
                have e : Value.int IntKind.u8 ((n1 : Int) * 16 + n2) = .int .u8 ((M.byteAt s.data.toList k).toNat : Int) := by
                  rw [M.byteAt, ← E1.out, ← E2.out, HN1.out, HN2.out]
                  congr 1
                  rw [show (UInt8.ofNat (16 * n1 + n2)).toNat = (16 * n1 + n2) % 256 by simp]
                  omega
                rw [Hid, M.upTo, byteCells_append, Nat.sub_add_eq, e]
                rw [e] at h
                exact h
            case measure => simp [intOf]; omega
          · have HB : Hid (M.unhex s.data.toList = none) := M.unhex_none _ k (by show k < s.size / 2; omega) (fun g => hg2 (by rw [E2.out]; exact g.2))
            obtain ⟨n1, hn1⟩ : ∃ n1, M.hval s[2 * k] = n1 := ⟨_, rfl⟩
            rw [hn1] at hg1
            have HN1 : Hid (M.hval s[2 * k] = n1) := hn1
            have HG2 : Hid (¬ M.hval s[2 * k + 1] ≤ 15) := hg2
            clear hn1 hg2
            go_wp2_with fail
            refine (find_digit _ n1 _ HN1.out hg1).mono ?_
            rintro e w2 ⟨rfl, rfl⟩
            go_wp2_with fail
            refine (find_none _ _ HG2.out).mono ?_
            rintro e w2 ⟨rfl, rfl⟩
            go_wp2_with fail
            go_ret2
            exact givesNone HB.out hb
        · have HB : Hid (M.unhex s.data.toList = none) := M.unhex_none _ k (by show k < s.size / 2; omega) (fun g => hg1 (by rw [E1.out]; exact g.1))
          have HG1 : Hid (¬ M.hval s[2 * k] ≤ 15) := hg1
          clear hg1
          by_cases hg2 : M.hval s[2 * k + 1] ≤ 15
          · obtain ⟨n2, hn2⟩ : ∃ n2, M.hval s[2 * k + 1] = n2 := ⟨_, rfl⟩
            rw [hn2] at hg2
            have HN2 : Hid (M.hval s[2 * k + 1] = n2) := hn2
            clear hn2
            go_wp2_with fail
            refine (find_none _ _ HG1.out).mono ?_
            rintro e w2 ⟨rfl, rfl⟩
            go_wp2_with fail
            refine (find_digit _ n2 _ HN2.out hg2).mono ?_
            rintro e w2 ⟨rfl, rfl⟩
            go_wp2_with fail
            go_ret2
            exact givesNone HB.out hb
          · have HG2 : Hid (¬ M.hval s[2 * k + 1] ≤ 15) := hg2
            clear hg2
            go_wp2_with fail
            refine (find_none _ _ HG1.out).mono ?_
            rintro e w2 ⟨rfl, rfl⟩
            go_wp2_with fail
            refine (find_none _ _ HG2.out).mono ?_
            rintro e w2 ⟨rfl, rfl⟩
            go_wp2_with fail
            go_ret2
            exact givesNone HB.out hb
      · obtain rfl : k = n := by omega
        go_wp2_with fail
        go_ret2
        have hsome : M.unhex s.data.toList = some (M.upTo s.data.toList k) := by
          have hk2 : s.data.toList.length / 2 = k := HN.out.symm
          have := M.unhex_some s.data.toList hodd (by rw [hk2]; exact hgood.out)
          rw [hk2] at this
          exact this
        refine ⟨_, by rw [hsome]; rfl, ?_, hb⟩
        rw [hsome]
        have h := hown.out
        rw [Nat.sub_self, List.replicate_zero, List.append_nil] at h
        have hO : Own wr w.heap.size (.slice (some ⟨w.heap.size, 0, none⟩) k k) (M.upTo s.data.toList k) := by
          rw [Own, M.upTo_length]
          exact h
        exact hO.isB
  · have HO : Hid (M.unhex s.data.toList = none) := M.unhex_odd _ hodd
    go_enter Tryz.func146, Tryz.ntmps146
    go_wp2_with fail
    go_ret2
    exact givesNone HO.out (Below.refl _ _)

end Go.Proofs.YtbgadfaiehkanaaGreatDoor
