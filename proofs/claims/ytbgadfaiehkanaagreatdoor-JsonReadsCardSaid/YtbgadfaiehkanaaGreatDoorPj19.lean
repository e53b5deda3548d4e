/-
  CONTRACT OF orlopref15.value, whatever the depth. Conditions: rows of up to 2^40 bytes.
  CONTRACT OF orlopref15.Parse. Conditions: rows of up to 2^40 bytes.
  WHAT IS READ MAY BE, if what text reads is in UTF-8 (TextUtf: not yet proved). Conditions: none.
  WHAT text READS IS IN UTF-8. Conditions: none.
  THE PROGRAM'S READER: half, coded, escape. Conditions: texts of up to 2^40 bytes; the library's variables lie as laid.
-/
import Derived.Test.YtbgadfaiehkanaaGreatDoorRefJsR
import Derived.Test.YtbgadfaiehkanaaGreatDoorPj5

namespace Go.Proofs.YtbgadfaiehkanaaGreatDoor
open Go.RowKit
set_option linter.unusedVariables false
set_option maxRecDepth 100000

/-- items holds over maps, if value holds within. -/
def MapsOk : Prop := ∀ (d q : Nat), q + d = 16 → ValueOk d (q + 1) → ∀ (bv : Value) (b : List UInt8) (w : World) (i : Nat), IsB w bv b → i < b.length → b.length ≤ 1099511627776 → b.drop i = 123 :: b.drop (i + 1) →
  Calls Tryz.prog 91 #[bv, .int .i64 (i : Int), .int .i64 (q : Int)] w (ValEnds w b i (d + 1) (M.itemsTop d 123 (b.drop (i + 1))))

theorem rvalue_all (MAPS : MapsOk) (d : Nat) : ∀ q, q + d = 17 → ValueOk d q := by
  induction d with
  | zero =>
    intro q hq bv b w i h hi hl
    obtain rfl : q = 17 := by omega
    exact rvalue_deep bv b w h i hi hl
  | succ d ih =>
    intro q hq bv b w i h hi hl
    refine rvalue_any d q (by omega) ?_ bv b w h i hi hl
    intro bv b w i c h hi hl hd hc
    have VO := ih (q + 1) (by omega)
    rcases hc with rfl | rfl
    · exact ritems_list d q (by omega) VO bv b w i h hi hl hd
    · exact MAPS d q (by omega) VO bv b w i h hi hl hd

theorem maps_ok : MapsOk := fun d q hq VO bv b w i h hi hl hd => ritems_map d q hq VO bv b w i h hi hl hd

theorem rvalue_top : ValueOk 16 1 := rvalue_all maps_ok 16 1 rfl

end Go.Proofs.YtbgadfaiehkanaaGreatDoor

namespace Go.Proofs.YtbgadfaiehkanaaGreatDoor
open Go.RowKit
set_option linter.unusedVariables false
set_option maxRecDepth 100000

/-- How the document's Parse ends. -/
def ParseEnds (w : World) (res : M.Res) (e : Ending) (w' : World) : Prop :=
  match res with
  | .err c => e = .returned (.tuple #[zeroV, .int .i64 c]) ∧ c ≠ 0 ∧ Below w.heap.size w w'
  | .ok g r => ∃ lv mv, e = .returned (.tuple #[.agg (vcs g.k g.b g.n g.t lv mv).toArray, .int .i64 0]) ∧ IsV (fun x => w.heap.size ≤ x) w' 16 (vcs g.k g.b g.n g.t lv mv) g ∧ Below w.heap.size w w'

theorem results_cell2 {P : Program} {fn : Func} {p u : Tmp} {ty : TypeId} (h : fn.results = #[.cell p ty, .tmp u]) (tmps : Array Value) (w : World) (g : Nat) (t : TypeId) (cs : Array Value) (fr : Nat × Nat) (d : TypeDesc)
    (hp : tmps.getD p undef = .pointer (some ⟨g, 0, none⟩)) (hg : w.heap[g]? = some (.cells cs t fr))
    (hu : P.underlying ty = some d) (hd : (match d with | .struct _ | .array _ _ => true | _ => false) = true) (hi : (P.info? ty).map (·.size) = some cs.size) :
    (results fn tmps).run P w = .ok (.tuple #[.agg cs, tmps.getD u undef]) w := by
  have hp' : tmps[p]?.getD undef = .pointer (some ⟨g, 0, none⟩) := by simpa using hp
  simp [results, h, hp', asAddr, run_loadVar_row w g t ty cs fr d hg hu hd hi]

theorem M.parse_long {b : List UInt8} (h : 65536 < b.length) : M.parse b = .err 3 := by unfold M.parse; rw [if_pos h]
theorem M.parse_err {b : List UInt8} {c : Int} (h : ¬ 65536 < b.length) (h2 : M.val 16 b = .err c) : M.parse b = .err c := by unfold M.parse; rw [if_neg h, h2]
theorem M.parse_ok {b r : List UInt8} {g : M.GV} (h : ¬ 65536 < b.length) (h2 : M.val 16 b = .ok g r) : M.parse b = if M.blk r = [] then .ok g [] else .err 8 := by unfold M.parse; rw [if_neg h, h2]

set_option maxHeartbeats 8000000 in
theorem rparse_any (V : ValueOk 16 1) (bv : Value) (b : List UInt8) (w : World) (h : IsB w bv b) (hl : b.length ≤ 1099511627776) :
    Calls Tryz.prog 13 #[bv] w (ParseEnds w (M.parse b)) := by
  obtain ⟨g2, hg2⟩ : ∃ g, g = w.heap.size := ⟨_, rfl⟩
  have HG2 := Lib.hid hg2
  obtain ⟨W1, hW1⟩ : ∃ W, Hid (W = w.alloc (.cells #[.int .i64 0, .bool false, .int .i64 0, .string ⟨#[]⟩, .slice none 0 0, .slice none 0 0] 27)) := ⟨_, rfl⟩
  have HI1 : Hid (IsB W1 bv b) := by rw [Hid, hW1.out]; exact h.below ((Below.refl _ _).alloc (Nat.le_refl _) _)
  have K1 : Hid (Below w.heap.size w W1) := by rw [Hid, hW1.out]; exact (Below.refl _ _).alloc (Nat.le_refl _) _
  have B1 : Hid (Blk W1 g2 27 [.int .i64 0, .bool false, .int .i64 0, .string ⟨#[]⟩, .slice none 0 0, .slice none 0 0]) := by rw [Hid, hW1.out]; exact Blk.newAt _ _ _ _ _ hg2 rfl
  have Z1 : Hid (g2 < W1.heap.size) := by rw [Hid, hW1.out, hg2]; simp
  obtain ⟨n, hn⟩ : ∃ n, n = b.length := ⟨_, rfl⟩
  have HN := Lib.hid hn
  have HL := Lib.hid hl
  rw [← hn] at hl
  have hnl : (n : Int) ≤ 1099511627776 := by omega
  obtain ⟨res, hres⟩ : ∃ r, r = M.parse b := ⟨_, rfl⟩
  have HRES := Lib.hid hres
  rw [← hres]
  have CV := Lib.hid (V bv b W1 0 HI1.out (Nat.zero_le _) HL.out)
  rw [List.drop_zero] at CV
  obtain ⟨ao, cap, rfl, _, hcap, _⟩ := HI1.out
  rw [← HN.out] at HI1 h CV ⊢
  have HI0 := Lib.hid h
  clear h hl hn hres V
  by_cases hbig : 65536 < n
  · have b0 : (65536 : Int) < (n : Int) := by omega
    have HM : Hid (res = .err 3) := by rw [Hid, HRES.out]; exact M.parse_long (by rw [← HN.out]; exact hbig)
    clear hbig
    go_enter Tryz.func13, Tryz.ntmps13
    go_upto_region 1 with fail
    rw [← hW1.out, ← hg2]
    clear hg2 hW1
    go_wp2_with (refine wpList_store_blk rfl 27 (.tmp 2) (.tmp 10) rfl g2 _ rfl rfl 27 _ B1.out Tryz.sizeV rfl (by decide) ?_; intro w9 hb9 ho9)
    exact bodyPost_ret (results_cell2 rfl _ _ g2 _ _ _ _ rfl hb9 Tryz.underlying27 rfl Tryz.sizeV) rfl (by rw [HM.out]; exact ⟨rfl, by decide, K1.out.trans (ho9.below K1.out.size (by rw [HG2.out]; exact Nat.le_refl _))⟩)
  have b0 : ¬ (65536 : Int) < (n : Int) := by omega
  have HBIG : Hid (¬ 65536 < b.length) := by rw [Hid, ← HN.out]; exact hbig
  clear hbig
  obtain ⟨R, hR⟩ : ∃ R, R = M.val 16 b := ⟨_, rfl⟩
  have HR := Lib.hid hR
  rw [← hR] at CV
  clear hR
  go_enter Tryz.func13, Tryz.ntmps13
  go_upto_region 1 with fail
  rw [← hW1.out, ← hg2]
  clear hg2 hW1
  go_wp2_with fail
  refine CV.out.mono ?_
  intro e w8 hv
  have HV := Lib.hid hv
  clear hv
  cases R with
  | err c0 =>
    obtain ⟨rfl, hk0, k8⟩ := HV.out
    have HK0 := Lib.hid hk0
    have t2 : (c0 != 0) = true := by simpa using hk0
    have HM : Hid (res = .err c0) := by rw [Hid, HRES.out]; exact M.parse_err HBIG.out HR.out.symm
    have B8 := Lib.hid (B1.out.below k8 Z1.out)
    have K8 := Lib.hid (K1.out.trans (k8.mono K1.out.size))
    clear k8 hk0
    rw [zeroV]
    go_wp2_with (refine wpList_store_blk rfl 27 (.tmp 2) (.tmp 19) rfl g2 _ rfl rfl 27 _ (B8.out.alloc _) Tryz.sizeV rfl (by decide) ?_; intro w9 hb9 ho9)
    exact bodyPost_ret (results_cell2 rfl _ _ g2 _ _ _ _ rfl hb9 Tryz.underlying27 rfl Tryz.sizeV) rfl (by rw [HM.out]; exact ⟨rfl, HK0.out, (K8.out.alloc K8.out.size _).trans (ho9.below (Nat.le_trans K8.out.size (by simp)) (by rw [HG2.out]; exact Nat.le_refl _))⟩)
  | ok gx r =>
    obtain ⟨lx, mx, p, rfl, iv, p1, p2, p3, k8⟩ := HV.out
    obtain ⟨⟨la, ln, lc, rfl⟩, ⟨ma, mn, mc, rfl⟩⟩ := iv.shape
    rw [vcs_arr]
    have IV := Lib.hid iv
    rw [← HN.out] at p2
    have P2 := Lib.hid p2
    have hpl : (p : Int) ≤ 1099511627776 := by omega
    have B8 := Lib.hid (B1.out.below k8 Z1.out)
    have K8 := Lib.hid (K1.out.trans (k8.mono K1.out.size))
    have Z8 : Hid (W1.heap.size ≤ w8.heap.size) := k8.size
    have HM0 : Hid (res = if M.blk (b.drop p) = [] then .ok gx [] else .err 8) := by rw [Hid, HRES.out, ← p3]; exact M.parse_ok HBIG.out HR.out.symm
    obtain ⟨W9, hW9⟩ : ∃ W, Hid (W = w8.alloc (.cells #[.int .i64 gx.k, .bool gx.b, .int .i64 gx.n, .string ⟨gx.t.toArray⟩, .slice la ln lc, .slice ma mn mc] 27)) := ⟨_, rfl⟩
    obtain ⟨g4, hg4⟩ : ∃ g, Hid (g = w8.heap.size) := ⟨_, rfl⟩
    have B4 : Hid (Blk W9 g4 27 (vcs gx.k gx.b gx.n gx.t (.slice la ln lc) (.slice ma mn mc))) := by rw [Hid, hW9.out]; exact Blk.newAt _ _ _ _ _ hg4.out rfl
    have B9 : Hid (Blk W9 g2 27 [.int .i64 0, .bool false, .int .i64 0, .string ⟨#[]⟩, .slice none 0 0, .slice none 0 0]) := by rw [Hid, hW9.out]; exact B8.out.alloc _
    have K9 : Hid (Below w.heap.size w W9) := by rw [Hid, hW9.out]; exact K8.out.alloc K8.out.size _
    have IV9 : Hid (IsV (fun x => W1.heap.size ≤ x) W9 16 (vcs gx.k gx.b gx.n gx.t (.slice la ln lc) (.slice ma mn mc)) gx) := by rw [Hid, hW9.out]; exact IsV.below ((Below.refl _ _).alloc (Nat.le_refl _) _) IV.out
    have CB := Lib.hid (rblanks_any _ b W9 (HI0.out.below K9.out) p (by rw [← HN.out]; exact P2.out) HL.out)
    clear iv p1 p2 p3 k8
    go_upto_region 4 with fail
    rw [← hW9.out, ← hg4.out]
    clear hW9 hg4
    go_wp2_with fail
    refine CB.out.mono ?_
    rintro e w9 ⟨j, rfl, h1, h2, h3, rfl⟩
    rw [← HN.out] at h2
    have HJN := Lib.hid h2
    have HBL := Lib.hid h3
    have hjl : (j : Int) ≤ 1099511627776 := by omega
    clear h1 h2 h3 CB
    by_cases hjn : j = n
    · have t3 : ((j : Int) != (n : Int)) = false := by simp [hjn]
      have HM : Hid (res = .ok gx []) := by
        rw [Hid, HM0.out, ← HBL.out, List.drop_eq_nil_of_le (by rw [← HN.out, hjn]; exact Nat.le_refl _)]
        exact if_pos rfl
      have t4 : (j : Int) = (n : Int) := by omega
      go_wp2_with (first
        | (refine wpList_load_row rfl 27 (.tmp 4) rfl g4 rfl 27 _ _ _ B4.out Tryz.underlying27 rfl Tryz.sizeV ?_)
        | (refine wpList_store_blk rfl 27 (.tmp 2) (.tmp 28) rfl g2 _ rfl rfl 27 _ B9.out Tryz.sizeV rfl (by simpa using IV.out.one) ?_; intro w9 hb9 ho9))
      exact bodyPost_ret (results_cell2 rfl _ _ g2 _ _ _ _ rfl hb9 Tryz.underlying27 rfl Tryz.sizeV) rfl (by rw [HM.out]; exact ⟨.slice la ln lc, .slice ma mn mc, rfl, IsV.mono (fun x _ hx => Nat.le_trans K1.out.size hx) _ (IsV.chg (Chg.of_grown (F := fun x => x = g2) ho9 (fun k e => (Option.some.inj e).symm)) (fun x hx e => by have h1 := Z1.out; have h2 : W1.heap.size ≤ x := hx; omega) _ IV9.out), K9.out.trans (ho9.below K9.out.size (by rw [HG2.out]; exact Nat.le_refl _))⟩)
    · have t3 : ((j : Int) != (n : Int)) = true := by simp; omega
      have HM : Hid (res = .err 8) := by
        rw [Hid, HM0.out, ← HBL.out]
        exact if_neg fun e => by
          have := congrArg List.length e
          rw [List.length_drop, ← HN.out] at this
          simp at this
          have := HJN.out
          omega
      have t4 : ¬ (j : Int) = (n : Int) := by omega
      go_wp2_with (refine wpList_store_blk rfl 27 (.tmp 2) (.tmp 27) rfl g2 _ rfl rfl 27 _ B9.out Tryz.sizeV rfl (by decide) ?_; intro w9 hb9 ho9)
      exact bodyPost_ret (results_cell2 rfl _ _ g2 _ _ _ _ rfl hb9 Tryz.underlying27 rfl Tryz.sizeV) rfl (by rw [HM.out]; exact ⟨rfl, by decide, K9.out.trans (ho9.below K9.out.size (by rw [HG2.out]; exact Nat.le_refl _))⟩)

theorem rparse_all (bv : Value) (b : List UInt8) (w : World) (h : IsB w bv b) (hl : b.length ≤ 1099511627776) :
    Calls Tryz.prog 13 #[bv] w (ParseEnds w (M.parse b)) := rparse_any rvalue_top bv b w h hl

end Go.Proofs.YtbgadfaiehkanaaGreatDoor

namespace Go.Proofs.YtbgadfaiehkanaaGreatDoor
open Go.RowKit
set_option linter.unusedVariables false
set_option maxRecDepth 100000

/-- A value that may be, as deep as d at most. -/
def M.MayP : Nat → M.GV → Prop
  | 0, _ => False
  | d + 1, g => (0 ≤ g.k ∧ g.k ≤ 5 ∧ (g.k ≠ 1 → g.b = false) ∧ (g.k ≠ 2 → g.n = 0) ∧ (g.k ≠ 3 → g.t = []) ∧ (g.k ≠ 4 → g.l = []) ∧ (g.k ≠ 5 → g.m = []) ∧ g.n ≤ 9007199254740991 ∧ -9007199254740991 ≤ g.n) ∧
      M.utf g.t = true ∧ (∀ x ∈ g.l, M.MayP d x) ∧ (∀ x ∈ g.m, M.utf x.1 = true ∧ M.MayP d x.2) ∧ (g.m.map (·.1)).Nodup

/-- What text reads is in UTF-8. -/
def TextUtf : Prop := ∀ (s t r : List UInt8), M.text s = some (t, r) → M.utf t = true

theorem M.may_list {P : M.GV → Prop} {val : List UInt8 → M.Res} (hv : ∀ s x r, val s = .ok x r → P x) (f : Nat) : ∀ (s : List UInt8) (l : List M.GV) (g : M.GV) (r : List UInt8), (∀ x ∈ l, P x) → M.items val true f s l [] = .ok g r → ∃ l', g = M.vList l' ∧ ∀ x ∈ l', P x := by
  induction f with
  | zero => intro s l g r _ h; cases h
  | succ f ih =>
    intro s l g r hl h
    cases hs : val s with
    | err e => rw [M.items_err hs] at h; cases h
    | ok x r1 =>
      rw [M.items_ok hs] at h
      have hl2 : ∀ y ∈ l ++ [x], P y := by
        intro y hy
        rcases List.mem_append.1 hy with hy | hy
        · exact hl y hy
        · rw [List.mem_singleton.1 hy]; exact hv s x r1 hs
      cases hb : M.blk r1 with
      | nil => rw [hb] at h; cases h
      | cons c r2 =>
        rw [hb] at h
        dsimp only at h
        by_cases h1 : c = 93
        · rw [if_pos h1] at h
          injection h with h _
          exact ⟨_, h.symm, hl2⟩
        rw [if_neg h1] at h
        by_cases h2 : c = 44
        · rw [if_pos h2] at h
          exact ih r2 _ g r hl2 h
        · rw [if_neg h2] at h; cases h

theorem M.may_map (TU : TextUtf) {P : M.GV → Prop} {val : List UInt8 → M.Res} (hv : ∀ s x r, val s = .ok x r → P x) (f : Nat) : ∀ (s : List UInt8) (m : List (List UInt8 × M.GV)) (g : M.GV) (r : List UInt8), (∀ x ∈ m, M.utf x.1 = true ∧ P x.2) → (m.map (·.1)).Nodup → M.items val false f s [] m = .ok g r → ∃ m', g = M.vMap m' ∧ (∀ x ∈ m', M.utf x.1 = true ∧ P x.2) ∧ (m'.map (·.1)).Nodup := by
  induction f with
  | zero => intro s m g r _ _ h; cases h
  | succ f ih =>
    intro s m g r hm hd h
    rw [M.itemsM_eq] at h
    cases hh : M.hdM m s with
    | none => rw [hh] at h; cases h
    | some p =>
      obtain ⟨nm, s2⟩ := p
      rw [hh] at h
      have hnm : M.utf nm = true ∧ (m.any fun x => x.1 == nm) = false := by
        cases ht : M.text (M.blk s) with
        | none => unfold M.hdM at hh; rw [ht] at hh; cases hh
        | some q =>
          obtain ⟨nm2, r0⟩ := q
          cases ha : (m.any fun x => x.1 == nm2) with
          | true => rw [M.hdM_taken ht ha] at hh; cases hh
          | false =>
            rw [M.hdM_free ht ha] at hh
            cases hb : M.blk r0 with
            | nil => rw [hb] at hh; cases hh
            | cons c r2 =>
              rw [hb] at hh
              dsimp only at hh
              by_cases hc : c = 58
              · rw [if_pos hc] at hh
                injection hh with hh
                injection hh with h1 h2
                subst h1
                exact ⟨TU _ _ _ ht, ha⟩
              · rw [if_neg hc] at hh; cases hh
      cases hs : val s2 with
      | err e => rw [M.itemsH_err hs] at h; cases h
      | ok x r1 =>
        rw [M.itemsH_ok hs] at h
        have hm2 : ∀ y ∈ m ++ [(nm, x)], M.utf y.1 = true ∧ P y.2 := by
          intro y hy
          rcases List.mem_append.1 hy with hy | hy
          · exact hm y hy
          · rw [List.mem_singleton.1 hy]; exact ⟨hnm.1, hv s2 x r1 hs⟩
        have hd2 : ((m ++ [(nm, x)]).map (·.1)).Nodup := by
          rw [List.map_append, List.nodup_append]
          refine ⟨hd, by simp, ?_⟩
          intro a ha b hb e
          simp only [List.map_cons, List.map_nil, List.mem_singleton] at hb
          obtain ⟨y, hy, rfl⟩ := List.mem_map.1 ha
          have := List.any_eq_false.1 hnm.2 y hy
          exact this (by simp [e, hb])
        cases hb : M.blk r1 with
        | nil => rw [hb] at h; cases h
        | cons c r2 =>
          rw [hb] at h
          dsimp only at h
          by_cases h1 : c = 125
          · rw [if_pos h1] at h
            injection h with h _
            exact ⟨_, h.symm, hm2, hd2⟩
          rw [if_neg h1] at h
          by_cases h2 : c = 44
          · rw [if_pos h2] at h
            exact ih r2 _ g r hm2 hd2 h
          · rw [if_neg h2] at h; cases h

theorem M.numG_bound {mi : Bool} {s r : List UInt8} {v : Int} (h : M.numG mi s = some (v, r)) : v ≤ 9007199254740991 ∧ -9007199254740991 ≤ v := by
  unfold M.numG at h
  split at h
  · cases h
  · rename_i hn
    have hb : ¬ M.maxWhole < M.valD (s.takeWhile M.isD) := fun e => hn (.inr (.inr e))
    unfold M.maxWhole at hb
    injection h with h
    injection h with h _
    rw [← h]
    split <;> omega
theorem M.num_bound {s r : List UInt8} {v : Int} (h : M.num s = some (v, r)) : v ≤ 9007199254740991 ∧ -9007199254740991 ≤ v := by
  by_cases hm : [45] <+: s
  · obtain ⟨s2, rfl⟩ := hm
    rw [List.singleton_append, M.num_minus] at h
    exact M.numG_bound h
  · rw [M.num_plain s hm] at h
    exact M.numG_bound h

theorem M.val_may (TU : TextUtf) (d : Nat) : ∀ (s : List UInt8) (g : M.GV) (r : List UInt8), M.val d s = .ok g r → M.MayP d g := by
  induction d with
  | zero => intro s g r h; cases h
  | succ d ih =>
    have LIST : ∀ (l : List M.GV), (∀ x ∈ l, M.MayP d x) → M.MayP (d + 1) (M.vList l) := fun l hl =>
      ⟨by simp [M.vList, M.GV.k, M.GV.b, M.GV.n, M.GV.t, M.GV.l, M.GV.m], rfl, hl, fun x hx => absurd hx List.not_mem_nil, List.nodup_nil⟩
    have MAP : ∀ (m : List (List UInt8 × M.GV)), (∀ x ∈ m, M.utf x.1 = true ∧ M.MayP d x.2) → (m.map (·.1)).Nodup → M.MayP (d + 1) (M.vMap m) := fun m hm hd =>
      ⟨by simp [M.vMap, M.GV.k, M.GV.b, M.GV.n, M.GV.t, M.GV.l, M.GV.m], rfl, fun x hx => absurd hx List.not_mem_nil, hm, hd⟩
    have LEAF : ∀ (k : Int) (b : Bool) (n : Int) (t : List UInt8), (0 ≤ k ∧ k ≤ 5 ∧ (k ≠ 1 → b = false) ∧ (k ≠ 2 → n = 0) ∧ (k ≠ 3 → t = []) ∧ n ≤ 9007199254740991 ∧ -9007199254740991 ≤ n) → M.utf t = true → M.MayP (d + 1) (.mk k b n t [] []) := fun k b n t h hu =>
      ⟨⟨h.1, h.2.1, h.2.2.1, h.2.2.2.1, h.2.2.2.2.1, fun _ => rfl, fun _ => rfl, h.2.2.2.2.2.1, h.2.2.2.2.2.2⟩, hu, fun x hx => absurd hx List.not_mem_nil, fun x hx => absurd hx List.not_mem_nil, List.nodup_nil⟩
    intro s g r h
    rw [M.val_succ] at h
    by_cases h1 : M.wNull <+: M.blk s
    · rw [M.valB_1 h1] at h
      injection h with h _
      rw [← h]
      exact LEAF 0 false 0 [] (by simp) rfl
    by_cases h2 : M.wTrue <+: M.blk s
    · rw [M.valB_2 h1 h2] at h
      injection h with h _
      rw [← h]
      exact LEAF 1 true 0 [] (by simp) rfl
    by_cases h3 : M.wFalse <+: M.blk s
    · rw [M.valB_3 h1 h2 h3] at h
      injection h with h _
      rw [← h]
      exact LEAF 1 false 0 [] (by simp) rfl
    rw [M.valB_4 h1 h2 h3] at h
    have NUM : ∀ o, o = M.num (M.blk s) → M.valN o = .ok g r → M.MayP (d + 1) g := by
      intro o ho hn
      cases o with
      | none => cases hn
      | some p =>
        obtain ⟨n, r1⟩ := p
        injection hn with hn _
        rw [← hn]
        have := M.num_bound ho.symm
        exact LEAF 2 false n [] (by simp; omega) rfl
    cases hb : M.blk s with
    | nil =>
      rw [hb, M.valC_nil] at h
      exact NUM _ (by rw [hb]) h
    | cons c r1 =>
      rw [hb] at h
      by_cases h4 : c = 91
      · subst h4
        rw [M.valC_items d 91 r1 (.inl rfl)] at h
        have go : ∀ s2 f, M.items (M.val d) true f s2 [] [] = .ok g r → M.MayP (d + 1) g := fun s2 f hi => by
          obtain ⟨l', rfl, hl⟩ := M.may_list (fun s x r => ih s x r) f s2 [] g r (fun x hx => absurd hx List.not_mem_nil) hi
          exact LIST l' hl
        cases hk : M.blk r1 with
        | nil => rw [M.top_nil hk] at h; exact go _ _ h
        | cons e r2 =>
          by_cases he : e = 93
          · subst he
            rw [M.top_shut hk] at h
            injection h with h _
            rw [← h]
            exact LIST [] (fun x hx => absurd hx List.not_mem_nil)
          · rw [M.top_more hk he] at h; exact go _ _ h
      by_cases h5 : c = 123
      · subst h5
        rw [M.valC_items d 123 r1 (.inr rfl)] at h
        have go : ∀ s2 f, M.items (M.val d) false f s2 [] [] = .ok g r → M.MayP (d + 1) g := fun s2 f hi => by
          obtain ⟨m', rfl, hm, hd⟩ := M.may_map TU (fun s x r => ih s x r) f s2 [] g r (fun x hx => absurd hx List.not_mem_nil) List.nodup_nil hi
          exact MAP m' hm hd
        cases hk : M.blk r1 with
        | nil => rw [M.topM_nil hk] at h; exact go _ _ h
        | cons e r2 =>
          by_cases he : e = 125
          · subst he
            rw [M.topM_shut hk] at h
            injection h with h _
            rw [← h]
            exact MAP [] (fun x hx => absurd hx List.not_mem_nil) List.nodup_nil
          · rw [M.topM_more hk he] at h; exact go _ _ h
      by_cases h6 : c = 34
      · subst h6
        rw [M.valC_text] at h
        cases ht : M.text (34 :: r1) with
        | none => rw [ht] at h; cases h
        | some p =>
          obtain ⟨t, r2⟩ := p
          rw [ht] at h
          injection h with h _
          rw [← h]
          exact LEAF 3 false 0 t (by simp) (TU _ _ _ ht)
      · rw [M.valC_num d c r1 h4 h5 h6] at h
        exact NUM _ (by rw [hb]) h

end Go.Proofs.YtbgadfaiehkanaaGreatDoor

namespace Go.Proofs.YtbgadfaiehkanaaGreatDoor
open Go.RowKit
set_option linter.unusedVariables false
set_option maxRecDepth 100000

theorem M.rune_parts {c : UInt8} {r : List UInt8} (h : (M.rune (c :: r)).2 ≠ 0) (hc : ¬ c.toNat < 128) : (M.lead c.toNat).1 ≠ 0 ∧ (M.lead c.toNat).1 ≤ r.length + 1 ∧ (M.rune (c :: r)).2 = (M.lead c.toNat).1 ∧
    M.rune (c :: r) = M.runeOf (M.lead c.toNat).2.2 (M.lead c.toNat).1 (M.follow (r.take ((M.lead c.toNat).1 - 1)) (M.lead c.toNat).2.1) := by
  by_cases h2 : (M.lead c.toNat).1 = 0 ∨ r.length + 1 < (M.lead c.toNat).1
  · exact absurd (by rw [M.rune_short c r hc h2]) h
  · have e := M.rune_of c r hc (M.lead c.toNat).1 (M.lead c.toNat).2.1 (M.lead c.toNat).2.2 rfl (by omega) (by omega)
    refine ⟨by omega, by omega, ?_, e⟩
    rw [e] at h ⊢
    cases hf : M.follow (r.take ((M.lead c.toNat).1 - 1)) (M.lead c.toNat).2.1 with
    | none => rw [hf] at h; exact absurd rfl h
    | some v =>
      rw [hf] at h
      unfold M.runeOf at h ⊢
      dsimp only at h ⊢
      split
      · rename_i hx
        rw [if_pos hx] at h
        exact absurd rfl h
      · rfl

theorem M.rune_append (s t : List UInt8) (h : (M.rune s).2 ≠ 0) : M.rune (s ++ t) = M.rune s := by
  cases s with
  | nil => exact absurd rfl h
  | cons c r =>
    by_cases hc : c.toNat < 128
    · rw [List.cons_append, M.rune_low c _ hc, M.rune_low c _ hc]
    · obtain ⟨h1, h2, h3, h4⟩ := M.rune_parts h hc
      rw [h4, List.cons_append, M.rune_of c (r ++ t) hc (M.lead c.toNat).1 (M.lead c.toNat).2.1 (M.lead c.toNat).2.2 rfl h1 (by rw [List.length_append]; exact Nat.le_trans h2 (by omega)), List.take_append_of_le_length (Nat.sub_le_of_le_add h2)]

theorem M.rune_take (s : List UInt8) (h : (M.rune s).2 ≠ 0) : M.rune (s.take (M.rune s).2) = M.rune s := by
  cases s with
  | nil => exact absurd rfl h
  | cons c r =>
    by_cases hc : c.toNat < 128
    · rw [M.rune_low c _ hc]
      show M.rune [c] = _
      rw [M.rune_low c _ hc]
    · obtain ⟨h1, h2, h3, h4⟩ := M.rune_parts h hc
      obtain ⟨m, hm⟩ : ∃ m, (M.lead c.toNat).1 = m + 1 := ⟨(M.lead c.toNat).1 - 1, by omega⟩
      have h5 := M.rune_of c (r.take m) hc (M.lead c.toNat).1 (M.lead c.toNat).2.1 (M.lead c.toNat).2.2 rfl h1 (by rw [List.length_take]; rw [hm] at h2 ⊢; omega)
      rw [h3, h4]
      rw [hm] at h5 ⊢
      rw [List.take_succ_cons, h5, Nat.add_sub_cancel, List.take_take, Nat.min_self]

theorem M.utf_nil : M.utf [] = true := rfl

theorem M.utf_append (n : Nat) : ∀ (s t : List UInt8), s.length ≤ n → M.utf s = true → M.utf t = true → M.utf (s ++ t) = true := by
  induction n with
  | zero =>
    intro s t hn _ ht
    have e : s = [] := List.eq_nil_of_length_eq_zero (by omega)
    rw [e, List.nil_append]
    exact ht
  | succ n ih =>
    intro s t hn hs ht
    by_cases h0 : s = []
    · rw [h0, List.nil_append]; exact ht
    · rw [M.utf_step s h0, Bool.and_eq_true] at hs
      have hr : (M.rune s).2 ≠ 0 := by simpa using hs.1
      have hle := M.rune_le s
      rw [M.utf_step (s ++ t) (by simp [h0]), M.rune_append s t hr, Bool.and_eq_true]
      refine ⟨hs.1, ?_⟩
      rw [List.drop_append_of_le_length hle]
      exact ih _ _ (by rw [List.length_drop]; omega) hs.2 ht

theorem M.utf_one (s : List UInt8) (h : (M.rune s).2 ≠ 0) (hl : (M.rune s).2 = s.length) : M.utf s = true := by
  have h0 : s ≠ [] := fun e => by rw [e] at h; exact h rfl
  have h1 : ((M.rune s).2 != 0) = true := by simpa using h
  rw [M.utf_step s h0, h1, hl, List.drop_length]
  rfl

theorem M.utf_chunk (s : List UInt8) (h : (M.rune s).2 ≠ 0) : M.utf (s.take (M.rune s).2) = true := by
  have e := M.rune_take s h
  refine M.utf_one _ (by rw [e]; exact h) ?_
  rw [e, List.length_take]
  have := M.rune_le s
  omega

theorem ob (n : Nat) (h : n < 256) : (UInt8.ofNat n).toNat = n := by
  rw [UInt8.toNat_ofNat', Nat.mod_eq_of_lt (by simpa using h)]

theorem M.follow_cons (a v : Nat) (r : List UInt8) (ha : a < 64) : M.follow (UInt8.ofNat (128 + a) :: r) v = M.follow r (v * 64 + a) := by
  rw [M.follow, ob _ (by omega), if_pos (by omega)]
  congr 2
  omega

theorem M.rune_rbytes (v : Nat) (h : v < 55296 ∨ 57344 ≤ v ∧ v ≤ 1114111) : M.rune (M.rbytes v) = (v, (M.rbytes v).length) := by
  unfold M.rbytes
  split
  · rename_i h1
    rw [M.rune_low _ _ (by rw [ob _ (by omega)]; exact h1), ob _ (by omega)]
    rfl
  split
  · rename_i h1 h2
    have hc := ob (192 + v / 64) (by omega)
    rw [M.rune_of _ _ (by rw [hc]; omega) 2 (v / 64) 128 (by rw [hc]; unfold M.lead; rw [if_pos (by omega)]; congr 2; omega) (by decide) (by simp)]
    show M.runeOf 128 2 (M.follow [UInt8.ofNat (128 + v % 64)] (v / 64)) = _
    rw [M.follow_cons _ _ _ (by omega), M.follow, show v / 64 * 64 + v % 64 = v by omega]
    unfold M.runeOf
    dsimp only
    rw [if_neg (by omega)]
    rfl
  split
  · rename_i h1 h2 h3
    have hc := ob (224 + v / 4096) (by omega)
    rw [M.rune_of _ _ (by rw [hc]; omega) 3 (v / 4096) 2048 (by rw [hc]; unfold M.lead; rw [if_neg (by omega), if_pos (by omega)]; congr 2; omega) (by decide) (by simp)]
    show M.runeOf 2048 3 (M.follow [UInt8.ofNat (128 + v / 64 % 64), UInt8.ofNat (128 + v % 64)] (v / 4096)) = _
    rw [M.follow_cons _ _ _ (by omega), M.follow_cons _ _ _ (by omega), M.follow, show (v / 4096 * 64 + v / 64 % 64) * 64 + v % 64 = v by omega]
    unfold M.runeOf
    dsimp only
    rw [if_neg (by omega)]
    rfl
  · rename_i h1 h2 h3
    have hc := ob (240 + v / 262144) (by omega)
    rw [M.rune_of _ _ (by rw [hc]; omega) 4 (v / 262144) 65536 (by rw [hc]; unfold M.lead; rw [if_neg (by omega), if_neg (by omega), if_pos (by omega)]; congr 2; omega) (by decide) (by simp)]
    show M.runeOf 65536 4 (M.follow [UInt8.ofNat (128 + v / 4096 % 64), UInt8.ofNat (128 + v / 64 % 64), UInt8.ofNat (128 + v % 64)] (v / 262144)) = _
    rw [M.follow_cons _ _ _ (by omega), M.follow_cons _ _ _ (by omega), M.follow_cons _ _ _ (by omega), M.follow, show ((v / 262144 * 64 + v / 4096 % 64) * 64 + v / 64 % 64) * 64 + v % 64 = v by omega]
    unfold M.runeOf
    dsimp only
    rw [if_neg (by omega)]
    rfl

theorem M.rbytes_ne (v : Nat) : (M.rbytes v).length ≠ 0 := by
  unfold M.rbytes
  split
  · exact Nat.succ_ne_zero _
  split
  · exact Nat.succ_ne_zero _
  split
  · exact Nat.succ_ne_zero _
  · exact Nat.succ_ne_zero _

theorem M.utf_rbytes (v : Nat) (h : v < 55296 ∨ 57344 ≤ v ∧ v ≤ 1114111) : M.utf (M.rbytes v) = true :=
  M.utf_one _ (by rw [M.rune_rbytes v h]; exact M.rbytes_ne v) (by rw [M.rune_rbytes v h])

theorem M.esc_valid {s : List UInt8} {v : Nat} {r2 : List UInt8} (h : M.esc s = some (v, r2)) : v < 55296 ∨ 57344 ≤ v ∧ v ≤ 1114111 := by
  cases s with
  | nil => cases h
  | cons c r =>
    have one : ∀ x : Nat, x < 256 → some (x, r) = some (v, r2) → v < 55296 ∨ 57344 ≤ v ∧ v ≤ 1114111 := by
      intro x hx e
      injection e with e
      injection e with e1 e2
      omega
    unfold M.esc at h
    dsimp only at h
    by_cases e0 : c = 34 ∨ c = 92 ∨ c = 47
    · rw [if_pos e0] at h; exact one _ c.toNat_lt h
    rw [if_neg e0] at h
    by_cases e98 : c = 98
    · rw [if_pos e98] at h; exact one 8 (by decide) h
    rw [if_neg e98] at h
    by_cases e102 : c = 102
    · rw [if_pos e102] at h; exact one 12 (by decide) h
    rw [if_neg e102] at h
    by_cases e110 : c = 110
    · rw [if_pos e110] at h; exact one 10 (by decide) h
    rw [if_neg e110] at h
    by_cases e114 : c = 114
    · rw [if_pos e114] at h; exact one 13 (by decide) h
    rw [if_neg e114] at h
    by_cases e116 : c = 116
    · rw [if_pos e116] at h; exact one 9 (by decide) h
    rw [if_neg e116] at h
    by_cases e117 : c = 117
    · rw [if_pos e117] at h
      cases hx : M.hex4 r with
      | none => rw [hx] at h; cases h
      | some x =>
        rw [hx] at h
        dsimp only at h
        have h4 := M.hex4_some hx
        by_cases a1 : 56320 ≤ x ∧ x < 57344
        · rw [if_pos a1] at h; cases h
        rw [if_neg a1] at h
        by_cases a2 : x < 55296 ∨ 57344 ≤ x
        · rw [if_pos a2] at h
          injection h with h
          injection h with e1 e2
          omega
        rw [if_neg a2] at h
        by_cases a3 : [92, 117] <+: r.drop 4
        · rw [if_pos a3] at h
          cases hy : M.hex4 (r.drop 6) with
          | none => rw [hy] at h; cases h
          | some y =>
            rw [hy] at h
            dsimp only at h
            by_cases a4 : 56320 ≤ y ∧ y < 57344
            · rw [if_pos a4] at h
              injection h with h
              injection h with e1 e2
              omega
            · rw [if_neg a4] at h; cases h
        · rw [if_neg a3] at h; cases h
    · rw [if_neg e117] at h; cases h

theorem M.txt_utf (f : Nat) : ∀ (s o t r : List UInt8), M.utf o = true → M.txt f s o = some (t, r) → M.utf t = true := by
  induction f with
  | zero => intro s o t r _ h; cases h
  | succ f ih =>
    intro s o t r ho h
    cases s with
    | nil => cases h
    | cons c s =>
      rw [M.txt] at h
      by_cases h1 : c = 34
      · rw [if_pos h1] at h
        injection h with h
        injection h with h _
        rw [← h]
        exact ho
      rw [if_neg h1] at h
      by_cases h2 : c.toNat < 32
      · rw [if_pos h2] at h; cases h
      rw [if_neg h2] at h
      by_cases h3 : c = 92
      · rw [if_pos h3] at h
        cases he : M.esc s with
        | none => rw [he] at h; cases h
        | some p =>
          obtain ⟨v, r2⟩ := p
          rw [he] at h
          exact ih _ _ _ _ (M.utf_append _ _ _ (Nat.le_refl _) ho (M.utf_rbytes v (M.esc_valid he))) h
      rw [if_neg h3] at h
      by_cases h4 : (M.rune (c :: s)).2 = 0
      · rw [if_pos h4] at h; cases h
      rw [if_neg h4] at h
      exact ih _ _ _ _ (M.utf_append _ _ _ (Nat.le_refl _) ho (M.utf_chunk _ h4)) h

theorem text_utf : TextUtf := fun s t r h => by
  cases s with
  | nil => cases h
  | cons c s =>
    by_cases h1 : c = 34
    · subst h1
      rw [M.text_34] at h
      exact M.txt_utf _ _ _ _ _ rfl h
    · rw [M.text_no c s h1] at h; cases h

/-- What is parsed may be. -/
theorem M.parse_may {b r : List UInt8} {g : M.GV} (h : M.parse b = .ok g r) : M.MayP 16 g := by
  by_cases hb : 65536 < b.length
  · rw [M.parse_long hb] at h; cases h
  · cases hv : M.val 16 b with
    | err e => rw [M.parse_err hb hv] at h; cases h
    | ok g2 r2 =>
      rw [M.parse_ok hb hv] at h
      split at h
      · injection h with h _
        rw [← h]
        exact M.val_may text_utf 16 b g2 r2 hv
      · cases h

end Go.Proofs.YtbgadfaiehkanaaGreatDoor

namespace Go.Proofs.YtbgadfaiehkanaaGreatDoor
open Go.RowKit Go.Proofs Go.Shelf
set_option linter.unusedVariables false
set_option maxRecDepth 100000

theorem JLaid.chg {F : Nat → Prop} {w w' : World} (h : JLaid w) (k : Chg F w w') (hF : ∀ b, F b → 6 ≤ b) : JLaid w' := by
  have hb : ∀ b, b < 6 → w'.heap[b]? = w.heap[b]? := fun b hb => k.block b (by have := h.many; omega) fun hf => by have := hF b hf; omega
  have hc : ∀ b o, b < 6 → w'.cell? ⟨b, o, none⟩ = w.cell? ⟨b, o, none⟩ := fun b o h5 => World.cell?_of_block (hb b h5)
  refine ⟨⟨fun c hc2 => ?_, fun i hi => ⟨?_, ?_⟩⟩, ?_, ?_, ?_, by have := h.many; have := k.size; omega⟩
  · rw [hc _ _ (by decide)]; exact h.tabs.1 c hc2
  · rw [hc _ _ (by decide)]; exact (h.tabs.2 i hi).1
  · rw [hc _ _ (by decide)]; exact (h.tabs.2 i hi).2
  · have := h.pow
    unfold Lib.TabIs World.var? at this ⊢
    rw [gPow] at this ⊢
    simp only [Option.bind_some] at this ⊢
    rw [hb _ (by decide)]
    exact this
  · obtain ⟨ev, h1, h2⟩ := h.synt
    exact ⟨ev, by rw [hc _ _ (by decide)]; exact h1, h2⟩
  · obtain ⟨ev, h1, h2⟩ := h.rang
    exact ⟨ev, by rw [hc _ _ (by decide)]; exact h1, h2⟩
theorem JLaid.below {w w' : World} (h : JLaid w) (k : Below w.heap.size w w') : JLaid w' := h.chg (Chg.of_below (F := fun _ => False) k) fun _ h => h.elim
theorem JLaid.reads {w w' : World} {g : Nat} (h : JLaid w) (k : Chg (fun b => b = g) w w') (hg : 6 ≤ g) : JLaid w' := h.chg k fun b e => by rw [e]; exact hg

theorem Chg.go {g : Nat} {w w1 w2 : World} (h : Chg (fun b => b = g) w w1) (k : Chg (fun b => b = g) w1 w2) : Chg (fun b => b = g) w w2 := h.trans k fun _ _ h => h

theorem M.hexG_take (k : Nat) : ∀ (s : List UInt8) (v : Nat), M.hexG k (s.take k) v = M.hexG k s v := by
  induction k with
  | zero => intro s v; cases s <;> rfl
  | succ k ih =>
    intro s v
    cases s with
    | nil => rfl
    | cons c r =>
      show ((M.hx c).bind fun d => M.hexG k (r.take k) (v * 16 + d)) = ((M.hx c).bind fun d => M.hexG k r (v * 16 + d))
      congr 1
      funext d
      exact ih _ _

/-- How a sign is read: it, and what is left; or a panic. -/
def SignEnds (w : World) (g : Nat) (o : Option (Nat × List UInt8)) (e : Ending) (w' : World) : Prop :=
  match o with
  | some (v, r) => e = .returned (.int .i32 (v : Int)) ∧ Reads w g r w'
  | none => e = BadP ∧ Chg (fun b => b = g) w w'

theorem SignEnds.on {w w1 w2 : World} {g : Nat} {o : Option (Nat × List UInt8)} {e : Ending} (k : Chg (fun b => b = g) w w1) (h : SignEnds w1 g o e w2) : SignEnds w g o e w2 := by
  cases o with
  | none => exact ⟨h.1, k.go h.2⟩
  | some p => exact ⟨h.1, h.2.1, k.go h.2.2⟩

def M.halfM (s : List UInt8) : Option (Nat × List UInt8) := (M.hex4 s).map fun v => (v, s.drop 4)

set_option maxHeartbeats 4000000 in
theorem half_any (g : Nat) (s : List UInt8) (w : World) (h : Rd w g s) (hl : s.length ≤ 1099511627776) (hL : JLaid w) (hg : 6 ≤ g) :
    Calls Tryz.prog 229 #[.pointer (some ⟨g, 0, none⟩)] w (SignEnds w g (M.halfM s)) := by
  by_cases h4 : s.length < 4
  · have HM : Hid (M.halfM s = none) := by
      rw [Hid]
      unfold M.halfM
      cases hx : M.hex4 s with
      | none => rfl
      | some v => have := (M.hex4_some hx).1; omega
    have HT := Lib.hid (take_no g s 4 w h h4)
    clear h hl hL h4
    go_enter Tryz.func229, Tryz.ntmps229
    go_wp2_with fail
    refine HT.out.mono ?_
    rintro e w1 ⟨rfl, k1⟩
    have K1 := Lib.hid k1
    clear k1
    go_wp2
    refine ⟨rfl, ?_⟩
    rw [HM.out]
    exact ⟨rfl, K1.out⟩
  have HT := Lib.hid (take_yes g s 4 w h (by omega) hl)
  obtain ⟨t, ht⟩ : ∃ t, t = s.take 4 := ⟨_, rfl⟩
  have HP : Hid (∀ w1, JLaid w1 → Calls Tryz.prog 237 #[.string ⟨t.toArray⟩, .int .i64 16, .int .i64 16] w1 fun e w2 => (∃ v, e = .returned v ∧ U16Ends (M.hex4 s) v) ∧ Below w1.heap.size w1 w2) := by
    intro w1 hL1
    have := parseU16_any (s.take 4) (by rw [List.length_take]; omega) w1 hL1
    rw [M.hexG_take, ← ht] at this
    exact this
  rw [← ht] at HT
  have HL := Lib.hid hL
  clear ht h hl hL h4
  go_enter Tryz.func229, Tryz.ntmps229
  go_wp2_with fail
  refine HT.out.mono ?_
  rintro e w1 ⟨rfl, k1⟩
  have K1 := Lib.hid k1
  have HL1 := Lib.hid (HL.out.reads K1.out.2 hg)
  clear k1
  go_wp2_with fail
  refine (HP.out w1 HL1.out).mono ?_
  rintro e w2 ⟨⟨v, rfl, hv⟩, k2⟩
  have K2 := Lib.hid k2
  have HM : Hid (M.halfM s = (M.hex4 s).map fun v => (v, s.drop 4)) := rfl
  clear k2
  cases hx : M.hex4 s with
  | none =>
    rw [hx] at hv HM
    obtain ⟨ev, rfl, N, rfl⟩ := hv
    go_wp2
    refine ⟨rfl, ?_⟩
    rw [HM.out]
    exact ⟨rfl, K1.out.2.go (Chg.of_below K2.out)⟩
  | some n =>
    rw [hx] at hv HM
    cases hv
    have hn := (M.hex4_some hx).2
    have b1 : ((n : Nat) : Int) < 65536 := by omega
    clear hx hn
    go_wp2
    go_ret
    show SignEnds _ _ _ _ _
    rw [HM.out]
    exact ⟨rfl, K1.out.1.below K2.out K1.out.1.lt, K1.out.2.go (Chg.of_below K2.out)⟩

end Go.Proofs.YtbgadfaiehkanaaGreatDoor
