/-
  CONTRACTS OF orlopref11.Copy, Same, Small. Conditions: the files lie so.
  CONTRACT OF orlopref11.Same. Conditions: the files lie so.
-/
import Derived.Test.YtgmhfianpdhnmaaGreatDoorRefFileD
import Derived.Test.YtgmhfianpdhnmaaGreatDoorPf25

namespace Go.Proofs.YtgmhfianpdhnmaaGreatDoor
open Go.RowKit
set_option linter.unusedVariables false
set_option maxRecDepth 100000

set_option maxHeartbeats 4000000 in
theorem rcopy_any {S : Nat → Prop} {w : World} {gr : Nat} {v : Value} {nb : Int} {F : M.Fs} {xs : List Value} (hb : RefAt11 w gr v nb) (hF : IsFs S w v F xs) (hlen : F.length ≤ 1000) :
    Calls Tryz.prog 18 #[.pointer (some ⟨gr, 0, none⟩)] w fun e w' => ∃ gn v' xs', e = .returned (.pointer (some ⟨gn, 0, none⟩)) ∧ w.heap.size ≤ gn ∧ RefAt11 w' gn v' nb ∧ IsFs (fun j => S j ∨ (w.heap.size ≤ j ∧ j < w'.heap.size ∧ j ≠ gn)) w' v' F xs' ∧ Below w.heap.size w w' := by
  obtain ⟨ao, cap, rfl⟩ := hF.shape
  obtain ⟨n, hn⟩ : ∃ n, n = F.length := ⟨_, rfl⟩
  rw [← hn] at hF hb
  have HN : Hid (F.length = n) := hn.symm
  have HF := Lib.hid hF
  have HL := Lib.hid hlen
  have c0 := hb.cell 0
  have c1 := hb.cell 1
  simp only [List.getElem?_cons_zero, List.getElem?_cons_succ] at c0 c1
  have HZ : Hid (∀ y, Below w.heap.size w y → y.cell? ⟨gr, 0, none⟩ = some (.slice ao n cap) ∧ y.cell? ⟨gr, 1, none⟩ = some (.int .i64 nb)) := fun y ky =>
    ⟨(ky.cell (p := ⟨gr, 0, none⟩) (World.block_lt_of_cell? _ _ c0)).trans c0, (ky.cell (p := ⟨gr, 1, none⟩) (World.block_lt_of_cell? _ _ c1)).trans c1⟩
  have HLX := Lib.hid hF.1.len
  clear hb hF hn hlen c0 c1
  go_enter Tryz.func18, Tryz.ntmps18
  go_upto_region 1 with fail
  refine region_T (fun w' => Below w.heap.size w w') [] (by kernel_rfl) ?_
  obtain ⟨y0, hy0⟩ : ∃ x, x = w.drew := ⟨_, rfl⟩
  have Ky0 : Below w.heap.size w y0 := by rw [hy0]; exact drewN_below (Below.refl _ _) 1
  rw [← hy0]
  clear hy0
  have S0 := Ky0
  refine anyT_take_at (i := 1) (v := .pointer (some ⟨gr, 0, none⟩)) rfl rfl (by kernel_rfl) (by kernel_rfl) (by kernel_rfl) (by kernel_rfl) (fun _ _ _ h => h) (Or.inl ⟨by rfl, fun w hS => by go_simp⟩) S0 ?_
  try simp only [List.setIfInBounds_toArray, List.set_cons_zero, List.set_cons_succ]
  refine anyT_take_at (i := 2) (v := .pointer (some ⟨gr, 0, none⟩)) rfl rfl (by kernel_rfl) (by kernel_rfl) (by kernel_rfl) (by kernel_rfl) (fun _ _ _ h => h) (Or.inl ⟨by rfl, fun w hS => by go_simp⟩) S0 ?_
  try simp only [List.setIfInBounds_toArray, List.set_cons_zero, List.set_cons_succ]
  refine anyT_take_at (i := 3) (v := .pointer (some ⟨gr, 0, none⟩)) rfl rfl (by kernel_rfl) (by kernel_rfl) (by kernel_rfl) (by kernel_rfl) (fun _ _ _ h => h) (Or.inl ⟨by rfl, fun w hS => by go_simp⟩) S0 ?_
  try simp only [List.setIfInBounds_toArray, List.set_cons_zero, List.set_cons_succ]
  refine anyT_take_at (i := 4) (v := .slice ao n cap) rfl rfl (by kernel_rfl) (by kernel_rfl) (by kernel_rfl) (by kernel_rfl) (fun _ _ _ h => h) (Or.inl ⟨by rfl, fun w hS => by have c := (HZ.out w hS).1; go_simp⟩) S0 ?_
  try simp only [List.setIfInBounds_toArray, List.set_cons_zero, List.set_cons_succ]
  refine anyT_take_at (i := 6) (v := .pointer (some ⟨gr, 0, none⟩)) rfl rfl (by kernel_rfl) (by kernel_rfl) (by kernel_rfl) (by kernel_rfl) (fun _ _ _ h => h) (Or.inl ⟨by rfl, fun w hS => by go_simp⟩) S0 ?_
  try simp only [List.setIfInBounds_toArray, List.set_cons_zero, List.set_cons_succ]
  refine anyT_take_at (i := 7) (v := .pointer (some ⟨gr, 0, none⟩)) rfl rfl (by kernel_rfl) (by kernel_rfl) (by kernel_rfl) (by kernel_rfl) (fun _ _ _ h => h) (Or.inl ⟨by rfl, fun w hS => by go_simp⟩) S0 ?_
  try simp only [List.setIfInBounds_toArray, List.set_cons_zero, List.set_cons_succ]
  refine anyT_take_at (i := 8) (v := .pointer (some ⟨gr, 1, none⟩)) rfl rfl (by kernel_rfl) (by kernel_rfl) (by kernel_rfl) (by kernel_rfl) (fun _ _ _ h => h) (Or.inl ⟨by rfl, fun w hS => by go_simp⟩) S0 ?_
  try simp only [List.setIfInBounds_toArray, List.set_cons_zero, List.set_cons_succ]
  refine anyT_take_at (i := 9) (v := .int .i64 nb) rfl rfl (by kernel_rfl) (by kernel_rfl) (by kernel_rfl) (by kernel_rfl) (fun _ _ _ h => h) (Or.inl ⟨by rfl, fun w hS => by have c := (HZ.out w hS).2; go_simp⟩) S0 ?_
  try simp only [List.setIfInBounds_toArray, List.set_cons_zero, List.set_cons_succ]
  refine anyT_ready (rs := [0]) (by kernel_rfl) (by simp) ?_
  refine ReadyT.cons rfl (fun K hK => ?_) ReadyT.nil
  go_simp
  obtain ⟨y1, hy1⟩ : ∃ x, x = y0.alloc (.cells #[] 55) := ⟨_, rfl⟩
  obtain ⟨e0, he0⟩ : ∃ x, x = y0.heap.size := ⟨_, rfl⟩
  have ky1 : Below y0.heap.size y0 y1 := by rw [hy1]; exact (Below.refl _ y0).alloc (Nat.le_refl _) _
  have Ky1 : Below w.heap.size w y1 := Ky0.trans (ky1.mono Ky0.size)
  have OE : y1.ownsRow w.heap.size 55 2 (.slice (some ⟨e0, 0, none⟩) 0 0) ([] : M.Fs).length (fcs [] []) := by rw [he0, hy1]; exact ownRow_mono (own_emptyF y0) Ky0.size
  rw [← hy1, ← he0]
  refine hK.out _ _ (.inr Ky1) ?_
  clear hK K hy1 he0
  try simp only [Act.put, List.getElem_toArray, List.getElem_cons_succ, List.getElem_cons_zero, List.setIfInBounds_toArray, List.set_cons_zero, List.set_cons_succ]
  refine anyT_ready (rs := [5]) (by kernel_rfl) (by simp) ?_
  refine ReadyT.cons rfl (fun K hK => ?_) ReadyT.nil
  refine step_app_fs rfl _ _ rfl w.heap.size (.slice (some ⟨e0, 0, none⟩) 0 0) [] [] rfl OE rfl (.slice ao n cap) F xs rfl (HF.out.below Ky1) (by have := HL.out; simp only [List.length_nil]; omega) Ky1.size ?_
  intro v2 y2 o2 g2 a2
  obtain ⟨va, vn, vc, hv⟩ : ∃ a n c, v2 = .slice a n c := by obtain ⟨a, c, h⟩ := ownShape o2; exact ⟨a, _, c, h⟩
  subst hv
  have Ky2 : Below w.heap.size w y2 := Ky1.grown g2 Ky1.size fun b hb => (OE.lt b hb).1
  refine hK.out _ _ (.inr Ky2) ?_
  clear hK K
  try simp only [Act.put, List.getElem_toArray, List.getElem_cons_succ, List.getElem_cons_zero, List.setIfInBounds_toArray, List.set_cons_zero, List.set_cons_succ]
  refine anyT_take_at (i := 10) (v := .agg #[.slice va vn vc, .int .i64 nb]) rfl rfl (by kernel_rfl) (by kernel_rfl) (by kernel_rfl) (by kernel_rfl) (fun _ _ _ h => h) (Or.inl ⟨by rfl, fun w hS => by go_simp⟩) Ky2 ?_
  try simp only [List.setIfInBounds_toArray, List.set_cons_zero, List.set_cons_succ]
  refine anyT_ready (rs := [11]) (by kernel_rfl) (by simp) ?_
  refine ReadyT.cons rfl (fun K hK => ?_) ReadyT.nil
  go_simp
  obtain ⟨y3, hy3⟩ : ∃ x, x = y2.alloc (.cells #[.slice va vn vc, .int .i64 nb] 32) := ⟨_, rfl⟩
  obtain ⟨gn, hgn⟩ : ∃ x, x = y2.heap.size := ⟨_, rfl⟩
  have ky3 : Below y2.heap.size y2 y3 := by rw [hy3]; exact (Below.refl _ y2).alloc (Nat.le_refl _) _
  have Ky3 : Below w.heap.size w y3 := Ky2.trans (ky3.mono Ky2.size)
  have B3 : Hid (Blk y3 gn 32 [.slice va vn vc, .int .i64 nb]) := by rw [hy3]; exact Blk.newAt _ _ _ _ _ hgn rfl
  have HGN : Hid (gn = y2.heap.size) := hgn
  rw [← hy3, ← hgn]
  refine hK.out _ _ (.inr Ky3) ?_
  clear hK K hy3 hgn
  try simp only [Act.put, List.getElem_toArray, List.getElem_cons_succ, List.getElem_cons_zero, List.setIfInBounds_toArray, List.set_cons_zero, List.set_cons_succ]
  refine anyT_take_at (i := 12) (v := .pointer (some ⟨gn, 0, none⟩)) rfl rfl (by kernel_rfl) (by kernel_rfl) (by kernel_rfl) (by kernel_rfl) (fun _ _ _ h => h) (Or.inl ⟨by rfl, fun w hS => by go_simp⟩) Ky3 ?_
  try simp only [List.setIfInBounds_toArray, List.set_cons_zero, List.set_cons_succ]
  refine anyT_done (by kernel_rfl) ?_ _
  have o3 := own_below o2 ky3
  have D3 : FsD (fun j => S j ∨ (w.heap.size ≤ j ∧ j < y3.heap.size ∧ j ≠ gn)) y3 ([] ++ F) ([] ++ xs) := ((FsD.nil S w).append HF.out.1).below Ky3 |>.mono fun j hj => .inl hj
  have I3 : Hid (IsFs (fun j => S j ∨ (w.heap.size ≤ j ∧ j < y3.heap.size ∧ j ≠ gn)) y3 (.slice va vn vc) ([] ++ F) ([] ++ xs)) := isFs_own o3 D3 fun b hb => .inr (by
    have h1 := o3.lt b hb
    have h2 := (o2.lt b hb).2
    have h3 := HGN.out
    omega)
  have K3 := Lib.hid Ky3
  have HG : Hid (w.heap.size ≤ gn) := by rw [Hid, HGN.out]; exact Ky2.size
  clear o2 g2 a2 o3 D3 ky3 Ky3 Ky2 OE Ky1 ky1 Ky0 S0
  go_wp2
  go_ret
  exact ⟨gn, _, _, rfl, HG.out, B3.out, I3.out, K3.out⟩

/-- Are changes such as are gone through? -/
def M.smallAt (c : M.FC) : Prop := c.nm.length ≤ 100 ∧ c.data.length ≤ 10000
def M.sumTo (l : M.FL) (k : Nat) : Nat := ((l.take k).map fun c => c.data.length).sum
def M.SmallF (l : M.FL) : Prop := l.length ≤ 80 ∧ (∀ i, i < l.length → M.smallAt (l.getD i default)) ∧ M.sumTo l l.length ≤ 30000
noncomputable instance (l : M.FL) : Decidable (M.SmallF l) := Classical.propDecidable _

theorem M.sumTo_next (l : M.FL) (k : Nat) (hk : k < l.length) : M.sumTo l (k + 1) = M.sumTo l k + (l.getD k default).data.length := by
  rw [M.sumTo, List.take_add_one, List.getElem?_eq_getElem hk, List.map_append, List.sum_append, List.getD_eq_getElem?_getD, List.getElem?_eq_getElem hk]
  simp [M.sumTo]

set_option maxHeartbeats 8000000 in
theorem rsmall_any {w : World} {v : Value} {l : M.FL} {xs : List Value} (h : IsFL w v l xs) :
    Calls Tryz.prog 20 #[v] w fun e w' => e = .returned (.bool (decide (M.SmallF l))) ∧ w' = w := by
  obtain ⟨ao, cap, e⟩ : ∃ ao cap, v = .slice ao l.length cap := by obtain ⟨a, c, e, _⟩ := h; exact ⟨a, c, e⟩
  subst e
  obtain ⟨n, hn⟩ : ∃ n, n = l.length := ⟨_, rfl⟩
  rw [← hn] at h ⊢
  have HN : Hid (l.length = n) := hn.symm
  have HL := Lib.hid h
  have hcap : n ≤ maxLen := by
    obtain ⟨a, c, e, h1, h2, _⟩ := h
    injection e with e1 e2 e3
    omega
  have HM := Lib.hid hcap
  clear h hn hcap
  go_enter Tryz.func20, Tryz.ntmps20
  go_wp2
  go_loopw [3, 4] (fun a i wr => ∃ j : Nat, i = .int .i64 (j : Int) ∧ Hid (j ≤ n ∧ j ≤ 80 ∧ ∀ x, x < j → M.smallAt (l.getD x default)) ∧ (∃ z : Nat, a = .int .i64 (z : Int) ∧ Hid (z = M.sumTo l j) ∧ Hid (z ≤ 10000 * j)) ∧ wr = w)
    (fun a i _ => n - numOf i)
  case atStart => exact ⟨0, rfl, ⟨Nat.zero_le _, Nat.zero_le _, fun x hx => by omega⟩, ⟨0, rfl, rfl, Nat.zero_le _⟩, rfl⟩
  case round =>
    obtain ⟨j, rfl, hj, ⟨z, rfl, hz, hzb⟩, rfl⟩ := hrel
    by_cases hlt : j < n
    · have b1 : (j : Int) < (n : Int) := by omega
      have hj' : j < l.length := by rw [HN.out]; exact hlt
      by_cases h80 : j < 80
      · have b2 : ¬ (80 : Int) ≤ (j : Int) := by omega
        obtain ⟨b, off, rfl, d0, d1, _, ib, _, hnl⟩ := HL.out.at_ j hj'
        obtain ⟨xa, xc, ex⟩ := ib.shape
        rw [ex] at d1
        obtain ⟨q, hq⟩ : ∃ q, q = (l.getD j default).data.length := ⟨_, rfl⟩
        obtain ⟨p, hp⟩ : ∃ q, q = (l.getD j default).nm.length := ⟨_, rfl⟩
        have hnx := M.sumTo_next l j hj'
        have hsm : M.smallAt (l.getD j default) ↔ p ≤ 100 ∧ q ≤ 10000 := by rw [M.smallAt, hp, hq]
        obtain ⟨sn, hsn⟩ : ∃ s : ByteArray, s = ⟨(l.getD j default).nm.toArray⟩ := ⟨_, rfl⟩
        have zsn : sn.size = p := by rw [hsn, hp]; rfl
        rw [← hq] at d1 hnx
        rw [← hsn] at d0
        have HSM := Lib.hid hsm
        have HNX := Lib.hid hnx
        have HLT := Lib.hid hlt
        have H80 := Lib.hid h80
        have g2 : (0 : Int) ≤ (j : Int) := by omega
        have g3 : ((j : Int)).toNat = j := by omega
        have hzz := hzb.out
        have G1 : Hid (wrap64 ((j : Int) + 1) = ((j + 1 : Nat) : Int)) := wrap_next (by omega)
        have HNO : Hid (¬ M.smallAt (l.getD j default) → decide (M.SmallF l) = false) := fun hno => decide_eq_false fun hs => hno (hs.2.1 j (by rw [HN.out]; exact HLT.out))
        clear ib ex hq hp hnx hsm hsn hlt hj' h80 hnl
        by_cases s1 : p ≤ 100
        · have b3 : ¬ (100 : Int) < (p : Int) := by omega
          by_cases s2 : q ≤ 10000
          · have b4 : ¬ (10000 : Int) < (q : Int) := by omega
            obtain ⟨y, hy⟩ : ∃ y, y = z + q := ⟨_, rfl⟩
            have HYB : Hid (y ≤ 10000 * (j + 1)) := by rw [Hid]; omega
            have HY : Hid (y = M.sumTo l (j + 1)) := by rw [Hid, HNX.out, ← hz.out]; exact hy
            have G0 : Hid (wrap64 ((z : Int) + (q : Int)) = (y : Int)) := by
              rw [Hid, wrap_id (by have := H80.out; omega)]
              omega
            have hS : Hid (j + 1 ≤ n ∧ j + 1 ≤ 80 ∧ ∀ x, x < j + 1 → M.smallAt (l.getD x default)) := ⟨HLT.out, H80.out, fun x hx => by
              by_cases e : x = j
              · rw [e]; exact HSM.out.2 ⟨s1, s2⟩
              · exact hj.out.2.2 x (by omega)⟩
            clear hj hz hzb hy hzz s1 s2
            go_wp2
            go_roundw
            case rel => exact ⟨j + 1, by first | rfl | rw [G1.out], hS, ⟨y, by first | rfl | rw [G0.out], HY, HYB⟩, trivial⟩
            case measure =>
              have := HLT.out
              try rw [G1.out]
              show n - (((j + 1 : Nat) : Int)).toNat < n - ((j : Int)).toNat
              omega
          · have b4 : (10000 : Int) < (q : Int) := by omega
            have hR : Hid (decide (M.SmallF l) = false) := HNO.out fun h => s2 (HSM.out.1 h).2
            clear hj hz hzb hzz s1 s2
            go_wp2
            go_ret
            exact ⟨by rw [hR.out]; rfl, rfl⟩
        · have b3 : (100 : Int) < (p : Int) := by omega
          have hR : Hid (decide (M.SmallF l) = false) := HNO.out fun h => s1 (HSM.out.1 h).1
          clear hj hz hzb hzz s1
          go_wp2
          go_ret
          exact ⟨by rw [hR.out]; rfl, rfl⟩
      · have b2 : (80 : Int) ≤ (j : Int) := by omega
        have hR : Hid (decide (M.SmallF l) = false) := decide_eq_false fun h => by have := h.1; omega
        clear hj hlt h80 hz hzb hj'
        go_wp2
        go_ret
        exact ⟨by rw [hR.out]; rfl, rfl⟩
    · have b1 : ¬ (j : Int) < (n : Int) := by omega
      have e : j = l.length := by have := hj.out.1; have := HN.out; omega
      have hR : Hid (decide (M.SmallF l) = decide ((z : Int) ≤ 30000)) := by
        rw [Hid]
        have hz30 : (z : Int) ≤ 30000 ↔ z ≤ 30000 := by omega
        refine decide_eq_decide.2 (Iff.trans ⟨fun h => ?_, fun h => ⟨by have := hj.out.2.1; omega, fun i hi => hj.out.2.2 i (by omega), ?_⟩⟩ hz30.symm)
        · rw [hz.out, e]; exact h.2.2
        · rw [hz.out, e] at h; exact h
      clear hj hlt hz hzb e
      go_wp2
      go_ret
      exact ⟨by rw [hR.out]; rfl, rfl⟩

end Go.Proofs.YtgmhfianpdhnmaaGreatDoor

namespace Go.Proofs.YtgmhfianpdhnmaaGreatDoor
open Go.RowKit
set_option linter.unusedVariables false
set_option maxRecDepth 100000

theorem M.take_succ_fs (A B : M.Fs) (k : Nat) (ha : k < A.length) (hb : k < B.length) : A.take (k + 1) = B.take (k + 1) ↔ A.take k = B.take k ∧ A.getD k default = B.getD k default := by
  rw [List.take_add_one, List.take_add_one, List.getElem?_eq_getElem ha, List.getElem?_eq_getElem hb, List.getD_eq_getElem?_getD, List.getD_eq_getElem?_getD, List.getElem?_eq_getElem ha, List.getElem?_eq_getElem hb]
  simp only [Option.toList, Option.getD_some]
  constructor
  · intro h
    have := List.append_inj h (by rw [List.length_take, List.length_take]; omega)
    exact ⟨this.1, by simpa using this.2⟩
  · rintro ⟨h1, h2⟩
    rw [h1, h2]

theorem M.fil_eq (a b : M.Fil) : a = b ↔ a.nm = b.nm ∧ a.data = b.data := by
  cases a; cases b; simp

noncomputable instance (A B : M.Fs) : Decidable (A = B) := Classical.propDecidable _

set_option maxHeartbeats 8000000 in
theorem rsame11_any {S R : Nat → Prop} {w : World} {av bv : Value} {A B : M.Fs} {xs ys : List Value} (ha : IsFs S w av A xs) (hb : IsFs R w bv B ys) (hl : A.length ≤ 100000) :
    Calls Tryz.prog 23 #[av, bv] w fun e w' => e = .returned (.bool (decide (A = B))) ∧ Below w.heap.size w w' := by
  obtain ⟨ao, ac, rfl⟩ := ha.shape
  obtain ⟨bo, bc, rfl⟩ := hb.shape
  obtain ⟨n, hn⟩ : ∃ n, n = A.length := ⟨_, rfl⟩
  obtain ⟨m, hm⟩ : ∃ n, n = B.length := ⟨_, rfl⟩
  rw [← hn] at ha hl ⊢
  rw [← hm] at hb ⊢
  have HN : Hid (A.length = n) := hn.symm
  have HM : Hid (B.length = m) := hm.symm
  have HA := Lib.hid ha
  have HB := Lib.hid hb
  have HL := Lib.hid hl
  clear ha hb hn hm hl
  by_cases hnm : n = m
  · subst hnm
    have t1 : ((n : Int) != (n : Int)) = false := by simp
    go_enter Tryz.func23, Tryz.ntmps23
    go_wp2
    go_loopw [5] (fun v wr => ∃ k : Nat, v = .int .i64 (k : Int) ∧ Hid (k ≤ n ∧ A.take k = B.take k) ∧ Hid (Below w.heap.size w wr))
      (fun v _ => n - numOf v)
    case atStart => exact ⟨0, rfl, ⟨Nat.zero_le _, by simp⟩, Below.refl _ _⟩
    case round =>
      obtain ⟨wz, rfl⟩ : ∃ x, x = wr := ⟨_, rfl⟩
      obtain ⟨k, rfl, hk, kk⟩ := hrel
      by_cases hlt : k < n
      · have b1 : (k : Int) < n := by omega
        obtain ⟨b, off, rfl, c0, c1, i0, _⟩ := (HA.out.below kk.out).at_ k (by rw [HN.out]; exact hlt)
        obtain ⟨d, dff, rfl, d0, d1, j0, _⟩ := (HB.out.below kk.out).at_ k (by rw [HM.out]; exact hlt)
        have HT : Hid (A.take (k + 1) = B.take (k + 1) ↔ A.take k = B.take k ∧ A.getD k default = B.getD k default) := M.take_succ_fs A B k (by rw [HN.out]; exact hlt) (by rw [HM.out]; exact hlt)
        obtain ⟨x, hx⟩ : ∃ x, x = xs.getD k undef := ⟨_, rfl⟩
        obtain ⟨y, hy⟩ : ∃ x, x = ys.getD k undef := ⟨_, rfl⟩
        rw [← hx] at c1 i0
        rw [← hy] at d1 j0
        obtain ⟨P, hP⟩ : ∃ x, x = A.getD k default := ⟨_, rfl⟩
        obtain ⟨Q, hQ⟩ : ∃ x, x = B.getD k default := ⟨_, rfl⟩
        rw [← hP] at c0 i0 HT
        rw [← hQ] at d0 j0 HT
        have C := Lib.hid (fun w' (kb : Below wz.heap.size wz w') => requal_b x y P.data Q.data w' (i0.below kb) (j0.below kb))
        obtain ⟨sp, hsp⟩ : ∃ s : ByteArray, s = ⟨P.nm.toArray⟩ := ⟨_, rfl⟩
        obtain ⟨sq, hsq⟩ : ∃ s : ByteArray, s = ⟨Q.nm.toArray⟩ := ⟨_, rfl⟩
        have q1 : (sp.toList == sq.toList) = decide (P.nm = Q.nm) := by rw [hsp, hsq]; exact str_eq P.nm Q.nm
        rw [← hsp] at c0
        rw [← hsq] at d0
        have HK := Lib.hid hlt
        have G1 : Hid (wrap64 ((k : Int) + 1) = ((k + 1 : Nat) : Int)) := wrap_next (by have := HL.out; omega)
        have g2 : (0 : Int) ≤ (k : Int) := by omega
        have g3 : ((k : Int)).toNat = k := by omega
        have z0 : 0 ≤ n := Nat.zero_le _
        have KZ : Hid (∀ w', Below wz.heap.size wz w' → w'.cell? ⟨b, off + k * 2, none⟩ = some (.string sp) ∧ w'.cell? ⟨b, off + k * 2 + 1, none⟩ = some x ∧ w'.cell? ⟨d, dff + k * 2, none⟩ = some (.string sq) ∧ w'.cell? ⟨d, dff + k * 2 + 1, none⟩ = some y) := fun w' kb =>
          ⟨(kb.cell (p := ⟨b, off + k * 2, none⟩) (World.block_lt_of_cell? wz _ c0)).trans c0, (kb.cell (p := ⟨b, off + k * 2 + 1, none⟩) (World.block_lt_of_cell? wz _ c1)).trans c1,
           (kb.cell (p := ⟨d, dff + k * 2, none⟩) (World.block_lt_of_cell? wz _ d0)).trans d0, (kb.cell (p := ⟨d, dff + k * 2 + 1, none⟩) (World.block_lt_of_cell? wz _ d1)).trans d1⟩
        clear i0 j0 hx hy hP hQ hsp hsq hlt
        by_cases hnn : P.nm = Q.nm
        · rw [decide_eq_true hnn] at q1
          have q2 : (sp.toList != sq.toList) = false := by rw [bne, q1]; rfl
          have HNN := Lib.hid hnn
          clear c0 c1 d0 d1 hnn
          go_upto_region 6 with fail
          refine wp_region_any (by kernel_rfl) ?_
          change wpAny _ _ _ _ _ _ _ (World.drew _)
          refine wpAny_of_held (S := fun w' => Below wz.heap.size wz w') _ _ _ _ ?_
          have S0 : Below wz.heap.size wz wz.drew := (Below.refl _ _).drew
          refine wpAnyH_take_at (i := 0) (v := .slice (some ⟨b, off, none⟩) n ac) rfl rfl (by kernel_rfl) (by kernel_rfl) (by kernel_rfl) (fun _ _ _ h => h) (Or.inl ⟨by rfl, fun w hS => by go_simp⟩) S0 ?_
          try simp only [List.setIfInBounds_toArray, List.set_cons_zero, List.set_cons_succ]
          refine wpAnyH_take_at (i := 1) (v := .int .i64 (k : Int)) rfl rfl (by kernel_rfl) (by kernel_rfl) (by kernel_rfl) (fun _ _ _ h => h) (Or.inl ⟨by rfl, fun w hS => by go_simp⟩) S0 ?_
          try simp only [List.setIfInBounds_toArray, List.set_cons_zero, List.set_cons_succ]
          refine wpAnyH_take_at (i := 2) (v := .pointer (some ⟨b, off + k * 2, none⟩)) rfl rfl (by kernel_rfl) (by kernel_rfl) (by kernel_rfl) (fun _ _ _ h => h) (Or.inl ⟨by rfl, fun w hS => by go_simp⟩) S0 ?_
          try simp only [List.setIfInBounds_toArray, List.set_cons_zero, List.set_cons_succ]
          refine wpAnyH_take_at (i := 3) (v := .pointer (some ⟨b, off + k * 2, none⟩)) rfl rfl (by kernel_rfl) (by kernel_rfl) (by kernel_rfl) (fun _ _ _ h => h) (Or.inl ⟨by rfl, fun w hS => by go_simp⟩) S0 ?_
          try simp only [List.setIfInBounds_toArray, List.set_cons_zero, List.set_cons_succ]
          refine wpAnyH_take_at (i := 4) (v := .string sp) rfl rfl (by kernel_rfl) (by kernel_rfl) (by kernel_rfl) (fun _ _ _ h => h) (Or.inl ⟨by rfl, fun w hS => by have c := (KZ.out w hS).1; go_simp⟩) S0 ?_
          try simp only [List.setIfInBounds_toArray, List.set_cons_zero, List.set_cons_succ]
          refine wpAnyH_take_at (i := 5) (v := .slice (some ⟨d, dff, none⟩) n bc) rfl rfl (by kernel_rfl) (by kernel_rfl) (by kernel_rfl) (fun _ _ _ h => h) (Or.inl ⟨by rfl, fun w hS => by go_simp⟩) S0 ?_
          try simp only [List.setIfInBounds_toArray, List.set_cons_zero, List.set_cons_succ]
          refine wpAnyH_take_at (i := 6) (v := .int .i64 (k : Int)) rfl rfl (by kernel_rfl) (by kernel_rfl) (by kernel_rfl) (fun _ _ _ h => h) (Or.inl ⟨by rfl, fun w hS => by go_simp⟩) S0 ?_
          try simp only [List.setIfInBounds_toArray, List.set_cons_zero, List.set_cons_succ]
          refine wpAnyH_take_at (i := 7) (v := .pointer (some ⟨d, dff + k * 2, none⟩)) rfl rfl (by kernel_rfl) (by kernel_rfl) (by kernel_rfl) (fun _ _ _ h => h) (Or.inl ⟨by rfl, fun w hS => by go_simp⟩) S0 ?_
          try simp only [List.setIfInBounds_toArray, List.set_cons_zero, List.set_cons_succ]
          refine wpAnyH_take_at (i := 8) (v := .pointer (some ⟨d, dff + k * 2, none⟩)) rfl rfl (by kernel_rfl) (by kernel_rfl) (by kernel_rfl) (fun _ _ _ h => h) (Or.inl ⟨by rfl, fun w hS => by go_simp⟩) S0 ?_
          try simp only [List.setIfInBounds_toArray, List.set_cons_zero, List.set_cons_succ]
          refine wpAnyH_take_at (i := 9) (v := .string sq) rfl rfl (by kernel_rfl) (by kernel_rfl) (by kernel_rfl) (fun _ _ _ h => h) (Or.inl ⟨by rfl, fun w hS => by have c := (KZ.out w hS).2.2.1; go_simp⟩) S0 ?_
          try simp only [List.setIfInBounds_toArray, List.set_cons_zero, List.set_cons_succ]
          refine wpAnyH_take_at (i := 10) (v := .bool false) rfl rfl (by kernel_rfl) (by kernel_rfl) (by kernel_rfl) (fun _ _ _ h => h) (Or.inl ⟨by rfl, fun w hS => by have q := q1; have q' := q2; go_simp⟩) S0 ?_
          try simp only [List.setIfInBounds_toArray, List.set_cons_zero, List.set_cons_succ]
          refine wpAnyH_take_at (i := 11) (v := .bool false) rfl rfl (by kernel_rfl) (by kernel_rfl) (by kernel_rfl) (fun _ _ _ h => h) (Or.inl ⟨by rfl, fun w hS => by go_simp⟩) S0 ?_
          try simp only [List.setIfInBounds_toArray, List.set_cons_zero, List.set_cons_succ]
          refine wpAnyH_take_at (i := 12) (v := .slice (some ⟨b, off, none⟩) n ac) rfl rfl (by kernel_rfl) (by kernel_rfl) (by kernel_rfl) (fun _ _ _ h => h) (Or.inl ⟨by rfl, fun w hS => by go_simp⟩) S0 ?_
          try simp only [List.setIfInBounds_toArray, List.set_cons_zero, List.set_cons_succ]
          refine wpAnyH_take_at (i := 13) (v := .int .i64 (k : Int)) rfl rfl (by kernel_rfl) (by kernel_rfl) (by kernel_rfl) (fun _ _ _ h => h) (Or.inl ⟨by rfl, fun w hS => by go_simp⟩) S0 ?_
          try simp only [List.setIfInBounds_toArray, List.set_cons_zero, List.set_cons_succ]
          refine wpAnyH_take_at (i := 14) (v := .pointer (some ⟨b, off + k * 2, none⟩)) rfl rfl (by kernel_rfl) (by kernel_rfl) (by kernel_rfl) (fun _ _ _ h => h) (Or.inl ⟨by rfl, fun w hS => by go_simp⟩) S0 ?_
          try simp only [List.setIfInBounds_toArray, List.set_cons_zero, List.set_cons_succ]
          refine wpAnyH_take_at (i := 15) (v := .pointer (some ⟨b, off + k * 2 + 1, none⟩)) rfl rfl (by kernel_rfl) (by kernel_rfl) (by kernel_rfl) (fun _ _ _ h => h) (Or.inl ⟨by rfl, fun w hS => by go_simp⟩) S0 ?_
          try simp only [List.setIfInBounds_toArray, List.set_cons_zero, List.set_cons_succ]
          refine wpAnyH_take_at (i := 16) (v := x) rfl rfl (by kernel_rfl) (by kernel_rfl) (by kernel_rfl) (fun _ _ _ h => h) (Or.inl ⟨by rfl, fun w hS => by have c := (KZ.out w hS).2.1; go_simp⟩) S0 ?_
          try simp only [List.setIfInBounds_toArray, List.set_cons_zero, List.set_cons_succ]
          refine wpAnyH_take_at (i := 17) (v := .slice (some ⟨d, dff, none⟩) n bc) rfl rfl (by kernel_rfl) (by kernel_rfl) (by kernel_rfl) (fun _ _ _ h => h) (Or.inl ⟨by rfl, fun w hS => by go_simp⟩) S0 ?_
          try simp only [List.setIfInBounds_toArray, List.set_cons_zero, List.set_cons_succ]
          refine wpAnyH_take_at (i := 18) (v := .int .i64 (k : Int)) rfl rfl (by kernel_rfl) (by kernel_rfl) (by kernel_rfl) (fun _ _ _ h => h) (Or.inl ⟨by rfl, fun w hS => by go_simp⟩) S0 ?_
          try simp only [List.setIfInBounds_toArray, List.set_cons_zero, List.set_cons_succ]
          refine wpAnyH_take_at (i := 19) (v := .pointer (some ⟨d, dff + k * 2, none⟩)) rfl rfl (by kernel_rfl) (by kernel_rfl) (by kernel_rfl) (fun _ _ _ h => h) (Or.inl ⟨by rfl, fun w hS => by go_simp⟩) S0 ?_
          try simp only [List.setIfInBounds_toArray, List.set_cons_zero, List.set_cons_succ]
          refine wpAnyH_take_at (i := 20) (v := .pointer (some ⟨d, dff + k * 2 + 1, none⟩)) rfl rfl (by kernel_rfl) (by kernel_rfl) (by kernel_rfl) (fun _ _ _ h => h) (Or.inl ⟨by rfl, fun w hS => by go_simp⟩) S0 ?_
          try simp only [List.setIfInBounds_toArray, List.set_cons_zero, List.set_cons_succ]
          refine wpAnyH_take_at (i := 21) (v := y) rfl rfl (by kernel_rfl) (by kernel_rfl) (by kernel_rfl) (fun _ _ _ h => h) (Or.inl ⟨by rfl, fun w hS => by have c := (KZ.out w hS).2.2.2; go_simp⟩) S0 ?_
          try simp only [List.setIfInBounds_toArray, List.set_cons_zero, List.set_cons_succ]
          refine wpAnyH_ready (rs := [22]) (by kernel_rfl) (by simp) ?_
          refine AllReadyH.cons rfl (fun K hK => ?_) AllReadyH.nil
          go_simp
          refine (C.out _ S0).mono ?_
          rintro e w1 ⟨rfl, k1⟩
          have S1 : Below wz.heap.size wz w1 := S0.trans (k1.mono S0.size)
          refine hK.out _ _ S1 (fun _ => ?_)
          clear hK K S0 k1
          obtain ⟨r, hr⟩ : ∃ r, r = decide (P.data = Q.data) := ⟨_, rfl⟩
          rw [← hr]
          have HR := Lib.hid hr
          clear hr
          have KN : Hid (Below w.heap.size w w1) := kk.out.trans (S1.mono kk.out.size)
          refine wpAnyH_take_at (i := 23) (v := .bool (!r)) rfl rfl (by kernel_rfl) (by kernel_rfl) (by kernel_rfl) (fun _ _ _ h => h) (Or.inl ⟨by rfl, fun w hS => by go_simp⟩) S1 ?_
          try simp only [List.setIfInBounds_toArray, List.set_cons_zero, List.set_cons_succ]
          refine wpAnyH_take_at (i := 24) (v := .bool (!r)) rfl rfl (by kernel_rfl) (by kernel_rfl) (by kernel_rfl) (fun _ _ _ h => h) (Or.inl ⟨by rfl, fun w hS => by go_simp⟩) S1 ?_
          try simp only [List.setIfInBounds_toArray, List.set_cons_zero, List.set_cons_succ]
          refine wpAnyH_done (by kernel_rfl) ?_ _
          clear S1 KZ C kk
          cases r with
          | true =>
            have hS : Hid (k + 1 ≤ n ∧ A.take (k + 1) = B.take (k + 1)) := ⟨HK.out, HT.out.2 ⟨hk.out.2, (M.fil_eq P Q).2 ⟨HNN.out, of_decide_eq_true HR.out.symm⟩⟩⟩
            clear hk HT HR
            go_wp2
            go_roundw
            case rel => exact ⟨k + 1, by first | rfl | rw [G1.out], hS, KN⟩
            case measure =>
              have := HK.out
              try rw [G1.out]
              show n - (((k + 1 : Nat) : Int)).toNat < n - ((k : Int)).toNat
              omega
          | false =>
            have hS : Hid (decide (A = B) = false) := decide_eq_false fun e => of_decide_eq_false HR.out.symm ((M.fil_eq P Q).1 (HT.out.1 (by rw [e])).2).2
            clear hk HT HR
            go_wp2
            go_ret
            exact ⟨by rw [hS.out]; rfl, KN.out⟩
        · rw [decide_eq_false hnn] at q1
          have q2 : (sp.toList != sq.toList) = true := by rw [bne, q1]; rfl
          have hS : Hid (decide (A = B) = false) := decide_eq_false fun e => hnn ((M.fil_eq P Q).1 (HT.out.1 (by rw [e])).2).1
          clear hk HT C hnn KZ
          go_upto_region 6 with fail
          go_quiet (fail)
          go_wp2
          go_ret
          exact ⟨by rw [hS.out]; rfl, drewN_below kk.out _⟩
      · have b1 : ¬ (k : Int) < n := by omega
        have hS : Hid (decide (A = B) = true) := decide_eq_true (by
          have h := hk.out.2
          have e : k = n := by have := hk.out.1; omega
          rwa [List.take_of_length_le (by rw [HN.out, e]; exact Nat.le_refl _), List.take_of_length_le (by rw [HM.out, e]; exact Nat.le_refl _)] at h)
        clear hk hlt
        go_wp2
        go_ret
        exact ⟨by rw [hS.out]; rfl, kk.out⟩
  · have t1 : ((n : Int) != (m : Int)) = true := by have h : ¬ (n : Int) = (m : Int) := by omega
                                                    simpa using h
    have hS : Hid (decide (A = B) = false) := decide_eq_false fun e => hnm (by rw [← HN.out, ← HM.out, e])
    go_enter Tryz.func23, Tryz.ntmps23
    go_wp2
    go_ret
    exact ⟨by rw [hS.out]; rfl, Below.refl _ _⟩

end Go.Proofs.YtgmhfianpdhnmaaGreatDoor
