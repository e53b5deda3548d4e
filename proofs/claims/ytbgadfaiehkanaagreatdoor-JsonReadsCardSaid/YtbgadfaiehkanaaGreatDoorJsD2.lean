/-
  THE PROGRAM'S READER: a list's part, if value holds: the walk. Conditions: texts of up to 65536 bytes; the library's variables lie as laid.
-/
import Derived.Test.YtbgadfaiehkanaaGreatDoorPj22
import Derived.Test.YtbgadfaiehkanaaGreatDoorPj10
namespace Go.Proofs.YtbgadfaiehkanaaGreatDoor
open Go.RowKit Go.Proofs Go.Shelf
set_option linter.unusedVariables false
set_option maxRecDepth 100000

theorem own_some {w : World} {B size n : Nat} {e : TypeId} {v : Value} {xs : List Value} (h : w.ownsRow B e size v (n + 1) xs) : ∃ b c, v = .slice (some ⟨b, 0, none⟩) (n + 1) c := by
  rcases h.2 with ⟨_, h⟩ | ⟨b, c, cur, hv, _⟩
  · omega
  · exact ⟨b, c, hv⟩

def z6 : List Value := [.int .i64 0, .bool false, .int .i64 0, .string ⟨#[]⟩, .slice none 0 0, .slice none 0 0]

set_option maxHeartbeats 8000000 in
theorem list1_err {w0 : World} {g gR gD gO d : Nat} {q : Int} {wz : World} {L : List M.GV} {lss : List (List Value)} {lv : Value} {Q : Nat → Prop} (V : JVal d q) (S : JL w0 g gR gD gO d q wz L lss lv Q)
    (s : List UInt8) (h : Rd wz g s) (hl : s.length ≤ 65536) (hL : JLaid wz) (hg : 6 ≤ g) (c : Int) (hc : M.val2 d s = .err c) :
    Calls Tryz.prog 165 #[.pointer (some ⟨gO, 0, none⟩), .pointer (some ⟨gR, 0, none⟩), .pointer (some ⟨gD, 0, none⟩)] wz fun e w' => ∃ T, e = PanT T ∧ PanOf T c ∧ Chg (fun b => b = g) w0 w' := by
  obtain ⟨la, n, lc, rfl⟩ := rowV_shape S.row
  have HV : Hid (∀ w1, Below wz.heap.size wz w1 → Calls Tryz.prog 38 #[.pointer (some ⟨g, 0, none⟩), .int .i64 q] w1 fun e w' => ∃ T, e = PanT T ∧ PanOf T c ∧ Chg (fun b => b = g) w1 w') := by
    intro w1 k1
    have := V g s w1 (h.below k1 h.lt) hl (hL.below k1) hg
    rw [hc] at this
    exact this
  have HC : Hid (∀ w1, Below wz.heap.size wz w1 → w1.cell? ⟨gO, 0, none⟩ = some (.slice la n lc) ∧ w1.cell? ⟨gR, 0, none⟩ = some (.pointer (some ⟨g, 0, none⟩)) ∧ w1.cell? ⟨gD, 0, none⟩ = some (.int .i64 q)) := fun w1 k1 =>
    ⟨(S.kO.below k1 S.kO.lt).cell 0, (S.kR.below k1 S.kR.lt).cell 0, (S.kD.below k1 S.kD.lt).cell 0⟩
  have HS := Lib.hid S.chg
  clear S V h hl hL hc
  go_enter Tryz.func165, Tryz.ntmps165
  go_upto_region 0 with fail
  refine region_T (fun w' => Below wz.heap.size wz w') [8, 9] (by kernel_rfl) ?_
  have S0 : Below wz.heap.size wz wz.drew := drewN_below (Below.refl _ wz) 1
  refine anyT_take_at (i := 0) (v := .slice la n lc) rfl rfl (by kernel_rfl) (by kernel_rfl) (by kernel_rfl) (by kernel_rfl) (fun _ _ _ h => h) (Or.inl ⟨by rfl, fun w hS => by have c := (HC.out w hS).1; go_simp⟩) S0 ?_
  try simp only [List.setIfInBounds_toArray, List.set_cons_zero, List.set_cons_succ]
  refine anyT_take_at (i := 1) (v := .pointer (some ⟨g, 0, none⟩)) rfl rfl (by kernel_rfl) (by kernel_rfl) (by kernel_rfl) (by kernel_rfl) (fun _ _ _ h => h) (Or.inl ⟨by rfl, fun w hS => by have c := (HC.out w hS).2.1; go_simp⟩) S0 ?_
  try simp only [List.setIfInBounds_toArray, List.set_cons_zero, List.set_cons_succ]
  refine anyT_take_at (i := 2) (v := .int .i64 q) rfl rfl (by kernel_rfl) (by kernel_rfl) (by kernel_rfl) (by kernel_rfl) (fun _ _ _ h => h) (Or.inl ⟨by rfl, fun w hS => by have c := (HC.out w hS).2.2; go_simp⟩) S0 ?_
  try simp only [List.setIfInBounds_toArray, List.set_cons_zero, List.set_cons_succ]
  refine anyT_take_at (i := 4) (v := .int .i64 (n : Int)) rfl rfl (by kernel_rfl) (by kernel_rfl) (by kernel_rfl) (by kernel_rfl) (fun _ _ _ h => h) (Or.inl ⟨by rfl, fun w hS => by go_simp⟩) S0 ?_
  try simp only [List.setIfInBounds_toArray, List.set_cons_zero, List.set_cons_succ]
  refine anyT_ready (rs := [3, 5]) (by kernel_rfl) (by simp) ?_
  refine ReadyT.cons rfl (fun K hK => ?_) (ReadyT.cons rfl (fun K hK => ?_) ReadyT.nil)
  · go_simp
    refine (HV.out _ S0).mono ?_
    rintro e w1 ⟨T, rfl, hT, k1⟩
    exact ⟨rfl, T, rfl, hT, HS.out.go ((Chg.of_below S0).go k1)⟩
  · go_simp
    have S1 : Below wz.heap.size wz ((wz.alloc (.cells #[.int .i64 0, .bool false, .int .i64 0, .string ⟨#[]⟩, .slice none 0 0, .slice none 0 0] 27)).drew) := ((Below.refl _ _).alloc (Nat.le_refl _) _).drew
    obtain ⟨w1, hw1⟩ : ∃ x, x = ((wz.alloc (.cells #[.int .i64 0, .bool false, .int .i64 0, .string ⟨#[]⟩, .slice none 0 0, .slice none 0 0] 27)).drew) := ⟨_, rfl⟩
    rw [← hw1] at S1 ⊢
    clear hw1
    refine hK.out _ _ (.inr S1) ?_
    clear hK K
    refine anyT_ready (rs := [3]) (by kernel_rfl) (by simp) ?_
    refine ReadyT.cons rfl (fun K hK => ?_) ReadyT.nil
    go_simp
    refine (HV.out _ S1).mono ?_
    rintro e w2 ⟨T, rfl, hT, k2⟩
    exact ⟨rfl, T, rfl, hT, HS.out.go ((Chg.of_below S1).go k2)⟩

set_option maxHeartbeats 16000000 in
theorem list1_ok {w0 : World} {g gR gD gO d : Nat} {q : Int} {wz : World} {L : List M.GV} {lss : List (List Value)} {lv : Value} {Q : Nat → Prop} (V : JVal d q) (S : JL w0 g gR gD gO d q wz L lss lv Q)
    (s : List UInt8) (h : Rd wz g s) (hl : s.length ≤ 65536) (hLn : L.length ≤ 65536) (hL : JLaid wz) (hg : 6 ≤ g) (x : M.GV) (r : List UInt8) (hc : M.val2 d s = .ok x r) :
    Calls Tryz.prog 165 #[.pointer (some ⟨gO, 0, none⟩), .pointer (some ⟨gR, 0, none⟩), .pointer (some ⟨gD, 0, none⟩)] wz fun e w' => e = .returned (.tuple #[]) ∧ Rd w' g (M.blk r) ∧ ∃ lss' lv' Q', JL w0 g gR gD gO d q w' (L ++ [x]) lss' lv' Q' := by
  obtain ⟨la, n, lc, hlv⟩ := rowV_shape S.row
  have hown : ∀ b, lv.ownBlock = some b → gO < b ∧ b < wz.heap.size := fun b hb => S.row.lt b hb
  have hnl : n = L.length := by
    have := S.row
    rw [hlv] at this
    rcases this.2 with ⟨e, h0⟩ | ⟨_, _, _, e, _⟩
    · injection e with _ e _
      rw [e, h0]
    · injection e with _ e _
  subst hlv
  have HV : Hid (∀ w1, Below wz.heap.size wz w1 → Calls Tryz.prog 38 #[.pointer (some ⟨g, 0, none⟩), .int .i64 q] w1 fun e w' => ∃ lv mv, e = .returned (.agg (vcs x.k x.b x.n x.t lv mv).toArray) ∧ IsT (fun b => w1.heap.size ≤ b) w' d (vcs x.k x.b x.n x.t lv mv) x ∧ Reads w1 g (M.blk r) w') := by
    intro w1 k1
    have := V g s w1 (h.below k1 h.lt) hl (hL.below k1) hg
    rw [hc] at this
    exact this
  have HC : Hid (∀ w1, Chg (fun b => b = g) wz w1 → w1.cell? ⟨gO, 0, none⟩ = some (.slice la n lc) ∧ w1.cell? ⟨gR, 0, none⟩ = some (.pointer (some ⟨g, 0, none⟩)) ∧ w1.cell? ⟨gD, 0, none⟩ = some (.int .i64 q)) := fun w1 k1 =>
    ⟨(S.goes k1).kO.cell 0, (S.goes k1).kR.cell 0, (S.goes k1).kD.cell 0⟩
  have HS := Lib.hid S
  have HO := Lib.hid hown
  have HLN := Lib.hid hLn
  have HNL := Lib.hid hnl
  have hnn : (n : Int) < 9223372036854775807 := by omega
  clear S V h hl hL hc hown hLn hnl
  go_enter Tryz.func165, Tryz.ntmps165
  go_upto_region 0 with fail
  refine region_T (fun w' => w'.cell? ⟨gO, 0, none⟩ = some (.slice la n lc) ∧ w'.cell? ⟨gR, 0, none⟩ = some (.pointer (some ⟨g, 0, none⟩)) ∧ w'.cell? ⟨gD, 0, none⟩ = some (.int .i64 q)) [7, 8, 9] (by kernel_rfl) ?_
  have k0 : Below wz.heap.size wz wz.drew := drewN_below (Below.refl _ wz) 1
  have S0 := HC.out wz.drew (Chg.of_below k0)
  refine anyT_take_at (i := 0) (v := .slice la n lc) rfl rfl (by kernel_rfl) (by kernel_rfl) (by kernel_rfl) (by kernel_rfl) (fun _ _ _ h => h) (Or.inl ⟨by rfl, fun w hS => by have c := hS.1; go_simp⟩) S0 ?_
  try simp only [List.setIfInBounds_toArray, List.set_cons_zero, List.set_cons_succ]
  refine anyT_take_at (i := 1) (v := .pointer (some ⟨g, 0, none⟩)) rfl rfl (by kernel_rfl) (by kernel_rfl) (by kernel_rfl) (by kernel_rfl) (fun _ _ _ h => h) (Or.inl ⟨by rfl, fun w hS => by have c := hS.2.1; go_simp⟩) S0 ?_
  try simp only [List.setIfInBounds_toArray, List.set_cons_zero, List.set_cons_succ]
  refine anyT_take_at (i := 2) (v := .int .i64 q) rfl rfl (by kernel_rfl) (by kernel_rfl) (by kernel_rfl) (by kernel_rfl) (fun _ _ _ h => h) (Or.inl ⟨by rfl, fun w hS => by have c := hS.2.2; go_simp⟩) S0 ?_
  try simp only [List.setIfInBounds_toArray, List.set_cons_zero, List.set_cons_succ]
  refine anyT_take_at (i := 4) (v := .int .i64 (n : Int)) rfl rfl (by kernel_rfl) (by kernel_rfl) (by kernel_rfl) (by kernel_rfl) (fun _ _ _ h => h) (Or.inl ⟨by rfl, fun w hS => by go_simp⟩) S0 ?_
  try simp only [List.setIfInBounds_toArray, List.set_cons_zero, List.set_cons_succ]
  refine anyT_ready (rs := [3, 5]) (by kernel_rfl) (by simp) ?_
  refine ReadyT.cons rfl (fun K hK => ?_) (ReadyT.cons rfl (fun K hK => ?_) ReadyT.nil)
  · go_simp
    refine (HV.out _ k0).mono ?_
    rintro e w1 ⟨lx, mx, rfl, iv, k1⟩
    have C1 : Chg (fun b => b = g) wz w1 := (Chg.of_below k0).go k1.2
    refine hK.out _ _ (.inr (HC.out w1 C1)) ?_
    clear hK K S0
    refine anyT_ready (rs := [5]) (by kernel_rfl) (by simp) ?_
    refine ReadyT.cons rfl (fun K hK => ?_) ReadyT.nil
    go_simp
    obtain ⟨WA, hWA⟩ : ∃ W, W = w1.alloc (.cells #[.int .i64 0, .bool false, .int .i64 0, .string ⟨#[]⟩, .slice none 0 0, .slice none 0 0] 27) := ⟨_, rfl⟩
    obtain ⟨gN, hgN⟩ : ∃ g, g = w1.heap.size := ⟨_, rfl⟩
    have CA : Chg (fun b => b = g) wz WA := by rw [hWA]; exact C1.alloc _
    have BN : Blk WA gN 27 z6 := by rw [hWA]; exact Blk.newAt _ _ _ _ _ hgN rfl
    have IA : IsT (fun b => wz.heap.size ≤ b) WA d (vcs x.k x.b x.n x.t lx mx) x := by rw [hWA]; exact IsT.below ((Below.refl _ _).alloc (Nat.le_refl _) _) iv
    have RA : Rd WA g (M.blk r) := by rw [hWA]; exact k1.1.below ((Below.refl _ _).alloc (Nat.le_refl _) _) k1.1.lt
    rw [← hWA, ← hgN]
    clear hWA hgN iv k1
    refine hK.out _ _ (.inr (HC.out WA CA)) ?_
    clear hK K C1 k0
    have SA := HS.out.goes CA
    have hne : some gO ≠ (Value.slice la n lc).ownBlock := fun e => by have := HO.out gO e.symm; omega
    refine anyT_ready (rs := [6]) (by kernel_rfl) (by simp) ?_
    refine ReadyT.cons rfl (fun K hK => ?_) ReadyT.nil
    refine step_app_row rowsV rfl (.tmp 3) (.tmp 8) rfl (gO + 1) (.slice la n lc) L.length lss.flatten rfl SA.row ⟨gN, 0, none⟩ 1 1 z6 rfl rfl (fun j u hj => by rw [add_plainJ, Nat.zero_add, BN.cell]; exact hj) (by decide) (by have := HLN.out; unfold maxLen; omega) (by have := HLN.out; omega) SA.lt ?_
    intro v5 w11 o9 g9 a9
    obtain ⟨vb, vc, rfl⟩ := own_some o9
    have B11 := SA.kO.grown g9 hne
    have S11 : w11.cell? ⟨gO, 0, none⟩ = some (.slice la n lc) ∧ w11.cell? ⟨gR, 0, none⟩ = some (.pointer (some ⟨g, 0, none⟩)) ∧ w11.cell? ⟨gD, 0, none⟩ = some (.int .i64 q) :=
      ⟨B11.cell 0, (SA.kR.grown g9 (fun e => by have := HO.out gR e.symm; have := SA.l3; have := SA.l4; omega)).cell 0, (SA.kD.grown g9 (fun e => by have := HO.out gD e.symm; have := SA.l4; omega)).cell 0⟩
    refine hK.out _ _ (.inr S11) ?_
    clear hK K
    simp only [Act.put, List.setIfInBounds_toArray, List.set_cons_zero, List.set_cons_succ]
    rw [← HNL.out] at o9 a9 ⊢
    have hvO : vb ≠ gO := fun e => by have := (o9.lt vb rfl).1; omega
    have HFL : Hid (n * 6 = lss.flatten.length) := by rw [Hid, HNL.out]; exact HS.out.row.1.symm
    have hgv : g < gO ∧ gO < vb := ⟨by have := SA.l1; have := SA.l2; have := SA.l3; have := SA.l4; omega, (o9.lt vb rfl).1⟩
    have R11 : Rd w11 g (M.blk r) := Blk.grown RA g9 (fun e => by have := HO.out g e.symm; omega)
    refine anyT_free_at (i := 7) (v := .pointer (some ⟨vb, n * 6, none⟩)) rfl rfl (by kernel_rfl) (by kernel_rfl) (by kernel_rfl) (by kernel_rfl) (fun _ _ _ h => h) (Or.inl ⟨by rfl, fun w hS => by have nn : ¬ ((n : Int) + 1 ≤ (n : Int)) := (by omega); go_simp⟩) ?_
    try simp only [List.setIfInBounds_toArray, List.set_cons_zero, List.set_cons_succ]
    refine anyT_ready (rs := [8, 9]) (by kernel_rfl) (by simp) ?_
    refine ReadyT.cons rfl (fun K hK => ?_) (ReadyT.cons rfl (fun K hK => ?_) ReadyT.nil)
    · refine step_store_last rfl 27 (.tmp 10) (.tmp 6) rfl (gO + 1) 6 (n + 1) 27 vb vc (n + 1) (n * 6) lss.flatten z6 (vcs x.k x.b x.n x.t lx mx) rfl rfl Tryz.sizeV HFL.out IA.one o9 rfl ?_
      intro w12 o12 k12 s12
      have B12 := B11.chg k12 (fun e => hvO e.symm)
      refine hK.out _ _ (.inl (by simp)) ?_
      clear hK K
      refine anyT_ready (rs := [9]) (by kernel_rfl) (by simp) ?_
      refine ReadyT.cons rfl (fun K hK => ?_) ReadyT.nil
      have c12 := B12.cell 0
      have z12 := B12.frozen 0
      simp only [List.getElem?_cons_zero] at c12
      go_simp
      refine hK.out _ _ (.inl (by simp)) ?_
      clear hK K
      refine anyT_done (by kernel_rfl) ?_ _
      obtain ⟨WF, hWF⟩ : ∃ W, W = w12.setCell ⟨gO, 0, none⟩ (.slice (some ⟨vb, 0, none⟩) (n + 1) vc) := ⟨_, rfl⟩
      have KF : Blk WF gO 24 [.slice (some ⟨vb, 0, none⟩) (n + 1) vc] := by rw [hWF]; exact B12.set_ 0 _
      have kF : Chg (fun b => b = gO) w12 WF := by rw [hWF]; exact (Chg.refl _ _).cell 0 _
      have OF := own_chg o12 kF (fun b hb e => by injection hb with hb; exact hvO (hb.trans e))
      have RF : Rd WF g (M.blk r) := Blk.chg (Blk.chg R11 k12 (by omega)) kF (by omega)
      rw [← hWF]
      clear c12 z12 hWF
      go_end0
      refine ⟨rfl, RF, lss ++ [vcs x.k x.b x.n x.t lx mx], _, _, JL.add HS.out CA IA (fun b hb => (HO.out b hb).2) g9 a9 (by rw [← HNL.out]; exact OF) ((k12.mono fun b _ e => .inl (by rw [e]; rfl)).trans kF fun b _ e => .inr e) KF⟩
    · have c11 := S11.1
      have z11 := B11.frozen 0
      go_simp
      obtain ⟨w12, hW12⟩ : ∃ W, W = w11.setCell ⟨gO, 0, none⟩ (.slice (some ⟨vb, 0, none⟩) (n + 1) vc) := ⟨_, rfl⟩
      have K12 : Blk w12 gO 24 [.slice (some ⟨vb, 0, none⟩) (n + 1) vc] := by rw [hW12]; exact B11.set_ 0 _
      have k12 : Chg (fun b => b = gO) w11 w12 := by rw [hW12]; exact (Chg.refl _ _).cell 0 _
      have o12 := own_chg o9 k12 (fun b hb e => by injection hb with hb; exact hvO (hb.trans e))
      rw [← hW12]
      clear hW12 c11 z11
      refine hK.out _ _ (.inl (by simp)) ?_
      clear hK K
      refine anyT_ready (rs := [8]) (by kernel_rfl) (by simp) ?_
      refine ReadyT.cons rfl (fun K hK => ?_) ReadyT.nil
      refine step_store_last rfl 27 (.tmp 10) (.tmp 6) rfl (gO + 1) 6 (n + 1) 27 vb vc (n + 1) (n * 6) lss.flatten z6 (vcs x.k x.b x.n x.t lx mx) rfl rfl Tryz.sizeV HFL.out IA.one o12 rfl ?_
      intro WF OF kF sF
      refine hK.out _ _ (.inl (by simp)) ?_
      clear hK K
      refine anyT_done (by kernel_rfl) ?_ _
      have KF := K12.chg kF (fun e => hvO e.symm)
      have RF : Rd WF g (M.blk r) := Blk.chg (Blk.chg R11 k12 (by omega)) kF (by omega)
      go_end0
      refine ⟨rfl, RF, lss ++ [vcs x.k x.b x.n x.t lx mx], _, _, JL.add HS.out CA IA (fun b hb => (HO.out b hb).2) g9 a9 (by rw [← HNL.out]; exact OF) ((k12.mono fun b _ e => .inr e).trans kF fun b _ e => .inl (by rw [e]; rfl)) KF⟩
  · go_simp
    have kb : Below wz.heap.size wz ((wz.alloc (.cells #[.int .i64 0, .bool false, .int .i64 0, .string ⟨#[]⟩, .slice none 0 0, .slice none 0 0] 27)).drew) := ((Below.refl _ _).alloc (Nat.le_refl _) _).drew
    have BN0 : Blk ((wz.alloc (.cells #[.int .i64 0, .bool false, .int .i64 0, .string ⟨#[]⟩, .slice none 0 0, .slice none 0 0] 27)).drew) wz.heap.size 27 z6 := Blk.drew (Blk.newAt _ _ _ _ _ rfl rfl)
    obtain ⟨w1, hw1⟩ : ∃ x, x = ((wz.alloc (.cells #[.int .i64 0, .bool false, .int .i64 0, .string ⟨#[]⟩, .slice none 0 0, .slice none 0 0] 27)).drew) := ⟨_, rfl⟩
    obtain ⟨gN, hgN⟩ : ∃ g, g = wz.heap.size := ⟨_, rfl⟩
    have HGN : Hid (gN ≠ g) := by rw [Hid, hgN]; have := HS.out.l1; have := HS.out.chg.size; omega
    rw [← hw1] at kb BN0 ⊢
    rw [← hgN] at BN0 ⊢
    clear hw1 hgN
    refine hK.out _ _ (.inr (HC.out w1 (Chg.of_below kb))) ?_
    clear hK K S0
    refine anyT_ready (rs := [3]) (by kernel_rfl) (by simp) ?_
    refine ReadyT.cons rfl (fun K hK => ?_) ReadyT.nil
    go_simp
    refine (HV.out _ kb).mono ?_
    rintro e WA ⟨lx, mx, rfl, iv, k1⟩
    have CA : Chg (fun b => b = g) wz WA := (Chg.of_below kb).go k1.2
    have BN : Blk WA gN 27 z6 := BN0.chg k1.2 HGN.out
    have IA : IsT (fun b => wz.heap.size ≤ b) WA d (vcs x.k x.b x.n x.t lx mx) x := IsT.mono (fun b _ hb => Nat.le_trans kb.size hb) d iv
    have RA : Rd WA g (M.blk r) := k1.1
    clear iv k1
    refine hK.out _ _ (.inr (HC.out WA CA)) ?_
    clear hK K BN0 kb k0
    have SA := HS.out.goes CA
    have hne : some gO ≠ (Value.slice la n lc).ownBlock := fun e => by have := HO.out gO e.symm; omega
    refine anyT_ready (rs := [6]) (by kernel_rfl) (by simp) ?_
    refine ReadyT.cons rfl (fun K hK => ?_) ReadyT.nil
    refine step_app_row rowsV rfl (.tmp 3) (.tmp 8) rfl (gO + 1) (.slice la n lc) L.length lss.flatten rfl SA.row ⟨gN, 0, none⟩ 1 1 z6 rfl rfl (fun j u hj => by rw [add_plainJ, Nat.zero_add, BN.cell]; exact hj) (by decide) (by have := HLN.out; unfold maxLen; omega) (by have := HLN.out; omega) SA.lt ?_
    intro v5 w11 o9 g9 a9
    obtain ⟨vb, vc, rfl⟩ := own_some o9
    have B11 := SA.kO.grown g9 hne
    have S11 : w11.cell? ⟨gO, 0, none⟩ = some (.slice la n lc) ∧ w11.cell? ⟨gR, 0, none⟩ = some (.pointer (some ⟨g, 0, none⟩)) ∧ w11.cell? ⟨gD, 0, none⟩ = some (.int .i64 q) :=
      ⟨B11.cell 0, (SA.kR.grown g9 (fun e => by have := HO.out gR e.symm; have := SA.l3; have := SA.l4; omega)).cell 0, (SA.kD.grown g9 (fun e => by have := HO.out gD e.symm; have := SA.l4; omega)).cell 0⟩
    refine hK.out _ _ (.inr S11) ?_
    clear hK K
    simp only [Act.put, List.setIfInBounds_toArray, List.set_cons_zero, List.set_cons_succ]
    rw [← HNL.out] at o9 a9 ⊢
    have hvO : vb ≠ gO := fun e => by have := (o9.lt vb rfl).1; omega
    have HFL : Hid (n * 6 = lss.flatten.length) := by rw [Hid, HNL.out]; exact HS.out.row.1.symm
    have hgv : g < gO ∧ gO < vb := ⟨by have := SA.l1; have := SA.l2; have := SA.l3; have := SA.l4; omega, (o9.lt vb rfl).1⟩
    have R11 : Rd w11 g (M.blk r) := Blk.grown RA g9 (fun e => by have := HO.out g e.symm; omega)
    refine anyT_free_at (i := 7) (v := .pointer (some ⟨vb, n * 6, none⟩)) rfl rfl (by kernel_rfl) (by kernel_rfl) (by kernel_rfl) (by kernel_rfl) (fun _ _ _ h => h) (Or.inl ⟨by rfl, fun w hS => by have nn : ¬ ((n : Int) + 1 ≤ (n : Int)) := (by omega); go_simp⟩) ?_
    try simp only [List.setIfInBounds_toArray, List.set_cons_zero, List.set_cons_succ]
    refine anyT_ready (rs := [8, 9]) (by kernel_rfl) (by simp) ?_
    refine ReadyT.cons rfl (fun K hK => ?_) (ReadyT.cons rfl (fun K hK => ?_) ReadyT.nil)
    · refine step_store_last rfl 27 (.tmp 10) (.tmp 6) rfl (gO + 1) 6 (n + 1) 27 vb vc (n + 1) (n * 6) lss.flatten z6 (vcs x.k x.b x.n x.t lx mx) rfl rfl Tryz.sizeV HFL.out IA.one o9 rfl ?_
      intro w12 o12 k12 s12
      have B12 := B11.chg k12 (fun e => hvO e.symm)
      refine hK.out _ _ (.inl (by simp)) ?_
      clear hK K
      refine anyT_ready (rs := [9]) (by kernel_rfl) (by simp) ?_
      refine ReadyT.cons rfl (fun K hK => ?_) ReadyT.nil
      have c12 := B12.cell 0
      have z12 := B12.frozen 0
      simp only [List.getElem?_cons_zero] at c12
      go_simp
      refine hK.out _ _ (.inl (by simp)) ?_
      clear hK K
      refine anyT_done (by kernel_rfl) ?_ _
      obtain ⟨WF, hWF⟩ : ∃ W, W = w12.setCell ⟨gO, 0, none⟩ (.slice (some ⟨vb, 0, none⟩) (n + 1) vc) := ⟨_, rfl⟩
      have KF : Blk WF gO 24 [.slice (some ⟨vb, 0, none⟩) (n + 1) vc] := by rw [hWF]; exact B12.set_ 0 _
      have kF : Chg (fun b => b = gO) w12 WF := by rw [hWF]; exact (Chg.refl _ _).cell 0 _
      have OF := own_chg o12 kF (fun b hb e => by injection hb with hb; exact hvO (hb.trans e))
      have RF : Rd WF g (M.blk r) := Blk.chg (Blk.chg R11 k12 (by omega)) kF (by omega)
      rw [← hWF]
      clear c12 z12 hWF
      go_end0
      refine ⟨rfl, RF, lss ++ [vcs x.k x.b x.n x.t lx mx], _, _, JL.add HS.out CA IA (fun b hb => (HO.out b hb).2) g9 a9 (by rw [← HNL.out]; exact OF) ((k12.mono fun b _ e => .inl (by rw [e]; rfl)).trans kF fun b _ e => .inr e) KF⟩
    · have c11 := S11.1
      have z11 := B11.frozen 0
      go_simp
      obtain ⟨w12, hW12⟩ : ∃ W, W = w11.setCell ⟨gO, 0, none⟩ (.slice (some ⟨vb, 0, none⟩) (n + 1) vc) := ⟨_, rfl⟩
      have K12 : Blk w12 gO 24 [.slice (some ⟨vb, 0, none⟩) (n + 1) vc] := by rw [hW12]; exact B11.set_ 0 _
      have k12 : Chg (fun b => b = gO) w11 w12 := by rw [hW12]; exact (Chg.refl _ _).cell 0 _
      have o12 := own_chg o9 k12 (fun b hb e => by injection hb with hb; exact hvO (hb.trans e))
      rw [← hW12]
      clear hW12 c11 z11
      refine hK.out _ _ (.inl (by simp)) ?_
      clear hK K
      refine anyT_ready (rs := [8]) (by kernel_rfl) (by simp) ?_
      refine ReadyT.cons rfl (fun K hK => ?_) ReadyT.nil
      refine step_store_last rfl 27 (.tmp 10) (.tmp 6) rfl (gO + 1) 6 (n + 1) 27 vb vc (n + 1) (n * 6) lss.flatten z6 (vcs x.k x.b x.n x.t lx mx) rfl rfl Tryz.sizeV HFL.out IA.one o12 rfl ?_
      intro WF OF kF sF
      refine hK.out _ _ (.inl (by simp)) ?_
      clear hK K
      refine anyT_done (by kernel_rfl) ?_ _
      have KF := K12.chg kF (fun e => hvO e.symm)
      have RF : Rd WF g (M.blk r) := Blk.chg (Blk.chg R11 k12 (by omega)) kF (by omega)
      go_end0
      refine ⟨rfl, RF, lss ++ [vcs x.k x.b x.n x.t lx mx], _, _, JL.add HS.out CA IA (fun b hb => (HO.out b hb).2) g9 a9 (by rw [← HNL.out]; exact OF) ((k12.mono fun b _ e => .inr e).trans kF fun b _ e => .inl (by rw [e]; rfl)) KF⟩

end Go.Proofs.YtbgadfaiehkanaaGreatDoor
