/-
  THE PROGRAM'S READER: a member. Conditions: texts of up to 65536 bytes; the library's variables lie as laid.
-/
import Derived.Test.YtbgadfaiehkanaaGreatDoorPj23
import Derived.Test.YtbgadfaiehkanaaGreatDoorPj10
namespace Go.Proofs.YtbgadfaiehkanaaGreatDoor
open Go.RowKit Go.Proofs Go.Shelf
set_option linter.unusedVariables false
set_option maxRecDepth 100000

def z7 : List Value := [.string ⟨#[]⟩, .int .i64 0, .bool false, .int .i64 0, .string ⟨#[]⟩, .slice none 0 0, .slice none 0 0]

section
variable {w0 : World} {g : Nat} {p : JPl} {d : Nat} {q : Int} {wz : World} {m : List (List UInt8 × M.GV)} {ns : List (List UInt8)} {mss : List (List Value)} {mv : Value} {Q : Nat → Prop}

set_option maxHeartbeats 8000000 in
theorem mem_p5 (V : JVal d q) (S : JM w0 g p d q wz m ns mss mv Q) (s r nm r1 r2 : List UInt8) (h : Rd wz g s) (hl : s.length ≤ 65536) (hns : ns.length ≤ 65536) (hL : JLaid wz) (hg : 6 ≤ g) (hn : M.blk s = 34 :: r) (ht : M.txtU r [] = some (nm, r1)) (hd : ns.contains nm = false) (h58 : M.blk r1 = 58 :: r2) (c : Int) (hc : M.val2 d r2 = .err c) :
    Calls Tryz.prog 166 #[.pointer (some ⟨p.gR, 0, none⟩), .pointer (some ⟨p.gF, 0, none⟩), .pointer (some ⟨p.gO, 0, none⟩), .pointer (some ⟨p.gD, 0, none⟩)] wz (MErr w0 g c) := by
  obtain ⟨la, n, lc, rfl⟩ := rowV_shape S.row
  have HB := Lib.hid (blanks_any g s wz h)
  have hb := M.blk_le s
  rw [hn] at HB hb
  have hrl : r.length ≤ 65536 := by rw [List.length_cons] at hb; omega
  have HNM : Hid (nm.length ≤ maxLen) := by have := M.txtU_len r.length r [] nm r1 (Nat.le_refl _) ht; rw [Hid]; unfold maxLen; simp at this; omega
  have hr2 : r2.length ≤ 65536 := by
    have h1 := M.txtU_le r.length r [] nm r1 (Nat.le_refl _) ht
    have h2 := M.blk_le r1
    rw [h58, List.length_cons] at h2
    omega
  have HS := Lib.hid S
  have HL := Lib.hid hL
  have HTX := Lib.hid ht
  have HNS := Lib.hid hns
  have HDUP := Lib.hid hd
  have HB58 := Lib.hid h58
  clear S h hL hn hb ht hd hns h58
  go_enter Tryz.func166, Tryz.ntmps166
  have cR := HS.out.kR.cell 0
  simp only [List.getElem?_cons_zero] at cR
  go_wp2_with fail
  refine HB.out.mono ?_
  rintro e w1 ⟨rfl, k1⟩
  have S1 := Lib.hid (HS.out.read k1.2)
  have R1 := Lib.hid k1.1
  have L1 := Lib.hid (HL.out.reads k1.2 hg)
  clear k1 cR HB HL HS
  have cR := S1.out.kR.cell 0
  simp only [List.getElem?_cons_zero] at cR
  go_wp2_with fail
  refine (must_yes g [34] r w1 R1.out).mono ?_
  rintro e w2 ⟨rfl, k2⟩
  have S2 := Lib.hid (S1.out.read k2.2)
  have R2 := Lib.hid k2.1
  have L2 := Lib.hid (L1.out.reads k2.2 hg)
  clear k2 cR S1 R1 L1
  have cR := S2.out.kR.cell 0
  simp only [List.getElem?_cons_zero] at cR
  have HT := Lib.hid (text_any g r w2 R2.out (by omega) L2.out hg)
  rw [HTX.out] at HT
  go_wp2_with fail
  refine HT.out.mono ?_
  rintro e w3 ⟨rfl, k3⟩
  have S3 := Lib.hid (S2.out.read k3.2)
  have R3 := Lib.hid k3.1
  have L3 := Lib.hid (L2.out.reads k3.2 hg)
  clear k3 cR S2 R2 L2 HT
  have cF := S3.out.kF.cell 0
  simp only [List.getElem?_cons_zero] at cF
  have HN := Lib.hid (isNew_any p.gB p.gM ns nm w3 S3.out.nm (by have := HNS.out; omega) HNM.out)
  rw [HDUP.out] at HN
  go_wp2_with fail
  refine HN.out.mono ?_
  rintro e w4 ⟨rfl, n4, k4⟩
  have S4 := Lib.hid (S3.out.goes (k4.mono fun _ _ e => .inr e) n4)
  have R4 : Hid (Rd w4 g r1) := Blk.chg R3.out k4 (by have := S3.out.l0; have := S3.out.l1; have := S3.out.l2; have := S3.out.l3; have := S3.out.l4; omega)
  have L4 : Hid (JLaid w4) := L3.out.chg k4 (by rintro b rfl; have := S3.out.l0; have := S3.out.l1; have := S3.out.l2; have := S3.out.l3; have := S3.out.l4; omega)
  clear n4 k4 S3 R3 L3 cF HN
  have cR := S4.out.kR.cell 0
  simp only [List.getElem?_cons_zero] at cR
  have HB2 := Lib.hid (blanks_any g r1 w4 R4.out)
  go_wp2_with fail
  refine HB2.out.mono ?_
  rintro e w5 ⟨rfl, k5⟩
  have S5 := Lib.hid (S4.out.read k5.2)
  have R5 := Lib.hid k5.1
  have L5 := Lib.hid (L4.out.reads k5.2 hg)
  clear k5 cR S4 R4 L4 HB2
  have cR := S5.out.kR.cell 0
  simp only [List.getElem?_cons_zero] at cR
  go_wp2_with fail
  rw [HB58.out] at R5
  refine (must_yes g [58] r2 w5 R5.out).mono ?_
  rintro e w6 ⟨rfl, k6⟩
  have S6 := Lib.hid (S5.out.read k6.2)
  have R6 := Lib.hid k6.1
  have L6 := Lib.hid (L5.out.reads k6.2 hg)
  clear k6 cR S5 R5 L5
  go_upto_region 7 with fail
  have HV : Hid (∀ w1, Below w6.heap.size w6 w1 → Calls Tryz.prog 38 #[.pointer (some ⟨g, 0, none⟩), .int .i64 q] w1 fun e w' => ∃ T, e = PanT T ∧ PanOf T c ∧ Chg (fun b => b = g) w1 w') := by
    intro w1 k1
    have := V g r2 w1 (R6.out.below k1 R6.out.lt) hr2 (L6.out.below k1) hg
    rw [hc] at this
    exact this
  have HC : Hid (∀ w1, Below w6.heap.size w6 w1 → w1.cell? ⟨p.gO, 0, none⟩ = some (.slice la n lc) ∧ w1.cell? ⟨p.gR, 0, none⟩ = some (.pointer (some ⟨g, 0, none⟩)) ∧ w1.cell? ⟨p.gD, 0, none⟩ = some (.int .i64 q)) := fun w1 k1 =>
    ⟨(S6.out.kO.below k1 S6.out.kO.lt).cell 0, (S6.out.kR.below k1 S6.out.kR.lt).cell 0, (S6.out.kD.below k1 S6.out.kD.lt).cell 0⟩
  have HS6 := Lib.hid S6.out.chg
  clear V hc S6 R6 L6
  refine region_T (fun w' => Below w6.heap.size w6 w') [9, 10, 11] (by kernel_rfl) ?_
  have S0 : Below w6.heap.size w6 w6.drew := drewN_below (Below.refl _ w6) 1
  refine anyT_take_at (i := 0) (v := .slice la n lc) rfl rfl (by kernel_rfl) (by kernel_rfl) (by kernel_rfl) (by kernel_rfl) (fun _ _ _ h => h) (Or.inl ⟨by rfl, fun w hS => by have c := (HC.out w hS).1; go_simp⟩) S0 ?_
  try simp only [List.setIfInBounds_toArray, List.set_cons_zero, List.set_cons_succ]
  refine anyT_take_at (i := 1) (v := .string ⟨nm.toArray⟩) rfl rfl (by kernel_rfl) (by kernel_rfl) (by kernel_rfl) (by kernel_rfl) (fun _ _ _ h => h) (Or.inl ⟨by rfl, fun w hS => by go_simp⟩) S0 ?_
  try simp only [List.setIfInBounds_toArray, List.set_cons_zero, List.set_cons_succ]
  refine anyT_take_at (i := 2) (v := .pointer (some ⟨g, 0, none⟩)) rfl rfl (by kernel_rfl) (by kernel_rfl) (by kernel_rfl) (by kernel_rfl) (fun _ _ _ h => h) (Or.inl ⟨by rfl, fun w hS => by have c := (HC.out w hS).2.1; go_simp⟩) S0 ?_
  try simp only [List.setIfInBounds_toArray, List.set_cons_zero, List.set_cons_succ]
  refine anyT_take_at (i := 3) (v := .int .i64 q) rfl rfl (by kernel_rfl) (by kernel_rfl) (by kernel_rfl) (by kernel_rfl) (fun _ _ _ h => h) (Or.inl ⟨by rfl, fun w hS => by have c := (HC.out w hS).2.2; go_simp⟩) S0 ?_
  try simp only [List.setIfInBounds_toArray, List.set_cons_zero, List.set_cons_succ]
  refine anyT_take_at (i := 6) (v := .int .i64 (n : Int)) rfl rfl (by kernel_rfl) (by kernel_rfl) (by kernel_rfl) (by kernel_rfl) (fun _ _ _ h => h) (Or.inl ⟨by rfl, fun w hS => by go_simp⟩) S0 ?_
  try simp only [List.setIfInBounds_toArray, List.set_cons_zero, List.set_cons_succ]
  refine anyT_ready (rs := [4, 7]) (by kernel_rfl) (by simp) ?_
  refine ReadyT.cons rfl (fun K hK => ?_) (ReadyT.cons rfl (fun K hK => ?_) ReadyT.nil)
  · go_simp
    refine (HV.out _ S0).mono ?_
    rintro e w7 ⟨T, rfl, hT, k7⟩
    exact ⟨rfl, T, rfl, hT, HS6.out.go ((Chg.of_below S0).go k7)⟩
  · go_simp
    have S1 : Below w6.heap.size w6 ((w6.alloc (.cells #[.string ⟨#[]⟩, .int .i64 0, .bool false, .int .i64 0, .string ⟨#[]⟩, .slice none 0 0, .slice none 0 0] 55)).drew) := ((Below.refl _ _).alloc (Nat.le_refl _) _).drew
    obtain ⟨w7, hw7⟩ : ∃ x, x = ((w6.alloc (.cells #[.string ⟨#[]⟩, .int .i64 0, .bool false, .int .i64 0, .string ⟨#[]⟩, .slice none 0 0, .slice none 0 0] 55)).drew) := ⟨_, rfl⟩
    rw [← hw7] at S1 ⊢
    clear hw7
    refine hK.out _ _ (.inr S1) ?_
    clear hK K
    refine anyT_ready (rs := [4]) (by kernel_rfl) (by simp) ?_
    refine ReadyT.cons rfl (fun K hK => ?_) ReadyT.nil
    go_simp
    refine (HV.out _ S1).mono ?_
    rintro e w8 ⟨T, rfl, hT, k8⟩
    exact ⟨rfl, T, rfl, hT, HS6.out.go ((Chg.of_below S1).go k8)⟩

set_option maxHeartbeats 16000000 in
theorem mem_p6 (V : JVal d q) (S : JM w0 g p d q wz m ns mss mv Q) (s r nm r1 r2 : List UInt8) (h : Rd wz g s) (hl : s.length ≤ 65536) (hns : ns.length ≤ 65536) (hmn : m.length ≤ 65536) (hL : JLaid wz) (hg : 6 ≤ g) (hn : M.blk s = 34 :: r) (ht : M.txtU r [] = some (nm, r1)) (hd : ns.contains nm = false) (h58 : M.blk r1 = 58 :: r2) (x : M.GV) (r3 : List UInt8) (hc : M.val2 d r2 = .ok x r3) :
    Calls Tryz.prog 166 #[.pointer (some ⟨p.gR, 0, none⟩), .pointer (some ⟨p.gF, 0, none⟩), .pointer (some ⟨p.gO, 0, none⟩), .pointer (some ⟨p.gD, 0, none⟩)] wz fun e w' => e = .returned (.tuple #[]) ∧ Rd w' g (M.blk r3) ∧ ∃ mss' mv' Q', JM w0 g p d q w' (m ++ [(nm, x)]) (ns ++ [nm]) mss' mv' Q' := by
  obtain ⟨la, n, lc, hlv⟩ := rowV_shape S.row
  have hnl : n = m.length := by
    have := S.row
    rw [hlv] at this
    rcases this.2 with ⟨e, h0⟩ | ⟨_, _, _, e, _⟩
    · injection e with _ e _
      rw [e, h0]
    · injection e with _ e _
  subst hlv
  have HB := Lib.hid (blanks_any g s wz h)
  have hb := M.blk_le s
  rw [hn] at HB hb
  have hrl : r.length ≤ 65536 := by rw [List.length_cons] at hb; omega
  have HNM : Hid (nm.length ≤ maxLen) := by have := M.txtU_len r.length r [] nm r1 (Nat.le_refl _) ht; rw [Hid]; unfold maxLen; simp at this; omega
  have hr2 : r2.length ≤ 65536 := by
    have h1 := M.txtU_le r.length r [] nm r1 (Nat.le_refl _) ht
    have h2 := M.blk_le r1
    rw [h58, List.length_cons] at h2
    omega
  have HS := Lib.hid S
  have HL := Lib.hid hL
  have HTX := Lib.hid ht
  have HNS := Lib.hid hns
  have HDUP := Lib.hid hd
  have HB58 := Lib.hid h58
  have HNL := Lib.hid hnl
  have HLN := Lib.hid hmn
  have hnn : (n : Int) < 9223372036854775807 := by omega
  clear S h hL hn hb ht hd hns h58 hnl hmn
  go_enter Tryz.func166, Tryz.ntmps166
  have cR := HS.out.kR.cell 0
  simp only [List.getElem?_cons_zero] at cR
  go_wp2_with fail
  refine HB.out.mono ?_
  rintro e w1 ⟨rfl, k1⟩
  have S1 := Lib.hid (HS.out.read k1.2)
  have R1 := Lib.hid k1.1
  have L1 := Lib.hid (HL.out.reads k1.2 hg)
  clear k1 cR HB HL HS
  have cR := S1.out.kR.cell 0
  simp only [List.getElem?_cons_zero] at cR
  go_wp2_with fail
  refine (must_yes g [34] r w1 R1.out).mono ?_
  rintro e w2 ⟨rfl, k2⟩
  have S2 := Lib.hid (S1.out.read k2.2)
  have R2 := Lib.hid k2.1
  have L2 := Lib.hid (L1.out.reads k2.2 hg)
  clear k2 cR S1 R1 L1
  have cR := S2.out.kR.cell 0
  simp only [List.getElem?_cons_zero] at cR
  have HT := Lib.hid (text_any g r w2 R2.out (by omega) L2.out hg)
  rw [HTX.out] at HT
  go_wp2_with fail
  refine HT.out.mono ?_
  rintro e w3 ⟨rfl, k3⟩
  have S3 := Lib.hid (S2.out.read k3.2)
  have R3 := Lib.hid k3.1
  have L3 := Lib.hid (L2.out.reads k3.2 hg)
  clear k3 cR S2 R2 L2 HT
  have cF := S3.out.kF.cell 0
  simp only [List.getElem?_cons_zero] at cF
  have HN := Lib.hid (isNew_any p.gB p.gM ns nm w3 S3.out.nm (by have := HNS.out; omega) HNM.out)
  rw [HDUP.out] at HN
  go_wp2_with fail
  refine HN.out.mono ?_
  rintro e w4 ⟨rfl, n4, k4⟩
  have S4 := Lib.hid (S3.out.goes (k4.mono fun _ _ e => .inr e) n4)
  have R4 : Hid (Rd w4 g r1) := Blk.chg R3.out k4 (by have := S3.out.l0; have := S3.out.l1; have := S3.out.l2; have := S3.out.l3; have := S3.out.l4; omega)
  have L4 : Hid (JLaid w4) := L3.out.chg k4 (by rintro b rfl; have := S3.out.l0; have := S3.out.l1; have := S3.out.l2; have := S3.out.l3; have := S3.out.l4; omega)
  clear n4 k4 S3 R3 L3 cF HN
  have cR := S4.out.kR.cell 0
  simp only [List.getElem?_cons_zero] at cR
  have HB2 := Lib.hid (blanks_any g r1 w4 R4.out)
  go_wp2_with fail
  refine HB2.out.mono ?_
  rintro e w5 ⟨rfl, k5⟩
  have S5 := Lib.hid (S4.out.read k5.2)
  have R5 := Lib.hid k5.1
  have L5 := Lib.hid (L4.out.reads k5.2 hg)
  clear k5 cR S4 R4 L4 HB2
  have cR := S5.out.kR.cell 0
  simp only [List.getElem?_cons_zero] at cR
  go_wp2_with fail
  rw [HB58.out] at R5
  refine (must_yes g [58] r2 w5 R5.out).mono ?_
  rintro e w6 ⟨rfl, k6⟩
  have S6 := Lib.hid (S5.out.read k6.2)
  have R6 := Lib.hid k6.1
  have L6 := Lib.hid (L5.out.reads k6.2 hg)
  clear k6 cR S5 R5 L5
  go_upto_region 7 with fail
  have HV : Hid (∀ w1, Below w6.heap.size w6 w1 → Calls Tryz.prog 38 #[.pointer (some ⟨g, 0, none⟩), .int .i64 q] w1 fun e w' => ∃ lv mv, e = .returned (.agg (vcs x.k x.b x.n x.t lv mv).toArray) ∧ IsT (fun b => w1.heap.size ≤ b) w' d (vcs x.k x.b x.n x.t lv mv) x ∧ Reads w1 g (M.blk r3) w') := by
    intro w1 k1
    have := V g r2 w1 (R6.out.below k1 R6.out.lt) hr2 (L6.out.below k1) hg
    rw [hc] at this
    exact this
  have HC : Hid (∀ w1, Chg (fun b => b = g) w6 w1 → w1.cell? ⟨p.gO, 0, none⟩ = some (.slice la n lc) ∧ w1.cell? ⟨p.gR, 0, none⟩ = some (.pointer (some ⟨g, 0, none⟩)) ∧ w1.cell? ⟨p.gD, 0, none⟩ = some (.int .i64 q)) := fun w1 k1 =>
    ⟨(S6.out.read k1).kO.cell 0, (S6.out.read k1).kR.cell 0, (S6.out.read k1).kD.cell 0⟩
  have HO : Hid (∀ b, (Value.slice la n lc).ownBlock = some b → p.H ≤ b ∧ b < w6.heap.size) := fun b hb => S6.out.row.lt b hb
  have HS6 := Lib.hid S6.out
  clear V hc S6 R6 L6
  refine region_T (fun w' => w'.cell? ⟨p.gO, 0, none⟩ = some (.slice la n lc) ∧ w'.cell? ⟨p.gR, 0, none⟩ = some (.pointer (some ⟨g, 0, none⟩)) ∧ w'.cell? ⟨p.gD, 0, none⟩ = some (.int .i64 q)) [9, 10, 11] (by kernel_rfl) ?_
  have k0 : Below w6.heap.size w6 w6.drew := drewN_below (Below.refl _ w6) 1
  have S0 := HC.out w6.drew (Chg.of_below k0)
  refine anyT_take_at (i := 0) (v := .slice la n lc) rfl rfl (by kernel_rfl) (by kernel_rfl) (by kernel_rfl) (by kernel_rfl) (fun _ _ _ h => h) (Or.inl ⟨by rfl, fun w hS => by have c := hS.1; go_simp⟩) S0 ?_
  try simp only [List.setIfInBounds_toArray, List.set_cons_zero, List.set_cons_succ]
  refine anyT_take_at (i := 1) (v := .string ⟨nm.toArray⟩) rfl rfl (by kernel_rfl) (by kernel_rfl) (by kernel_rfl) (by kernel_rfl) (fun _ _ _ h => h) (Or.inl ⟨by rfl, fun w hS => by go_simp⟩) S0 ?_
  try simp only [List.setIfInBounds_toArray, List.set_cons_zero, List.set_cons_succ]
  refine anyT_take_at (i := 2) (v := .pointer (some ⟨g, 0, none⟩)) rfl rfl (by kernel_rfl) (by kernel_rfl) (by kernel_rfl) (by kernel_rfl) (fun _ _ _ h => h) (Or.inl ⟨by rfl, fun w hS => by have c := hS.2.1; go_simp⟩) S0 ?_
  try simp only [List.setIfInBounds_toArray, List.set_cons_zero, List.set_cons_succ]
  refine anyT_take_at (i := 3) (v := .int .i64 q) rfl rfl (by kernel_rfl) (by kernel_rfl) (by kernel_rfl) (by kernel_rfl) (fun _ _ _ h => h) (Or.inl ⟨by rfl, fun w hS => by have c := hS.2.2; go_simp⟩) S0 ?_
  try simp only [List.setIfInBounds_toArray, List.set_cons_zero, List.set_cons_succ]
  refine anyT_take_at (i := 6) (v := .int .i64 (n : Int)) rfl rfl (by kernel_rfl) (by kernel_rfl) (by kernel_rfl) (by kernel_rfl) (fun _ _ _ h => h) (Or.inl ⟨by rfl, fun w hS => by go_simp⟩) S0 ?_
  try simp only [List.setIfInBounds_toArray, List.set_cons_zero, List.set_cons_succ]
  refine anyT_ready (rs := [4, 7]) (by kernel_rfl) (by simp) ?_
  refine ReadyT.cons rfl (fun K hK => ?_) (ReadyT.cons rfl (fun K hK => ?_) ReadyT.nil)
  · go_simp
    refine (HV.out _ k0).mono ?_
    rintro e w7 ⟨lx, mx, rfl, iv, k7⟩
    have C7 : Chg (fun b => b = g) w6 w7 := (Chg.of_below k0).go k7.2
    obtain ⟨⟨xa, xn, xc, rfl⟩, ⟨ya, yn, yc, rfl⟩⟩ := iv.v.shape
    have HONE : Hid (∀ u ∈ .string ⟨nm.toArray⟩ :: vcs x.k x.b x.n x.t (.slice xa xn xc) (.slice ya yn yc), Value.oneCell' u = true) := fun u hu => by
      rcases List.mem_cons.1 hu with rfl | hu
      · rfl
      · exact iv.one u hu
    rw [vcs_arr]
    refine hK.out _ _ (.inr (HC.out w7 C7)) ?_
    clear hK K S0
    refine anyT_take_at (i := 5) (v := .agg #[.string ⟨nm.toArray⟩, .int .i64 x.k, .bool x.b, .int .i64 x.n, .string ⟨x.t.toArray⟩, .slice xa xn xc, .slice ya yn yc]) rfl rfl (by kernel_rfl) (by kernel_rfl) (by kernel_rfl) (by kernel_rfl) (fun _ _ _ h => h) (Or.inl ⟨by rfl, fun w hS => by go_simp⟩) (HC.out w7 C7) ?_
    try simp only [List.setIfInBounds_toArray, List.set_cons_zero, List.set_cons_succ]
    refine anyT_ready (rs := [7]) (by kernel_rfl) (by simp) ?_
    refine ReadyT.cons rfl (fun K hK => ?_) ReadyT.nil
    go_simp
    obtain ⟨WA, hWA⟩ : ∃ W, W = w7.alloc (.cells #[.string ⟨#[]⟩, .int .i64 0, .bool false, .int .i64 0, .string ⟨#[]⟩, .slice none 0 0, .slice none 0 0] 55) := ⟨_, rfl⟩
    obtain ⟨gN, hgN⟩ : ∃ g, g = w7.heap.size := ⟨_, rfl⟩
    have CA : Chg (fun b => b = g) w6 WA := by rw [hWA]; exact C7.alloc _
    have BN : Blk WA gN 55 z7 := by rw [hWA]; exact Blk.newAt _ _ _ _ _ hgN rfl
    have IA : IsM (fun b => w6.heap.size ≤ b) WA d (.string ⟨nm.toArray⟩ :: vcs x.k x.b x.n x.t (.slice xa xn xc) (.slice ya yn yc)) (nm, x) := ⟨_, rfl, by rw [hWA]; exact IsT.below ((Below.refl _ _).alloc (Nat.le_refl _) _) iv⟩
    have RA : Rd WA g (M.blk r3) := by rw [hWA]; exact k7.1.below ((Below.refl _ _).alloc (Nat.le_refl _) _) k7.1.lt
    rw [← hWA, ← hgN]
    clear hWA hgN iv k7
    refine hK.out _ _ (.inr (HC.out WA CA)) ?_
    clear hK K C7 k0
    have SA := HS6.out.read CA
    have hne : some p.gO ≠ (Value.slice la n lc).ownBlock := fun e => by have := HO.out p.gO e.symm; have := SA.l4; have := SA.l5; have := SA.l6; have := SA.l7; omega
    refine anyT_ready (rs := [8]) (by kernel_rfl) (by simp) ?_
    refine ReadyT.cons rfl (fun K hK => ?_) ReadyT.nil
    refine step_app_row rowsM7 rfl (.tmp 21) (.tmp 28) rfl p.H (.slice la n lc) m.length mss.flatten rfl SA.row ⟨gN, 0, none⟩ 1 1 z7 rfl rfl (fun j u hj => by rw [add_plainJ, Nat.zero_add, BN.cell]; exact hj) (by decide) (by have := HLN.out; unfold maxLen; omega) (by have := HLN.out; omega) SA.l8 ?_
    intro v5 w11 o9 g9 a9
    obtain ⟨vb, vc, rfl⟩ := own_some o9
    have B11 := SA.kO.grown g9 hne
    have S11 : w11.cell? ⟨p.gO, 0, none⟩ = some (.slice la n lc) ∧ w11.cell? ⟨p.gR, 0, none⟩ = some (.pointer (some ⟨g, 0, none⟩)) ∧ w11.cell? ⟨p.gD, 0, none⟩ = some (.int .i64 q) :=
      ⟨B11.cell 0, (SA.kR.grown g9 (fun e => by have := HO.out p.gR e.symm; have := SA.l2; have := SA.l3; have := SA.l4; have := SA.l5; have := SA.l6; have := SA.l7; omega)).cell 0, (SA.kD.grown g9 (fun e => by have := HO.out p.gD e.symm; have := SA.l3; have := SA.l4; have := SA.l5; have := SA.l6; have := SA.l7; omega)).cell 0⟩
    refine hK.out _ _ (.inr S11) ?_
    clear hK K
    simp only [Act.put, List.setIfInBounds_toArray, List.set_cons_zero, List.set_cons_succ]
    rw [← HNL.out] at o9 a9 ⊢
    have hgv : g < p.gO ∧ p.gO < p.H ∧ p.H ≤ vb := ⟨by have := SA.l0; have := SA.l1; have := SA.l2; have := SA.l3; omega, by have := SA.l4; have := SA.l5; have := SA.l6; have := SA.l7; omega, (o9.lt vb rfl).1⟩
    have hvO : vb ≠ p.gO := by omega
    have HFL : Hid (n * 7 = mss.flatten.length) := by rw [Hid, HNL.out]; exact HS6.out.row.1.symm
    have R11 : Rd w11 g (M.blk r3) := Blk.grown RA g9 (fun e => by have := HO.out g e.symm; omega)
    refine anyT_free_at (i := 9) (v := .pointer (some ⟨vb, n * 7, none⟩)) rfl rfl (by kernel_rfl) (by kernel_rfl) (by kernel_rfl) (by kernel_rfl) (fun _ _ _ h => h) (Or.inl ⟨by rfl, fun w hS => by have nn : ¬ ((n : Int) + 1 ≤ (n : Int)) := (by omega); go_simp⟩) ?_
    try simp only [List.setIfInBounds_toArray, List.set_cons_zero, List.set_cons_succ]
    refine anyT_ready (rs := [10, 11]) (by kernel_rfl) (by simp) ?_
    refine ReadyT.cons rfl (fun K hK => ?_) (ReadyT.cons rfl (fun K hK => ?_) ReadyT.nil)
    · refine step_store_last rfl 55 (.tmp 30) (.tmp 26) rfl p.H 7 (n + 1) 55 vb vc (n + 1) (n * 7) mss.flatten z7 (.string ⟨nm.toArray⟩ :: vcs x.k x.b x.n x.t (.slice xa xn xc) (.slice ya yn yc)) rfl rfl sizeM7 HFL.out HONE.out o9 rfl ?_
      intro w12 o12 k12 s12
      have B12 := B11.chg k12 (fun e => hvO e.symm)
      refine hK.out _ _ (.inl (by simp)) ?_
      clear hK K
      refine anyT_ready (rs := [11]) (by kernel_rfl) (by simp) ?_
      refine ReadyT.cons rfl (fun K hK => ?_) ReadyT.nil
      have c12 := B12.cell 0
      have z12 := B12.frozen 0
      simp only [List.getElem?_cons_zero] at c12
      go_simp
      refine hK.out _ _ (.inl (by simp)) ?_
      clear hK K
      refine anyT_done (by kernel_rfl) ?_ _
      obtain ⟨WF, hWF⟩ : ∃ W, W = w12.setCell ⟨p.gO, 0, none⟩ (.slice (some ⟨vb, 0, none⟩) (n + 1) vc) := ⟨_, rfl⟩
      have KF : Blk WF p.gO 25 [.slice (some ⟨vb, 0, none⟩) (n + 1) vc] := by rw [hWF]; exact B12.set_ 0 _
      have kF : Chg (fun b => b = p.gO) w12 WF := by rw [hWF]; exact (Chg.refl _ _).cell 0 _
      have OF := own_chg o12 kF (fun b hb e => by injection hb with hb; exact hvO (hb.trans e))
      have RF : Rd WF g (M.blk r3) := Blk.chg (Blk.chg R11 k12 (by omega)) kF (by omega)
      rw [← hWF]
      clear c12 z12 hWF
      go_end0
      exact ⟨rfl, RF, mss ++ [.string ⟨nm.toArray⟩ :: vcs x.k x.b x.n x.t (.slice xa xn xc) (.slice ya yn yc)], _, _, JM.add HS6.out CA IA (fun b hb => (HO.out b hb).2) g9 a9 (by rw [← HNL.out]; exact OF) ((k12.mono fun b _ e => .inl (by rw [e]; rfl)).trans kF fun b _ e => .inr e) KF⟩
    · have c11 := S11.1
      have z11 := B11.frozen 0
      go_simp
      obtain ⟨w12, hW12⟩ : ∃ W, W = w11.setCell ⟨p.gO, 0, none⟩ (.slice (some ⟨vb, 0, none⟩) (n + 1) vc) := ⟨_, rfl⟩
      have K12 : Blk w12 p.gO 25 [.slice (some ⟨vb, 0, none⟩) (n + 1) vc] := by rw [hW12]; exact B11.set_ 0 _
      have k12 : Chg (fun b => b = p.gO) w11 w12 := by rw [hW12]; exact (Chg.refl _ _).cell 0 _
      have o12 := own_chg o9 k12 (fun b hb e => by injection hb with hb; exact hvO (hb.trans e))
      rw [← hW12]
      clear hW12 c11 z11
      refine hK.out _ _ (.inl (by simp)) ?_
      clear hK K
      refine anyT_ready (rs := [10]) (by kernel_rfl) (by simp) ?_
      refine ReadyT.cons rfl (fun K hK => ?_) ReadyT.nil
      refine step_store_last rfl 55 (.tmp 30) (.tmp 26) rfl p.H 7 (n + 1) 55 vb vc (n + 1) (n * 7) mss.flatten z7 (.string ⟨nm.toArray⟩ :: vcs x.k x.b x.n x.t (.slice xa xn xc) (.slice ya yn yc)) rfl rfl sizeM7 HFL.out HONE.out o12 rfl ?_
      intro WF OF kF sF
      refine hK.out _ _ (.inl (by simp)) ?_
      clear hK K
      refine anyT_done (by kernel_rfl) ?_ _
      have KF := K12.chg kF (fun e => hvO e.symm)
      have RF : Rd WF g (M.blk r3) := Blk.chg (Blk.chg R11 k12 (by omega)) kF (by omega)
      go_end0
      exact ⟨rfl, RF, mss ++ [.string ⟨nm.toArray⟩ :: vcs x.k x.b x.n x.t (.slice xa xn xc) (.slice ya yn yc)], _, _, JM.add HS6.out CA IA (fun b hb => (HO.out b hb).2) g9 a9 (by rw [← HNL.out]; exact OF) ((k12.mono fun b _ e => .inr e).trans kF fun b _ e => .inl (by rw [e]; rfl)) KF⟩
  · go_simp
    have kb : Below w6.heap.size w6 ((w6.alloc (.cells #[.string ⟨#[]⟩, .int .i64 0, .bool false, .int .i64 0, .string ⟨#[]⟩, .slice none 0 0, .slice none 0 0] 55)).drew) := ((Below.refl _ _).alloc (Nat.le_refl _) _).drew
    have BN0 : Blk ((w6.alloc (.cells #[.string ⟨#[]⟩, .int .i64 0, .bool false, .int .i64 0, .string ⟨#[]⟩, .slice none 0 0, .slice none 0 0] 55)).drew) w6.heap.size 55 z7 := Blk.drew (Blk.newAt _ _ _ _ _ rfl rfl)
    obtain ⟨w7, hw7⟩ : ∃ x, x = ((w6.alloc (.cells #[.string ⟨#[]⟩, .int .i64 0, .bool false, .int .i64 0, .string ⟨#[]⟩, .slice none 0 0, .slice none 0 0] 55)).drew) := ⟨_, rfl⟩
    obtain ⟨gN, hgN⟩ : ∃ g, g = w6.heap.size := ⟨_, rfl⟩
    have HGN : Hid (gN ≠ g) := by rw [Hid, hgN]; have := HS6.out.l0; have := HS6.out.chg.size; omega
    rw [← hw7] at kb BN0 ⊢
    rw [← hgN] at BN0 ⊢
    clear hw7 hgN
    refine hK.out _ _ (.inr (HC.out w7 (Chg.of_below kb))) ?_
    clear hK K S0
    refine anyT_ready (rs := [4]) (by kernel_rfl) (by simp) ?_
    refine ReadyT.cons rfl (fun K hK => ?_) ReadyT.nil
    go_simp
    refine (HV.out _ kb).mono ?_
    rintro e WA ⟨lx, mx, rfl, iv, k7⟩
    obtain ⟨⟨xa, xn, xc, rfl⟩, ⟨ya, yn, yc, rfl⟩⟩ := iv.v.shape
    have HONE : Hid (∀ u ∈ .string ⟨nm.toArray⟩ :: vcs x.k x.b x.n x.t (.slice xa xn xc) (.slice ya yn yc), Value.oneCell' u = true) := fun u hu => by
      rcases List.mem_cons.1 hu with rfl | hu
      · rfl
      · exact iv.one u hu
    rw [vcs_arr]
    have CA : Chg (fun b => b = g) w6 WA := (Chg.of_below kb).go k7.2
    have BN : Blk WA gN 55 z7 := BN0.chg k7.2 HGN.out
    have IA : IsM (fun b => w6.heap.size ≤ b) WA d (.string ⟨nm.toArray⟩ :: vcs x.k x.b x.n x.t (.slice xa xn xc) (.slice ya yn yc)) (nm, x) := ⟨_, rfl, IsT.mono (fun b _ hb => Nat.le_trans kb.size hb) d iv⟩
    have RA : Rd WA g (M.blk r3) := k7.1
    clear iv k7
    refine hK.out _ _ (.inr (HC.out WA CA)) ?_
    clear hK K BN0 kb k0
    refine anyT_take_at (i := 5) (v := .agg #[.string ⟨nm.toArray⟩, .int .i64 x.k, .bool x.b, .int .i64 x.n, .string ⟨x.t.toArray⟩, .slice xa xn xc, .slice ya yn yc]) rfl rfl (by kernel_rfl) (by kernel_rfl) (by kernel_rfl) (by kernel_rfl) (fun _ _ _ h => h) (Or.inl ⟨by rfl, fun w hS => by go_simp⟩) (HC.out WA CA) ?_
    try simp only [List.setIfInBounds_toArray, List.set_cons_zero, List.set_cons_succ]
    have SA := HS6.out.read CA
    have hne : some p.gO ≠ (Value.slice la n lc).ownBlock := fun e => by have := HO.out p.gO e.symm; have := SA.l4; have := SA.l5; have := SA.l6; have := SA.l7; omega
    refine anyT_ready (rs := [8]) (by kernel_rfl) (by simp) ?_
    refine ReadyT.cons rfl (fun K hK => ?_) ReadyT.nil
    refine step_app_row rowsM7 rfl (.tmp 21) (.tmp 28) rfl p.H (.slice la n lc) m.length mss.flatten rfl SA.row ⟨gN, 0, none⟩ 1 1 z7 rfl rfl (fun j u hj => by rw [add_plainJ, Nat.zero_add, BN.cell]; exact hj) (by decide) (by have := HLN.out; unfold maxLen; omega) (by have := HLN.out; omega) SA.l8 ?_
    intro v5 w11 o9 g9 a9
    obtain ⟨vb, vc, rfl⟩ := own_some o9
    have B11 := SA.kO.grown g9 hne
    have S11 : w11.cell? ⟨p.gO, 0, none⟩ = some (.slice la n lc) ∧ w11.cell? ⟨p.gR, 0, none⟩ = some (.pointer (some ⟨g, 0, none⟩)) ∧ w11.cell? ⟨p.gD, 0, none⟩ = some (.int .i64 q) :=
      ⟨B11.cell 0, (SA.kR.grown g9 (fun e => by have := HO.out p.gR e.symm; have := SA.l2; have := SA.l3; have := SA.l4; have := SA.l5; have := SA.l6; have := SA.l7; omega)).cell 0, (SA.kD.grown g9 (fun e => by have := HO.out p.gD e.symm; have := SA.l3; have := SA.l4; have := SA.l5; have := SA.l6; have := SA.l7; omega)).cell 0⟩
    refine hK.out _ _ (.inr S11) ?_
    clear hK K
    simp only [Act.put, List.setIfInBounds_toArray, List.set_cons_zero, List.set_cons_succ]
    rw [← HNL.out] at o9 a9 ⊢
    have hgv : g < p.gO ∧ p.gO < p.H ∧ p.H ≤ vb := ⟨by have := SA.l0; have := SA.l1; have := SA.l2; have := SA.l3; omega, by have := SA.l4; have := SA.l5; have := SA.l6; have := SA.l7; omega, (o9.lt vb rfl).1⟩
    have hvO : vb ≠ p.gO := by omega
    have HFL : Hid (n * 7 = mss.flatten.length) := by rw [Hid, HNL.out]; exact HS6.out.row.1.symm
    have R11 : Rd w11 g (M.blk r3) := Blk.grown RA g9 (fun e => by have := HO.out g e.symm; omega)
    refine anyT_free_at (i := 9) (v := .pointer (some ⟨vb, n * 7, none⟩)) rfl rfl (by kernel_rfl) (by kernel_rfl) (by kernel_rfl) (by kernel_rfl) (fun _ _ _ h => h) (Or.inl ⟨by rfl, fun w hS => by have nn : ¬ ((n : Int) + 1 ≤ (n : Int)) := (by omega); go_simp⟩) ?_
    try simp only [List.setIfInBounds_toArray, List.set_cons_zero, List.set_cons_succ]
    refine anyT_ready (rs := [10, 11]) (by kernel_rfl) (by simp) ?_
    refine ReadyT.cons rfl (fun K hK => ?_) (ReadyT.cons rfl (fun K hK => ?_) ReadyT.nil)
    · refine step_store_last rfl 55 (.tmp 30) (.tmp 26) rfl p.H 7 (n + 1) 55 vb vc (n + 1) (n * 7) mss.flatten z7 (.string ⟨nm.toArray⟩ :: vcs x.k x.b x.n x.t (.slice xa xn xc) (.slice ya yn yc)) rfl rfl sizeM7 HFL.out HONE.out o9 rfl ?_
      intro w12 o12 k12 s12
      have B12 := B11.chg k12 (fun e => hvO e.symm)
      refine hK.out _ _ (.inl (by simp)) ?_
      clear hK K
      refine anyT_ready (rs := [11]) (by kernel_rfl) (by simp) ?_
      refine ReadyT.cons rfl (fun K hK => ?_) ReadyT.nil
      have c12 := B12.cell 0
      have z12 := B12.frozen 0
      simp only [List.getElem?_cons_zero] at c12
      go_simp
      refine hK.out _ _ (.inl (by simp)) ?_
      clear hK K
      refine anyT_done (by kernel_rfl) ?_ _
      obtain ⟨WF, hWF⟩ : ∃ W, W = w12.setCell ⟨p.gO, 0, none⟩ (.slice (some ⟨vb, 0, none⟩) (n + 1) vc) := ⟨_, rfl⟩
      have KF : Blk WF p.gO 25 [.slice (some ⟨vb, 0, none⟩) (n + 1) vc] := by rw [hWF]; exact B12.set_ 0 _
      have kF : Chg (fun b => b = p.gO) w12 WF := by rw [hWF]; exact (Chg.refl _ _).cell 0 _
      have OF := own_chg o12 kF (fun b hb e => by injection hb with hb; exact hvO (hb.trans e))
      have RF : Rd WF g (M.blk r3) := Blk.chg (Blk.chg R11 k12 (by omega)) kF (by omega)
      rw [← hWF]
      clear c12 z12 hWF
      go_end0
      exact ⟨rfl, RF, mss ++ [.string ⟨nm.toArray⟩ :: vcs x.k x.b x.n x.t (.slice xa xn xc) (.slice ya yn yc)], _, _, JM.add HS6.out CA IA (fun b hb => (HO.out b hb).2) g9 a9 (by rw [← HNL.out]; exact OF) ((k12.mono fun b _ e => .inl (by rw [e]; rfl)).trans kF fun b _ e => .inr e) KF⟩
    · have c11 := S11.1
      have z11 := B11.frozen 0
      go_simp
      obtain ⟨w12, hW12⟩ : ∃ W, W = w11.setCell ⟨p.gO, 0, none⟩ (.slice (some ⟨vb, 0, none⟩) (n + 1) vc) := ⟨_, rfl⟩
      have K12 : Blk w12 p.gO 25 [.slice (some ⟨vb, 0, none⟩) (n + 1) vc] := by rw [hW12]; exact B11.set_ 0 _
      have k12 : Chg (fun b => b = p.gO) w11 w12 := by rw [hW12]; exact (Chg.refl _ _).cell 0 _
      have o12 := own_chg o9 k12 (fun b hb e => by injection hb with hb; exact hvO (hb.trans e))
      rw [← hW12]
      clear hW12 c11 z11
      refine hK.out _ _ (.inl (by simp)) ?_
      clear hK K
      refine anyT_ready (rs := [10]) (by kernel_rfl) (by simp) ?_
      refine ReadyT.cons rfl (fun K hK => ?_) ReadyT.nil
      refine step_store_last rfl 55 (.tmp 30) (.tmp 26) rfl p.H 7 (n + 1) 55 vb vc (n + 1) (n * 7) mss.flatten z7 (.string ⟨nm.toArray⟩ :: vcs x.k x.b x.n x.t (.slice xa xn xc) (.slice ya yn yc)) rfl rfl sizeM7 HFL.out HONE.out o12 rfl ?_
      intro WF OF kF sF
      refine hK.out _ _ (.inl (by simp)) ?_
      clear hK K
      refine anyT_done (by kernel_rfl) ?_ _
      have KF := K12.chg kF (fun e => hvO e.symm)
      have RF : Rd WF g (M.blk r3) := Blk.chg (Blk.chg R11 k12 (by omega)) kF (by omega)
      go_end0
      exact ⟨rfl, RF, mss ++ [.string ⟨nm.toArray⟩ :: vcs x.k x.b x.n x.t (.slice xa xn xc) (.slice ya yn yc)], _, _, JM.add HS6.out CA IA (fun b hb => (HO.out b hb).2) g9 a9 (by rw [← HNL.out]; exact OF) ((k12.mono fun b _ e => .inr e).trans kF fun b _ e => .inl (by rw [e]; rfl)) KF⟩
end

end Go.Proofs.YtbgadfaiehkanaaGreatDoor
