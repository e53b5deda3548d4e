/-
  THE WALK OF orloptop.TopShares: it returns true, and writes nothing that was there. Conditions: the program's tables of layers 2 and 4 lie as they were laid.
-/
import Derived.Test.YtdojalhaklkegaaDoorPn16
import Derived.Test.YtdojalhaklkegaaDoorPn7
import Derived.Test.YtdojalhaklkegaaDoorPn33
import Derived.Test.YtdojalhaklkegaaDoorPn37
import Derived.Test.YtdojalhaklkegaaDoorPn47
import Derived.Deep.RegionHeld3
namespace Go.Proofs.YtdojalhaklkegaaDoor
open Go.RowKit Go.Maps
set_option linter.unusedVariables false
set_option maxRecDepth 100000

structure PairAt (w : World) (g : Nat) (a b key : List UInt8) : Prop where
  blk : Blk w g 34 (pairC a b key)
  al : a.length = 32
  bl : b.length = 32
  kl : key.length = 32

theorem PairAt.below {w w' : World} {g : Nat} {a b key : List UInt8} (h : PairAt w g a b key) (k : Below w.heap.size w w') : PairAt w' g a b key := ⟨h.blk.below k h.blk.lt, h.al, h.bl, h.kl⟩
theorem PairAt.chg {F : Nat → Prop} {w w' : World} {g : Nat} {a b key : List UInt8} (h : PairAt w g a b key) (k : Chg F w w') (hg : ¬ F g) : PairAt w' g a b key := ⟨h.blk.chg k hg, h.al, h.bl, h.kl⟩
theorem PairAt.a_ {w : World} {g : Nat} {a b key : List UInt8} (h : PairAt w g a b key) : IsB w (.slice (some ⟨g, 0, none⟩) 32 32) a := isB_mid [] a (b ++ key) 0 32 (h.blk.eq_ (by simp [pairC, byteCells_append, Lib.byteCells])) rfl h.al (by decide)
theorem PairAt.b_ {w : World} {g : Nat} {a b key : List UInt8} (h : PairAt w g a b key) : IsB w (.slice (some ⟨g, 32, none⟩) 32 32) b := isB_mid a b key 32 32 (h.blk.eq_ (by simp [pairC, byteCells_append])) h.al h.bl (by decide)
theorem PairAt.k_ {w : World} {g : Nat} {a b key : List UInt8} (h : PairAt w g a b key) : IsB w (.slice (some ⟨g, 64, none⟩) 32 32) key := isB_mid (a ++ b) key [] 64 32 (h.blk.eq_ (by simp [pairC, byteCells_append, Lib.byteCells])) (by simp [h.al, h.bl]) h.kl (by decide)
theorem pairAt_new (w : World) (a b key : List UInt8) (ha : a.length = 32) (hb : b.length = 32) (hk : key.length = 32) : PairAt (w.alloc (.cells (pairC a b key).toArray 34)) w.heap.size a b key :=
  ⟨Blk.newAt _ _ _ _ _ rfl (by simp), ha, hb, hk⟩



set_option maxHeartbeats 32000000 in
theorem topShares_walk (w : World) (hLP : Laid w ∧ LaidP w) (a b key : List UInt8) (ha : a.length = 32) (hb : b.length = 32) (hk : key.length = 32) (ideal : Bool) :
    Calls Tryd.prog 4 #[.agg (pairC a b key).toArray, .bool ideal] w fun e w' => e = .returned (.bool true) ∧ Below w.heap.size w w' := by
  have HL := Lib.hid hLP.1
  have HP := Lib.hid hLP.2
  obtain ⟨g, hg⟩ : ∃ g, g = w.heap.size := ⟨_, rfl⟩
  have HA0 : Hid (PairAt (w.alloc (.cells (pairC a b key).toArray 34)) g a b key) := by rw [hg]; exact pairAt_new w a b key ha hb hk
  have KB : Hid (Below w.heap.size w (w.alloc (.cells (pairC a b key).toArray 34))) := (Below.refl _ _).alloc (Nat.le_refl _) _
  obtain ⟨X, hX⟩ : ∃ X, Hid (X = (pairC a b key).toArray) := ⟨_, rfl⟩
  rw [← hX.out] at HA0 KB ⊢
  obtain ⟨xb, hxb⟩ : ∃ l, Hid (l = M.le (M.point a) 32) := ⟨_, rfl⟩
  obtain ⟨yb, hyb⟩ : ∃ l, Hid (l = M.le (M.point b) 32) := ⟨_, rfl⟩
  have HXL : Hid (xb.length = 32) := by rw [Hid, hxb.out, M.le_length]
  have HYL : Hid (yb.length = 32) := by rw [Hid, hyb.out, M.le_length]
  obtain ⟨sb, hsb⟩ : ∃ l, Hid (l = M.le (M.secret a yb) 32) := ⟨_, rfl⟩
  have HSB : Hid (sb = M.le (M.secret b xb) 32) := by rw [Hid, hsb.out, hyb.out, hxb.out, M.secret_comm a b ha hb]
  have HNE : Hid (¬ M.secret a yb = 0 ∧ ¬ M.secret b xb = 0 ∧ ¬ M.secret a xb = 0) := ⟨by rw [hyb.out]; exact M.secret_ne a b ha hb, by rw [hxb.out]; exact M.secret_ne b a hb ha, by rw [hxb.out]; exact M.secret_ne a a ha ha⟩
  have HAL : Hid (a.length = 32 ∧ b.length = 32 ∧ key.length = 32) := ⟨ha, hb, hk⟩
  clear hLP ha hb hk hX
  go_enter Tryd.func4, Tryd.ntmps4
  go_wp2_with fail
  rw [← hg]
  clear hg
  refine (sealing_any _ (HP.out.below KB.out HP.out.size)).mono ?_
  rintro e w1 ⟨rfl, k1⟩
  have A1 : Hid (PairAt w1 g a b key) := HA0.out.below k1
  have K1 : Hid (Below w.heap.size w w1) := KB.out.trans (k1.mono KB.out.size)
  have HG1 : Hid (g < w1.heap.size) := A1.out.blk.lt
  clear k1 KB HA0
  have C1 := Lib.hid (publicOk_any field_ok (.slice (some ⟨g, 0, none⟩) 32 32) a w1 A1.out.a_ HAL.out.1)
  rw [← hxb.out] at C1
  go_wp2_with fail
  refine C1.out.mono ?_
  rintro e w2 ⟨xv, rfl, o2, k2⟩
  obtain ⟨xa, xc, rfl⟩ := o2.shape'
  obtain ⟨xv, hxv⟩ : ∃ v, v = Value.slice xa xb.length xc := ⟨_, rfl⟩
  rw [← hxv] at o2 ⊢
  have A2 : Hid (PairAt w2 g a b key) := A1.out.below k2
  have K12 := Lib.hid k2
  have IX2 := Lib.hid o2.isB
  have LX2 : Hid (Own w2 w1.heap.size xv xb) := o2
  clear C1 k2 o2 hxv
  have C2 := Lib.hid (publicOk_any field_ok (.slice (some ⟨g, 32, none⟩) 32 32) b w2 A2.out.b_ HAL.out.2.1)
  rw [← hyb.out] at C2
  go_wp2_with fail
  refine C2.out.mono ?_
  rintro e w3 ⟨yv, rfl, o3, k3⟩
  obtain ⟨ya, yc, rfl⟩ := o3.shape'
  obtain ⟨yv, hyv⟩ : ∃ v, v = Value.slice ya yb.length yc := ⟨_, rfl⟩
  rw [← hyv] at o3 ⊢
  have A3 : Hid (PairAt w3 g a b key) := A2.out.below k3
  have K13 : Hid (Below w1.heap.size w1 w3) := K12.out.trans (k3.mono K12.out.size)
  have LX3 : Hid (Own w3 w1.heap.size xv xb) := LX2.out.below k3
  have LY3 : Hid (Own w3 w1.heap.size yv yb) := o3.mono K12.out.size
  clear C2 k3 o3 hyv IX2 LX2 A2 K12
  have C3 := Lib.hid ((shared_any field_ok (.slice (some ⟨g, 0, none⟩) 32 32) yv a yb w3 A3.out.a_ LY3.out.isB HAL.out.1 HYL.out).mono fun e w' h => h.2 HNE.out.1)
  rw [← hsb.out] at C3
  go_wp2_with fail
  refine C3.out.mono ?_
  rintro e w4 ⟨sv, rfl, o4, k4⟩
  have A4 : Hid (PairAt w4 g a b key) := A3.out.below k4
  have K14 : Hid (Below w1.heap.size w1 w4) := K13.out.trans (k4.mono K13.out.size)
  have LX4 : Hid (Own w4 w1.heap.size xv xb) := LX3.out.below k4
  have LY4 : Hid (Own w4 w1.heap.size yv yb) := LY3.out.below k4
  have IS4 := Lib.hid o4.isB
  clear C3 k4 o4 A3 LX3 LY3 K13
  have C4 := Lib.hid ((shared_any field_ok (.slice (some ⟨g, 32, none⟩) 32 32) xv b xb w4 A4.out.b_ LX4.out.isB HAL.out.2.1 HXL.out).mono fun e w' h => h.2 HNE.out.2.1)
  rw [← HSB.out] at C4
  go_wp2_with fail
  refine C4.out.mono ?_
  rintro e w5 ⟨tv, rfl, o5, k5⟩
  have A5 : Hid (PairAt w5 g a b key) := A4.out.below k5
  have K15 : Hid (Below w1.heap.size w1 w5) := K14.out.trans (k5.mono K14.out.size)
  have LX5 : Hid (Own w5 w1.heap.size xv xb) := LX4.out.below k5
  have LY5 : Hid (Own w5 w1.heap.size yv yb) := LY4.out.below k5
  have C5 := Lib.hid (requal_b sv tv sb sb w5 (IS4.out.below k5) o5.isB)
  rw [decide_eq_true rfl] at C5
  clear C4 k5 o5 A4 LX4 LY4 K14 IS4
  go_wp2_with fail
  refine C5.out.mono ?_
  rintro e w6 ⟨rfl, k6⟩
  have A6 : Hid (PairAt w6 g a b key) := A5.out.below k6
  have K16 : Hid (Below w1.heap.size w1 w6) := K15.out.trans (k6.mono K15.out.size)
  have LX6 : Hid (Own w6 w1.heap.size xv xb) := LX5.out.below k6
  have LY6 : Hid (Own w6 w1.heap.size yv yb) := LY5.out.below k6
  clear C5 k6 A5 LX5 LY5 K15
  have K06 : Hid (Below w.heap.size w w6) := K1.out.trans (K16.out.mono K1.out.size)
  have CR := Lib.hid (cryptReal_any w6)
  go_wp2_with fail
  refine CR.out.mono ?_
  rintro e w7 ⟨rfl, rfl⟩
  clear CR
  cases ideal with
  | false =>
    have HLL : Hid (∀ W, Below w7.heap.size w7 W → Laid W ∧ LaidP W) := fun W k => ⟨(HL.out.below K06.out HL.out.size).below k (Nat.le_trans HL.out.size K06.out.size), (HP.out.below K06.out HP.out.size).below k (Nat.le_trans HP.out.size K06.out.size)⟩
    obtain ⟨bx, hbx⟩ : ∃ l, Hid (l = M.box (M.wkey sb xb yb) (List.replicate 12 0) [] key) := ⟨_, rfl⟩
    have HBX : Hid (bx.length = 48) := by rw [Hid, hbx.out, M.box_length, HAL.out.2.2]
    have X1 : Hid (Calls Tryd.prog 17 #[.iface 71 (.agg #[]), .slice (some ⟨g, 0, none⟩) 32 32, yv, .slice (some ⟨g, 64, none⟩) 32 32, .slice none 0 0] w7.drew fun e w' =>
        ∃ gk, e = .returned (.tuple #[.slice (some ⟨gk, 0, none⟩) 113 113, .int .i64 0]) ∧ Own w' w7.heap.size (.slice (some ⟨gk, 0, none⟩) 113 113) (M.pkt yb xb bx) ∧ Below w7.heap.size w7 w') := by
      have k := below_draws w7 1
      have hL := HLL.out w7.drew k
      rw [hbx.out, hsb.out]
      have := wrapReal_any (.slice (some ⟨g, 0, none⟩) 32 32) yv (.slice (some ⟨g, 64, none⟩) 32 32) (.slice none 0 0) a yb key [] w7.drew hL.1 hL.2 (A6.out.a_.below k) (LY6.out.isB.below k) (A6.out.k_.below k) (IsB.nil _) HAL.out.1 HYL.out HAL.out.2.2 (fun n c e => by cases e; rfl) (by decide) HNE.out.1
      rw [← hxb.out] at this
      refine this.mono ?_
      rintro e w' ⟨gk, rfl, o, b⟩
      exact ⟨gk, rfl, o, k.trans b⟩
    go_wp2
    go_region_held3 (fun w' => True)
      (trivial)
      (first | (go_at_call 17; refine X1.out.mono ?_; rintro e w8 ⟨gk, rfl, o8, k8⟩))
    have A8 : Hid (PairAt w8 g a b key) := A6.out.below k8
    have K78 := Lib.hid k8
    have IX8 := Lib.hid (LX6.out.isB.below k8)
    have IY8 := Lib.hid (LY6.out.isB.below k8)
    have OP8 := Lib.hid o8
    clear k8 o8 X1 A6 LX6 LY6
    have X2 : Hid (Calls Tryd.prog 18 #[.iface 71 (.agg #[]), .slice (some ⟨g, 32, none⟩) 32 32, .slice (some ⟨gk, 0, none⟩) 113 113, .slice none 0 0] w8 fun e w' => ∃ r, e = .returned (.tuple #[r, .int .i64 0]) ∧ Own w' w8.heap.size r key ∧ Below w8.heap.size w8 w') := by
      have hL := HLL.out w8 K78.out
      refine (unwrapReal_any gk (.slice (some ⟨g, 32, none⟩) 32 32) (.slice none 0 0) b yb xb bx [] w8 hL.1 hL.2 A8.out.b_ (IsB.nil _) OP8.out.isB HAL.out.2.1 HYL.out HXL.out HBX.out (fun n c e => by cases e; rfl) (by decide) HNE.out.2.1).mono ?_
      intro e w' h
      obtain ⟨k, h⟩ := h.1 hyb.out
      rw [← HSB.out, hbx.out, M.ropn_box] at h
      obtain ⟨r, rfl, o⟩ := h
      exact ⟨r, rfl, o, k⟩
    go_wp2_with fail
    refine X2.out.mono ?_
    rintro e w9 ⟨rk, rfl, o9, k9⟩
    have A9 : Hid (PairAt w9 g a b key) := A8.out.below k9
    have K79 : Hid (Below w7.heap.size w7 w9) := K78.out.trans (k9.mono K78.out.size)
    have IX9 := Lib.hid (IX8.out.below k9)
    have IY9 := Lib.hid (IY8.out.below k9)
    have OP9 := Lib.hid (OP8.out.isB.below k9)
    have OK9 := Lib.hid o9
    clear k9 o9 X2 A8 IX8 IY8 OP8 K78
    have X3 := (HLL.out w9 K79.out)
    have X4 := Lib.hid (unwrapReal_any gk (.slice (some ⟨g, 0, none⟩) 32 32) (.slice none 0 0) a yb xb bx [] w9 X3.1 X3.2 A9.out.a_ (IsB.nil _) OP9.out HAL.out.1 HYL.out HXL.out HBX.out (fun n c e => by cases e; rfl) (by decide) HNE.out.2.2)
    rw [← hxb.out] at X4
    obtain ⟨oo, hoo⟩ : ∃ o, o = M.ropn (M.wkey (M.le (M.secret a xb) 32) xb yb) (List.replicate 12 0) [] bx := ⟨_, rfl⟩
    rw [← hoo] at X4
    have K09 : Hid (Below w.heap.size w w9) := K06.out.trans (K79.out.mono K06.out.size)
    clear X3 hoo
    go_wp2_with fail
    refine X4.out.mono ?_
    intro e w14 h14
    by_cases hxy : yb = xb
    · obtain ⟨k14, h⟩ := h14.1 hxy
      have A14 : Hid (PairAt w14 g a b key) := A9.out.below k14
      have K14 : Hid (Below w.heap.size w w14) := K09.out.trans (k14.mono K09.out.size)
      have IX14 := Lib.hid (IX9.out.below k14)
      have IY14 := Lib.hid (IY9.out.below k14)
      have OK14 := Lib.hid (OK9.out.below k14)
      have HXY : Hid (decide (xb = yb) = true) := decide_eq_true hxy.symm
      clear k14 h14 X4 A9 K09 IX9 IY9 OK9 hxy
      cases oo with
      | none =>
        obtain rfl := h
        go_wp2_with fail
        refine (requal_b rk (.slice (some ⟨g, 64, none⟩) 32 32) key key w14 (OK14.out.isB) A14.out.k_).mono ?_
        rintro e w15 ⟨rfl, k15⟩
        rw [decide_eq_true rfl]
        have KF15 : Hid (Below w.heap.size w w15) := K14.out.trans (k15.mono K14.out.size)
        have IX15 := Lib.hid (IX14.out.below k15)
        have IY15 := Lib.hid (IY14.out.below k15)
        clear k15
        go_wp2_with fail
        refine (requal_b xv yv xb yb w15 IX15.out IY15.out).mono ?_
        rintro e w16 ⟨rfl, k16⟩
        have KF16 : Hid (Below w.heap.size w w16) := KF15.out.trans (k16.mono KF15.out.size)
        clear k16
        rw [HXY.out]
        go_wp2
        go_ret
        exact ⟨rfl, KF16.out⟩
      | some t =>
        obtain ⟨rz, rfl, _⟩ := h
        go_wp2_with fail
        refine (requal_b rk (.slice (some ⟨g, 64, none⟩) 32 32) key key w14 (OK14.out.isB) A14.out.k_).mono ?_
        rintro e w15 ⟨rfl, k15⟩
        rw [decide_eq_true rfl]
        have KF15 : Hid (Below w.heap.size w w15) := K14.out.trans (k15.mono K14.out.size)
        have IX15 := Lib.hid (IX14.out.below k15)
        have IY15 := Lib.hid (IY14.out.below k15)
        clear k15
        go_wp2_with fail
        refine (requal_b xv yv xb yb w15 IX15.out IY15.out).mono ?_
        rintro e w16 ⟨rfl, k16⟩
        have KF16 : Hid (Below w.heap.size w w16) := KF15.out.trans (k16.mono KF15.out.size)
        clear k16
        rw [HXY.out]
        go_wp2
        go_ret
        exact ⟨rfl, KF16.out⟩
    · obtain ⟨rfl, k14⟩ := h14.2 hxy
      have A14 : Hid (PairAt w14 g a b key) := A9.out.below k14
      have K14 : Hid (Below w.heap.size w w14) := K09.out.trans (k14.mono K09.out.size)
      have IX14 := Lib.hid (IX9.out.below k14)
      have IY14 := Lib.hid (IY9.out.below k14)
      have OK14 := Lib.hid (OK9.out.below k14)
      have HXY : Hid (decide (xb = yb) = false) := decide_eq_false (fun e => hxy e.symm)
      clear k14 h14 X4 A9 K09 IX9 IY9 OK9 hxy
      go_wp2_with fail
      refine (requal_b rk (.slice (some ⟨g, 64, none⟩) 32 32) key key w14 (OK14.out.isB) A14.out.k_).mono ?_
      rintro e w15 ⟨rfl, k15⟩
      rw [decide_eq_true rfl]
      have KF15 : Hid (Below w.heap.size w w15) := K14.out.trans (k15.mono K14.out.size)
      have IX15 := Lib.hid (IX14.out.below k15)
      have IY15 := Lib.hid (IY14.out.below k15)
      clear k15
      go_wp2_with fail
      refine (requal_b xv yv xb yb w15 IX15.out IY15.out).mono ?_
      rintro e w16 ⟨rfl, k16⟩
      have KF16 : Hid (Below w.heap.size w w16) := KF15.out.trans (k16.mono KF15.out.size)
      clear k16
      rw [HXY.out]
      go_wp2
      go_ret
      exact ⟨rfl, KF16.out⟩
  | true =>
    have CB := Lib.hid (bkBook_any w7)
    go_wp2_with fail
    refine CB.out.mono ?_
    rintro e w8 ⟨gb, m1, m2, T, rfl, b8, k8, hT⟩
    have HM2 : Hid (w7.heap.size ≤ m2) := hT m2 b8.tm
    have HGM : Hid (¬ g = m2) := by have := HM2.out; have := HG1.out; have := K16.out.size; rw [Hid]; omega
    have K08 : Hid (Below w.heap.size w w8) := K06.out.trans (k8.mono K06.out.size)
    have A8 : Hid (PairAt w8 g a b key) := A6.out.below k8
    have LX8 : Hid (Own w8 w1.heap.size xv xb) := LX6.out.below k8
    have LY8 : Hid (Own w8 w1.heap.size yv yb) := LY6.out.below k8
    have HXM : Hid (∀ k, xv.ownBlock = some k → ¬ k = m2) := fun k hk => by have := (LX6.out.row.lt k hk).2; have := HM2.out; omega
    have HYM : Hid (∀ k, yv.ownBlock = some k → ¬ k = m2) := fun k hk => by have := (LY6.out.row.lt k hk).2; have := HM2.out; omega
    have B8 := Lib.hid b8
    have HLL : Hid (∀ W, Below w8.heap.size w8 W → Laid W) := fun W k => (HL.out.below K08.out HL.out.size).below k (Nat.le_trans HL.out.size K08.out.size)
    clear CB k8 b8 hT A6 LX6 LY6
    obtain ⟨bx, hbx⟩ : ∃ l, Hid (l = M.bbox ([] : M.Bk).length 48) := ⟨_, rfl⟩
    have HBX : Hid (bx.length = 48) := by rw [Hid, hbx.out, M.bbox_len]
    have X1 : Hid (Calls Tryd.prog 17 #[.iface 72 (.pointer (some ⟨gb, 0, none⟩)), .slice (some ⟨g, 0, none⟩) 32 32, yv, .slice (some ⟨g, 64, none⟩) 32 32, .slice none 0 0] w8.drew fun e w' =>
        ∃ gk, e = .returned (.tuple #[.slice (some ⟨gk, 0, none⟩) 113 113, .int .i64 0]) ∧ Own w' w8.heap.size (.slice (some ⟨gk, 0, none⟩) 113 113) (M.pkt yb xb bx) ∧
          (∃ T', BkIs T' w' gb m1 m2 [((M.wkey sb xb yb, List.replicate 12 0, [], bx), key)]) ∧ Chg (fun b => b = m2) w8 w') := by
      have k := below_draws w8 1
      have hL := HLL.out w8.drew k
      have := wrapBook_any (B8.out.below k) (.slice (some ⟨g, 0, none⟩) 32 32) yv (.slice (some ⟨g, 64, none⟩) 32 32) (.slice none 0 0) a yb key [] hL (A8.out.a_.below k) (LY8.out.isB.below k) (A8.out.k_.below k) (IsB.nil _) HAL.out.1 HYL.out HAL.out.2.2 (fun n c e => by cases e; rfl) (by decide) HNE.out.1 (by decide)
      rw [← hxb.out, ← hbx.out, ← hsb.out] at this
      refine this.mono ?_
      rintro e w' ⟨gk, rfl, o, ⟨T', h, _⟩, c⟩
      exact ⟨gk, rfl, o, ⟨T', h⟩, (Chg.of_below (F := fun b => b = m2) k).trans c (fun _ _ h => h)⟩
    go_wp2
    go_region_held3 (fun w' => True)
      (trivial)
      (first | (go_at_call 17; refine X1.out.mono ?_; rintro e w10 ⟨gk, rfl, o10, ⟨T', b10⟩, c10⟩))
    have A10 : Hid (PairAt w10 g a b key) := A8.out.chg c10 HGM.out
    have K10 : Hid (Below w.heap.size w w10) := K08.out.trans (c10.below K08.out.size (fun k e => by subst e; exact Nat.le_trans K06.out.size HM2.out))
    have IX10 : Hid (IsB w10 xv xb) := Own.isB (B := w1.heap.size) (own_chg LX8.out c10 HXM.out)
    have IY10 : Hid (IsB w10 yv yb) := Own.isB (B := w1.heap.size) (own_chg LY8.out c10 HYM.out)
    have HL10 : Hid (∀ W, Below w10.heap.size w10 W → Laid W) := fun W k => (HL.out.below K10.out HL.out.size).below k (Nat.le_trans HL.out.size K10.out.size)
    have OP10 := Lib.hid o10
    have B10 := Lib.hid b10
    clear c10 o10 b10 X1 A8 LX8 LY8 B8 HLL
    have X2 : Hid (Calls Tryd.prog 18 #[.iface 72 (.pointer (some ⟨gb, 0, none⟩)), .slice (some ⟨g, 32, none⟩) 32 32, .slice (some ⟨gk, 0, none⟩) 113 113, .slice none 0 0] w10 fun e w' => ∃ r, e = .returned (.tuple #[r, .int .i64 0]) ∧ Own w' w10.heap.size r key ∧ Below w10.heap.size w10 w') := by
      refine (unwrapBook_any B10.out gk (.slice (some ⟨g, 32, none⟩) 32 32) (.slice none 0 0) b yb xb bx [] (HL10.out w10 (Below.refl _ _)) A10.out.b_ (IsB.nil _) OP10.out.isB HAL.out.2.1 HYL.out HXL.out HBX.out (fun n c e => by cases e; rfl) (by decide) HNE.out.2.1).mono ?_
      intro e w' h
      obtain ⟨k, h⟩ := h.1 hyb.out
      rw [← HSB.out, show M.bget [((M.wkey sb xb yb, List.replicate 12 0, [], bx), key)] (M.wkey sb xb yb, List.replicate 12 0, [], bx) = some key from if_pos rfl] at h
      obtain ⟨r, rfl, o⟩ := h
      exact ⟨r, rfl, o, k⟩
    go_wp2_with fail
    refine X2.out.mono ?_
    rintro e w9 ⟨rk, rfl, o9, k9⟩
    have A9 : Hid (PairAt w9 g a b key) := A10.out.below k9
    have K09 : Hid (Below w.heap.size w w9) := K10.out.trans (k9.mono K10.out.size)
    have IX9 := Lib.hid (IX10.out.below k9)
    have IY9 := Lib.hid (IY10.out.below k9)
    have OP9 := Lib.hid (OP10.out.isB.below k9)
    have OK9 := Lib.hid o9
    have B9 := Lib.hid (B10.out.below k9)
    have HL9 : Hid (Laid w9) := HL10.out w9 k9
    clear k9 o9 X2 A10 IX10 IY10 OP10 B10 HL10
    have X4 := Lib.hid (unwrapBook_any B9.out gk (.slice (some ⟨g, 0, none⟩) 32 32) (.slice none 0 0) a yb xb bx [] HL9.out A9.out.a_ (IsB.nil _) OP9.out HAL.out.1 HYL.out HXL.out HBX.out (fun n c e => by cases e; rfl) (by decide) HNE.out.2.2)
    rw [← hxb.out] at X4
    obtain ⟨oo, hoo⟩ : ∃ o, o = M.bget [((M.wkey sb xb yb, List.replicate 12 0, [], bx), key)] (M.wkey (M.le (M.secret a xb) 32) xb yb, List.replicate 12 0, [], bx) := ⟨_, rfl⟩
    rw [← hoo] at X4
    clear hoo
    go_wp2_with fail
    refine X4.out.mono ?_
    intro e w14 h14
    by_cases hxy : yb = xb
    · obtain ⟨k14, h⟩ := h14.1 hxy
      have A14 : Hid (PairAt w14 g a b key) := A9.out.below k14
      have K14 : Hid (Below w.heap.size w w14) := K09.out.trans (k14.mono K09.out.size)
      have IX14 := Lib.hid (IX9.out.below k14)
      have IY14 := Lib.hid (IY9.out.below k14)
      have OK14 := Lib.hid (OK9.out.below k14)
      have HXY : Hid (decide (xb = yb) = true) := decide_eq_true hxy.symm
      clear k14 h14 X4 A9 K09 IX9 IY9 OK9 hxy
      cases oo with
      | none =>
        obtain rfl := h
        go_wp2_with fail
        refine (requal_b rk (.slice (some ⟨g, 64, none⟩) 32 32) key key w14 (OK14.out.isB) A14.out.k_).mono ?_
        rintro e w15 ⟨rfl, k15⟩
        rw [decide_eq_true rfl]
        have KF15 : Hid (Below w.heap.size w w15) := K14.out.trans (k15.mono K14.out.size)
        have IX15 := Lib.hid (IX14.out.below k15)
        have IY15 := Lib.hid (IY14.out.below k15)
        clear k15
        go_wp2_with fail
        refine (requal_b xv yv xb yb w15 IX15.out IY15.out).mono ?_
        rintro e w16 ⟨rfl, k16⟩
        have KF16 : Hid (Below w.heap.size w w16) := KF15.out.trans (k16.mono KF15.out.size)
        clear k16
        rw [HXY.out]
        go_wp2
        go_ret
        exact ⟨rfl, KF16.out⟩
      | some t =>
        obtain ⟨rz, rfl, _⟩ := h
        go_wp2_with fail
        refine (requal_b rk (.slice (some ⟨g, 64, none⟩) 32 32) key key w14 (OK14.out.isB) A14.out.k_).mono ?_
        rintro e w15 ⟨rfl, k15⟩
        rw [decide_eq_true rfl]
        have KF15 : Hid (Below w.heap.size w w15) := K14.out.trans (k15.mono K14.out.size)
        have IX15 := Lib.hid (IX14.out.below k15)
        have IY15 := Lib.hid (IY14.out.below k15)
        clear k15
        go_wp2_with fail
        refine (requal_b xv yv xb yb w15 IX15.out IY15.out).mono ?_
        rintro e w16 ⟨rfl, k16⟩
        have KF16 : Hid (Below w.heap.size w w16) := KF15.out.trans (k16.mono KF15.out.size)
        clear k16
        rw [HXY.out]
        go_wp2
        go_ret
        exact ⟨rfl, KF16.out⟩
    · obtain ⟨rfl, k14⟩ := h14.2 hxy
      have A14 : Hid (PairAt w14 g a b key) := A9.out.below k14
      have K14 : Hid (Below w.heap.size w w14) := K09.out.trans (k14.mono K09.out.size)
      have IX14 := Lib.hid (IX9.out.below k14)
      have IY14 := Lib.hid (IY9.out.below k14)
      have OK14 := Lib.hid (OK9.out.below k14)
      have HXY : Hid (decide (xb = yb) = false) := decide_eq_false (fun e => hxy e.symm)
      clear k14 h14 X4 A9 K09 IX9 IY9 OK9 hxy
      go_wp2_with fail
      refine (requal_b rk (.slice (some ⟨g, 64, none⟩) 32 32) key key w14 (OK14.out.isB) A14.out.k_).mono ?_
      rintro e w15 ⟨rfl, k15⟩
      rw [decide_eq_true rfl]
      have KF15 : Hid (Below w.heap.size w w15) := K14.out.trans (k15.mono K14.out.size)
      have IX15 := Lib.hid (IX14.out.below k15)
      have IY15 := Lib.hid (IY14.out.below k15)
      clear k15
      go_wp2_with fail
      refine (requal_b xv yv xb yb w15 IX15.out IY15.out).mono ?_
      rintro e w16 ⟨rfl, k16⟩
      have KF16 : Hid (Below w.heap.size w w16) := KF15.out.trans (k16.mono KF15.out.size)
      clear k16
      rw [HXY.out]
      go_wp2
      go_ret
      exact ⟨rfl, KF16.out⟩

end Go.Proofs.YtdojalhaklkegaaDoor
