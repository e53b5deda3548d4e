/-
  THE WALK OF orloptop.TopStreams: it returns true, and writes nothing that was there. Conditions: the program's table of places lies as it was laid.
-/
import Derived.Test.YtdojalhaklkegaaDoorTopSealing
import Derived.Test.YtdojalhaklkegaaDoorPtA
import Derived.Test.YtdojalhaklkegaaDoorPtJ
import Derived.Test.YtdojalhaklkegaaDoorRefA
import Derived.Deep.RegionHeld3
namespace Go.Proofs.YtdojalhaklkegaaDoor
open Go.RowKit Go.Maps
set_option linter.unusedVariables false
set_option maxRecDepth 100000

structure LayerAt (w : World) (g : Nat) (key pre : List UInt8) (xv lv : Value) (size : Nat) : Prop where
  blk : Blk w g 46 (layerC key pre xv lv size)
  kl : key.length = 32
  pl : pre.length = 7

theorem LayerAt.below {w w' : World} {g : Nat} {key pre : List UInt8} {xv lv : Value} {size : Nat} (h : LayerAt w g key pre xv lv size) (k : Below w.heap.size w w') : LayerAt w' g key pre xv lv size := ⟨h.blk.below k h.blk.lt, h.kl, h.pl⟩

theorem LayerAt.chg {F : Nat → Prop} {w w' : World} {g : Nat} {key pre : List UInt8} {xv lv : Value} {size : Nat} (h : LayerAt w g key pre xv lv size) (k : Chg F w w') (hg : ¬ F g) : LayerAt w' g key pre xv lv size := ⟨h.blk.chg k hg, h.kl, h.pl⟩

theorem LayerAt.key {w : World} {g : Nat} {key pre : List UInt8} {xv lv : Value} {size : Nat} (h : LayerAt w g key pre xv lv size) : IsB w (.slice (some ⟨g, 0, none⟩) 32 32) key := by
  refine ⟨_, 32, by rw [h.kl], by rw [h.kl]; exact Nat.le_refl _, by unfold maxLen; omega, .inr ⟨g, 0, rfl, fun i hi => ?_⟩⟩
  rw [Nat.zero_add, h.blk.cell, layerC, List.getElem?_append_left (by rw [byteCells_length]; exact hi), byteCells_getElem? key i hi]

theorem LayerAt.pre {w : World} {g : Nat} {key pre : List UInt8} {xv lv : Value} {size : Nat} (h : LayerAt w g key pre xv lv size) : IsB w (.slice (some ⟨g, 32, none⟩) 7 7) pre := by
  refine ⟨_, 7, by rw [h.pl], by rw [h.pl]; exact Nat.le_refl _, by unfold maxLen; omega, .inr ⟨g, 32, rfl, fun i hi => ?_⟩⟩
  rw [h.blk.cell, layerC, List.getElem?_append_right (by rw [byteCells_length, h.kl]; omega), byteCells_length, h.kl, Nat.add_sub_cancel_left, List.getElem?_append_left (by rw [byteCells_length]; exact hi), byteCells_getElem? pre i hi]

theorem LayerAt.rest {w : World} {g : Nat} {key pre : List UInt8} {xv lv : Value} {size : Nat} (h : LayerAt w g key pre xv lv size) (j : Nat) : w.cell? ⟨g, 39 + j, none⟩ = [xv, lv, .int .u16 (size : Int)][j]? := by
  rw [h.blk.cell, layerC, List.getElem?_append_right (by rw [byteCells_length, h.kl]; omega), byteCells_length, h.kl, List.getElem?_append_right (by rw [byteCells_length, h.pl]; omega), byteCells_length, h.pl]
  congr 1
  omega

theorem LayerAt.c39 {w : World} {g : Nat} {key pre : List UInt8} {xv lv : Value} {size : Nat} (h : LayerAt w g key pre xv lv size) : w.cell? ⟨g, 39, none⟩ = some xv := h.rest 0
theorem LayerAt.c40 {w : World} {g : Nat} {key pre : List UInt8} {xv lv : Value} {size : Nat} (h : LayerAt w g key pre xv lv size) : w.cell? ⟨g, 40, none⟩ = some lv := h.rest 1
theorem LayerAt.c41 {w : World} {g : Nat} {key pre : List UInt8} {xv lv : Value} {size : Nat} (h : LayerAt w g key pre xv lv size) : w.cell? ⟨g, 41, none⟩ = some (.int .u16 (size : Int)) := h.rest 2

theorem layerAt_new (w : World) (key pre : List UInt8) (xv lv : Value) (size : Nat) (hk : key.length = 32) (hp : pre.length = 7) : LayerAt (w.alloc (.cells (layerC key pre xv lv size).toArray 46)) w.heap.size key pre xv lv size :=
  ⟨Blk.newAt _ _ _ _ _ rfl (by simp), hk, hp⟩

theorem wrap64_18 {x : Int} (h1 : -9223372036854775808 ≤ x) (h2 : x ≤ 9223372036854775807) : wrap64 x = x := by unfold wrap64; omega

theorem tequal_yes (v1 v2 : Value) (bs : List UInt8) (w : World) (h1 : IsB w v1 bs) (h2 : IsB w v2 bs) :
    Calls Tryd.prog 12 #[v1, v2] w fun e w' => e = .returned (.bool true) ∧ Below w.heap.size w w' := by
  refine (equal_any v1 v2 bs bs w h1 h2).mono ?_
  rintro e w' ⟨rfl, n, rfl⟩
  exact ⟨by simp, below_draws w n⟩

set_option maxHeartbeats 16000000 in
theorem topStreams_walk (w : World) (hL : LaidP w) (key pre : List UInt8) (xv lv : Value) (ctx layer : List UInt8) (size : Nat) (hkl : key.length = 32) (hpl : pre.length = 7) (hx : IsB w xv ctx) (hl : IsB w lv layer) (hsz : size < 65536)
    (zx : ∀ n c, xv = .slice none n c → c = 0) (zl : ∀ n c, lv = .slice none n c → c = 0) (cut : Nat) (hcut : cut < 65536) :
    Calls Tryd.prog 5 #[.agg (layerC key pre xv lv size).toArray, .int .u16 (cut : Int)] w fun e w' => e = .returned (.bool true) ∧ Below w.heap.size w w' := by
  have HX := Lib.hid hx
  have HLY := Lib.hid hl
  have HL := Lib.hid hL
  have ZX := Lib.hid zx
  obtain ⟨xa, xc, rfl⟩ := hx.shape
  obtain ⟨la, lc, rfl⟩ := hl.shape
  have hm1 : ctx.length ≤ maxLen := by obtain ⟨_, _, _, h1, h2, _⟩ := hx; omega
  have hm2 : layer.length ≤ maxLen := by obtain ⟨_, _, _, h1, h2, _⟩ := hl; omega
  unfold maxLen at hm1 hm2
  obtain ⟨xn, hxn⟩ : ∃ n, n = ctx.length := ⟨_, rfl⟩
  obtain ⟨ln, hln⟩ : ∃ n, n = layer.length := ⟨_, rfl⟩
  have HNX := Lib.hid hxn
  have HNL := Lib.hid hln
  rw [← hxn] at HX ZX hm1 ⊢
  rw [← hln] at HLY hm2 ⊢
  obtain ⟨g, hg⟩ : ∃ g, g = w.heap.size := ⟨_, rfl⟩
  have HA0 : Hid (LayerAt (w.alloc (.cells (layerC key pre (.slice xa xn xc) (.slice la ln lc) size).toArray 46)) g key pre (.slice xa xn xc) (.slice la ln lc) size) := by rw [hg]; exact layerAt_new w key pre _ _ size hkl hpl
  have KB : Hid (Below w.heap.size w (w.alloc (.cells (layerC key pre (.slice xa xn xc) (.slice la ln lc) size).toArray 46))) := (Below.refl _ _).alloc (Nat.le_refl _) _
  have HG : Hid (g < (w.alloc (.cells (layerC key pre (.slice xa xn xc) (.slice la ln lc) size).toArray 46)).heap.size) := by rw [Hid, hg]; simp
  obtain ⟨X, hX⟩ : ∃ X, Hid (X = (layerC key pre (.slice xa xn xc) (.slice la ln lc) size).toArray) := ⟨_, rfl⟩
  rw [← hX.out] at HA0 KB HG ⊢
  have HKL := Lib.hid hkl
  have HPL := Lib.hid hpl
  clear hxn hln hx hl zx zl hkl hpl hL
  go_enter Tryd.func5, Tryd.ntmps5
  go_wp2_with fail
  rw [← hg]
  clear hg
  refine (sealing_any _ (HL.out.below KB.out HL.out.size)).mono ?_
  rintro e w1 ⟨rfl, k1⟩
  have A1 : Hid (LayerAt w1 g key pre (.slice xa xn xc) (.slice la ln lc) size) := HA0.out.below k1
  have K1 : Hid (Below w.heap.size w w1) := KB.out.trans (k1.mono KB.out.size)
  have HG1 : Hid (g < w1.heap.size) := Nat.lt_of_lt_of_le HG.out k1.size
  clear k1 KB HA0 hX HG HL
  have c39 := A1.out.c39
  have c40 := A1.out.c40
  have c41 := A1.out.c41
  obtain ⟨sz, hsz1⟩ : ∃ n, n = size + 1 := ⟨_, rfl⟩
  have hsI : (1 : Int) + (size : Int) = (sz : Int) := by omega
  have hs0 : ¬ sz = 0 := by omega
  have hs1 : 1 ≤ sz := by omega
  have hs2 : sz ≤ 65536 := by omega
  obtain ⟨d, hd⟩ : ∃ d, d = ln / sz := ⟨_, rfl⟩
  have HD := Lib.hid hd
  have HS12 : Hid (1 ≤ sz ∧ sz ≤ 65536) := ⟨hs1, hs2⟩
  have hsw : IntKind.i64.wrap (size : Int) = (size : Int) := IntWalk.i64_in _ (by omega)
  have hdl : d ≤ ln := by rw [hd]; exact Nat.div_le_self _ _
  have HDD : Hid (-9223372036854775808 ≤ (d : Int) ∧ (d : Int) ≤ 9223372036854775807) := by rw [Hid]; omega
  have hdv : (ln : Int).tdiv (sz : Int) = (d : Int) := by rw [hd]; rfl
  clear hsz1 hd
  by_cases hb1 : 1200 < ln
  · clear hdv
    go_wp2
    go_ret
    exact ⟨rfl, K1.out⟩
  by_cases hb2 : 300 < xn
  · clear hdv
    go_wp2
    go_ret
    exact ⟨rfl, K1.out⟩
  by_cases hb3 : 60 < d
  · have q1 : decide ((1200 : Int) < (ln : Int)) = false := decide_eq_false (by omega)
    have q2 : decide ((300 : Int) < (xn : Int)) = false := decide_eq_false (by omega)
    have q3 : decide ((60 : Int) < (d : Int)) = true := decide_eq_true (by omega)
    have hdw : wrap64 (d : Int) = (d : Int) := wrap64_18 HDD.out.1 HDD.out.2
    go_wp2
    go_ret
    exact ⟨rfl, K1.out⟩
  have q1 : decide ((1200 : Int) < (ln : Int)) = false := decide_eq_false (by omega)
  have q2 : decide ((300 : Int) < (xn : Int)) = false := decide_eq_false (by omega)
  have q3 : decide ((60 : Int) < (d : Int)) = false := decide_eq_false (by omega)
  have HNP : Hid (M.np layer.length sz ≤ 62 ∧ ln ≤ 1200 ∧ xn ≤ 300) := by
    refine ⟨?_, by omega, by omega⟩
    rw [← HNL.out]
    have h1 := HS12.out
    have h2 := HD.out
    unfold M.np
    have h4 : (ln + sz - 1) / sz ≤ ln / sz + 1 := by
      have : ln + sz - 1 ≤ ln + sz := by omega
      refine Nat.le_trans (Nat.div_le_div_right this) ?_
      rw [Nat.add_div_right _ (by omega)]
      exact Nat.le_refl _
    rw [← h2] at h4
    have h5 : d ≤ 60 := by omega
    have h6 : (ln + sz - 1) / sz ≤ 62 := by omega
    exact Nat.max_le.2 ⟨h6, by omega⟩
  clear hb1 hb2 hb3 hs0 hs1 hs2 hdl HD
  have hs0 : ¬ sz = 0 := by have := HS12.out; omega
  have CB := Lib.hid (bkBook_any w1)
  have hdw : wrap64 (d : Int) = (d : Int) := wrap64_18 HDD.out.1 HDD.out.2
  go_wp2_with fail
  refine CB.out.mono ?_
  clear c39 c40 c41 q1 q2 q3 hdv hs0 hsw hsI CB hdw HDD
  rintro e w3 ⟨gb, m1, m2, T, rfl, b3, k3, hT⟩
  have K3 : Hid (Below w.heap.size w w3) := K1.out.trans (k3.mono K1.out.size)
  have A3 : Hid (LayerAt w3 g key pre (.slice xa xn xc) (.slice la ln lc) size) := A1.out.below k3
  have HM2 : Hid (w1.heap.size ≤ m2) := hT m2 b3.tm
  have HGM : Hid (¬ g = m2) := by have := HM2.out; have := HG1.out; rw [Hid]; omega
  have B3 := Lib.hid b3
  have HM3 := Lib.hid b3.isMap
  have HX3 := Lib.hid (HX.out.below K3.out)
  have HL3 := Lib.hid (HLY.out.below K3.out)
  clear b3 k3 hT A1 HX HLY
  have S3 : Hid (∀ w', Chg (fun b => b = m2) w3 w' → w'.cell? ⟨g, 39, none⟩ = some (.slice xa xn xc) ∧ w'.cell? ⟨g, 40, none⟩ = some (.slice la ln lc)) := fun w' k => ⟨(A3.out.chg k HGM.out).c39, (A3.out.chg k HGM.out).c40⟩
  have X1 : Hid (Calls Tryd.prog 19 #[.iface 72 (.pointer (some ⟨gb, 0, none⟩)), .slice (some ⟨g, 0, none⟩) 32 32, .slice (some ⟨g, 32, none⟩) 7 7, .slice xa xn xc, .slice la ln lc, .int .i64 (sz : Int)] w3.drew fun e w' =>
      ∃ r, e = .returned (.tuple #[r, .int .i64 0]) ∧ Own w' w3.heap.size r (M.sealB 0 pre layer sz) ∧ BkIs (Wider T w3.drew w') w' gb m1 m2 (M.bookB [] key pre ctx layer sz) ∧ Chg (fun b => b = m2) w3 w') := by
    have k := below_draws w3 1
    have hn := HNP.out
    have hnx := HNX.out
    have hnl := HNL.out
    refine (seal_any (B3.out.below k) _ _ _ _ key pre ctx layer sz (A3.out.key.below k) (A3.out.pre.below k) (HX3.out.below k) (HL3.out.below k) ZX.out HKL.out HPL.out HS12.out.1 HS12.out.2 (by omega) (by omega) (by decide) (by omega)).mono ?_
    rintro e w' ⟨r, rfl, o, b, c⟩
    exact ⟨r, rfl, o, b, ((Chg.refl (fun b => b = m2) w3).drew).trans c (fun _ _ h => h)⟩
  go_wp2
  go_region_held3 (fun w' => w'.cell? ⟨g, 39, none⟩ = some (.slice xa xn xc) ∧ w'.cell? ⟨g, 40, none⟩ = some (.slice la ln lc))
    (first | exact S3.out _ ((Chg.refl _ _).drew) | exact S3.out _ c4)
    (first | (go_at_call 19; refine X1.out.mono ?_; rintro e w4 ⟨r4, rfl, o4, b4, c4⟩))
  have A4 : Hid (LayerAt w4 g key pre (.slice xa xn xc) (.slice la ln lc) size) := A3.out.chg c4 HGM.out
  have HK1 := HM2.out
  have K4 : Hid (Below w.heap.size w w4) := K3.out.trans (c4.below K3.out.size (fun k e => by subst e; exact Nat.le_trans K1.out.size HK1))
  have HX4 := Lib.hid (HX3.out.keepM HM3.out c4 (fun b _ h => h))
  have HL4 := Lib.hid (HL3.out.keepM HM3.out c4 (fun b _ h => h))
  obtain ⟨sx, hsx⟩ : ∃ x, Hid (x = M.sealB 0 pre layer sz) := ⟨_, rfl⟩
  obtain ⟨N, hN⟩ : ∃ n, n = sx.length := ⟨_, rfl⟩
  have HNL2 : Hid (12 ≤ N ∧ N ≤ 290000 ∧ sx.length = N) := by
    refine ⟨?_, ?_, hN.symm⟩
    · rw [hN, hsx.out, M.sealB_len HPL.out _ _ _ HS12.out.1]; omega
    · rw [hN, hsx.out, M.sealB_len HPL.out _ _ _ HS12.out.1]
      have := HNP.out
      have := HNL.out
      omega
  rw [← hsx.out] at o4
  obtain ⟨gx, xcap, rfl, _⟩ := o4.shape (by have := HNL2.out; omega)
  have hcap : N ≤ xcap := by
    obtain ⟨_, _, e, h1, _⟩ := o4.isB
    injection e with _ _ e
    omega
  rw [← hN] at o4 ⊢
  have I4 : Hid (IsB w4 (.slice (some ⟨gx, 0, none⟩) N xcap) sx) := o4.isB
  have B4 := Lib.hid b4
  have HBT := Lib.hid (M.bget_sbk_len (key := key) (pre := pre) (ctx := ctx) (layer := layer) (size := sz) HS12.out.2 (L := []) (fun sl t h => by cases h) (M.np layer.length sz))
  have S4 : Hid (∀ w', Below w4.heap.size w4 w' → w'.cell? ⟨g, 39, none⟩ = some (.slice xa xn xc) ∧ w'.cell? ⟨g, 40, none⟩ = some (.slice la ln lc)) := fun w' k => ⟨(A4.out.below k).c39, (A4.out.below k).c40⟩
  have CO : Hid (∀ W (v : Value) (s : List UInt8), Below w4.heap.size w4 W → IsB W v s → s.length ≤ 290000 → Calls Tryd.prog 20 #[.iface 72 (.pointer (some ⟨gb, 0, none⟩)), .slice (some ⟨g, 0, none⟩) 32 32, .slice xa xn xc, v] W.drew fun e w' =>
      OpenEnds W.drew (M.bookB [] key pre ctx layer sz) key ctx s e w' ∧ Below W.heap.size W w') := by
    intro W v s k1 hv hs
    have k := below_draws W 1
    have hnx := HNX.out
    have hn := HNP.out
    refine (sopen_any ((B4.out.below k1).below k) _ _ v key ctx s ((A4.out.below k1).key.below k) ((HX4.out.below k1).below k) (hv.below k) ZX.out HKL.out (by omega) hs HBT.out).mono ?_
    intro e w' h
    exact ⟨h, k.trans h.1⟩
  clear o4 b4 c4 hN X1 S3 HM3 HX3 HL3 A3 HK1 B3
  have X2 : Hid (Calls Tryd.prog 20 #[.iface 72 (.pointer (some ⟨gb, 0, none⟩)), .slice (some ⟨g, 0, none⟩) 32 32, .slice xa xn xc, .slice (some ⟨gx, 0, none⟩) N xcap] w4.drew fun e w' => ∃ r, e = .returned (.tuple #[r, .int .i64 0]) ∧ Own w' w4.heap.size r layer ∧ Below w4.heap.size w4 w') := by
    refine (CO.out w4 _ sx (Below.refl _ _) I4.out (by have := HNL2.out; omega)).mono ?_
    rintro e w' ⟨⟨_, h⟩, k⟩
    have ho := M.book1_opens (key := key) (p := pre) (ctx := ctx) (layer := layer) HPL.out HS12.out.1 HS12.out.2 (by have := HNP.out; omega)
    have hok := (M.sealed_cut (layer := layer) 0 HPL.out HS12.out.1 HS12.out.2).2.2.1
    rw [← hsx.out] at ho hok
    rcases h with ⟨_, r, z, h1, h2, h3⟩ | ⟨_, h1, _⟩ | ⟨h1, _⟩
    · rw [ho] at h1
      injection h1 with h1
      subst h1
      exact ⟨r, h2, h3, k⟩
    · rw [ho] at h1; cases h1
    · exact absurd hok h1
  go_wp2
  go_region_held3 (fun w' => w'.cell? ⟨g, 39, none⟩ = some (.slice xa xn xc) ∧ w'.cell? ⟨g, 40, none⟩ = some (.slice la ln lc))
    (first | exact S4.out _ (below_draws _ 1) | exact S4.out _ k5)
    (first | (go_at_call 20; refine X2.out.mono ?_; rintro e w5 ⟨r5, rfl, o5, k5⟩))
  have O5 := Lib.hid o5
  have K45 := Lib.hid k5
  obtain ⟨c39, c40⟩ := S4.out w5 k5
  have CE := Lib.hid (tequal_yes r5 (.slice la ln lc) layer w5 o5.isB (HL4.out.below k5))
  clear o5 k5 X2
  go_wp2_with fail
  refine CE.out.mono ?_
  rintro e w6 ⟨rfl, k6⟩
  have K46 : Hid (Below w4.heap.size w4 w6) := K45.out.trans (k6.mono K45.out.size)
  clear c39 c40 k6 CE O5 K45
  have S6 : Hid (∀ w', Below w6.heap.size w6 w' → w'.cell? ⟨g, 39, none⟩ = some (.slice xa xn xc) ∧ w'.cell? ⟨g, 40, none⟩ = some (.slice la ln lc)) := fun w' k => S4.out w' (K46.out.trans (k.mono K46.out.size))
  obtain ⟨m, hm⟩ : ∃ n, n = cut % N := ⟨_, rfl⟩
  have hn0 : ¬ N = 0 := by have := HNL2.out; omega
  have hmN : m < N := by rw [hm]; exact Nat.mod_lt _ (by omega)
  have HMN := Lib.hid hmN
  have hcw : IntKind.i64.wrap (cut : Int) = (cut : Int) := IntWalk.i64_in _ (by omega)
  have i0 : (0 : Int) ≤ (m : Int) := by omega
  have i1 : (m : Int) ≤ (xcap : Int) := by omega
  have i2 : (m : Int) ≤ (N : Int) := by omega
  have hmv : (cut : Int).tmod (N : Int) = (m : Int) := by rw [hm]; rfl
  have X3 : Hid (Calls Tryd.prog 20 #[.iface 72 (.pointer (some ⟨gb, 0, none⟩)), .slice (some ⟨g, 0, none⟩) 32 32, .slice xa xn xc, .slice (some ⟨gx, 0, none⟩) m xcap] w6.drew fun e w' => ∃ c : Int, (c = 7 ∨ c = 8) ∧ e = .returned (.tuple #[.slice none 0 0, .int .i64 c]) ∧ Below w6.heap.size w6 w') := by
    have hm2 := HMN.out
    have hn2 := HNL2.out
    have htl : (sx.take m).length = m := by rw [List.length_take]; omega
    refine (CO.out w6 _ (sx.take m) K46.out ((I4.out.below K46.out).take m (by omega)) (by rw [htl]; omega)).mono ?_
    rintro e w' ⟨⟨_, h⟩, k⟩
    rcases h with ⟨h0, r, z, h1, h2, h3⟩ | ⟨_, _, h1⟩ | ⟨_, h1⟩
    · exfalso
      rw [hsx.out] at h0 h1 hn2
      exact M.cut_refused HPL.out HS12.out.1 HS12.out.2 (by have := HNP.out; have := HNL.out; omega) (by omega) (by omega) h0.1 h1
    · exact ⟨7, .inl rfl, h1, k⟩
    · exact ⟨8, .inr rfl, h1, k⟩
  clear hm hmN hcap CO
  go_wp2
  go_region_held3 (fun w' => w'.cell? ⟨g, 39, none⟩ = some (.slice xa xn xc) ∧ w'.cell? ⟨g, 40, none⟩ = some (.slice la ln lc))
    (first | exact S6.out _ (below_draws _ 1) | exact S6.out _ k7)
    (first | (go_at_call 20; refine X3.out.mono ?_; rintro e w7 ⟨c, hc, rfl, k7⟩))
  have K7 : Hid (Below w.heap.size w w7) := (K4.out.trans (K46.out.mono K4.out.size)).trans (k7.mono (K4.out.trans (K46.out.mono K4.out.size)).size)
  clear hmv hcw
  rcases hc with rfl | rfl
  · go_wp2
    go_ret
    exact ⟨rfl, K7.out⟩
  · go_wp2
    go_ret
    exact ⟨rfl, K7.out⟩

end Go.Proofs.YtdojalhaklkegaaDoor
