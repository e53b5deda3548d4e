/-
  THE WALK OF orloplaw15.JsonReads: it returns true, and writes nothing that was there. Conditions: the library's variables lie as laid.
-/
import Derived.Test.YtbgadfaiehkanaaGreatDoorJsI2
namespace Go.Proofs.YtbgadfaiehkanaaGreatDoor
open Go.RowKit Go.Proofs Go.Shelf
set_option linter.unusedVariables false
set_option maxRecDepth 100000

theorem JLaid.below' {w w' : World} (h : JLaid w) (k : Below w.heap.size w w') : JLaid w' := h.below k
def M.codeOf : M.Res → Int
  | .err c => c
  | .ok _ _ => 0
def M.valOf : M.Res → M.GV
  | .err _ => M.vNull
  | .ok g _ => g

/-- What Parse hands back, either way. -/
theorem parse_what {w : World} {res : M.Res} {e : Ending} {w' : World} (h : ParseEnds w res e w') : ∃ cs, e = .returned (.tuple #[.agg cs.toArray, .int .i64 (M.codeOf res)]) ∧ IsV (fun _ => True) w' 16 cs (M.valOf res) ∧ Below w.heap.size w w' ∧ (M.codeOf res = 0 → ∃ g r, res = .ok g r) := by
  cases res with
  | err c =>
    obtain ⟨rfl, hz, k⟩ := h
    exact ⟨z6, rfl, IsV.leaf _ w' 15 0 false 0 [], k, fun e => absurd e hz⟩
  | ok g r =>
    obtain ⟨lv, mv, rfl, iv, k⟩ := h
    exact ⟨_, rfl, IsV.mono (fun _ _ _ => trivial) _ iv, k, fun _ => ⟨g, r, rfl⟩⟩

set_option maxHeartbeats 16000000 in
theorem jsonReads_walk (w : World) (hL : JLaid w) (v : Value) (bs : List UInt8) (h1 : IsB w v bs) (hnil : ∀ n c, v = .slice none n c → c = 0) :
    Calls Tryz.prog 3 #[v] w fun e w' => e = .returned (.bool true) ∧ Below w.heap.size w w' := by
  obtain ⟨ao1, cap1, rfl⟩ : ∃ ao cap, v = .slice ao bs.length cap := by
    obtain ⟨ao, cap, e, _⟩ := h1
    exact ⟨ao, cap, e⟩
  have hl1 : bs.length ≤ maxLen := by obtain ⟨_, _, _, h1, h2, _⟩ := h1; omega
  unfold maxLen at hl1
  obtain ⟨n, hn⟩ : ∃ n, n = bs.length := ⟨_, rfl⟩
  rw [← hn] at h1 hnil hl1 ⊢
  have HN : Hid (∀ m c, Value.slice ao1 n cap1 = .slice none m c → c = 0) := hnil
  have HB : Hid (IsB w (.slice ao1 n cap1) bs) := h1
  have HL : Hid (JLaid w) := hL
  have HNN := Lib.hid hn
  clear hnil h1 hL
  by_cases hb : 4096 < n
  · have b0 : decide ((4096 : Int) < (n : Int)) = true := decide_eq_true (by omega)
    clear hb hn
    go_enter Tryz.func3, Tryz.ntmps3
    go_wp2_with fail
    refine (awake15_any w HL.out).mono ?_
    rintro e w1 ⟨rfl, k⟩
    go_wp2
    go_ret
    exact ⟨rfl, k⟩
  · have b0 : decide ((4096 : Int) < (n : Int)) = false := decide_eq_false (by omega)
    have HBL : Hid (bs.length ≤ 4096) := by rw [Hid, ← hn]; omega
    clear hb hn
    go_enter Tryz.func3, Tryz.ntmps3
    go_wp2_with fail
    refine (awake15_any w HL.out).mono ?_
    rintro e w1 ⟨rfl, k1⟩
    have B1 : Hid (IsB w1 (.slice ao1 n cap1) bs) := HB.out.below k1
    go_wp2_with (at_builtin; go_must (refine wpList_app _ rfl _ _ rfl w1.heap.size _ [] rfl ?c1 _ bs rfl ?c2 HN.out (by have := HBL.out; simp; omega) (by simp) ?_))
    case c1 => exact own_empty w1
    case c2 => exact B1.out.below ((Below.refl _ _).alloc (Nat.le_refl _) _)
    intro r2 w2 o2 b2 _
    have k12 : Below w1.heap.size w1 w2 := ((Below.refl _ _).alloc (Nat.le_refl _) (.cells #[] 5)).trans b2
    have HK2 := Lib.hid (k1.trans (k12.mono k1.size))
    have HO2 : Hid (IsB w2 r2 bs) := Own.isB o2
    have HB2 := Lib.hid (B1.out.below k12)
    clear o2 b2 k12 k1 B1
    obtain ⟨res, hres⟩ : ∃ r, r = M.parse bs := ⟨_, rfl⟩
    have HRES := Lib.hid hres
    have HP := Lib.hid (parse_any r2 bs w2 HO2.out (by have := HBL.out; omega) (HL.out.below' HK2.out))
    rw [← hres] at HP
    obtain ⟨c, hc⟩ : ∃ c, c = M.codeOf res := ⟨_, rfl⟩
    have HC := Lib.hid hc
    clear hres hc
    go_wp2_with fail
    refine HP.out.mono ?_
    intro e w3 h3
    obtain ⟨cs1, rfl, iv1, k3, hz3⟩ := parse_what h3
    have HZ := Lib.hid hz3
    clear hz3
    rw [← HC.out]
    have h61 : Hid (cs1.length = 6) := iv1.len
    have HO3 := Lib.hid (HO2.out.below k3)
    have HB3 := Lib.hid (HB2.out.below k3)
    have HK3 := Lib.hid (HK2.out.trans (k3.mono HK2.out.size))
    have HI1 := Lib.hid iv1
    clear k3 iv1 h3 HP HK2 HO2 HB2
    go_upto_region 7 with (refine wpList_store_blk rfl 27 (.tmp 4) (.tmp 19) rfl w3.heap.size _ rfl rfl 27 _ (z6_new w3) (by rw [Tryz.sizeV]; exact congrArg some h61.out.symm) h61.out.symm HI1.out.one ?_; intro w4 hb4 ho4)
    have k4 : Below w3.heap.size w3 w4 := ((Below.refl w3.heap.size w3).alloc (Nat.le_refl _) _).trans (ho4.below (by simp) (Nat.le_refl _))
    obtain ⟨gA, hgA⟩ : ∃ g, g = w3.heap.size := ⟨_, rfl⟩
    rw [← hgA] at hb4 ⊢
    have HA4 := Lib.hid hb4
    have HO4 := Lib.hid (HO3.out.below k4)
    have HB4 := Lib.hid (HB3.out.below k4)
    have HK4 := Lib.hid (HK3.out.trans (k4.mono HK3.out.size))
    have HI4 := Lib.hid (HI1.out.below k4)
    clear k4 hb4 ho4 hgA HO3 HB3 HK3 HI1
    have HP := Lib.hid (rparse_all (.slice ao1 n cap1) bs w4 HB4.out (by have := HBL.out; omega))
    rw [← HRES.out] at HP
    go_wp2_with fail
    refine HP.out.mono ?_
    intro e w5 h5
    obtain ⟨cs2, rfl, iv2, k5, _⟩ := parse_what h5
    rw [← HC.out]
    have h62 : Hid (cs2.length = 6) := iv2.len
    have HO5 := Lib.hid (HO4.out.below k5)
    have HB5 := Lib.hid (HB4.out.below k5)
    have HK5 := Lib.hid (HK4.out.trans (k5.mono HK4.out.size))
    have HI5 := Lib.hid (HI4.out.below k5)
    have HJ5 := Lib.hid iv2
    have HA5 := Lib.hid (HA4.out.below k5 HA4.out.lt)
    clear k5 iv2 h5 HP HK4 HO4 HB4 HI4 HA4
    go_upto_region 8 with (refine wpList_store_blk rfl 27 (.tmp 6) (.tmp 24) rfl w5.heap.size _ rfl rfl 27 _ (z6_new w5) (by rw [Tryz.sizeV]; exact congrArg some h62.out.symm) h62.out.symm HJ5.out.one ?_; intro w6 hb6 ho6)
    have k6 : Below w5.heap.size w5 w6 := ((Below.refl w5.heap.size w5).alloc (Nat.le_refl _) _).trans (ho6.below (by simp) (Nat.le_refl _))
    obtain ⟨gB, hgB⟩ : ∃ g, g = w5.heap.size := ⟨_, rfl⟩
    rw [← hgB] at hb6 ⊢
    have HO6 := Lib.hid (HO5.out.below k6)
    have HB6 := Lib.hid (HB5.out.below k6)
    have HK6 := Lib.hid (HK5.out.trans (k6.mono HK5.out.size))
    have hA6 := HA5.out.below k6 HA5.out.lt
    have hI6 := HI5.out.below k6
    have hJ6 := HJ5.out.below k6
    have HSA := Lib.hid (sameP 16 _ _ cs1 cs2 _ w6 hI6 hJ6)
    obtain ⟨p1, n1, q1, p2, n2, q2, hc1⟩ := hI6.cells
    obtain ⟨p3, n3, q3, p4, n4, q4, hc2⟩ := hJ6.cells
    have HI6 := Lib.hid hI6
    have HEQ := Lib.hid hc1
    rw [hc1] at hA6 HSA
    rw [hc2] at hb6 HSA
    generalize hG : M.valOf res = G at hA6 hb6 HSA HI6 HEQ
    have HG := Lib.hid hG
    have u0 : w6.cell? ⟨gA, 0, none⟩ = some (.int .i64 G.k) := hA6.cell 0
    have u1 : w6.cell? ⟨gA, 1, none⟩ = some (.bool G.b) := hA6.cell 1
    have u2 : w6.cell? ⟨gA, 2, none⟩ = some (.int .i64 G.n) := hA6.cell 2
    have u3 : w6.cell? ⟨gA, 3, none⟩ = some (.string ⟨G.t.toArray⟩) := hA6.cell 3
    have u4 : w6.cell? ⟨gA, 4, none⟩ = some (.slice p1 n1 q1) := hA6.cell 4
    have u5 : w6.cell? ⟨gA, 5, none⟩ = some (.slice p2 n2 q2) := hA6.cell 5
    have x0 : w6.cell? ⟨gB, 0, none⟩ = some (.int .i64 G.k) := hb6.cell 0
    have x1 : w6.cell? ⟨gB, 1, none⟩ = some (.bool G.b) := hb6.cell 1
    have x2 : w6.cell? ⟨gB, 2, none⟩ = some (.int .i64 G.n) := hb6.cell 2
    have x3 : w6.cell? ⟨gB, 3, none⟩ = some (.string ⟨G.t.toArray⟩) := hb6.cell 3
    have x4 : w6.cell? ⟨gB, 4, none⟩ = some (.slice p3 n3 q3) := hb6.cell 4
    have x5 : w6.cell? ⟨gB, 5, none⟩ = some (.slice p4 n4 q4) := hb6.cell 5
    have HA6 := Lib.hid hA6
    clear k6 hb6 ho6 hgB HO5 HB5 HK5 HI5 HJ5 HA5 hA6 hI6 hJ6 hc1 hc2 hG
    go_wp2_with fail
    refine HSA.out.mono ?_
    rintro e w7 ⟨rfl, k7⟩
    have HO7 := Lib.hid (HO6.out.below k7)
    have HB7 := Lib.hid (HB6.out.below k7)
    have HK7 := Lib.hid (HK6.out.trans (k7.mono HK6.out.size))
    have hA7 := HA6.out.below k7 HA6.out.lt
    have hI7 := HI6.out.below k7
    have u0 : w7.cell? ⟨gA, 0, none⟩ = some (.int .i64 G.k) := hA7.cell 0
    have u1 : w7.cell? ⟨gA, 1, none⟩ = some (.bool G.b) := hA7.cell 1
    have u2 : w7.cell? ⟨gA, 2, none⟩ = some (.int .i64 G.n) := hA7.cell 2
    have u3 : w7.cell? ⟨gA, 3, none⟩ = some (.string ⟨G.t.toArray⟩) := hA7.cell 3
    have u4 : w7.cell? ⟨gA, 4, none⟩ = some (.slice p1 n1 q1) := hA7.cell 4
    have u5 : w7.cell? ⟨gA, 5, none⟩ = some (.slice p2 n2 q2) := hA7.cell 5
    have HI7 := Lib.hid hI7
    clear k7 hA7 hI7 x0 x1 x2 x3 x4 x5 HSA HO6 HB6 HK6 HA6 HI6
    by_cases hc : c = 0
    · obtain ⟨g, r, hgr⟩ := HZ.out (by rw [← HC.out]; exact hc)
      have HMY : Hid (Calls Tryz.prog 15 #[.agg (vcs G.k G.b G.n G.t (.slice p1 n1 q1) (.slice p2 n2 q2)).toArray] w7 fun e w' => e = .returned (.bool true) ∧ Below w7.heap.size w7 w') := by
        have hg : G = g := by rw [← HG.out, hgr]; rfl
        have hp : M.parse bs = .ok G r := by rw [← HRES.out, hgr, hg]
        have := may_yes _ cs1 G w7 HI7.out (M.parse_may hp) (M.parse_fit hp) (HL.out.below' HK7.out)
        rw [HEQ.out] at this
        exact this
      subst hc
      clear hgr
      go_wp2_with fail
      refine HMY.out.mono ?_
      rintro e w8 ⟨rfl, k8⟩
      have s1 := str_any (HO7.out.below k8)
      have s2 := str_any (HB7.out.below k8)
      have HK8 := Lib.hid (HK7.out.trans (k8.mono HK7.out.size))
      clear k8 HMY u0 u1 u2 u3 u4 u5
      go_wp2
      go_ret
      exact ⟨rfl, HK8.out⟩
    · have e1 : (c == 0) = false := beq_false_of_ne hc
      have e2 : (c != 0) = true := by rw [bne, e1]; rfl
      have s1 := str_any HO7.out
      have s2 := str_any HB7.out
      clear hc u0 u1 u2 u3 u4 u5
      go_wp2
      go_ret
      exact ⟨rfl, HK7.out⟩

end Go.Proofs.YtbgadfaiehkanaaGreatDoor
