/-
  THE WALK OF orloplaw15.JsonNumbers: it returns true, and writes nothing that was there. Conditions: the library's variables lie as laid.
-/
import Derived.Test.YtbgadfaiehkanaaGreatDoorJsNum
import Derived.Test.YtbgadfaiehkanaaGreatDoorLawJsonReadsWalk
namespace Go.Proofs.YtbgadfaiehkanaaGreatDoor
open Go.RowKit Go.Proofs Go.Shelf
set_option linter.unusedVariables false
set_option maxRecDepth 100000

abbrev nm6 (n : Int) : Array Value := #[.int .i64 2, .bool false, .int .i64 n, .string ⟨#[]⟩, .slice none 0 0, .slice none 0 0]

theorem write_num (n : Int) (h1 : n ≤ 9007199254740991) (h2 : -9007199254740991 ≤ n) (w : World) (hL : JLaid w) :
    Calls Tryz.prog 19 #[.agg (nm6 n)] w fun e w' => e = .returned (.string ⟨(Lib.itoa n).toArray⟩) ∧ Below w.heap.size w w' :=
  write_yes (fun _ => True) _ (M.vNum n) w (IsV.leaf _ w 15 2 false n []) (num_may 15 n h1 h2) (num_fit 15 n) (Nat.le_trans (num_wz 15 n h1 h2) (by decide)) hL

/-- A number, told by its kind. -/
theorem parse_mayN {bs : List UInt8} {g : M.GV} {r : List UInt8} (h : M.parse bs = .ok g r) : g.n ≤ 9007199254740991 := (M.parse_may h).1.2.2.2.2.2.2.2.1

set_option maxHeartbeats 16000000 in
theorem jsonNumbers_far (w : World) (hL : JLaid w) (n : Int) (x : Nat) (h : ¬ (-9007199254740991 ≤ n ∧ n ≤ 9007199254740991)) :
    Calls Tryz.prog 5 #[.int .i64 n, .int .u32 x] w fun e w' => e = .returned (.bool true) ∧ Below w.heap.size w w' := by
  have HL := Lib.hid hL
  have HN := Lib.hid h
  clear hL
  go_enter Tryz.func5, Tryz.ntmps5
  go_wp2_with fail
  refine (awake15_any w HL.out).mono ?_
  rintro e w1 ⟨rfl, k1⟩
  have HW : Hid (Calls Tryz.prog 19 #[.agg (nm6 n)] w1 fun e w' => e = .returned (.string ⟨#[]⟩) ∧ Below w1.heap.size w1 w') := write_far n w1 HN.out
  have HK1 := Lib.hid k1
  clear k1
  go_wp2_with fail
  refine HW.out.mono ?_
  rintro e w2 ⟨rfl, k2⟩
  have HK2 := Lib.hid (HK1.out.trans (k2.mono HK1.out.size))
  clear k2 HW HK1
  go_upto_region 3 with (refine wpList_bytesJs w2 rfl _ rfl _ [] rfl rfl (by decide) ?_)
  intro cap w3 hb hc k3
  have HK3 := Lib.hid (HK2.out.trans (k3.mono HK2.out.size))
  have HP := Lib.hid (parse_any _ [] w3 hb (by decide) (HL.out.below HK3.out))
  rw [parse_none] at HP
  clear hb hc k3 HK2
  go_wp2_with fail
  refine HP.out.mono ?_
  rintro e w4 ⟨rfl, _, k4⟩
  have HK4 := Lib.hid (HK3.out.trans (k4.mono HK3.out.size))
  clear k4 HP HK3
  unfold zeroV
  go_upto_region 4 with fail
  have K5 : Below w4.heap.size w4 (w4.alloc (.cells #[.int .i64 0, .bool false, .int .i64 0, .string ⟨#[]⟩, .slice none 0 0, .slice none 0 0] 27)) := (Below.refl _ _).alloc (Nat.le_refl _) _
  obtain ⟨w5, hw5⟩ : ∃ W, W = w4.alloc (.cells #[.int .i64 0, .bool false, .int .i64 0, .string ⟨#[]⟩, .slice none 0 0, .slice none 0 0] 27) := ⟨_, rfl⟩
  rw [← hw5] at K5 ⊢
  have HK5 := Lib.hid (HK4.out.trans (K5.mono HK4.out.size))
  have HM : Hid (Calls Tryz.prog 15 #[.agg (nm6 n)] w5 fun e w' => e = .returned (.bool false) ∧ Below w5.heap.size w5 w') := may_far n w5 HN.out
  clear hw5 K5 HK4 h
  by_cases hc : 9007199254740991 < n
  · have q1 : decide ((9007199254740991 : Int) < n) = true := decide_eq_true hc
    clear hc
    go_wp2_with fail
    refine HM.out.mono ?_
    rintro e w6 ⟨rfl, k6⟩
    have HK6 := Lib.hid (HK5.out.trans (k6.mono HK5.out.size))
    clear k6 HM
    go_wp2
    go_ret
    exact ⟨rfl, HK6.out⟩
  · have q1 : decide ((9007199254740991 : Int) < n) = false := decide_eq_false hc
    have q2 : decide (n < (-9007199254740991 : Int)) = true := decide_eq_true (by have := HN.out; omega)
    clear hc
    go_wp2_with fail
    refine HM.out.mono ?_
    rintro e w6 ⟨rfl, k6⟩
    have HK6 := Lib.hid (HK5.out.trans (k6.mono HK5.out.size))
    clear k6 HM
    go_wp2
    go_ret
    exact ⟨rfl, HK6.out⟩

set_option maxHeartbeats 16000000 in
theorem jsonNumbers_near (w : World) (hL : JLaid w) (n : Int) (x : Nat) (h1 : n ≤ 9007199254740991) (h2 : -9007199254740991 ≤ n) (hx : x < 4294967296) :
    Calls Tryz.prog 5 #[.int .i64 n, .int .u32 x] w fun e w' => e = .returned (.bool true) ∧ Below w.heap.size w w' := by
  have HL := Lib.hid hL
  have H1 := Lib.hid h1
  have H2 := Lib.hid h2
  have HX := Lib.hid hx
  have q1 : decide ((9007199254740991 : Int) < n) = false := decide_eq_false (by omega)
  have q2 : decide (n < (-9007199254740991 : Int)) = false := decide_eq_false (by omega)
  obtain ⟨k, hk⟩ : ∃ k : Int, k = 10000 + ((x % 90000 : Nat) : Int) := ⟨_, rfl⟩
  have HKB : Hid (k ≤ 100000 ∧ 10000 ≤ k) := ⟨by omega, by omega⟩
  obtain ⟨y, hy⟩ : ∃ y : Nat, y = x % 90000 := ⟨_, rfl⟩
  have hy2 : (x : Int).tmod 90000 = (y : Int) := by rw [hy]; exact (Int.ofNat_tmod x 90000).symm
  have HYB : Hid (y < 90000) := by rw [Hid, hy]; exact Nat.mod_lt _ (by decide)
  have HKY : Hid (k = 10000 + (y : Int)) := by rw [Hid, hk, hy]
  clear hL h1 h2 hx hk hy
  go_enter Tryz.func5, Tryz.ntmps5
  go_wp2_with fail
  refine (awake15_any w HL.out).mono ?_
  rintro e w1 ⟨rfl, k1⟩
  have HW : Hid (Calls Tryz.prog 19 #[.agg (nm6 n)] w1 fun e w' => e = .returned (.string ⟨(Lib.itoa n).toArray⟩) ∧ Below w1.heap.size w1 w') := write_num n H1.out H2.out w1 (HL.out.below k1)
  have HK1 := Lib.hid k1
  clear k1
  go_wp2_with fail
  refine HW.out.mono ?_
  rintro e w2 ⟨rfl, k2⟩
  have HK2 := Lib.hid (HK1.out.trans (k2.mono HK1.out.size))
  clear k2 HW HK1
  have HIL : Hid ((Lib.itoa n).length ≤ 21) := itoa_len n H1.out H2.out
  go_upto_region 3 with (refine wpList_bytesJs w2 rfl _ rfl _ (Lib.itoa n) rfl rfl (by have := HIL.out; unfold maxLen; omega) ?_)
  intro cap w3 hb hc k3
  have HK3 := Lib.hid (HK2.out.trans (k3.mono HK2.out.size))
  have HP := Lib.hid (parse_any _ (Lib.itoa n) w3 hb (by have := HIL.out; omega) (HL.out.below HK3.out))
  rw [parse_num n H1.out H2.out] at HP
  clear hb hc k3 HK2
  go_wp2_with fail
  refine HP.out.mono ?_
  rintro e w4 ⟨lv, mv, rfl, iv, k4⟩
  have HK4 := Lib.hid (HK3.out.trans (k4.mono HK3.out.size))
  obtain ⟨⟨la, ln, lc, rfl⟩, ⟨ma, mn, mc, rfl⟩⟩ := iv.rows
  clear k4 HP HK3 iv
  rw [show (vcs (M.vNum n).k (M.vNum n).b (M.vNum n).n (M.vNum n).t (.slice la ln lc) (.slice ma mn mc)).toArray = #[.int .i64 2, .bool false, .int .i64 n, .string ⟨#[]⟩, .slice la ln lc, .slice ma mn mc] from rfl]
  go_upto_region 4 with fail
  obtain ⟨w5, hw5⟩ : ∃ W, W = w4.alloc (.cells #[.int .i64 2, .bool false, .int .i64 n, .string ⟨#[]⟩, .slice la ln lc, .slice ma mn mc] 27) := ⟨_, rfl⟩
  obtain ⟨gV, hgV⟩ : ∃ g, g = w4.heap.size := ⟨_, rfl⟩
  have B5 : Blk w5 gV 27 [.int .i64 2, .bool false, .int .i64 n, .string ⟨#[]⟩, .slice la ln lc, .slice ma mn mc] := by rw [hw5]; exact Blk.newAt _ _ _ _ _ hgV rfl
  have K5 : Below w4.heap.size w4 w5 := by rw [hw5]; exact (Below.refl _ _).alloc (Nat.le_refl _) _
  rw [← hw5, ← hgV]
  have HB5 := Lib.hid B5
  have HK5 := Lib.hid (HK4.out.trans (K5.mono HK4.out.size))
  clear hw5 hgV K5 B5 HK4
  have hy3 : (x : Int) % 90000 = (y : Int) := by rw [← hy2]; exact (Int.tmod_eq_emod_of_nonneg (Int.natCast_nonneg x)).symm
  have hy4 : x % 90000 = y := by omega
  have e0 : IntKind.u32.wrap (y : Int) = (y : Int) := by have := HYB.out; rw [IntKind.wrap_u32]; omega
  have e1 : wrap64 (y : Int) = (y : Int) := by have := HYB.out; unfold wrap64; omega
  have e2 : wrap64 (10000 + (y : Int)) = 10000 + (y : Int) := by have := HYB.out; unfold wrap64; omega
  have HW : Hid (Calls Tryz.prog 19 #[.agg (nm6 (10000 + (y : Int)))] w5 fun e w' => e = .returned (.string ⟨(Lib.itoa (10000 + (y : Int))).toArray⟩) ∧ Below w5.heap.size w5 w') := write_num _ (by have := HYB.out; omega) (by have := HYB.out; omega) w5 (HL.out.below HK5.out)
  go_wp2_with fail
  refine HW.out.mono ?_
  rintro e w6 ⟨rfl, k6⟩
  have HB6 := Lib.hid (HB5.out.below k6 HB5.out.lt)
  have HK6 := Lib.hid (HK5.out.trans (k6.mono HK5.out.size))
  obtain ⟨ks, hks⟩ : ∃ s, s = Lib.itoa (10000 + (y : Int)) := ⟨_, rfl⟩
  have hkl : ks.length ≤ 21 := by rw [hks]; exact itoa_len _ (by have := HYB.out; omega) (by have := HYB.out; omega)
  rw [← hks]
  have HKL := Lib.hid hkl
  have hbig : ¬ 9223372036854775807 < 11 + ks.length := by omega
  clear k6 HW HK5 HB5 hks hkl hy2 hy3 hy4 e0 e1 e2
  obtain ⟨pre, hpre⟩ : ∃ l : List UInt8, l = [57, 48, 48, 55, 49, 57, 57, 50, 53, 52, 55] := ⟨_, rfl⟩
  have HPL : Hid (pre.length = 11) := by rw [Hid, hpre]; rfl
  have HSUM : Hid ((⟨#[57, 48, 48, 55, 49, 57, 57, 50, 53, 52, 55]⟩ : ByteArray) ++ ⟨ks.toArray⟩ = ⟨(pre ++ ks).toArray⟩) := by rw [Hid, hpre]; exact ByteArray.mk_append_mk [57, 48, 48, 55, 49, 57, 57, 50, 53, 52, 55] ks
  clear hpre
  have HLEN0 : Hid ((pre ++ ks).length ≤ 1000) := by rw [Hid, List.length_append, HPL.out]; have := HKL.out; omega
  obtain ⟨full, hfull⟩ : ∃ f, f = pre ++ ks := ⟨_, rfl⟩
  rw [← hfull] at HSUM HLEN0
  have HLEN := HLEN0
  clear hfull HLEN0
  go_upto_region 7 with (refine wpList_bytesJs w6 rfl _ rfl _ full HSUM.out rfl (by have := HLEN.out; unfold maxLen; omega) ?_)
  intro cap2 w7 hb7 hc7 k7
  have HK7 := Lib.hid (HK6.out.trans (k7.mono HK6.out.size))
  have HB7 := Lib.hid (HB6.out.below k7 HB6.out.lt)
  obtain ⟨tl, htl⟩ : ∃ n, n = full.length := ⟨_, rfl⟩
  have HP := Lib.hid (parse_any _ full w7 hb7 (by have := HLEN.out; omega) (HL.out.below HK7.out))
  rw [← htl] at HP ⊢
  obtain ⟨res, hres⟩ : ∃ r, r = M.parse full := ⟨_, rfl⟩
  rw [← hres] at HP
  have HRES := Lib.hid hres
  clear hb7 hc7 k7 HK6 HB6 htl hres hbig
  go_wp2_with fail
  refine HP.out.mono ?_
  intro e w8 h8
  have HMAX : Hid (∀ g r, res = .ok g r → g.n ≤ 9007199254740991) := fun g r e => parse_mayN (by rw [← HRES.out]; exact e)
  cases res with
  | err c =>
    obtain ⟨rfl, hz, k8⟩ := h8
    have HB8 := Lib.hid (HB7.out.below k8 HB7.out.lt)
    have HK8 := Lib.hid (HK7.out.trans (k8.mono HK7.out.size))
    have z1 : (c == 0) = false := beq_false_of_ne hz
    clear k8 HP HK7 HB7 hz
    unfold zeroV
    go_upto_region 7 with fail
    obtain ⟨w9, hw9⟩ : ∃ W, W = w8.alloc (.cells #[.int .i64 0, .bool false, .int .i64 0, .string ⟨#[]⟩, .slice none 0 0, .slice none 0 0] 27) := ⟨_, rfl⟩
    have K9 : Below w8.heap.size w8 w9 := by rw [hw9]; exact (Below.refl _ _).alloc (Nat.le_refl _) _
    have HB9 := Lib.hid (HB8.out.below K9 HB8.out.lt)
    have HK9 := Lib.hid (HK8.out.trans (K9.mono HK8.out.size))
    rw [← hw9]
    clear hw9 K9 HB8 HK8
    have u0 : w9.cell? ⟨gV, 0, none⟩ = some (.int .i64 2) := HB9.out.cell 0
    have u2 : w9.cell? ⟨gV, 2, none⟩ = some (.int .i64 n) := HB9.out.cell 2
    go_wp2
    go_ret
    exact ⟨rfl, HK9.out⟩
  | ok g r =>
    obtain ⟨lv, mv, rfl, iv, k8⟩ := h8
    obtain ⟨⟨xa, xn, xc, rfl⟩, ⟨ya, yn, yc, rfl⟩⟩ := iv.rows
    have hgn := HMAX.out g r rfl
    have HB8 := Lib.hid (HB7.out.below k8 HB7.out.lt)
    have HK8 := Lib.hid (HK7.out.trans (k8.mono HK7.out.size))
    rw [show (vcs g.k g.b g.n g.t (.slice xa xn xc) (.slice ya yn yc)).toArray = #[.int .i64 g.k, .bool g.b, .int .i64 g.n, .string ⟨g.t.toArray⟩, .slice xa xn xc, .slice ya yn yc] from rfl]
    obtain ⟨gn, hgn2⟩ : ∃ x, x = g.n := ⟨_, rfl⟩
    rw [← hgn2] at hgn ⊢
    have z1 : decide ((9007199254740991 : Int) < gn) = false := decide_eq_false (by omega)
    clear k8 HP HK7 HB7 hgn hgn2 iv HMAX
    go_upto_region 7 with fail
    obtain ⟨w9, hw9⟩ : ∃ W, W = w8.alloc (.cells #[.int .i64 g.k, .bool g.b, .int .i64 gn, .string ⟨g.t.toArray⟩, .slice xa xn xc, .slice ya yn yc] 27) := ⟨_, rfl⟩
    obtain ⟨gW, hgW⟩ : ∃ x, x = w8.heap.size := ⟨_, rfl⟩
    have K9 : Below w8.heap.size w8 w9 := by rw [hw9]; exact (Below.refl _ _).alloc (Nat.le_refl _) _
    have B9 : Blk w9 gW 27 [.int .i64 g.k, .bool g.b, .int .i64 gn, .string ⟨g.t.toArray⟩, .slice xa xn xc, .slice ya yn yc] := by rw [hw9]; exact Blk.newAt _ _ _ _ _ hgW rfl
    have HB9 := Lib.hid (HB8.out.below K9 HB8.out.lt)
    have HK9 := Lib.hid (HK8.out.trans (K9.mono HK8.out.size))
    have v2 : w9.cell? ⟨gW, 2, none⟩ = some (.int .i64 gn) := B9.cell 2
    rw [← hw9, ← hgW]
    clear hw9 hgW K9 B9 HB8 HK8
    have u0 : w9.cell? ⟨gV, 0, none⟩ = some (.int .i64 2) := HB9.out.cell 0
    have u2 : w9.cell? ⟨gV, 2, none⟩ = some (.int .i64 n) := HB9.out.cell 2
    go_wp2
    go_ret
    exact ⟨rfl, HK9.out⟩

theorem jsonNumbers_walk (w : World) (hL : JLaid w) (n : Int) (hn : (Lit.int .i64 n).wf = true) (x : Nat) (hx : x < 4294967296) :
    Calls Tryz.prog 5 #[.int .i64 n, .int .u32 x] w fun e w' => e = .returned (.bool true) ∧ Below w.heap.size w w' := by
  by_cases h : -9007199254740991 ≤ n ∧ n ≤ 9007199254740991
  · exact jsonNumbers_near w hL n x h.2 h.1 hx
  · exact jsonNumbers_far w hL n x h

end Go.Proofs.YtbgadfaiehkanaaGreatDoor
