/-
  orloplaw09.DiskTwins, under DiskOk: it returns true. Conditions: DiskOk (proved of the code elsewhere).
-/
import Derived.Test.YthmamdlhgfkckaaDiskHeld
import Derived.Test.YthmamdlhgfkckaaDiskA
namespace Go.Proofs.Ythmamdlhgfkckaa
open Go.RowKit
set_option linter.unusedVariables false

theorem M.dload_len (bs : List UInt8) : (M.dload bs).safe.length = bs.length / 256 := by rw [M.dload, M.cut_length]

set_option maxRecDepth 100000 in
set_option maxHeartbeats 8000000 in
theorem twins_walk {Dk : (Nat → Prop) → World → Nat → M.Dsk → Prop} (D : DiskOk Dk) (w : World) (iv : Value) (img : List UInt8) (hi : IsB w iv img) (at_ : Int) (hat : (Lit.int .i64 at_).wf = true) (bv : Value) (bs : List UInt8) (hb : IsB w bv bs) (zb : ∀ n c, bv = .slice none n c → c = 0) :
    Calls Try.prog 6 #[iv, .int .i64 at_, bv] w fun e w' => e = .returned (.bool true) ∧ Below w.heap.size w w' := by
  have HI := Lib.hid hi
  have HB := Lib.hid hb
  have ZB := Lib.hid zb
  have HAT : Hid (-9223372036854775808 ≤ at_ ∧ at_ < 9223372036854775808) := by
    have := hat
    simp [Lit.wf, IntKind.min, IntKind.max, IntKind.bits, IntKind.signed] at this
    rw [Hid]
    omega
  obtain ⟨ia, ic, ei⟩ := hi.shape
  obtain ⟨ba, bc, eb⟩ := hb.shape
  obtain ⟨l, hl⟩ : ∃ l, l = img.length := ⟨_, rfl⟩
  obtain ⟨q, hq⟩ : ∃ q, q = bs.length := ⟨_, rfl⟩
  rw [← hl] at ei
  rw [← hq] at eb
  subst ei eb
  have HL : Hid (l = img.length) := hl
  have HQ : Hid (q = bs.length) := hq
  clear hi hb zb hat hl hq
  go_enter Try.func6, Try.ntmps6
  go_wp2_with fail
  refine (diskAwake_any D w).mono ?_
  rintro e w2 ⟨rfl, k2⟩
  have K2 := Lib.hid k2
  clear k2
  by_cases h1 : l ≤ 3072
  · by_cases h2 : q ≤ 1000
    · have b1 : ¬ (3072 : Int) < (l : Int) := by omega
      have b2 : ¬ (1000 : Int) < (q : Int) := by omega
      have H1 := Lib.hid h1
      have H2 := Lib.hid h2
      by_cases h3 : l % 256 = 0
      · have X3 := Lib.hid (solo_load (w := w2) D (HI.out.below K2.out) (by rw [← HL.out]; exact h3) (by rw [← HL.out]; omega) K2.out)
        have HOK : Hid ((M.dload img).Ok ∧ (M.dload img).safe.flatten = img) := M.dload_ok img (by rw [← HL.out]; exact h3) (by rw [← HL.out]; omega)
        have H3 := Lib.hid h3
        obtain ⟨m, hm⟩ : ∃ m, Hid (m = M.dload img) := ⟨_, rfl⟩
        rw [← hm.out] at X3 HOK
        have HMI : Hid (m.image = img) := HOK.out.2
        clear h1 h2 h3
        go_wp2_with fail
        refine X3.out.mono ?_
        rintro e w3 ⟨d, rfl, s3, k3⟩
        have S3 := Lib.hid s3
        clear X3 s3 k3 b1 b2
        go_wp2_with fail
        refine (S3.out.image D).mono ?_
        rintro e w4 ⟨⟨r4, rfl, o4⟩, s4, k4⟩
        rw [HMI.out] at o4
        have S4 := Lib.hid s4
        have X4 := Lib.hid (D.load_ok o4.isB (by rw [← HL.out]; exact H3.out) (by rw [← HL.out]; have := H1.out; omega))
        rw [← hm.out] at X4
        clear S3 s4 k4 o4
        go_wp2_with fail
        refine X4.out.mono ?_
        rintro e w5 ⟨t, T, rfl, d5, t5, k5⟩
        have P5 := Lib.hid (S4.out.beside (Q := Dk) D.lasts d5 k5 t5)
        clear X4 S4 d5 t5 k5
        go_wp2_with fail
        refine (P5.out.swap.see D.lasts D.lasts (Below.refl _ _) (fun T d => D.blocks d)).mono ?_
        rintro e w6 ⟨rfl, p6, k6⟩
        have P6 := Lib.hid p6.swap
        clear p6 k6 P5
        go_wp2_with fail
        refine (P6.out.see D.lasts D.lasts (Below.refl _ _) (fun T d => D.blocks d)).mono ?_
        rintro e w7 ⟨rfl, p7, k7⟩
        have P7 := Lib.hid p7
        obtain ⟨n, hn⟩ : ∃ n, n = m.safe.length := ⟨_, rfl⟩
        rw [← hn]
        clear p7 k7 P6 hn
        have HLEN : Hid (bs.length < 1099511627776) := by rw [Hid, ← HQ.out]; have := H2.out; omega
        have X7 := Lib.hid (P7.out.swap.op (m' := m.tamper at_ bs) D.lasts D.lasts (Below.refl _ _) (fun T d ht => D.tamper d at_ HAT.out (.slice ba q bc) bs (HB.out.below P7.out.under) (out_in HB.out fun k h => (ht k h).1) HLEN.out))
        go_wp2_with fail
        refine X7.out.mono ?_
        rintro e w8 ⟨rfl, p8⟩
        have P8 := Lib.hid p8.swap
        clear p8 X7 P7
        have X8 := Lib.hid (full_any (.slice ba q bc) bs w8 (HB.out.below P8.out.under) ZB.out (by rw [← HQ.out]; exact H2.out))
        go_wp2_with fail
        refine X8.out.mono ?_
        rintro e w9 ⟨v9, rfl, o9, k9⟩
        have X9 := Lib.hid (P8.out.swap.op (m' := ((m.tamper at_ bs).doWrite 0 (M.full bs)).1) D.lasts D.lasts k9 (fun T d ht => D.write d 0 v9 (M.full bs) (by decide) o9.isB (out_own o9 fun k h => (ht k h).2) (by show m.wait.length < 1000000; rw [hm.out]; exact (by decide : 0 < 1000000))))
        clear X8 o9 k9
        go_wp2_with fail
        refine X9.out.mono ?_
        rintro e w10 ⟨rfl, p10⟩
        have P10 := Lib.hid p10.swap
        clear p10 X9 P8
        go_wp2_with fail
        refine (P10.out.see D.lasts D.lasts (Below.refl _ _) (R := fun e w' => ∃ r, e = .returned r ∧ Own w' w10.heap.size r m.image) (fun T d => (D.image d).mono fun e w' ⟨r, he, ho, k⟩ => ⟨⟨r, he, ho⟩, k⟩)).mono ?_
        rintro e w11 ⟨⟨r11, rfl, o11⟩, p11, k11⟩
        rw [HMI.out] at o11
        have P11 := Lib.hid p11
        have X11 := Lib.hid (requal_b r11 (.slice ia l ic) img img w11 o11.isB (HI.out.below p11.under))
        rw [decide_eq_true rfl] at X11
        clear o11 p11 k11 P10
        go_wp2_with fail
        refine X11.out.mono ?_
        rintro e w12 ⟨rfl, k12⟩
        have P12 := Lib.hid (P11.out.below D.lasts D.lasts k12)
        clear X11 k12 P11
        have HW0 : Hid ((m.wait.length : Int) = 0) := by rw [Hid, hm.out]; rfl
        go_wp2_with fail
        refine (P12.out.see D.lasts D.lasts (Below.refl _ _) (fun T d => D.waiting d)).mono ?_
        rintro e w13 ⟨rfl, p13, k13⟩
        rw [HW0.out]
        have K13 := p13.under
        clear p13 k13 P12
        go_wp2
        go_ret
        exact ⟨rfl, K13⟩
      · have X3 := Lib.hid (D.load_no (w := w2) (HI.out.below K2.out) (fun h => h3 (by rw [HL.out]; exact h.1)))
        obtain ⟨r, hr⟩ : ∃ r, r = l % 256 := ⟨_, rfl⟩
        have t1 : (l : Int).tmod 256 = (r : Int) := by rw [Int.tmod_eq_emod_of_nonneg (by omega)]; omega
        have t1' : (l : Int) % 256 = (r : Int) := by omega
        have t2 : ¬ (r : Int) = 0 := by omega
        have t3 : ((r : Int) != 0) = true := by simpa using t2
        have t4 : ((r : Int) == 0) = false := by simpa using t2
        clear h1 h2 h3 hr
        go_wp2_with fail
        refine X3.out.mono ?_
        rintro e w3 ⟨rfl, k3⟩
        have K3 := K2.out.trans (k3.mono K2.out.size)
        clear X3 k3
        go_wp2
        go_ret
        exact ⟨rfl, K3⟩
    · have b1 : ¬ (3072 : Int) < (l : Int) := by omega
      have b2 : (1000 : Int) < (q : Int) := by omega
      clear h1 h2
      go_wp2
      go_ret
      exact ⟨rfl, K2.out⟩
  · have b1 : (3072 : Int) < (l : Int) := by omega
    clear h1
    go_wp2
    go_ret
    exact ⟨rfl, K2.out⟩

end Go.Proofs.Ythmamdlhgfkckaa
