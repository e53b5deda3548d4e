/-
  THE WALK OF orloplaw06.AeadHides: it returns true, and writes nothing that was there. Conditions: layer 4's table of places lies as it was laid.
-/
import Derived.Test.YtogklpeehfoijaaDoorAeadAsk
namespace Go.Proofs.YtogklpeehfoijaaDoor
open Go.RowKit
set_option linter.unusedVariables false

set_option maxHeartbeats 8000000 in
theorem aeadHides_walk (w : World) (hL : LaidP w) (kv nv bv tv : Value) (key nonce beside text : List UInt8) (hk : IsB w kv key) (zk : ∀ n c, kv = .slice none n c → c = 0) (hn : IsB w nv nonce) (zn : ∀ n c, nv = .slice none n c → c = 0)
    (hb : IsB w bv beside) (zb : ∀ n c, bv = .slice none n c → c = 0) (ht : IsB w tv text) (zt : ∀ n c, tv = .slice none n c → c = 0) (ov : Value) (other : List UInt8) (ho : IsB w ov other) (zo : ∀ n c, ov = .slice none n c → c = 0) :
    Calls Tryd.prog 6 #[.agg #[kv, nv, bv, tv], ov] w fun e w' => e = .returned (.bool true) ∧ Below w.heap.size w w' := by
  have HO := Lib.hid ho
  obtain ⟨a5, cc5, rfl⟩ := ho.shape
  have hm5 : other.length ≤ maxLen := by obtain ⟨_, _, _, h1, h2, _⟩ := ho; omega
  unfold maxLen at hm5
  obtain ⟨n5, h5⟩ : ∃ n, n = other.length := ⟨_, rfl⟩
  rw [← h5] at HO zo hm5 ⊢
  have HZO := Lib.hid zo
  have H5 := Lib.hid h5
  clear ho zo h5
  have HL := Lib.hid hL
  have HAn := Lib.hid (askIs_new hk hn hb ht)
  obtain ⟨g, hg⟩ : ∃ g, g = w.heap.size := ⟨_, rfl⟩
  have KB : Below w.heap.size w (w.alloc (.cells #[kv, nv, bv, tv] 24)) := (Below.refl _ _).alloc (Nat.le_refl _) _
  rw [← hg] at HAn
  have hm1 : key.length ≤ maxLen := by obtain ⟨_, _, _, h1, h2, _⟩ := hk; omega
  have hm2 : nonce.length ≤ maxLen := by obtain ⟨_, _, _, h1, h2, _⟩ := hn; omega
  unfold maxLen at hm1 hm2
  obtain ⟨a1, c1, rfl⟩ := hk.shape
  obtain ⟨a2, c2, rfl⟩ := hn.shape
  obtain ⟨a3, c3, rfl⟩ := hb.shape
  obtain ⟨a4, c4, rfl⟩ := ht.shape
  obtain ⟨n1, h1⟩ : ∃ n, n = key.length := ⟨_, rfl⟩
  obtain ⟨n2, h2⟩ : ∃ n, n = nonce.length := ⟨_, rfl⟩
  obtain ⟨n3, h3⟩ : ∃ n, n = beside.length := ⟨_, rfl⟩
  obtain ⟨n4, h4⟩ : ∃ n, n = text.length := ⟨_, rfl⟩
  rw [← h1] at HAn KB zk hm1 ⊢
  rw [← h2] at HAn KB zn hm2 ⊢
  rw [← h3] at HAn KB zb ⊢
  rw [← h4] at HAn KB zt ⊢
  have HZK := Lib.hid zk
  have HZN := Lib.hid zn
  have HZB := Lib.hid zb
  have HZT := Lib.hid zt
  have HKB := Lib.hid KB
  have H1 := Lib.hid h1
  have H2 := Lib.hid h2
  have H3 := Lib.hid h3
  have H4 := Lib.hid h4
  clear hL hk zk hn zn hb zb ht zt h1 h2 h3 h4 KB
  go_enter Tryd.func6, Tryd.ntmps6
  go_wp2_with fail
  rw [← hg]
  clear hg
  refine (aeadAwake_any _ (HL.out.below HKB.out HL.out.size)).mono ?_
  rintro e w1 ⟨rfl, k1⟩
  have A1 := Lib.hid (HAn.out.below k1)
  have K1 : Hid (Below w.heap.size w w1) := HKB.out.trans (k1.mono HKB.out.size)
  have R1 := Lib.hid A1.out.range
  clear k1 HAn HKB
  have CS := Lib.hid (small_any a1 a2 a3 a4 n1 n2 n3 n4 c1 c2 c3 c4 w1)
  go_wp2_with (refine wpList_load_mid rfl 24 (.tmp 2) rfl g 0 rfl _ _ R1.out Tryd.underlying24 rfl (by kernel_rfl) ?_)
  by_cases hsm : ¬ (n3 ≤ 1024 ∧ n4 ≤ 1024)
  · rw [decide_eq_false hsm] at CS
    clear hsm
    refine CS.out.mono ?_
    rintro e w2 ⟨rfl, k2⟩
    have K2 : Hid (Below w.heap.size w w2) := K1.out.trans (k2.mono K1.out.size)
    go_wp2
    go_ret
    exact ⟨rfl, K2.out⟩
  · obtain ⟨hs3, hs4⟩ : n3 ≤ 1024 ∧ n4 ≤ 1024 := by omega
    rw [decide_eq_true ⟨hs3, hs4⟩] at CS
    clear hsm
    refine CS.out.mono ?_
    rintro e w2 ⟨rfl, k2⟩
    have A2 := Lib.hid (A1.out.below k2)
    have K2 : Hid (Below w.heap.size w w2) := K1.out.trans (k2.mono K1.out.size)
    clear k2 A1 K1 R1 CS
    by_cases hbig : 1024 < n5
    · have hbig' : (1024 : Int) < (n5 : Int) := by omega
      have c0 := A2.out.c0
      have c1' := A2.out.c1
      have c2' := A2.out.c2
      have c3' := A2.out.c3
      go_wp2
      go_ret
      exact ⟨rfl, K2.out⟩
    · have hs5 : n5 ≤ 1024 := by omega
      have hs5' : ¬ (1024 : Int) < (n5 : Int) := by omega
      clear hbig
      by_cases hl : n1 = 32 ∧ n2 = 12
      · obtain ⟨hl1, hl2⟩ := hl
        subst hl1 hl2
        have HKL : Hid (key.length = 32) := H1.out.symm
        have HNL : Hid (nonce.length = 12) := H2.out.symm
        have hb3 : Hid (beside.length ≤ 1024) := by rw [Hid, ← H3.out]; exact hs3
        have hb4 : Hid (text.length ≤ 1024) := by rw [Hid, ← H4.out]; exact hs4
        have hb5 : Hid (other.length ≤ 1024) := by rw [Hid, ← H5.out]; exact hs5
        obtain ⟨X, hX⟩ : ∃ X, Hid (X = M.box key nonce beside text) := ⟨_, rfl⟩
        have HXL : Hid (X.length = n4 + 16) := by rw [hX.out, H4.out]; exact M.box_length _ _ _ _
        obtain ⟨Y, hY⟩ : ∃ Y, Hid (Y = M.box key nonce other text) := ⟨_, rfl⟩
        have HYL : Hid (Y.length = n4 + 16) := by rw [hY.out, H4.out]; exact M.box_length _ _ _ _
        obtain ⟨H, hH⟩ : ∃ H, Hid (H = M.hide key nonce text) := ⟨_, rfl⟩
        have HXT : Hid (X.take n4 = H) := by rw [hX.out, hH.out, H4.out]; exact M.box_take _ _ _ _
        have HYT : Hid (Y.take n4 = H) := by rw [hY.out, hH.out, H4.out]; exact M.box_take _ _ _ _
        have C1 := Lib.hid (seal_any (.slice a1 32 c1) (.slice a2 12 c2) (.slice a3 n3 c3) (.slice a4 n4 c4) key nonce beside text w2 (HL.out.below K2.out HL.out.size) A2.out.key A2.out.nonce A2.out.beside A2.out.text HKL.out HNL.out HZB.out (by have := hb3.out; have := hb4.out; omega))
        rw [← hX.out] at C1
        have c0 := A2.out.c0
        have c1' := A2.out.c1
        have c2' := A2.out.c2
        have c3' := A2.out.c3
        go_wp2_with fail
        refine C1.out.mono ?_
        rintro e w3 ⟨r3, rfl, o3, k3⟩
        have A3 := Lib.hid (A2.out.below k3)
        have K3 : Hid (Below w.heap.size w w3) := K2.out.trans (k3.mono K2.out.size)
        have O3 := Lib.hid o3
        have C2 := Lib.hid (seal_any (.slice a1 32 c1) (.slice a2 12 c2) (.slice a5 n5 cc5) (.slice a4 n4 c4) key nonce other text w3 (HL.out.below K3.out HL.out.size) A3.out.key A3.out.nonce (HO.out.below K3.out) A3.out.text HKL.out HNL.out HZO.out (by have := hb5.out; have := hb4.out; omega))
        rw [← hY.out] at C2
        clear c0 c1' c2' c3' o3 k3 A2 C1
        have c0 := A3.out.c0
        have c1' := A3.out.c1
        have c2' := A3.out.c2
        have c3' := A3.out.c3
        go_wp2_with fail
        refine C2.out.mono ?_
        rintro e w4 ⟨r4, rfl, o4, k4⟩
        have A4 := Lib.hid (A3.out.below k4)
        have K4 : Hid (Below w.heap.size w w4) := K3.out.trans (k4.mono K3.out.size)
        have O4 := Lib.hid o4
        have O34 := Lib.hid (O3.out.below k4)
        have C3 := Lib.hid (xor_any (.slice a1 32 c1) (.slice a2 12 c2) (.slice a4 n4 c4) key nonce text 1 w4 (HL.out.below K4.out HL.out.size) A4.out.key A4.out.nonce A4.out.text HKL.out HNL.out (by have := hb4.out; omega))
        rw [show M.xo (M.strm key nonce 1) text text.length = M.hide key nonce text from rfl, ← hH.out] at C3
        clear c0 c1' c2' c3' o4 k4 A3 K3 O3 C2
        have c0 := A4.out.c0
        have c1' := A4.out.c1
        have c2' := A4.out.c2
        have c3' := A4.out.c3
        go_wp2_with fail
        refine C3.out.mono ?_
        rintro e w5 ⟨r5, rfl, o5, k5⟩
        have A5 := Lib.hid (A4.out.below k5)
        have K5 : Hid (Below w.heap.size w w5) := K4.out.trans (k5.mono K4.out.size)
        have O5 := Lib.hid o5
        have O35 := Lib.hid (O34.out.below k5)
        have O45 := Lib.hid (O4.out.below k5)
        obtain ⟨g3, cp3, rfl, _⟩ := O35.out.shape (by rw [HXL.out]; omega)
        have hcp3 : n4 + 16 ≤ cp3 := by obtain ⟨_, _, e, h1, _⟩ := O35.out.isB; injection e with _ _ e; rw [HXL.out] at h1; omega
        obtain ⟨g4, cp4, rfl, _⟩ := O45.out.shape (by rw [HYL.out]; omega)
        have hcp4 : n4 + 16 ≤ cp4 := by obtain ⟨_, _, e, h1, _⟩ := O45.out.isB; injection e with _ _ e; rw [HYL.out] at h1; omega
        have X5 : Hid (IsB w5 (.slice (some ⟨g3, 0, none⟩) n4 cp3) H) := by
          have := O35.out.isB
          rw [HXL.out] at this
          have := this.take n4 (by omega)
          rw [HXT.out] at this
          exact this
        have Y5 : Hid (IsB w5 (.slice (some ⟨g4, 0, none⟩) n4 cp4) H) := by
          have := O45.out.isB
          rw [HYL.out] at this
          have := this.take n4 (by omega)
          rw [HYT.out] at this
          exact this
        rw [HXL.out, HYL.out]
        have C4 := Lib.hid (requal_same (.slice (some ⟨g3, 0, none⟩) n4 cp3) r5 H w5 X5.out O5.out.isB)
        have e16 : ((n4 + 16 : Nat) : Int) = (n4 : Int) + 16 := by omega
        have hc3i : (n4 : Int) ≤ (cp3 : Int) := by omega
        have hc4i : (n4 : Int) ≤ (cp4 : Int) := by omega
        clear c0 c1' c2' c3' o5 k5 A4 K4 O34 O4 O35 O45 C3
        have c0 := A5.out.c0
        have c1' := A5.out.c1
        have c2' := A5.out.c2
        have c3' := A5.out.c3
        go_wp2_with fail
        refine C4.out.mono ?_
        rintro e w6 ⟨rfl, k6⟩
        have A6 := Lib.hid (A5.out.below k6)
        have K6 : Hid (Below w.heap.size w w6) := K5.out.trans (k6.mono K5.out.size)
        have C5 := Lib.hid (requal_same (.slice (some ⟨g4, 0, none⟩) n4 cp4) r5 H w6 (Y5.out.below k6) (O5.out.isB.below k6))
        clear c0 c1' c2' c3' k6 A5 K5 O5 X5 Y5 C4
        go_wp2_with fail
        refine C5.out.mono ?_
        rintro e w7 ⟨rfl, k7⟩
        have K7 : Hid (Below w.heap.size w w7) := K6.out.trans (k7.mono K6.out.size)
        go_wp2
        go_ret
        exact ⟨rfl, K7.out⟩
      · by_cases h32 : n1 = 32
        · have hl2 : ¬ n2 = 12 := fun h => hl ⟨h32, h⟩
          have hd5 : decide ((1024 : Int) < (n5 : Int)) = false := decide_eq_false hs5'
          have hd2 : ((n2 : Int) != 12) = true := by simp; omega
          subst h32
          clear hl
          have c0 := A2.out.c0
          have c1' := A2.out.c1
          have c2' := A2.out.c2
          have c3' := A2.out.c3
          go_wp2
          go_ret
          exact ⟨rfl, K2.out⟩
        · have hd5 : decide ((1024 : Int) < (n5 : Int)) = false := decide_eq_false hs5'
          have hd1 : ((n1 : Int) != 32) = true := by simp; omega
          clear hl
          have c0 := A2.out.c0
          have c1' := A2.out.c1
          have c2' := A2.out.c2
          have c3' := A2.out.c3
          go_wp2
          go_ret
          exact ⟨rfl, K2.out⟩

end Go.Proofs.YtogklpeehfoijaaDoor
