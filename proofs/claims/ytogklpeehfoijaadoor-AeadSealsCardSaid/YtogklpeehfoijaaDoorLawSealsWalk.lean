/-
  THE WALK OF orloplaw06.AeadSeals: it returns true, and writes nothing that was there. Conditions: layer 4's table of places lies as it was laid.
-/
import Derived.Test.YtogklpeehfoijaaDoorAeadAsk
namespace Go.Proofs.YtogklpeehfoijaaDoor
open Go.RowKit
set_option linter.unusedVariables false

set_option maxHeartbeats 8000000 in
theorem aeadSeals_walk (w : World) (hL : LaidP w) (kv nv bv tv : Value) (key nonce beside text : List UInt8) (hk : IsB w kv key) (zk : ∀ n c, kv = .slice none n c → c = 0) (hn : IsB w nv nonce) (zn : ∀ n c, nv = .slice none n c → c = 0)
    (hb : IsB w bv beside) (zb : ∀ n c, bv = .slice none n c → c = 0) (ht : IsB w tv text) (zt : ∀ n c, tv = .slice none n c → c = 0) :
    Calls Tryd.prog 3 #[.agg #[kv, nv, bv, tv]] w fun e w' => e = .returned (.bool true) ∧ Below w.heap.size w w' := by
  have HL := Lib.hid hL
  have HAn := Lib.hid (askIs_new hk hn hb ht)
  obtain ⟨g, hg⟩ : ∃ g, g = w.heap.size := ⟨_, rfl⟩
  have KB : Below w.heap.size w (w.alloc (.cells #[kv, nv, bv, tv] 24)) := (Below.refl _ _).alloc (Nat.le_refl _) _
  rw [← hg] at HAn
  have hm1 : key.length ≤ maxLen := by obtain ⟨_, _, _, h1, h2, _⟩ := hk; omega
  have hm2 : nonce.length ≤ maxLen := by obtain ⟨_, _, _, h1, h2, _⟩ := hn; omega
  unfold maxLen at hm1 hm2
  obtain ⟨a1, c1, rfl⟩ := hk.shape
  obtain ⟨a2, c2, rfl⟩ := hn.shape
  obtain ⟨a3, c3, rfl⟩ := hb.shape
  obtain ⟨a4, c4, rfl⟩ := ht.shape
  obtain ⟨n1, h1⟩ : ∃ n, n = key.length := ⟨_, rfl⟩
  obtain ⟨n2, h2⟩ : ∃ n, n = nonce.length := ⟨_, rfl⟩
  obtain ⟨n3, h3⟩ : ∃ n, n = beside.length := ⟨_, rfl⟩
  obtain ⟨n4, h4⟩ : ∃ n, n = text.length := ⟨_, rfl⟩
  rw [← h1] at HAn KB zk hm1 ⊢
  rw [← h2] at HAn KB zn hm2 ⊢
  rw [← h3] at HAn KB zb ⊢
  rw [← h4] at HAn KB zt ⊢
  have HZK := Lib.hid zk
  have HZN := Lib.hid zn
  have HZB := Lib.hid zb
  have HZT := Lib.hid zt
  have HKB := Lib.hid KB
  have H1 := Lib.hid h1
  have H2 := Lib.hid h2
  have H3 := Lib.hid h3
  have H4 := Lib.hid h4
  clear hL hk zk hn zn hb zb ht zt h1 h2 h3 h4 KB
  go_enter Tryd.func3, Tryd.ntmps3
  go_wp2_with fail
  rw [← hg]
  clear hg
  refine (aeadAwake_any _ (HL.out.below HKB.out HL.out.size)).mono ?_
  rintro e w1 ⟨rfl, k1⟩
  have A1 := Lib.hid (HAn.out.below k1)
  have K1 : Hid (Below w.heap.size w w1) := HKB.out.trans (k1.mono HKB.out.size)
  have R1 := Lib.hid A1.out.range
  clear k1 HAn HKB
  have CS := Lib.hid (small_any a1 a2 a3 a4 n1 n2 n3 n4 c1 c2 c3 c4 w1)
  go_wp2_with (refine wpList_load_mid rfl 24 (.tmp 1) rfl g 0 rfl _ _ R1.out Tryd.underlying24 rfl (by kernel_rfl) ?_)
  by_cases hsm : ¬ (n3 ≤ 1024 ∧ n4 ≤ 1024)
  · rw [decide_eq_false hsm] at CS
    clear hsm
    refine CS.out.mono ?_
    rintro e w2 ⟨rfl, k2⟩
    have K2 : Hid (Below w.heap.size w w2) := K1.out.trans (k2.mono K1.out.size)
    go_wp2
    go_ret
    exact ⟨rfl, K2.out⟩
  · obtain ⟨hs3, hs4⟩ : n3 ≤ 1024 ∧ n4 ≤ 1024 := by omega
    rw [decide_eq_true ⟨hs3, hs4⟩] at CS
    clear hsm
    refine CS.out.mono ?_
    rintro e w2 ⟨rfl, k2⟩
    have A2 := Lib.hid (A1.out.below k2)
    have K2 : Hid (Below w.heap.size w w2) := K1.out.trans (k2.mono K1.out.size)
    clear k2 A1 K1 R1 CS
    by_cases hl : n1 = 32 ∧ n2 = 12
    · obtain ⟨hl1, hl2⟩ := hl
      subst hl1 hl2
      have HKL : Hid (key.length = 32) := H1.out.symm
      have HNL : Hid (nonce.length = 12) := H2.out.symm
      obtain ⟨X, hX⟩ : ∃ X, Hid (X = M.box key nonce beside text) := ⟨_, rfl⟩
      have HXL : Hid (X.length = n4 + 16) := by rw [hX.out, H4.out]; exact M.box_length _ _ _ _
      have hb3 : Hid (beside.length ≤ 1024) := by rw [Hid, ← H3.out]; exact hs3
      have hb4 : Hid (text.length ≤ 1024) := by rw [Hid, ← H4.out]; exact hs4
      have C1 := Lib.hid (seal_any (.slice a1 32 c1) (.slice a2 12 c2) (.slice a3 n3 c3) (.slice a4 n4 c4) key nonce beside text w2 (HL.out.below K2.out HL.out.size) A2.out.key A2.out.nonce A2.out.beside A2.out.text HKL.out HNL.out HZB.out (by have := hb3.out; have := hb4.out; omega))
      rw [← hX.out] at C1
      have c0 := A2.out.c0
      have c1' := A2.out.c1
      have c2' := A2.out.c2
      have c3' := A2.out.c3
      go_wp2_with fail
      refine C1.out.mono ?_
      rintro e w3 ⟨r3, rfl, o3, k3⟩
      have A3 := Lib.hid (A2.out.below k3)
      have K3 : Hid (Below w.heap.size w w3) := K2.out.trans (k3.mono K2.out.size)
      have O3 := Lib.hid o3
      have C2 := Lib.hid (rseal_any (.slice a1 32 c1) (.slice a2 12 c2) (.slice a3 n3 c3) (.slice a4 n4 c4) key nonce beside text w3 A3.out.key A3.out.nonce A3.out.beside A3.out.text HKL.out HNL.out HZB.out hb3.out hb4.out)
      rw [← hX.out] at C2
      clear c0 c1' c2' c3' o3 k3 A2 C1
      have c0 := A3.out.c0
      have c1' := A3.out.c1
      have c2' := A3.out.c2
      have c3' := A3.out.c3
      go_wp2_with fail
      refine C2.out.mono ?_
      rintro e w4 ⟨r4, rfl, o4, k4⟩
      have A4 := Lib.hid (A3.out.below k4)
      have K4 : Hid (Below w.heap.size w w4) := K3.out.trans (k4.mono K3.out.size)
      have O4 := Lib.hid o4
      have O34 := Lib.hid (O3.out.below k4)
      have C3 := Lib.hid (requal_same r3 r4 X w4 O34.out.isB O4.out.isB)
      clear c0 c1' c2' c3' o4 k4 A3 K3 O3 C2
      go_wp2_with fail
      refine C3.out.mono ?_
      rintro e w5 ⟨rfl, k5⟩
      have A5 := Lib.hid (A4.out.below k5)
      have K5 : Hid (Below w.heap.size w w5) := K4.out.trans (k5.mono K4.out.size)
      have O5 := Lib.hid (O34.out.below k5)
      have C4 := Lib.hid (fun (h : IsB w5 r3 (M.box key nonce beside text)) => open_box (.slice a1 32 c1) (.slice a2 12 c2) (.slice a3 n3 c3) r3 key nonce beside text w5 (HL.out.below K5.out HL.out.size) A5.out.key A5.out.nonce A5.out.beside h HKL.out HNL.out HZB.out O5.out.nil0 (by have := hb3.out; have := hb4.out; omega))
      rw [← hX.out] at C4
      obtain ⟨g3, cp3, rfl, _⟩ := O5.out.shape (by rw [HXL.out]; omega)
      rw [HXL.out] at O5 C4 ⊢
      clear k5 A4 K4 O4 O34 C3
      have c0 := A5.out.c0
      have c1' := A5.out.c1
      have c2' := A5.out.c2
      have c3' := A5.out.c3
      go_wp2_with fail
      refine (C4.out O5.out.isB).mono ?_
      rintro e w6 ⟨r6, rfl, o6, k6⟩
      have A6 := Lib.hid (A5.out.below k6)
      have K6 : Hid (Below w.heap.size w w6) := K5.out.trans (k6.mono K5.out.size)
      have O6 := Lib.hid o6
      have C5 := Lib.hid (requal_same r6 (.slice a4 n4 c4) text w6 O6.out.isB A6.out.text)
      clear c0 c1' c2' c3' o6 k6 A5 K5 C4
      have c0 := A6.out.c0
      have c1' := A6.out.c1
      have c2' := A6.out.c2
      have c3' := A6.out.c3
      have e16 : ((n4 + 16 : Nat) : Int) = (n4 : Int) + 16 := by omega
      go_wp2_with fail
      refine C5.out.mono ?_
      rintro e w7 ⟨rfl, k7⟩
      have K7 : Hid (Below w.heap.size w w7) := K6.out.trans (k7.mono K6.out.size)
      go_wp2
      go_ret
      exact ⟨rfl, K7.out⟩
    · have HNO : Hid (¬ (key.length = 32 ∧ nonce.length = 12)) := by rw [Hid, ← H1.out, ← H2.out]; exact hl
      have C1 := Lib.hid (seal_no (.slice a1 n1 c1) (.slice a2 n2 c2) (.slice a3 n3 c3) (.slice a4 n4 c4) key nonce w2 A2.out.key A2.out.nonce HNO.out)
      have C2 := Lib.hid (rseal_no (.slice a1 n1 c1) (.slice a2 n2 c2) (.slice a3 n3 c3) (.slice a4 n4 c4) key nonce w2 A2.out.key A2.out.nonce HNO.out)
      have C3 := Lib.hid (requal_same (.slice none 0 0) (.slice none 0 0) [] w2 (IsB.nil w2) (IsB.nil w2))
      clear hl
      have c0 := A2.out.c0
      have c1' := A2.out.c1
      have c2' := A2.out.c2
      have c3' := A2.out.c3
      go_wp2_with fail
      refine C1.out.mono ?_
      rintro e w3 ⟨rfl, rfl⟩
      go_wp2_with fail
      refine C2.out.mono ?_
      rintro e w4 ⟨rfl, rfl⟩
      go_wp2_with fail
      refine C3.out.mono ?_
      rintro e w5 ⟨rfl, k5⟩
      have A5 := Lib.hid (A2.out.below k5)
      have K5 : Hid (Below w.heap.size w w5) := K2.out.trans (k5.mono K2.out.size)
      have C4 := Lib.hid (open_no (.slice a1 n1 c1) (.slice a2 n2 c2) (.slice a3 n3 c3) (.slice none 0 0) key nonce [] w5 A5.out.key A5.out.nonce (IsB.nil w5) HNO.out)
      clear c0 c1' c2' c3' k5 C1 C2 C3
      have c0 := A5.out.c0
      have c1' := A5.out.c1
      have c2' := A5.out.c2
      have c3' := A5.out.c3
      go_wp2_with fail
      refine C4.out.mono ?_
      rintro e w6 ⟨rfl, k6⟩
      have K6 : Hid (Below w.heap.size w w6) := K5.out.trans (k6.mono K5.out.size)
      go_wp2
      go_ret
      exact ⟨rfl, K6.out⟩

end Go.Proofs.YtogklpeehfoijaaDoor
