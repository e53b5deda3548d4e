/-
  THE WALK OF orloplaw06.AeadCut: it returns true, and writes nothing that was there. Conditions: layer 4's table of places lies as it was laid.
-/
import Derived.Test.YtogklpeehfoijaaDoorAeadAsk
namespace Go.Proofs.YtogklpeehfoijaaDoor
open Go.RowKit
set_option linter.unusedVariables false

set_option maxHeartbeats 8000000 in
theorem aeadCut_walk (w : World) (hL : LaidP w) (kv nv bv tv : Value) (key nonce beside text : List UInt8) (hk : IsB w kv key) (zk : ∀ n c, kv = .slice none n c → c = 0) (hn : IsB w nv nonce) (zn : ∀ n c, nv = .slice none n c → c = 0)
    (hb : IsB w bv beside) (zb : ∀ n c, bv = .slice none n c → c = 0) (ht : IsB w tv text) (zt : ∀ n c, tv = .slice none n c → c = 0) (m : Nat) (hm : m < 256) :
    Calls Tryd.prog 5 #[.agg #[kv, nv, bv, tv], .int .u8 m] w fun e w' => e = .returned (.bool true) ∧ Below w.heap.size w w' := by
  obtain ⟨q, hq⟩ : ∃ q, q = m % 16 := ⟨_, rfl⟩
  have hq16 : q < 16 := by omega
  have hmi : (m : Int) % 16 = (q : Int) := by omega
  have hmi' : (m : Int).tmod 16 = (q : Int) := by rw [Int.tmod_eq_emod_of_nonneg (by omega)]; exact hmi
  have wmi : IntKind.i64.wrap (m : Int) = (m : Int) := IntWalk.i64_in _ (by omega)
  clear hq
  have HL := Lib.hid hL
  have HAn := Lib.hid (askIs_new hk hn hb ht)
  obtain ⟨g, hg⟩ : ∃ g, g = w.heap.size := ⟨_, rfl⟩
  have KB : Below w.heap.size w (w.alloc (.cells #[kv, nv, bv, tv] 24)) := (Below.refl _ _).alloc (Nat.le_refl _) _
  rw [← hg] at HAn
  have hm1 : key.length ≤ maxLen := by obtain ⟨_, _, _, h1, h2, _⟩ := hk; omega
  have hm2 : nonce.length ≤ maxLen := by obtain ⟨_, _, _, h1, h2, _⟩ := hn; omega
  unfold maxLen at hm1 hm2
  obtain ⟨a1, c1, rfl⟩ := hk.shape
  obtain ⟨a2, c2, rfl⟩ := hn.shape
  obtain ⟨a3, c3, rfl⟩ := hb.shape
  obtain ⟨a4, c4, rfl⟩ := ht.shape
  obtain ⟨n1, h1⟩ : ∃ n, n = key.length := ⟨_, rfl⟩
  obtain ⟨n2, h2⟩ : ∃ n, n = nonce.length := ⟨_, rfl⟩
  obtain ⟨n3, h3⟩ : ∃ n, n = beside.length := ⟨_, rfl⟩
  obtain ⟨n4, h4⟩ : ∃ n, n = text.length := ⟨_, rfl⟩
  rw [← h1] at HAn KB zk hm1 ⊢
  rw [← h2] at HAn KB zn hm2 ⊢
  rw [← h3] at HAn KB zb ⊢
  rw [← h4] at HAn KB zt ⊢
  have HZK := Lib.hid zk
  have HZN := Lib.hid zn
  have HZB := Lib.hid zb
  have HZT := Lib.hid zt
  have HKB := Lib.hid KB
  have H1 := Lib.hid h1
  have H2 := Lib.hid h2
  have H3 := Lib.hid h3
  have H4 := Lib.hid h4
  clear hL hk zk hn zn hb zb ht zt h1 h2 h3 h4 KB
  go_enter Tryd.func5, Tryd.ntmps5
  go_wp2_with fail
  rw [← hg]
  clear hg
  refine (aeadAwake_any _ (HL.out.below HKB.out HL.out.size)).mono ?_
  rintro e w1 ⟨rfl, k1⟩
  have A1 := Lib.hid (HAn.out.below k1)
  have K1 : Hid (Below w.heap.size w w1) := HKB.out.trans (k1.mono HKB.out.size)
  have R1 := Lib.hid A1.out.range
  clear k1 HAn HKB
  have CS := Lib.hid (small_any a1 a2 a3 a4 n1 n2 n3 n4 c1 c2 c3 c4 w1)
  go_wp2_with (refine wpList_load_mid rfl 24 (.tmp 2) rfl g 0 rfl _ _ R1.out Tryd.underlying24 rfl (by kernel_rfl) ?_)
  by_cases hsm : ¬ (n3 ≤ 1024 ∧ n4 ≤ 1024)
  · rw [decide_eq_false hsm] at CS
    clear hsm
    refine CS.out.mono ?_
    rintro e w2 ⟨rfl, k2⟩
    have K2 : Hid (Below w.heap.size w w2) := K1.out.trans (k2.mono K1.out.size)
    go_wp2
    go_ret
    exact ⟨rfl, K2.out⟩
  · obtain ⟨hs3, hs4⟩ : n3 ≤ 1024 ∧ n4 ≤ 1024 := by omega
    rw [decide_eq_true ⟨hs3, hs4⟩] at CS
    clear hsm
    refine CS.out.mono ?_
    rintro e w2 ⟨rfl, k2⟩
    have A2 := Lib.hid (A1.out.below k2)
    have K2 : Hid (Below w.heap.size w w2) := K1.out.trans (k2.mono K1.out.size)
    clear k2 A1 K1 R1 CS
    by_cases hl : n1 = 32 ∧ n2 = 12
    · obtain ⟨hl1, hl2⟩ := hl
      subst hl1 hl2
      have HKL : Hid (key.length = 32) := H1.out.symm
      have HNL : Hid (nonce.length = 12) := H2.out.symm
      have hb3 : Hid (beside.length ≤ 1024) := by rw [Hid, ← H3.out]; exact hs3
      have hb4 : Hid (text.length ≤ 1024) := by rw [Hid, ← H4.out]; exact hs4
      obtain ⟨X, hX⟩ : ∃ X, Hid (X = M.box key nonce beside text) := ⟨_, rfl⟩
      have HXL : Hid (X.length = n4 + 16) := by rw [hX.out, H4.out]; exact M.box_length _ _ _ _
      have c0 := A2.out.c0
      have c1' := A2.out.c1
      have c2' := A2.out.c2
      have c3' := A2.out.c3
      have c0b := (A2.out.below ((Below.refl w2.heap.size w2).alloc (Nat.le_refl _) (.cells #[] 5))).c0
      go_wp2_with (at_builtin; go_must (refine wpList_app _ rfl _ _ rfl w2.heap.size _ [] rfl ?p1 _ key rfl ?p2 HZK.out ?p3 (by simp) ?_))
      case p1 => exact own_empty w2
      case p2 => exact A2.out.key.below ((Below.refl _ _).alloc (Nat.le_refl _) _)
      case p3 => rw [HKL.out]; decide
      intro r3 w3 o3 k3' _
      have k3 : Below w2.heap.size w2 w3 := ((Below.refl _ _).alloc (Nat.le_refl _) (.cells #[] 5)).trans k3'
      have A3 := Lib.hid (A2.out.below k3)
      have K3 : Hid (Below w.heap.size w w3) := K2.out.trans (k3.mono K2.out.size)
      have O3 : Hid (Own w3 w2.heap.size r3 key) := o3
      clear c0 c1' c2' c3' c0b o3 k3' k3 A2
      have c0 := A3.out.c0
      have c1' := A3.out.c1
      have c2' := A3.out.c2
      have c3' := A3.out.c3
      have c2b := (A3.out.below ((Below.refl w3.heap.size w3).alloc (Nat.le_refl _) (.cells #[] 5))).c2
      go_wp2_with (at_builtin; go_must (refine wpList_app _ rfl _ _ rfl w3.heap.size _ [] rfl ?q1 _ beside rfl ?q2 HZB.out ?q3 (by simp) ?_))
      case q1 => exact own_empty w3
      case q2 => exact A3.out.beside.below ((Below.refl _ _).alloc (Nat.le_refl _) _)
      case q3 => have := hb3.out; simp; omega
      intro r4 w4 o4 k4' _
      have k4 : Below w3.heap.size w3 w4 := ((Below.refl _ _).alloc (Nat.le_refl _) (.cells #[] 5)).trans k4'
      have A4 := Lib.hid (A3.out.below k4)
      have K4 : Hid (Below w.heap.size w w4) := K3.out.trans (k4.mono K3.out.size)
      have O4 : Hid (Own w4 w3.heap.size r4 beside) := o4
      have O34 : Hid (Own w4 w2.heap.size r3 key) := O3.out.below k4
      have C1 := Lib.hid (seal_any r3 (.slice a2 12 c2) r4 (.slice a4 n4 c4) key nonce beside text w4 (HL.out.below K4.out HL.out.size) O34.out.isB A4.out.nonce O4.out.isB A4.out.text HKL.out HNL.out O4.out.nil0 (by have := hb3.out; have := hb4.out; omega))
      rw [← hX.out] at C1
      clear c0 c1' c2' c3' c2b o4 k4' k4 A3 K3 O3
      have c0 := A4.out.c0
      have c1' := A4.out.c1
      have c2' := A4.out.c2
      have c3' := A4.out.c3
      go_wp2_with fail
      refine C1.out.mono ?_
      rintro e w5 ⟨r5, rfl, o5, k5⟩
      have A5 := Lib.hid (A4.out.below k5)
      have K5 : Hid (Below w.heap.size w w5) := K4.out.trans (k5.mono K4.out.size)
      have O35 : Hid (Own w5 w2.heap.size r3 key) := O34.out.below k5
      have O45 : Hid (Own w5 w3.heap.size r4 beside) := O4.out.below k5
      obtain ⟨g5, cp5, rfl, _⟩ := o5.shape (by rw [HXL.out]; omega)
      have hcp5 : n4 + 16 ≤ cp5 := by obtain ⟨_, _, e, h1, _⟩ := o5.isB; injection e with _ _ e; rw [HXL.out] at h1; omega
      rw [HXL.out] at o5 ⊢
      have T5 : Hid (IsB w5 (.slice (some ⟨g5, 0, none⟩) q cp5) (X.take q)) := o5.isB.take q (by omega)
      have HTL : Hid ((X.take q).length < 16) := by rw [Hid, List.length_take]; omega
      have C2 := Lib.hid (fun w' (k : Below w5.heap.size w5 w') => open_short r3 (.slice a2 12 c2) r4 (.slice (some ⟨g5, 0, none⟩) q cp5) key nonce beside (X.take q) w' (HL.out.below (K5.out.trans (k.mono K5.out.size)) HL.out.size) (O35.out.isB.below k) (A5.out.nonce.below k) (O45.out.isB.below k) (T5.out.below k) HKL.out HNL.out O45.out.nil0 (fun n c e => by cases e) (by have := hb3.out; omega) HTL.out)
      have S5 : Hid (∀ w', Below w5.heap.size w5 w' → w'.cell? ⟨g, 1, none⟩ = some (.slice a2 12 c2)) := fun w' k => (A5.out.below k).c1
      have hqc : (q : Int) ≤ (cp5 : Int) := by omega
      have hge : ¬ ((n4 + 16 : Nat) : Int) < 16 := by omega
      have e16 : ((n4 + 16 : Nat) : Int) = (n4 : Int) + 16 := by omega
      have hge' : ¬ (n4 : Int) + 16 < 16 := by omega
      clear c0 c1' c2' c3' o5 k5 A4 K4 O34 O4 C1
      have c0 := A5.out.c0
      have c1' := A5.out.c1
      have c2' := A5.out.c2
      have c3' := A5.out.c3
      go_wp2
      go_region_held3 (fun w' => w'.cell? ⟨g, 1, none⟩ = some (.slice a2 12 c2))
        (first | exact S5.out _ (below_draws _ 1) | exact S5.out _ (((below_draws w5 1)).trans (k6.mono (Nat.le_refl _))))
        (first | (go_at_call 12; refine (C2.out _ (below_draws w5 1)).mono ?_; rintro e w6 ⟨rfl, k6⟩))
      have k6' : Below w5.heap.size w5 w6 := (below_draws w5 1).trans k6
      have A6 := Lib.hid (A5.out.below k6')
      have K6 : Hid (Below w.heap.size w w6) := K5.out.trans (k6'.mono K5.out.size)
      have O46 : Hid (Own w6 w3.heap.size r4 beside) := O45.out.below k6'
      have C3 := Lib.hid (requal_same r3 (.slice a1 32 c1) key w6 (O35.out.isB.below k6') A6.out.key)
      clear c0 c1' c2' c3' k6 k6' A5 K5 O35 O45 C2 T5 S5
      have c0 := A6.out.c0
      have c1' := A6.out.c1
      have c2' := A6.out.c2
      have c3' := A6.out.c3
      go_wp2_with fail
      refine C3.out.mono ?_
      rintro e w7 ⟨rfl, k7⟩
      have A7 := Lib.hid (A6.out.below k7)
      have K7 : Hid (Below w.heap.size w w7) := K6.out.trans (k7.mono K6.out.size)
      have C4 := Lib.hid (requal_same r4 (.slice a3 n3 c3) beside w7 (O46.out.isB.below k7) A7.out.beside)
      clear c0 c1' c2' c3' k7 A6 K6 O46 C3
      have c0 := A7.out.c0
      have c1' := A7.out.c1
      have c2' := A7.out.c2
      have c3' := A7.out.c3
      go_wp2_with fail
      refine C4.out.mono ?_
      rintro e w8 ⟨rfl, k8⟩
      have K8 : Hid (Below w.heap.size w w8) := K7.out.trans (k8.mono K7.out.size)
      go_wp2
      go_ret
      exact ⟨rfl, K8.out⟩
    · by_cases h32 : n1 = 32
      · have hl2 : ¬ n2 = 12 := fun h => hl ⟨h32, h⟩
        have hl2' : ¬ (n2 : Int) = 12 := by omega
        subst h32
        clear hl
        have c0 := A2.out.c0
        have c1' := A2.out.c1
        have c2' := A2.out.c2
        have c3' := A2.out.c3
        go_wp2
        go_ret
        exact ⟨rfl, K2.out⟩
      · have h32' : ¬ (n1 : Int) = 32 := by omega
        clear hl
        have c0 := A2.out.c0
        have c1' := A2.out.c1
        have c2' := A2.out.c2
        have c3' := A2.out.c3
        go_wp2
        go_ret
        exact ⟨rfl, K2.out⟩

end Go.Proofs.YtogklpeehfoijaaDoor
