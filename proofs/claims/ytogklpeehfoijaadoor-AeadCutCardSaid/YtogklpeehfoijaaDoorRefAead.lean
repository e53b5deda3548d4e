/-
  CONTRACTS OF orlopref06.full, Seal AND Open: the document's own box. Conditions: texts, boxes and what is said beside of up to 1024 bytes each; what is nil has no spare room; keys and nonces of whatever lengths (refused, if they aren't 32 and 12).
-/
import Derived.Test.YtogklpeehfoijaaDoorAeadBox
import Derived.Test.YtogklpeehfoijaaDoorChaRefX
import Derived.Test.YtogklpeehfoijaaDoorRefTag2
import Derived.Test.YtogklpeehfoijaaDoorRefA
namespace Go.Proofs.YtogklpeehfoijaaDoor
open Go.RowKit
set_option linter.unusedVariables false

namespace M
theorem full_step (b : List UInt8) (k : Nat) (h : (b.length + k) % 16 ≠ 0) (hk : k ≤ (16 - b.length % 16) % 16) : k + 1 ≤ (16 - b.length % 16) % 16 := by omega
theorem full_end (b : List UInt8) (k : Nat) (h : (b.length + k) % 16 = 0) (hk : k ≤ (16 - b.length % 16) % 16) : b ++ List.replicate k 0 = full b := by
  rw [full, show k = (16 - b.length % 16) % 16 by omega]
end M

/-- How long a slice is. -/
def sliceLen : Value → Nat
  | .slice _ n _ => n
  | _ => 0

set_option maxHeartbeats 1000000 in
theorem rfull_any (bv : Value) (b : List UInt8) (w : World) (hb : IsB w bv b) (zb : ∀ n c, bv = .slice none n c → c = 0) (hlen : b.length ≤ 70368744177664) :
    Calls Tryd.prog 17 #[bv] w (Makes w (M.full b)) := by
  have HB := Lib.hid hb
  have ZB := Lib.hid zb
  have HL := Lib.hid hlen
  clear hb zb hlen
  go_enter Tryd.func17, Tryd.ntmps17
  go_wp2_with (at_builtin; go_must (refine wpList_app _ rfl _ _ rfl w.heap.size _ [] rfl ?c1 _ b rfl ?c2 ZB.out ?c3 (by simp) ?_))
  case c1 => exact own_empty w
  case c2 => exact HB.out.below ((Below.refl _ _).alloc (Nat.le_refl _) _)
  case c3 => have := HL.out; simp; omega
  intro v1 w1 o1 k1 _
  have O1 : Hid (Own w1 w.heap.size v1 (b ++ List.replicate 0 0)) := by rw [Hid, List.replicate_zero, List.append_nil]; exact o1
  have K1 : Hid (Below w.heap.size w w1) := ((Below.refl _ _).alloc (Nat.le_refl _) _).trans k1
  clear o1 k1
  go_wp2
  go_loopw [3] (fun x wr => ∃ k : Nat, k ≤ (16 - b.length % 16) % 16 ∧ Hid (Own wr w.heap.size x (b ++ List.replicate k 0)) ∧ Hid (Below w.heap.size w wr))
    (fun x _ => b.length + 16 - sliceLen x)
  case atStart => exact ⟨0, by omega, O1, K1⟩
  case round =>
    obtain ⟨wz, rfl⟩ : ∃ x, x = wr := ⟨_, rfl⟩
    obtain ⟨k, hk, oo, kz⟩ := hrel
    obtain ⟨a3, c3, rfl⟩ := oo.out.shape'
    obtain ⟨n, hn⟩ : ∃ n, n = (b ++ List.replicate k 0).length := ⟨_, rfl⟩
    have hn2 : n = b.length + k := by rw [hn, List.length_append, List.length_replicate]
    have HNN := Lib.hid hn
    have HN2 := Lib.hid hn2
    rw [← hn] at oo ⊢
    have hnb : n ≤ 70368744177680 := by have := HL.out; omega
    obtain ⟨r, hr⟩ : ∃ r, r = n % 16 := ⟨_, rfl⟩
    have HR := Lib.hid hr
    have m1 : (n : Int) % 16 = (r : Int) := by omega
    have m1' : (n : Int).tmod 16 = (r : Int) := by rw [Int.tmod_eq_emod_of_nonneg (by omega)]; exact m1
    have HK := Lib.hid hk
    clear hr hn hn2 hk
    by_cases h0 : r = 0
    · subst h0
      have HE : Hid (b ++ List.replicate k 0 = M.full b) := M.full_end b k (by have := HR.out; have := HN2.out; omega) HK.out
      rw [HE.out] at oo
      go_wp2
      go_ret
      exact ⟨_, rfl, oo.out, kz.out⟩
    · have hr0 : (0 : Int) < (r : Int) := by omega
      have OZ : Hid (IsB (wz.alloc (.cells #[.int .u8 0] 5)) (.slice (some ⟨wz.heap.size, 0, none⟩) 1 1) [0]) := isB_one wz 5 0 0 rfl
      have KA : Hid (Below w.heap.size w (wz.alloc (.cells #[.int .u8 0] 5))) := kz.out.alloc kz.out.size _
      have OA : Hid (Own (wz.alloc (.cells #[.int .u8 0] 5)) w.heap.size (.slice a3 n c3) (b ++ List.replicate k 0)) := oo.out.below ((Below.refl _ _).alloc (Nat.le_refl _) _)
      go_wp2_with (at_builtin; go_must (refine wpList_app _ rfl _ _ rfl w.heap.size _ (b ++ List.replicate k 0) rfl OA.out _ [0] rfl OZ.out (fun _ _ h => by cases h) ?d1 KA.out.size ?_))
      case d1 => have := HL.out; have := HK.out; simp; omega
      intro v2 w2 o2 k2 _
      have O2 : Hid (Own w2 w.heap.size v2 (b ++ List.replicate (k + 1) 0)) := by
        rw [Hid, List.replicate_succ']
        exact o2
      have K2 : Hid (Below w.heap.size w w2) := KA.out.trans k2
      have HLX : Hid (sliceLen v2 = b.length + (k + 1)) := by
        obtain ⟨a6, c6, e⟩ := O2.out.shape'
        rw [Hid, e]
        simp [sliceLen]
      clear o2 k2 OZ KA OA oo
      go_wp2
      go_roundw
      case rel => exact ⟨k + 1, M.full_step b k (by have := HR.out; have := HN2.out; omega) HK.out, O2, K2⟩
      case measure =>
        have e1 := HLX.out
        have e2 := HN2.out
        have e3 := HK.out
        show _ - sliceLen v2 < _ - sliceLen (.slice a3 n c3)
        rw [e1]
        show _ < b.length + 16 - n
        omega

theorem rxor_no (kv nv tv : Value) (key nonce : List UInt8) (ctr : UInt32) (w : World) (hk : IsB w kv key) (hn : IsB w nv nonce) (hl : ¬ (key.length = 32 ∧ nonce.length = 12)) :
    Calls Tryd.prog 16 #[kv, nv, .int .u32 ctr.toNat, tv] w fun e w' => e = .returned (.tuple #[.slice none 0 0, .int .i64 1]) ∧ w' = w := by
  obtain ⟨a1, c1, rfl⟩ := hk.shape
  obtain ⟨a2, c2, rfl⟩ := hn.shape
  obtain ⟨n, hn1⟩ : ∃ n, n = key.length := ⟨_, rfl⟩
  obtain ⟨m, hm1⟩ : ∃ n, n = nonce.length := ⟨_, rfl⟩
  rw [← hn1, ← hm1] at hl ⊢
  clear hk hn hn1 hm1
  by_cases h1 : n = 32
  · have h2 : ¬ (m : Int) = 12 := by omega
    subst h1
    clear hl
    go_enter Tryd.func16, Tryd.ntmps16
    go_wp2
    go_ret2
    exact ⟨rfl, rfl⟩
  · have h3 : ¬ (n : Int) = 32 := by omega
    clear hl
    go_enter Tryd.func16, Tryd.ntmps16
    go_wp2
    go_ret2
    exact ⟨rfl, rfl⟩

theorem rseal_no (kv nv bv tv : Value) (key nonce : List UInt8) (w : World) (hk : IsB w kv key) (hn : IsB w nv nonce) (hl : ¬ (key.length = 32 ∧ nonce.length = 12)) :
    Calls Tryd.prog 10 #[kv, nv, bv, tv] w fun e w' => e = .returned (.tuple #[.slice none 0 0, .int .i64 1]) ∧ w' = w := by
  have HC := Lib.hid (rxor_no kv nv tv key nonce 1 w hk hn hl)
  clear hk hn hl
  go_enter Tryd.func10, Tryd.ntmps10
  go_wp2_with fail
  refine HC.out.mono ?_
  rintro e w1 ⟨rfl, rfl⟩
  go_wp2
  go_ret2
  exact ⟨rfl, rfl⟩

set_option maxHeartbeats 2000000 in
theorem rseal_any (kv nv bv tv : Value) (key nonce beside text : List UInt8) (w : World) (hk : IsB w kv key) (hn : IsB w nv nonce) (hb : IsB w bv beside) (ht : IsB w tv text) (hkl : key.length = 32) (hnl : nonce.length = 12)
    (zb : ∀ n c, bv = .slice none n c → c = 0) (hlen : beside.length ≤ 1024) (hlen2 : text.length ≤ 1024) :
    Calls Tryd.prog 10 #[kv, nv, bv, tv] w fun e w' => ∃ r, e = .returned (.tuple #[r, .int .i64 0]) ∧ Own w' w.heap.size r (M.box key nonce beside text) ∧ Below w.heap.size w w' := by
  obtain ⟨a3, c3, rfl⟩ := hb.shape
  obtain ⟨H, hH⟩ : ∃ H, Hid (H = M.hide key nonce text) := ⟨_, rfl⟩
  have HHL : Hid (H.length = text.length) := by rw [hH.out]; exact M.hide_length _ _ _
  obtain ⟨T, hT⟩ : ∃ T, Hid (T = M.boxTag key nonce beside H) := ⟨_, rfl⟩
  have HTL : Hid (T.length = 16) := by rw [hT.out]; exact M.boxTag_length _ _ _ _
  obtain ⟨X, hX⟩ : ∃ X, Hid (X = M.box key nonce beside text) := ⟨_, rfl⟩
  have HX : Hid (H ++ T = X) := by rw [hX.out, hT.out, hH.out]; rfl
  obtain ⟨B, hB⟩ : ∃ B, Hid (B = M.full beside) := ⟨_, rfl⟩
  obtain ⟨F, hF⟩ : ∃ F, Hid (F = M.full H) := ⟨_, rfl⟩
  obtain ⟨C, hC⟩ : ∃ C, Hid (C = M.cblk key nonce 0) := ⟨_, rfl⟩
  have HCL : Hid (C.length = 64) := by rw [hC.out]; exact M.cblk_length _ _ _
  obtain ⟨U, hU⟩ : ∃ U, Hid (U = C.take 32) := ⟨_, rfl⟩
  have HUL : Hid (U.length = 32) := by rw [hU.out, Hid, List.length_take, HCL.out]; rfl
  obtain ⟨n3, hn3⟩ : ∃ n, n = beside.length := ⟨_, rfl⟩
  obtain ⟨n4, hn4⟩ : ∃ n, n = H.length := ⟨_, rfl⟩
  obtain ⟨L3, hL3⟩ : ∃ L, Hid (L = M.le n3 8) := ⟨_, rfl⟩
  obtain ⟨L4, hL4⟩ : ∃ L, Hid (L = M.le n4 8) := ⟨_, rfl⟩
  have HT : Hid (M.tag U (B ++ F ++ L3 ++ L4) = T) := by
    rw [hU.out, hC.out, hB.out, hF.out, hL3.out, hL4.out, hn3, hn4, hT.out]
    rfl
  have hBl : B.length ≤ 1040 := by rw [hB.out]; have := M.full_le beside; omega
  have hFl : F.length ≤ 1040 := by rw [hF.out]; have := M.full_le H; have := HHL.out; omega
  have hLl : L3.length = 8 ∧ L4.length = 8 := by rw [hL3.out, hL4.out]; exact ⟨M.le_length _ _, M.le_length _ _⟩
  have HBF : Hid (B.length + F.length ≤ 140737488355328) := by rw [Hid]; omega
  have HBF3 : Hid ((B ++ F).length + L3.length ≤ 140737488355328) := by rw [Hid, List.length_append]; omega
  have HBF4 : Hid ((B ++ F ++ L3).length + L4.length ≤ 140737488355328) := by rw [Hid, List.length_append, List.length_append]; omega
  have HBF5 : Hid ((B ++ F ++ L3 ++ L4).length ≤ 4096) := by rw [Hid, List.length_append, List.length_append, List.length_append]; omega
  have HHT : Hid (H.length + T.length ≤ 140737488355328) := by rw [Hid, HHL.out, HTL.out]; omega
  have hn3' : n3 ≤ 1024 := by omega
  have hn4' : n4 ≤ 1024 := by rw [hn4, HHL.out]; exact hlen2
  have wn3 : IntKind.u64.wrap (n3 : Int) = (n3 : Int) := wraps_u64 _ (by omega) (by omega)
  have wn4 : IntKind.u64.wrap (n4 : Int) = (n4 : Int) := wraps_u64 _ (by omega) (by omega)
  have HN4 := Lib.hid hn4
  have C1 := Lib.hid (rxor_any kv nv tv key nonce text 1 w hk hn ht hkl hnl (by omega))
  rw [show M.xo (M.strm key nonce 1) text text.length = M.hide key nonce text from rfl, ← hH.out] at C1
  have C2 := Lib.hid (fun w' (k : Below w.heap.size w w') => rfull_any (.slice a3 beside.length c3) beside w' (hb.below k) zb (by omega))
  have C3 := Lib.hid (fun w' v (h : IsB w' v H) z => rfull_any v H w' h z (by have := HHL.out; omega))
  have C4 := Lib.hid (fun w' (k : Below w.heap.size w w') => rblock_any kv nv key nonce 0 w' (hk.below k) (hn.below k) hkl hnl)
  have C5 := Lib.hid (fun w' k m (h1 : IsB w' k U) (h2 : IsB w' m (B ++ F ++ L3 ++ L4)) => rtag_any k m U (B ++ F ++ L3 ++ L4) w' h1 h2 HUL.out HBF5.out)
  have C6 := Lib.hid (fun w' => little_any n3 8 w' (by omega) (by decide))
  have C7 := Lib.hid (fun w' => little_any n4 8 w' (by omega) (by decide))
  rw [← hB.out, ← hn3] at C2
  rw [← hF.out] at C3
  rw [← hC.out] at C4
  rw [HT.out] at C5
  rw [← hL3.out] at C6
  rw [← hL4.out] at C7
  rw [← hX.out, ← hn3]
  clear hk hn hb ht hkl hnl zb hlen hlen2 hH hT hX hB hF hC hn3 hn4 hL3 hL4 HT hBl hFl hLl
  go_enter Tryd.func10, Tryd.ntmps10
  go_wp2_with fail
  refine C1.out.mono ?_
  rintro e w1 ⟨r1, rfl, o1, k1⟩
  obtain ⟨a1, c1, rfl⟩ := o1.shape'
  rw [← HN4.out] at o1 ⊢
  have O1 := Lib.hid o1
  have K1 := Lib.hid k1
  clear o1 k1 C1
  go_wp2_with fail
  refine (C2.out w1 K1.out).mono ?_
  rintro e w2 ⟨r2, rfl, o2, k2⟩
  have O2 := Lib.hid o2
  have K2 : Hid (Below w1.heap.size w1 w2) := k2
  have H2 : Hid (Own w2 w.heap.size (.slice a1 n4 c1) H) := O1.out.below k2
  clear o2 k2 C2
  go_wp2_with fail
  refine (C3.out w2 _ H2.out.isB H2.out.nil0).mono ?_
  rintro e w3 ⟨r3, rfl, o3, k3⟩
  have O3 := Lib.hid o3
  have K3 : Hid (Below w1.heap.size w1 w3) := K2.out.trans (k3.mono K2.out.size)
  have O23 : Hid (Own w3 w1.heap.size r2 B) := O2.out.below k3
  clear o3 k3 C3 O2 H2 K2
  go_wp2_with (at_builtin; go_must (refine wpList_app _ rfl _ _ rfl w1.heap.size _ B rfl O23.out _ F rfl O3.out.isB O3.out.nil0 HBF.out K3.out.size ?_))
  intro r4 w4 o4 k4 _
  have O4 := Lib.hid o4
  have K4 : Hid (Below w1.heap.size w1 w4) := K3.out.trans k4
  clear o4 k4 O23 O3 K3
  go_wp2_with fail
  refine (C6.out w4).mono ?_
  rintro e w5 ⟨r5, rfl, o5, k5⟩
  have O5 := Lib.hid o5
  have O45 : Hid (Own w5 w1.heap.size r4 (B ++ F)) := O4.out.below k5
  have K5 : Hid (Below w1.heap.size w1 w5) := K4.out.trans (k5.mono K4.out.size)
  clear o5 k5 O4 K4 C6
  go_wp2_with (at_builtin; go_must (refine wpList_app _ rfl _ _ rfl w1.heap.size _ (B ++ F) rfl O45.out _ L3 rfl O5.out.isB O5.out.nil0 HBF3.out K5.out.size ?_))
  intro r6 w6 o6 k6 _
  have O6 := Lib.hid o6
  have K6 : Hid (Below w1.heap.size w1 w6) := K5.out.trans k6
  clear o6 k6 O45 O5 K5
  go_wp2_with fail
  refine (C7.out w6).mono ?_
  rintro e w7 ⟨r7, rfl, o7, k7⟩
  have O7 := Lib.hid o7
  have O67 : Hid (Own w7 w1.heap.size r6 (B ++ F ++ L3)) := by rw [List.append_assoc]; exact O6.out.below k7
  have K7 : Hid (Below w1.heap.size w1 w7) := K6.out.trans (k7.mono K6.out.size)
  clear o7 k7 O6 K6 C7
  go_wp2_with (at_builtin; go_must (refine wpList_app _ rfl _ _ rfl w1.heap.size _ (B ++ F ++ L3) rfl O67.out _ L4 rfl O7.out.isB O7.out.nil0 HBF4.out K7.out.size ?_))
  intro r8 w8 o8 k8 _
  have O8 : Hid (Own w8 w1.heap.size r8 (B ++ F ++ L3 ++ L4)) := by simpa only [List.append_assoc, Hid] using o8
  have K8 : Hid (Below w1.heap.size w1 w8) := K7.out.trans k8
  clear o8 k8 O67 O7 K7
  go_wp2_with fail
  refine (C4.out w8 (K1.out.trans (K8.out.mono K1.out.size))).mono ?_
  rintro e w9 ⟨r9, rfl, o9, k9⟩
  obtain ⟨g9, c9, rfl, _⟩ := o9.shape (by rw [HCL.out]; decide)
  have hc9 : 64 ≤ c9 := by obtain ⟨_, _, e, h1, _⟩ := o9.isB; injection e with _ _ e; rw [HCL.out] at h1; omega
  have hc9' : (32 : Int) ≤ (c9 : Int) := by omega
  rw [HCL.out] at o9 ⊢
  have O9 : Hid (IsB w9 (.slice (some ⟨g9, 0, none⟩) 32 c9) U) := by rw [hU.out]; exact o9.isB.take 32 (by decide)
  have O89 : Hid (Own w9 w1.heap.size r8 (B ++ F ++ L3 ++ L4)) := O8.out.below k9
  have K9 : Hid (Below w1.heap.size w1 w9) := K8.out.trans (k9.mono K8.out.size)
  clear o9 k9 O8 K8 C4 hU
  go_wp2_with fail
  refine (C5.out w9 _ _ O9.out O89.out.isB).mono ?_
  rintro e wA ⟨rA, rfl, oA, kA⟩
  have OA := Lib.hid oA
  have KA : Hid (Below w1.heap.size w1 wA) := K9.out.trans (kA.mono K9.out.size)
  have HA : Hid (Own wA w.heap.size (.slice a1 n4 c1) H) := O1.out.below KA.out
  have KAW : Hid (Below w.heap.size w wA) := K1.out.trans (KA.out.mono K1.out.size)
  clear oA kA C5 O9 O89 K9
  go_wp2_with (at_builtin; go_must (refine wpList_app _ rfl _ _ rfl w.heap.size _ H rfl HA.out _ T rfl OA.out.isB OA.out.nil0 HHT.out KAW.out.size ?_))
  intro rB wB oB kB _
  rw [HX.out] at oB
  have OB := Lib.hid oB
  have KB : Hid (Below w.heap.size w wB) := KAW.out.trans kB
  clear oB kB
  go_wp2
  go_ret2
  exact ⟨_, rfl, OB.out, KB.out⟩

end Go.Proofs.YtogklpeehfoijaaDoor
