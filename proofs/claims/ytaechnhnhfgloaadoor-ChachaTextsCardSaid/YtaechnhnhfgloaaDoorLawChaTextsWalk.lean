/-
  THE WALK OF orloplaw04.ChachaTexts: it returns true, and writes nothing that was there. Conditions: the program's table of places lies as it was laid.
-/
import Derived.Test.YtaechnhnhfgloaaDoorChaAsk
import Derived.Test.YtaechnhnhfgloaaDoorChaRefX
namespace Go.Proofs.YtaechnhnhfgloaaDoor
open Go.RowKit
set_option linter.unusedVariables false

set_option maxHeartbeats 40000000 in
theorem chachaTexts_walk (w : World) (hL : LaidP w) (key nonce : List UInt8) (hkl : key.length = 32) (hnl : nonce.length = 12) (c : UInt32) (tv : Value) (text : List UInt8) (ht : IsB w tv text) (hnil : ∀ n c, tv = .slice none n c → c = 0) :
    Calls Tryd.prog 4 #[.agg (askC key nonce c tv).toArray] w fun e w' => e = .returned (.bool true) ∧ Below w.heap.size w w' := by
  have HT := Lib.hid ht
  have HL := Lib.hid hL
  obtain ⟨a3, c3, rfl, ht1, ht2, hat⟩ := ht
  obtain ⟨L, hLn⟩ : ∃ L, L = text.length := ⟨_, rfl⟩
  have HLN := Lib.hid hLn
  rw [← hLn] at HT ht1 hnil ⊢
  unfold maxLen at ht2
  obtain ⟨g, hg⟩ : ∃ g, g = w.heap.size := ⟨_, rfl⟩
  have HAn : Hid (AskAt (w.alloc (.cells (askC key nonce c (.slice a3 L c3)).toArray 34)) g key nonce c (.slice a3 L c3)) := by rw [hg]; exact askAt_new w key nonce c _ hkl hnl
  have KB : Below w.heap.size w (w.alloc (.cells (askC key nonce c (.slice a3 L c3)).toArray 34)) := (Below.refl _ _).alloc (Nat.le_refl _) _
  have HKB := Lib.hid KB
  have HNIL := Lib.hid hnil
  clear hnil
  obtain ⟨X, hX⟩ : ∃ X, Hid (X = (askC key nonce c (.slice a3 L c3)).toArray) := ⟨_, rfl⟩
  rw [← hX.out] at HAn HKB ⊢
  have HKL := Lib.hid hkl
  have HNL := Lib.hid hnl
  clear hat hLn hL KB hkl hnl
  go_enter Tryd.func4, Tryd.ntmps4
  go_wp2_with fail
  rw [← hg]
  clear hg
  refine (chaAwake_any _ (HL.out.below HKB.out HL.out.size)).mono ?_
  rintro e w1 ⟨rfl, k1⟩
  have A1 : Hid (AskAt w1 g key nonce c (.slice a3 L c3)) := HAn.out.below k1
  have K1 : Hid (Below w.heap.size w w1) := HKB.out.trans (k1.mono HKB.out.size)
  clear k1 HAn HKB
  have c44 := A1.out.ctr
  have c45 := A1.out.text
  by_cases hbig : 4096 < L
  · go_wp2
    go_ret
    exact ⟨rfl, K1.out⟩
  · have T1 : Hid (IsB w1 (.slice a3 L c3) text) := HT.out.below K1.out
    have HLE : Hid (text.length ≤ 4096) := by rw [Hid, ← HLN.out]; omega
    have c45b := (A1.out.below ((Below.refl w1.heap.size w1).alloc (Nat.le_refl _) (.cells #[] 5))).text
    go_wp2_with (at_builtin; go_must (refine wpList_app _ rfl _ _ rfl w1.heap.size _ [] rfl ?c1 _ text rfl ?c2 HNIL.out (by simp; have := HLE.out; omega) (by simp) ?_))
    case c1 => exact own_empty w1
    case c2 => exact T1.out.below ((Below.refl _ _).alloc (Nat.le_refl _) _)
    intro r2 w2 o2 b2 _
    have k12 : Below w1.heap.size w1 w2 := ((Below.refl _ _).alloc (Nat.le_refl _) (.cells #[] 5)).trans b2
    have K2 : Hid (Below w.heap.size w w2) := K1.out.trans (k12.mono K1.out.size)
    have O2 : Hid (Own w2 w1.heap.size r2 text) := o2
    have A2 : Hid (AskAt w2 g key nonce c (.slice a3 L c3)) := A1.out.below k12
    have T2 : Hid (IsB w2 (.slice a3 L c3) text) := T1.out.below k12
    clear o2 b2 k12 c44 c45 c45b T1 A1 K1
    obtain ⟨xt, hxt⟩ : ∃ x, Hid (x = M.xo (M.strm key nonce c) text text.length) := ⟨_, rfl⟩
    have HXL : Hid (xt.length = text.length) := by rw [Hid, hxt.out, M.xo_length]
    -- x
    have S2 : Hid (∀ w', Below w2.heap.size w2 w' → w'.cell? ⟨g, 44, none⟩ = some (.int .u32 (c.toNat : Int)) ∧ w'.cell? ⟨g, 45, none⟩ = some (.slice a3 L c3)) := fun w' k => ⟨(A2.out.below k).ctr, (A2.out.below k).text⟩
    have X2 := Lib.hid (xor_ask (HL.out.below K2.out HL.out.size) A2.out r2 text c O2.out.isB (by have := HLE.out; omega))
    rw [← hxt.out] at X2
    have c44 := A2.out.ctr
    go_wp2
    go_region_held3 (fun w' => w'.cell? ⟨g, 44, none⟩ = some (.int .u32 (c.toNat : Int)) ∧ w'.cell? ⟨g, 45, none⟩ = some (.slice a3 L c3))
      (first | exact S2.out _ (below_draws _ 1) | exact S2.out _ k3)
      (first | (go_at_call 11; refine X2.out.mono ?_; rintro e w3 ⟨r3, rfl, o3, k3⟩))
    have O3 : Hid (Own w3 w2.heap.size r3 xt) := o3
    have K3 : Hid (Below w.heap.size w w3) := K2.out.trans (k3.mono K2.out.size)
    have A3 : Hid (AskAt w3 g key nonce c (.slice a3 L c3)) := A2.out.below k3
    have T3 : Hid (IsB w3 (.slice a3 L c3) text) := T2.out.below k3
    have W3 : Hid (IsB w3 r2 text) := O2.out.isB.below k3
    clear o3 k3 S2 X2 A2 T2 c44 O2 K2
    -- y
    have S3 : Hid (∀ w', Below w3.heap.size w3 w' → w'.cell? ⟨g, 44, none⟩ = some (.int .u32 (c.toNat : Int)) ∧ w'.cell? ⟨g, 45, none⟩ = some (.slice a3 L c3)) := fun w' k => ⟨(A3.out.below k).ctr, (A3.out.below k).text⟩
    have X3 := Lib.hid (show Calls Tryd.prog 12 #[.slice (some ⟨g, 0, none⟩) 32 32, .slice (some ⟨g, 32, none⟩) 12 12, .int .u32 (c.toNat : Int), .slice a3 L c3] w3.drew fun e w' =>
        ∃ r, e = .returned (.tuple #[r, .int .i64 0]) ∧ Own w' w3.heap.size r xt ∧ Below w3.heap.size w3 w' from by
      have kd := below_draws w3 1
      have hA := A3.out.below kd
      refine (rxor_any _ _ _ key nonce text c w3.drew hA.key hA.nonce (T3.out.below kd) hA.kl hA.nl HLE.out).mono ?_
      rintro e w' ⟨r, rfl, hO, hB⟩
      exact ⟨r, rfl, by rw [hxt.out]; exact hO, kd.trans hB⟩)
    have c44 := A3.out.ctr
    have c45 := A3.out.text
    go_wp2
    go_region_held3 (fun w' => w'.cell? ⟨g, 44, none⟩ = some (.int .u32 (c.toNat : Int)) ∧ w'.cell? ⟨g, 45, none⟩ = some (.slice a3 L c3))
      (first | exact S3.out _ (below_draws _ 1) | exact S3.out _ k4)
      (first | (go_at_call 12; refine X3.out.mono ?_; rintro e w4 ⟨r4, rfl, o4, k4⟩))
    have O4 : Hid (Own w4 w3.heap.size r4 xt) := o4
    have O34 : Hid (Own w4 w2.heap.size r3 xt) := O3.out.below k4
    have K4 : Hid (Below w.heap.size w w4) := K3.out.trans (k4.mono K3.out.size)
    have A4 : Hid (AskAt w4 g key nonce c (.slice a3 L c3)) := A3.out.below k4
    have T4 : Hid (IsB w4 (.slice a3 L c3) text) := T3.out.below k4
    have W4 : Hid (IsB w4 r2 text) := W3.out.below k4
    clear o4 k4 S3 X3 A3 T3 W3 O3 c44 c45 K3
    -- z
    have S4 : Hid (∀ w', Below w4.heap.size w4 w' → w'.cell? ⟨g, 44, none⟩ = some (.int .u32 (c.toNat : Int)) ∧ w'.cell? ⟨g, 45, none⟩ = some (.slice a3 L c3)) := fun w' k => ⟨(A4.out.below k).ctr, (A4.out.below k).text⟩
    have X4 := Lib.hid (xor_ask (HL.out.below K4.out HL.out.size) A4.out r3 xt c O34.out.isB (by have := HLE.out; have := HXL.out; omega))
    have HTW : Hid (M.xo (M.strm key nonce c) xt xt.length = text) := by
      rw [Hid, HXL.out, hxt.out]
      exact M.xo_twice _ _
    rw [HTW.out] at X4
    have c44 := A4.out.ctr
    go_wp2
    go_region_held3 (fun w' => w'.cell? ⟨g, 44, none⟩ = some (.int .u32 (c.toNat : Int)) ∧ w'.cell? ⟨g, 45, none⟩ = some (.slice a3 L c3))
      (first | exact S4.out _ (below_draws _ 1) | exact S4.out _ k5)
      (first | (go_at_call 11; refine X4.out.mono ?_; rintro e w5 ⟨r5, rfl, o5, k5⟩))
    have O5 : Hid (IsB w5 r5 text) := o5.isB
    have O45 : Hid (IsB w5 r4 xt) := O4.out.isB.below k5
    have O35 : Hid (IsB w5 r3 xt) := O34.out.isB.below k5
    have K5 : Hid (Below w.heap.size w w5) := K4.out.trans (k5.mono K4.out.size)
    have A5 : Hid (AskAt w5 g key nonce c (.slice a3 L c3)) := A4.out.below k5
    have T5 : Hid (IsB w5 (.slice a3 L c3) text) := T4.out.below k5
    have W5 : Hid (IsB w5 r2 text) := W4.out.below k5
    clear o5 k5 S4 X4 A4 T4 W4 O4 O34 c44 K4 HTW
    -- a key of 31 bytes
    have S5 : Hid (∀ w', Below w5.heap.size w5 w' → w'.cell? ⟨g, 44, none⟩ = some (.int .u32 (c.toNat : Int)) ∧ w'.cell? ⟨g, 45, none⟩ = some (.slice a3 L c3)) := fun w' k => ⟨(A5.out.below k).ctr, (A5.out.below k).text⟩
    have X5 := Lib.hid (show Calls Tryd.prog 11 #[.slice (some ⟨g, 0, none⟩) 31 32, .slice (some ⟨g, 32, none⟩) 12 12, .int .u32 (c.toNat : Int), r2] w5.drew fun e w' =>
        e = .returned (.tuple #[.slice none 0 0, .int .i64 1]) ∧ w' = w5.drew from by
      have kd := below_draws w5 1
      have hA := A5.out.below kd
      exact xor_no _ _ _ (key.take 31) nonce c w5.drew hA.key31 hA.nonce (by rw [List.length_take, HKL.out]; omega))
    have c44 := A5.out.ctr
    go_wp2
    go_region_held3 (fun w' => w'.cell? ⟨g, 44, none⟩ = some (.int .u32 (c.toNat : Int)) ∧ w'.cell? ⟨g, 45, none⟩ = some (.slice a3 L c3))
      (first | exact S5.out _ (below_draws _ 1))
      (first | (go_at_call 11; refine X5.out.mono ?_; rintro e w6 ⟨rfl, rfl⟩))
    obtain ⟨w6, hw6⟩ : ∃ w6, w6 = w5.drew := ⟨_, rfl⟩
    have kd : Below w5.heap.size w5 w6 := by rw [hw6]; exact below_draws w5 1
    have O56 : Hid (IsB w6 r5 text) := O5.out.below kd
    have O46 : Hid (IsB w6 r4 xt) := O45.out.below kd
    have O36 : Hid (IsB w6 r3 xt) := O35.out.below kd
    have K6 : Hid (Below w.heap.size w w6) := K5.out.trans (kd.mono K5.out.size)
    have A6 : Hid (AskAt w6 g key nonce c (.slice a3 L c3)) := A5.out.below kd
    have T6 : Hid (IsB w6 (.slice a3 L c3) text) := T5.out.below kd
    have W6 : Hid (IsB w6 r2 text) := W5.out.below kd
    rw [← hw6]
    clear hw6 kd S5 X5 A5 T5 W5 O5 O45 O35 c44 K5
    -- the answer
    go_wp2_with fail
    refine (chaEqual_yes _ _ xt w6 O36.out O46.out).mono ?_
    rintro e w7 ⟨rfl, k7⟩
    have O57 : Hid (IsB w7 r5 text) := O56.out.below k7
    have K7 : Hid (Below w.heap.size w w7) := K6.out.trans (k7.mono K6.out.size)
    have A7 : Hid (AskAt w7 g key nonce c (.slice a3 L c3)) := A6.out.below k7
    have T7 : Hid (IsB w7 (.slice a3 L c3) text) := T6.out.below k7
    have W7 : Hid (IsB w7 r2 text) := W6.out.below k7
    clear k7 O56 A6 T6 W6 K6 O46 O36
    have c45 := A7.out.text
    go_wp2_with fail
    refine (chaEqual_yes _ _ text w7 O57.out T7.out).mono ?_
    rintro e w8 ⟨rfl, k8⟩
    have K8 : Hid (Below w.heap.size w w8) := K7.out.trans (k8.mono K7.out.size)
    have A8 : Hid (AskAt w8 g key nonce c (.slice a3 L c3)) := A7.out.below k8
    have T8 : Hid (IsB w8 (.slice a3 L c3) text) := T7.out.below k8
    have W8 : Hid (IsB w8 r2 text) := W7.out.below k8
    clear k8 c45 O57 A7 T7 W7 K7
    have c45 := A8.out.text
    go_wp2_with fail
    refine (chaEqual_yes _ _ text w8 W8.out T8.out).mono ?_
    rintro e w9 ⟨rfl, k9⟩
    have K9 : Hid (Below w.heap.size w w9) := K8.out.trans (k9.mono K8.out.size)
    clear k9
    go_wp2
    go_ret
    exact ⟨rfl, K9.out⟩

end Go.Proofs.YtaechnhnhfgloaaDoor
