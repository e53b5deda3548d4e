/-
  THE WALK OF orloplaw04.ChachaParts: it returns true, and writes nothing that was there. Conditions: the program's table of places lies as it was laid.
-/
import Derived.Test.YtaechnhnhfgloaaDoorChaAsk
namespace Go.Proofs.YtaechnhnhfgloaaDoor
open Go.RowKit
set_option linter.unusedVariables false

theorem parts_bytes (w : World) (key nonce : List UInt8) (c : UInt32) (text : List UInt8) (b : Nat) (h : 64 * b ≤ text.length) :
    M.xo (M.strm key nonce c) (text.take (64 * b)) (text.take (64 * b)).length ++ M.xo (M.strm key nonce (c + UInt32.ofNat b)) (text.drop (64 * b)) (text.drop (64 * b)).length = M.xo (M.strm key nonce c) text text.length := by
  rw [M.parts key nonce c text b h, List.length_take, List.length_drop, Nat.min_eq_left h]

set_option maxHeartbeats 40000000 in
theorem chachaParts_walk (w : World) (hL : LaidP w) (key nonce : List UInt8) (hkl : key.length = 32) (hnl : nonce.length = 12) (c : UInt32) (tv : Value) (text : List UInt8) (ht : IsB w tv text) (hnil : ∀ n c, tv = .slice none n c → c = 0) (m : Nat) (hm : m < 256) :
    Calls Tryd.prog 5 #[.agg (askC key nonce c tv).toArray, .int .u8 m] w fun e w' => e = .returned (.bool true) ∧ Below w.heap.size w w' := by
  have HT := Lib.hid ht
  have HL := Lib.hid hL
  obtain ⟨a3, c3, rfl, ht1, ht2, hat⟩ := ht
  obtain ⟨L, hLn⟩ : ∃ L, L = text.length := ⟨_, rfl⟩
  have HLN := Lib.hid hLn
  rw [← hLn] at HT ht1 ⊢
  unfold maxLen at ht2
  obtain ⟨b, hb⟩ : ∃ b, b = m % 40 := ⟨_, rfl⟩
  have hb40 : b < 40 := by omega
  have hmb : (m : Int) % 40 = (b : Int) := by omega
  obtain ⟨g, hg⟩ : ∃ g, g = w.heap.size := ⟨_, rfl⟩
  have HAn : Hid (AskAt (w.alloc (.cells (askC key nonce c (.slice a3 L c3)).toArray 34)) g key nonce c (.slice a3 L c3)) := by rw [hg]; exact askAt_new w key nonce c _ hkl hnl
  have KB : Below w.heap.size w (w.alloc (.cells (askC key nonce c (.slice a3 L c3)).toArray 34)) := (Below.refl _ _).alloc (Nat.le_refl _) _
  have HKB := Lib.hid KB
  have HNIL := Lib.hid hnil
  clear hnil
  obtain ⟨X, hX⟩ : ∃ X, Hid (X = (askC key nonce c (.slice a3 L c3)).toArray) := ⟨_, rfl⟩
  rw [← hX.out] at HAn HKB ⊢
  clear hat hLn hb hL KB hkl hnl
  go_enter Tryd.func5, Tryd.ntmps5
  go_wp2_with fail
  rw [← hg]
  clear hg
  refine (chaAwake_any _ (HL.out.below HKB.out HL.out.size)).mono ?_
  rintro e w1 ⟨rfl, k1⟩
  have A1 : Hid (AskAt w1 g key nonce c (.slice a3 L c3)) := HAn.out.below k1
  have K1 : Hid (Below w.heap.size w w1) := HKB.out.trans (k1.mono HKB.out.size)
  clear k1
  have c44 := A1.out.ctr
  have c45 := A1.out.text
  by_cases hbig : 4096 < L
  · go_wp2
    go_ret
    exact ⟨rfl, K1.out⟩
  · by_cases hno : L < 64 * b
    · go_wp2
      go_ret
      exact ⟨rfl, K1.out⟩
    · have T1 : Hid (IsB w1 (.slice a3 L c3) text) := HT.out.below K1.out
      have S1 : Hid (∀ w', Below w1.heap.size w1 w' → w'.cell? ⟨g, 44, none⟩ = some (.int .u32 (c.toNat : Int)) ∧ w'.cell? ⟨g, 45, none⟩ = some (.slice a3 L c3)) := fun w' k => ⟨(A1.out.below k).ctr, (A1.out.below k).text⟩
      have X1 := Lib.hid (xor_ask (HL.out.below K1.out HL.out.size) A1.out (.slice a3 L c3) text c T1.out (by rw [← HLN.out]; omega))
      go_wp2
      go_region_held3 (fun w' => w'.cell? ⟨g, 44, none⟩ = some (.int .u32 (c.toNat : Int)) ∧ w'.cell? ⟨g, 45, none⟩ = some (.slice a3 L c3))
        (first | exact S1.out _ (below_draws _ 1) | exact S1.out _ k2)
        (first | (go_at_call 11; refine X1.out.mono ?_; rintro e w2 ⟨r2, rfl, o2, k2⟩))
      have O2 := Lib.hid o2
      have K2 : Hid (Below w.heap.size w w2) := K1.out.trans (k2.mono K1.out.size)
      have A2 : Hid (AskAt w2 g key nonce c (.slice a3 L c3)) := A1.out.below k2
      have T2 : Hid (IsB w2 (.slice a3 L c3) text) := T1.out.below k2
      clear o2 k2 S1 X1 T1
      obtain ⟨N, hN⟩ : ∃ N, N = 64 * b := ⟨_, rfl⟩
      have hN0 : 64 * (b : Int) = (N : Int) := by omega
      have hNL : N ≤ L := by omega
      have HNN := Lib.hid hN
      have hi1 : (N : Int) ≤ (L : Int) := by omega
      have hi2 : (N : Int) ≤ (c3 : Int) := by omega
      have hi0 : (0 : Int) ≤ (N : Int) := by omega
      have TT : Hid (IsB w2 (.slice a3 N c3) (text.take N)) := isB_takeC T2.out N hNL
      have S2 : Hid (∀ w', Below w2.heap.size w2 w' → w'.cell? ⟨g, 44, none⟩ = some (.int .u32 (c.toNat : Int)) ∧ w'.cell? ⟨g, 45, none⟩ = some (.slice a3 L c3)) := fun w' k => ⟨(A2.out.below k).ctr, (A2.out.below k).text⟩
      have X2 := Lib.hid (xor_ask (HL.out.below K2.out HL.out.size) A2.out (.slice a3 N c3) (text.take N) c TT.out (by rw [List.length_take]; omega))
      clear hN c44 c45
      go_wp2
      go_region_held3 (fun w' => w'.cell? ⟨g, 44, none⟩ = some (.int .u32 (c.toNat : Int)) ∧ w'.cell? ⟨g, 45, none⟩ = some (.slice a3 L c3))
        (first | exact S2.out _ (below_draws _ 1) | exact S2.out _ k3)
        (first | (go_at_call 11; refine X2.out.mono ?_; rintro e w3 ⟨r3, rfl, o3, k3⟩))
      have O3 := Lib.hid o3
      have K23 : Hid (Below w2.heap.size w2 w3) := k3
      have K3 : Hid (Below w.heap.size w w3) := K2.out.trans (k3.mono K2.out.size)
      have A3 : Hid (AskAt w3 g key nonce c (.slice a3 L c3)) := A2.out.below k3
      have T3 : Hid (IsB w3 (.slice a3 L c3) text) := T2.out.below k3
      clear o3 k3 S2 X2 T2 TT A2
      obtain ⟨d, hd⟩ : ∃ d, Hid (d = c + UInt32.ofNat b) := ⟨_, rfl⟩
      have hq : (N : Int) / 64 = (b : Int) := by have := HNN.out; omega
      have hdn : d.toNat = (c.toNat + b) % 4294967296 := by rw [hd.out, UInt32.toNat_add, UInt32.toNat_ofNat', Nat.mod_eq_of_lt (show b < 2 ^ 32 by omega)]
      have s1 : ((c.toNat : Int) + (b : Int)) % 4294967296 = (d.toNat : Int) := by omega
      have s2 : IntKind.u32.wrap ((c.toNat : Int) + (b : Int)) = (d.toNat : Int) := s1
      have S3 : Hid (∀ w', Below w3.heap.size w3 w' → w'.cell? ⟨g, 44, none⟩ = some (.int .u32 (c.toNat : Int)) ∧ w'.cell? ⟨g, 45, none⟩ = some (.slice a3 L c3)) := fun w' k => ⟨(A3.out.below k).ctr, (A3.out.below k).text⟩
      have w1b : IntKind.i64.wrap (b : Int) = (b : Int) := IntWalk.i64_in _ (by omega)
      have w2b : IntKind.u32.wrap (b : Int) = (b : Int) := by rw [show IntKind.u32.wrap (b : Int) = (b : Int) % 4294967296 from rfl]; omega
      have X3 := Lib.hid (show ∀ v, IsB w3 v (text.drop N) → Calls Tryd.prog 11 #[.slice (some ⟨g, 0, none⟩) 32 32, .slice (some ⟨g, 32, none⟩) 12 12, .int .u32 (d.toNat : Int), v] w3.drew fun e w' =>
          ∃ r, e = .returned (.tuple #[r, .int .i64 0]) ∧ Own w' w3.heap.size r (M.xo (M.strm key nonce d) (text.drop N) (text.drop N).length) ∧ Below w3.heap.size w3 w' from
        fun v hv => xor_ask (HL.out.below K3.out HL.out.size) A3.out v (text.drop N) d hv (by rw [List.length_drop]; have := HLN.out; omega))
      have HEND : Hid (M.xo (M.strm key nonce c) (text.take N) (text.take N).length ++ M.xo (M.strm key nonce d) (text.drop N) (text.drop N).length = M.xo (M.strm key nonce c) text text.length) := by
        rw [Hid, HNN.out, hd.out]
        exact parts_bytes w key nonce c text b (by have := HNN.out; have := HLN.out; omega)
      have HL1 : Hid ((M.xo (M.strm key nonce c) (text.take N) (text.take N).length).length + (M.xo (M.strm key nonce d) (text.drop N) (text.drop N).length).length ≤ 140737488355328) := by
        rw [Hid, M.xo_length, M.xo_length, List.length_take, List.length_drop]; have := HLN.out; omega
      clear hdn
      cases a3 with
      | none =>
        obtain rfl : c3 = 0 := HNIL.out _ _ rfl
        obtain rfl : L = 0 := by omega
        obtain rfl : N = 0 := by omega
        have hnl : text.drop 0 = [] := by rw [List.drop_zero]; exact List.eq_nil_of_length_eq_zero HLN.out.symm
        have V4 : Hid (∀ ao, IsB w3 (.slice ao 0 0) (text.drop 0)) := fun ao => isB_zeroC w3 ao 0 (Nat.zero_le _) hnl rfl
        clear hnl
        have hb0 : b = 0 := by have := HNN.out; omega
        have E0 : IntKind.u32.wrap ((c.toNat : Int) + IntKind.u32.wrap (IntKind.i64.wrap 0)) = (d.toNat : Int) := by
          rw [show IntKind.u32.wrap (IntKind.i64.wrap 0) = 0 from rfl]
          rw [hb0] at s2
          exact s2
        have X3' := Lib.hid (show ∀ v, IsB w3 v (text.drop 0) → Calls Tryd.prog 11 #[.slice (some ⟨g, 0, none⟩) 32 32, .slice (some ⟨g, 32, none⟩) 12 12, .int .u32 (IntKind.u32.wrap ((c.toNat : Int) + IntKind.u32.wrap (IntKind.i64.wrap 0))), v] w3.drew fun e w' =>
            ∃ r, e = .returned (.tuple #[r, .int .i64 0]) ∧ Own w' w3.heap.size r (M.xo (M.strm key nonce d) (text.drop 0) (text.drop 0).length) ∧ Below w3.heap.size w3 w' from by
          rw [E0]
          exact X3.out)
        clear E0 hb0
        go_wp2
        go_region_held3 (fun w' => w'.cell? ⟨g, 44, none⟩ = some (.int .u32 (c.toNat : Int)) ∧ w'.cell? ⟨g, 45, none⟩ = some (.slice none 0 0))
          (first | exact S3.out _ (below_draws _ 1) | exact S3.out _ k4)
          (first | (go_at_call 11; refine (X3'.out _ (V4.out _)).mono ?_; rintro e w4 ⟨r4, rfl, o4, k4⟩))
        have O4 := Lib.hid o4
        have O3' := Lib.hid (O3.out.below k4)
        have K4 : Hid (Below w.heap.size w w4) := K3.out.trans (k4.mono K3.out.size)
        have K24 : Hid (Below w2.heap.size w2 w4) := K23.out.trans (k4.mono K23.out.size)
        clear o4 k4 S3 X3 X3' A3 T3 O3
        go_wp2_with (at_builtin; go_must (refine wpList_unguard rfl (wpList_app _ rfl _ _ rfl w2.heap.size _ _ rfl O3'.out r4 _ rfl O4.out.isB O4.out.nil0 HL1.out K24.out.size ?_)))
        intro r5 w5 o5 k5 _
        have O5 : Hid (Own w5 w2.heap.size r5 (M.xo (M.strm key nonce c) text text.length)) := by
          rw [Hid, ← HEND.out, List.length_take, List.length_drop]
          exact o5
        have K5 : Hid (Below w.heap.size w w5) := K4.out.trans (k5.mono K2.out.size)
        have O25 : Hid (Own w5 w1.heap.size r2 (M.xo (M.strm key nonce c) text text.length)) := O2.out.below (K24.out.trans k5)
        clear o5 k5 K24 K4 O3' O4
        go_wp2_with fail
        refine (chaEqual_yes _ _ (M.xo (M.strm key nonce c) text text.length) w5 O25.out.isB O5.out.isB).mono ?_
        rintro e w6 ⟨rfl, k6⟩
        go_wp2
        go_ret
        exact ⟨rfl, K5.out.trans (k6.mono K5.out.size)⟩
      | some ad =>
        by_cases hcN : c3 = N
        · have hLN : L = N := by omega
          subst hcN
          subst hLN
          have V4 : Hid (∀ ao, IsB w3 (.slice ao 0 0) (text.drop L)) := fun ao => isB_zeroC w3 ao 0 (Nat.zero_le _) (List.drop_eq_nil_of_le (by have := HLN.out; omega)) rfl
          go_wp2
          go_region_held3 (fun w' => w'.cell? ⟨g, 44, none⟩ = some (.int .u32 (c.toNat : Int)) ∧ w'.cell? ⟨g, 45, none⟩ = some (.slice (some ad) L L))
            (first | exact S3.out _ (below_draws _ 1) | exact S3.out _ k4)
            (first | (go_at_call 11; refine (X3.out _ (V4.out _)).mono ?_; rintro e w4 ⟨r4, rfl, o4, k4⟩))
          have O4 := Lib.hid o4
          have O3' := Lib.hid (O3.out.below k4)
          have K4 : Hid (Below w.heap.size w w4) := K3.out.trans (k4.mono K3.out.size)
          have K24 : Hid (Below w2.heap.size w2 w4) := K23.out.trans (k4.mono K23.out.size)
          clear o4 k4 S3 X3 A3 T3 O3
          go_wp2_with (at_builtin; go_must (refine wpList_unguard rfl (wpList_app _ rfl _ _ rfl w2.heap.size _ _ rfl O3'.out r4 _ rfl O4.out.isB O4.out.nil0 HL1.out K24.out.size ?_)))
          intro r5 w5 o5 k5 _
          have O5 : Hid (Own w5 w2.heap.size r5 (M.xo (M.strm key nonce c) text text.length)) := by
            rw [Hid, ← HEND.out, List.length_take, List.length_drop]
            exact o5
          have K5 : Hid (Below w.heap.size w w5) := K4.out.trans (k5.mono K2.out.size)
          have O25 : Hid (Own w5 w1.heap.size r2 (M.xo (M.strm key nonce c) text text.length)) := O2.out.below (K24.out.trans k5)
          clear o5 k5 K24 K4 O3' O4
          go_wp2_with fail
          refine (chaEqual_yes _ _ (M.xo (M.strm key nonce c) text text.length) w5 O25.out.isB O5.out.isB).mono ?_
          rintro e w6 ⟨rfl, k6⟩
          go_wp2
          go_ret
          exact ⟨rfl, K5.out.trans (k6.mono K5.out.size)⟩
        · have V4 : Hid (IsB w3 (.slice (some (ad.add N)) (L - N) (c3 - N)) (text.drop N)) := isB_addC T3.out N hNL
          go_wp2
          go_region_held3 (fun w' => w'.cell? ⟨g, 44, none⟩ = some (.int .u32 (c.toNat : Int)) ∧ w'.cell? ⟨g, 45, none⟩ = some (.slice (some ad) L c3))
            (first | exact S3.out _ (below_draws _ 1) | exact S3.out _ k4)
            (first | (go_at_call 11; refine (X3.out _ (V4.out)).mono ?_; rintro e w4 ⟨r4, rfl, o4, k4⟩))
          have O4 := Lib.hid o4
          have O3' := Lib.hid (O3.out.below k4)
          have K4 : Hid (Below w.heap.size w w4) := K3.out.trans (k4.mono K3.out.size)
          have K24 : Hid (Below w2.heap.size w2 w4) := K23.out.trans (k4.mono K23.out.size)
          clear o4 k4 S3 X3 A3 T3 O3
          go_wp2_with (at_builtin; go_must (refine wpList_unguard rfl (wpList_app _ rfl _ _ rfl w2.heap.size _ _ rfl O3'.out r4 _ rfl O4.out.isB O4.out.nil0 HL1.out K24.out.size ?_)))
          intro r5 w5 o5 k5 _
          have O5 : Hid (Own w5 w2.heap.size r5 (M.xo (M.strm key nonce c) text text.length)) := by
            rw [Hid, ← HEND.out, List.length_take, List.length_drop]
            exact o5
          have K5 : Hid (Below w.heap.size w w5) := K4.out.trans (k5.mono K2.out.size)
          have O25 : Hid (Own w5 w1.heap.size r2 (M.xo (M.strm key nonce c) text text.length)) := O2.out.below (K24.out.trans k5)
          clear o5 k5 K24 K4 O3' O4
          go_wp2_with fail
          refine (chaEqual_yes _ _ (M.xo (M.strm key nonce c) text text.length) w5 O25.out.isB O5.out.isB).mono ?_
          rintro e w6 ⟨rfl, k6⟩
          go_wp2
          go_ret
          exact ⟨rfl, K5.out.trans (k6.mono K5.out.size)⟩

end Go.Proofs.YtaechnhnhfgloaaDoor
