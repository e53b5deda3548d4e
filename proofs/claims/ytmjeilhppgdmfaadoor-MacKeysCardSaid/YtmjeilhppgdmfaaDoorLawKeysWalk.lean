/-
  THE WALK OF orloplaw03.MacKeys: it returns true, and writes nothing that was there. Conditions: the program's two tables of layer 2 lie as they were laid.
-/
import Derived.Test.YtmjeilhppgdmfaaDoorMacAwake
import Derived.Test.YtmjeilhppgdmfaaDoorZeros
import Derived.Deep.CutRange
import Derived.Deep.RegionWith
namespace Go.Proofs.YtmjeilhppgdmfaaDoor
open Go.RowKit
set_option linter.unusedVariables false

theorem isB_zeros (w : World) (t : TypeId) (n : Nat) (hn : n ≤ maxLen) : IsB (w.alloc (.cells (Array.replicate n (.int .u8 0)) t)) (.slice (some ⟨w.heap.size, 0, none⟩) n n) (List.replicate n 0) := by
  refine ⟨_, n, by simp, by simp, hn, .inr ⟨w.heap.size, 0, rfl, fun i hi => ?_⟩⟩
  have hi' : i < n := by simpa using hi
  rw [Nat.zero_add, (Blk.new w t _).cell]
  simp [hi']

def zeros32 : Array Value := Array.replicate 32 (.int .u8 0)

theorem make32 (w : World) : (Instr.makeSlice 22 (.int .i64 32) (.int .i64 32)).run Tryd.prog w = .ok (.slice (some ⟨w.heap.size, 0, none⟩) 32 32) (w.alloc (.cells zeros32 5)) := by
  obtain ⟨i0, h0, hz0, hz1, hz2⟩ := info_parts Tryd.info5
  have hrun := run_make (P := Tryd.prog) w 22 5 i0 (.int .u8 0) Tryd.underlying22 h0 hz0 .i64 .i64 32 32 (by omega) (by omega) (by rw [hz2]; omega) (by omega)
  rw [hrun]
  have e : madeCells (Value.int IntKind.u8 0).cells (Int.toNat 32 * i0.size) = zeros32 := by
    apply Array.ext'
    rw [hz1]
    exact toList_madeCells_one _ _
  rw [e]
  rfl

theorem isB_zeros32 (w : World) (t : TypeId) : IsB (w.alloc (.cells zeros32 t)) (.slice (some ⟨w.heap.size, 0, none⟩) 32 32) (List.replicate 32 0) := isB_zeros w t 32 (by unfold maxLen; omega)

theorem mac_sha (key m : List UInt8) (h : 64 < key.length) : M.mac (M.sha key) m = M.mac key m := by rw [M.mac, M.mac, M.block_sha key h]

theorem mac_pad (key m : List UInt8) (n : Nat) (h : key.length + n ≤ 64) : M.mac (key ++ List.replicate n 0) m = M.mac key m := by rw [M.mac, M.mac, M.block_zeros key n h]

set_option maxHeartbeats 2000000 in
theorem macKeys_walk (w : World) (hL : Laid w) (v1 : Value) (xs : List UInt8) (h1 : IsB w v1 xs) (hn1 : ∀ n c, v1 = .slice none n c → c = 0) (v2 : Value) (ys : List UInt8) (h2 : IsB w v2 ys) (hn2 : ∀ n c, v2 = .slice none n c → c = 0) :
    Calls Tryd.prog 6 #[v1, v2] w fun e w' => e = .returned (.bool true) ∧ Below w.heap.size w w' := by
  obtain ⟨ao1, cap1, rfl⟩ := h1.shape
  obtain ⟨ao2, cap2, rfl⟩ := h2.shape
  have hl1 : xs.length ≤ maxLen := by obtain ⟨_, _, _, h1, h2, _⟩ := h1; omega
  have hl2 : ys.length ≤ maxLen := by obtain ⟨_, _, _, h1, h2, _⟩ := h2; omega
  unfold maxLen at hl1 hl2
  have HN1 := Lib.hid hn1
  have H1 := Lib.hid h1
  have H2 := Lib.hid h2
  have HL := Lib.hid hL
  clear hn1 hn2 h1 h2 hL
  by_cases hb : 1000 < xs.length
  · go_enter Tryd.func6, Tryd.ntmps6
    go_wp2_with fail
    refine (macAwake_any w HL.out).mono ?_
    rintro e w1 ⟨rfl, k⟩
    go_wp2
    go_ret
    exact ⟨rfl, k⟩
  · by_cases hb2 : 1000 < ys.length
    · go_enter Tryd.func6, Tryd.ntmps6
      go_wp2_with fail
      refine (macAwake_any w HL.out).mono ?_
      rintro e w1 ⟨rfl, k⟩
      go_wp2
      go_ret
      exact ⟨rfl, k⟩
    · have hx : xs.length ≤ 1000 := by omega
      have hy : ys.length ≤ 1000 := by omega
      obtain ⟨E, hE⟩ : ∃ E, E = M.mac [] ys := ⟨_, rfl⟩
      have C1 := Lib.hid (show ∀ w', Below w.heap.size w w' → Calls Tryd.prog 11 #[.slice none 0 0, .slice ao2 ys.length cap2] w' (fun e w1 => ∃ r, e = .returned r ∧ IsB w1 r E ∧ Below w.heap.size w w1 ∧ Below w'.heap.size w' w1) from fun w' k => by
        refine (extract_any _ _ [] ys w' (HL.out.below k HL.out.size) (IsB.nil w') (H2.out.below k) (by simp) (by omega)).mono ?_
        rintro e w1 ⟨r, rfl, o, k1⟩
        rw [hE]
        exact ⟨r, rfl, o.isB, k.trans (k1.mono k.size), k1⟩)
      have C2 := Lib.hid (show ∀ w' v, Below w.heap.size w w' → IsB w' v (List.replicate 32 0) → Calls Tryd.prog 11 #[v, .slice ao2 ys.length cap2] w' (fun e w1 => ∃ r, e = .returned r ∧ IsB w1 r E ∧ Below w.heap.size w w1 ∧ Below w'.heap.size w' w1) from fun w' v k hv => by
        refine (extract_any _ _ _ ys w' (HL.out.below k HL.out.size) hv (H2.out.below k) (by simp) (by omega)).mono ?_
        rintro e w1 ⟨r, rfl, o, k1⟩
        rw [hE, ← mac_zeros]
        exact ⟨r, rfl, o.isB, k.trans (k1.mono k.size), k1⟩)
      have C3 := Lib.hid (show ∀ w' v u, Below w.heap.size w w' → IsB w' v E → IsB w' u E → Calls Tryd.prog 8 #[v, u] w' (fun e w1 => e = .returned (.bool true) ∧ Below w.heap.size w w1 ∧ Below w'.heap.size w' w1) from fun w' v u k hv hu => by
        refine (requal_yes v u E w' hv hu).mono ?_
        rintro e w1 ⟨rfl, k1⟩
        exact ⟨rfl, k.trans (k1.mono k.size), k1⟩)
      clear hE
      go_enter Tryd.func6, Tryd.ntmps6
      go_wp2_with fail
      refine (macAwake_any w HL.out).mono ?_
      rintro e w1 ⟨rfl, k1⟩
      go_wp2_with fail
      refine (mac_any _ _ xs ys w1 (HL.out.below k1 HL.out.size) (H1.out.below k1) (H2.out.below k1) (by omega) (by omega)).mono ?_
      rintro e w2 ⟨r2, rfl, o2, b2⟩
      have k2 : Below w.heap.size w w2 := k1.trans (b2.mono k1.size)
      have O2 := Lib.hid o2
      clear o2 b2 k1
      have hmk := make32
      go_wp2_with fail
      go_region_held3 (fun _ => True) (trivial)
        (first
          | (go_at_call_of 11 (Value.slice none 0 0); refine (C1.out _ ?_).mono ?_; (first | exact k2.drew | exact (k2.drew.alloc (by exact k2.size) _)); rintro e wa ⟨ra, rfl, oa, ka, la⟩)
          | (go_at_call 11; refine (C2.out _ _ ?_ ?_).mono ?_; (first | exact ka | exact (ka.alloc ka.size _)); (first | exact isB_zeros32 _ _ | exact ((isB_zeros32 w2 _).below (Below.refl _ _).drew).below la); rintro e wb ⟨rb, rfl, ob, kb, lb⟩)
          | (go_at_call 8; refine (C3.out _ _ _ kb ?_ ob).mono ?_; (first | exact oa.below lb | exact (oa.below ((Below.refl _ _).alloc (Nat.le_refl _) _)).below lb); rintro e wc ⟨rfl, kc, lc⟩))
      all_goals
        have hz : Below w2.heap.size w2 wc := by
          have s1 := la.size
          have s2 := lb.size
          have e0 : w2.drew.heap.size = w2.heap.size := rfl
          simp at s1 s2
          first
            | exact ((((Below.refl _ _).drew.trans la).alloc (by omega) _).trans (lb.mono (by simp; omega))).trans (lc.mono (by omega))
            | exact ((((Below.refl _ _).alloc (Nat.le_refl _) _).drew.trans (la.mono (by show w2.heap.size ≤ (w2.alloc _).heap.size; simp))).trans (lb.mono (by omega))).trans (lc.mono (by omega))
        have R2 : Hid (IsB wc r2 (M.mac xs ys)) := O2.out.isB.below hz
        clear hz la lb lc oa ob ka kb O2 k2
        have hsc : w.heap.size ≤ wc.heap.size := kc.size
        by_cases h64 : 64 < xs.length
        · have h64' : (64 : Int) < (xs.length : Int) := by omega
          go_wp2_with fail
          refine (of_any _ xs wc (HL.out.below kc HL.out.size) (H1.out.below kc) (by omega)).mono ?_
          rintro e w5 ⟨r5, rfl, o5, b5⟩
          have k5 : Below w.heap.size w w5 := kc.trans (b5.mono kc.size)
          have O5 := Lib.hid o5
          have R5 := Lib.hid (R2.out.below b5)
          clear o5 b5 R2
          go_wp2_with fail
          refine (mac_any _ _ (M.sha xs) ys w5 (HL.out.below k5 HL.out.size) O5.out.isB (H2.out.below k5) (by rw [M.sha_length]; omega) (by omega)).mono ?_
          rintro e w6 ⟨r6, rfl, o6, b6⟩
          have k6 : Below w.heap.size w w6 := k5.trans (b6.mono k5.size)
          rw [mac_sha xs ys h64] at o6
          have O6 := Lib.hid o6
          have R6 := Lib.hid (R5.out.below b6)
          clear o6 b6 R5 O5 k5
          go_wp2_with fail
          refine (requal_yes _ _ (M.mac xs ys) w6 R6.out O6.out.isB).mono ?_
          rintro e w7 ⟨rfl, b7⟩
          have k7 : Below w.heap.size w w7 := k6.trans (b7.mono k6.size)
          go_wp2
          go_ret
          exact ⟨rfl, k7⟩
        · have h64' : ¬ (64 : Int) < (xs.length : Int) := by omega
          obtain ⟨m, hm⟩ : ∃ m : Nat, m = 64 - xs.length := ⟨_, rfl⟩
          have hm2 : (64 : Int) - (xs.length : Int) = (m : Int) := by omega
          have HMM := Lib.hid hm
          have hm64 : m ≤ 64 := by omega
          clear hm
          go_wp2_with (at_builtin; go_must (refine wpList_app _ rfl _ _ rfl wc.heap.size _ [] rfl (own_empty wc) _ xs rfl ((H1.out.below kc).below ((Below.refl _ _).alloc (Nat.le_refl _) _)) HN1.out (by simp; omega) (by simp) ?_))
          intro r5 w5 o5 b5 _
          have b5' : Below wc.heap.size wc w5 := ((Below.refl _ _).alloc (Nat.le_refl _) (.cells #[] 5)).trans b5
          have k5 : Below w.heap.size w w5 := kc.trans (b5'.mono hsc)
          have O5 := Lib.hid o5
          have hs5 : wc.heap.size ≤ w5.heap.size := b5'.size
          have B5 := Lib.hid b5'
          clear o5 b5 b5'
          go_wp2_with (at_builtin; go_must (refine wpList_app_zeros _ rfl _ _ rfl wc.heap.size _ xs rfl O5.out m rfl (by omega) hs5 ?_))
          intro r6 w6 o6 b6
          have k6 : Below w.heap.size w w6 := k5.trans (b6.mono hsc)
          have O6 := Lib.hid o6
          have R6 := Lib.hid (show IsB w6 r2 (M.mac xs ys) from R2.out.below (B5.out.trans b6))
          clear o6 b6 O5 B5 R2
          go_wp2_with fail
          refine (mac_any _ _ (xs ++ List.replicate m 0) ys w6 (HL.out.below k6 HL.out.size) O6.out.isB (H2.out.below k6) (by simp; omega) (by omega)).mono ?_
          rintro e w7 ⟨r7, rfl, o7, b7⟩
          rw [mac_pad xs ys m (by have := HMM.out; omega)] at o7
          have O7 := Lib.hid o7
          have R7 := Lib.hid (R6.out.below b7)
          have k7 : Below w.heap.size w w7 := k6.trans (b7.mono k6.size)
          clear o7 b7 O6 R6
          go_wp2_with fail
          refine (requal_yes _ _ (M.mac xs ys) w7 R7.out O7.out.isB).mono ?_
          rintro e w8 ⟨rfl, b8⟩
          have k8 : Below w.heap.size w w8 := k7.trans (b8.mono k7.size)
          go_wp2
          go_ret
          exact ⟨rfl, k8⟩

end Go.Proofs.YtmjeilhppgdmfaaDoor
