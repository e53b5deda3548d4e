/-
  THE WALK OF orloplaw03.MacExpands: it returns true, and writes nothing that was there. Conditions: the program's two tables of layer 2 lie as they were laid.
-/
import Derived.Test.YtmjeilhppgdmfaaDoorMacAwake
namespace Go.Proofs.YtmjeilhppgdmfaaDoor
open Go.RowKit
set_option linter.unusedVariables false

set_option maxHeartbeats 4000000 in
theorem macExpands_walk (w : World) (hL : Laid w) (sv kv iv : Value) (ss ks is : List UInt8) (n : Int) (hn : (Lit.int .i64 n).wf = true) (hs : IsB w sv ss) (hsn : ∀ n c, sv = .slice none n c → c = 0) (hk : IsB w kv ks) (hkn : ∀ n c, kv = .slice none n c → c = 0) (hi : IsB w iv is) (hin : ∀ n c, iv = .slice none n c → c = 0) :
    Calls Tryd.prog 4 #[.agg #[sv, kv, iv, .int .i64 n]] w fun e w' => e = .returned (.bool true) ∧ Below w.heap.size w w' := by
  obtain ⟨ao1, cap1, rfl⟩ := hs.shape
  obtain ⟨ao2, cap2, rfl⟩ := hk.shape
  obtain ⟨ao3, cap3, rfl⟩ := hi.shape
  have hl1 : ss.length ≤ maxLen := by obtain ⟨_, _, _, h1, h2, _⟩ := hs; omega
  have hl2 : ks.length ≤ maxLen := by obtain ⟨_, _, _, h1, h2, _⟩ := hk; omega
  have hl3 : is.length ≤ maxLen := by obtain ⟨_, _, _, h1, h2, _⟩ := hi; omega
  unfold maxLen at hl1 hl2 hl3
  have HS := Lib.hid hs
  have HSN := Lib.hid hsn
  have HK := Lib.hid hk
  have HKN := Lib.hid hkn
  have HI := Lib.hid hi
  have HIN := Lib.hid hin
  have HL := Lib.hid hL
  have kB : Below w.heap.size w (w.alloc (.cells #[.slice ao1 ss.length cap1, .slice ao2 ks.length cap2, .slice ao3 is.length cap3, .int .i64 n] 27)) := (Below.refl _ _).alloc (Nat.le_refl _) _
  have KB := Lib.hid kB
  have CELL := Lib.hid (show ∀ (j : Nat) (u : Value), [Value.slice ao1 ss.length cap1, .slice ao2 ks.length cap2, .slice ao3 is.length cap3, .int .i64 n][j]? = some u → ∀ w1, Below (w.alloc (.cells #[.slice ao1 ss.length cap1, .slice ao2 ks.length cap2, .slice ao3 is.length cap3, .int .i64 n] 27)).heap.size (w.alloc (.cells #[.slice ao1 ss.length cap1, .slice ao2 ks.length cap2, .slice ao3 is.length cap3, .int .i64 n] 27)) w1 → w1.cell? ⟨w.heap.size, j, none⟩ = some u from fun j u hj w1 b1 => by
    rw [b1.cell (by show w.heap.size < _; simp), (Blk.newAt w _ _ w.heap.size _ rfl rfl).cell]
    exact hj)
  clear hs hsn hk hkn hi hin hL kB
  by_cases hb1 : 500 < ss.length
  · have hb1' : (500 : Int) < (ss.length : Int) := by omega
    go_enter Tryd.func4, Tryd.ntmps4
    go_wp2_with fail
    refine (macAwake_any _ (HL.out.below KB.out HL.out.size)).mono ?_
    rintro e w1 ⟨rfl, b1⟩
    have k1 : Below w.heap.size w w1 := KB.out.trans (b1.mono KB.out.size)
    have c0 := CELL.out 0 _ rfl w1 b1
    have c1 := CELL.out 1 _ rfl w1 b1
    have c2 := CELL.out 2 _ rfl w1 b1
    have c3 := CELL.out 3 _ rfl w1 b1
    clear b1
    go_wp2
    go_ret
    exact ⟨rfl, k1⟩
  by_cases hb2 : 500 < ks.length
  · have hb1' : ¬ (500 : Int) < (ss.length : Int) := by omega
    have hb2' : (500 : Int) < (ks.length : Int) := by omega
    go_enter Tryd.func4, Tryd.ntmps4
    go_wp2_with fail
    refine (macAwake_any _ (HL.out.below KB.out HL.out.size)).mono ?_
    rintro e w1 ⟨rfl, b1⟩
    have k1 : Below w.heap.size w w1 := KB.out.trans (b1.mono KB.out.size)
    have c0 := CELL.out 0 _ rfl w1 b1
    have c1 := CELL.out 1 _ rfl w1 b1
    have c2 := CELL.out 2 _ rfl w1 b1
    have c3 := CELL.out 3 _ rfl w1 b1
    clear b1
    go_wp2
    go_ret
    exact ⟨rfl, k1⟩
  by_cases hb3 : 500 < is.length
  · have hb1' : ¬ (500 : Int) < (ss.length : Int) := by omega
    have hb2' : ¬ (500 : Int) < (ks.length : Int) := by omega
    have hb3' : (500 : Int) < (is.length : Int) := by omega
    go_enter Tryd.func4, Tryd.ntmps4
    go_wp2_with fail
    refine (macAwake_any _ (HL.out.below KB.out HL.out.size)).mono ?_
    rintro e w1 ⟨rfl, b1⟩
    have k1 : Below w.heap.size w w1 := KB.out.trans (b1.mono KB.out.size)
    have c0 := CELL.out 0 _ rfl w1 b1
    have c1 := CELL.out 1 _ rfl w1 b1
    have c2 := CELL.out 2 _ rfl w1 b1
    have c3 := CELL.out 3 _ rfl w1 b1
    clear b1
    go_wp2
    go_ret
    exact ⟨rfl, k1⟩
  have hb1' : ¬ (500 : Int) < (ss.length : Int) := by omega
  have hb2' : ¬ (500 : Int) < (ks.length : Int) := by omega
  have hb3' : ¬ (500 : Int) < (is.length : Int) := by omega
  have hss : ss.length ≤ 500 := by omega
  have hks : ks.length ≤ 500 := by omega
  have his : is.length ≤ 500 := by omega
  by_cases hb4 : 400 < n ∧ n ≤ 8160
  · obtain ⟨hb4, hb5⟩ := hb4
    go_enter Tryd.func4, Tryd.ntmps4
    go_wp2_with fail
    refine (macAwake_any _ (HL.out.below KB.out HL.out.size)).mono ?_
    rintro e w1 ⟨rfl, b1⟩
    have k1 : Below w.heap.size w w1 := KB.out.trans (b1.mono KB.out.size)
    have c0 := CELL.out 0 _ rfl w1 b1
    have c1 := CELL.out 1 _ rfl w1 b1
    have c2 := CELL.out 2 _ rfl w1 b1
    have c3 := CELL.out 3 _ rfl w1 b1
    clear b1
    go_wp2
    go_ret
    exact ⟨rfl, k1⟩
  by_cases hneg : n < 0
  · have HN : Hid (n < 0 ∨ 8160 < n) := .inl hneg
    have hb5 : ¬ 400 < n := by omega
    clear hb4
    go_enter Tryd.func4, Tryd.ntmps4
    go_wp2_with fail
    refine (macAwake_any _ (HL.out.below KB.out HL.out.size)).mono ?_
    rintro e w1 ⟨rfl, b1⟩
    have k1 : Below w.heap.size w w1 := KB.out.trans (b1.mono KB.out.size)
    have c0 := CELL.out 0 _ rfl w1 b1
    have c1 := CELL.out 1 _ rfl w1 b1
    have c2 := CELL.out 2 _ rfl w1 b1
    have c3 := CELL.out 3 _ rfl w1 b1
    have B1 := Lib.hid b1
    clear b1
    go_wp2_with fail

    refine (expand_no _ _ n w1 HN.out).mono ?_
    rintro e w2 ⟨rfl, rfl⟩
    go_wp2_with fail
    refine (rexpand_no _ _ n w2 HN.out).mono ?_
    rintro e w3 ⟨rfl, rfl⟩
    go_wp2_with fail
    refine (derive_no _ _ _ ss ks n w3 (HL.out.below k1 HL.out.size) (HS.out.below k1) (HK.out.below k1) (by omega) (by omega) HN.out).mono ?_
    rintro e w4 ⟨rfl, b4⟩
    have k4 : Below w.heap.size w w4 := k1.trans (b4.mono k1.size)
    have B4 := Lib.hid (B1.out.trans (b4.mono B1.out.size))
    clear c0 c1 c2 c3
    have c0 := CELL.out 0 _ rfl w4 B4.out
    have c1 := CELL.out 1 _ rfl w4 B4.out
    have c2 := CELL.out 2 _ rfl w4 B4.out
    have c3 := CELL.out 3 _ rfl w4 B4.out
    clear b4 k1 B1
    go_wp2_with fail
    refine (rderive_no _ _ _ ss ks n w4 (HS.out.below k4) HSN.out (HK.out.below k4) HKN.out (by omega) (by omega) HN.out).mono ?_
    rintro e w5 ⟨rfl, b5⟩
    have k5 : Below w.heap.size w w5 := k4.trans (b5.mono k4.size)
    clear b5 k4 c0 c1 c2 c3 B4
    go_wp2_with fail
    refine (requal_yes _ _ [] w5 (IsB.nil w5) (IsB.nil w5)).mono ?_
    rintro e w6 ⟨rfl, b6⟩
    have k6 : Below w.heap.size w w6 := k5.trans (b6.mono k5.size)
    clear b6 k5
    go_wp2_with fail
    refine (requal_yes _ _ [] w6 (IsB.nil w6) (IsB.nil w6)).mono ?_
    rintro e w7 ⟨rfl, b7⟩
    have k7 : Below w.heap.size w w7 := k6.trans (b7.mono k6.size)
    go_wp2
    go_ret
    exact ⟨rfl, k7⟩
  by_cases hbig : 8160 < n
  · have HN : Hid (n < 0 ∨ 8160 < n) := .inr hbig
    have hb5 : 400 < n := by omega
    have hb6 : ¬ n ≤ 8160 := by omega
    clear hb4
    go_enter Tryd.func4, Tryd.ntmps4
    go_wp2_with fail
    refine (macAwake_any _ (HL.out.below KB.out HL.out.size)).mono ?_
    rintro e w1 ⟨rfl, b1⟩
    have k1 : Below w.heap.size w w1 := KB.out.trans (b1.mono KB.out.size)
    have c0 := CELL.out 0 _ rfl w1 b1
    have c1 := CELL.out 1 _ rfl w1 b1
    have c2 := CELL.out 2 _ rfl w1 b1
    have c3 := CELL.out 3 _ rfl w1 b1
    have B1 := Lib.hid b1
    clear b1
    go_wp2_with fail

    refine (expand_no _ _ n w1 HN.out).mono ?_
    rintro e w2 ⟨rfl, rfl⟩
    go_wp2_with fail
    refine (rexpand_no _ _ n w2 HN.out).mono ?_
    rintro e w3 ⟨rfl, rfl⟩
    go_wp2_with fail
    refine (derive_no _ _ _ ss ks n w3 (HL.out.below k1 HL.out.size) (HS.out.below k1) (HK.out.below k1) (by omega) (by omega) HN.out).mono ?_
    rintro e w4 ⟨rfl, b4⟩
    have k4 : Below w.heap.size w w4 := k1.trans (b4.mono k1.size)
    have B4 := Lib.hid (B1.out.trans (b4.mono B1.out.size))
    clear c0 c1 c2 c3
    have c0 := CELL.out 0 _ rfl w4 B4.out
    have c1 := CELL.out 1 _ rfl w4 B4.out
    have c2 := CELL.out 2 _ rfl w4 B4.out
    have c3 := CELL.out 3 _ rfl w4 B4.out
    clear b4 k1 B1
    go_wp2_with fail
    refine (rderive_no _ _ _ ss ks n w4 (HS.out.below k4) HSN.out (HK.out.below k4) HKN.out (by omega) (by omega) HN.out).mono ?_
    rintro e w5 ⟨rfl, b5⟩
    have k5 : Below w.heap.size w w5 := k4.trans (b5.mono k4.size)
    clear b5 k4 c0 c1 c2 c3 B4
    go_wp2_with fail
    refine (requal_yes _ _ [] w5 (IsB.nil w5) (IsB.nil w5)).mono ?_
    rintro e w6 ⟨rfl, b6⟩
    have k6 : Below w.heap.size w w6 := k5.trans (b6.mono k5.size)
    clear b6 k5
    go_wp2_with fail
    refine (requal_yes _ _ [] w6 (IsB.nil w6) (IsB.nil w6)).mono ?_
    rintro e w7 ⟨rfl, b7⟩
    have k7 : Below w.heap.size w w7 := k6.trans (b7.mono k6.size)
    go_wp2
    go_ret
    exact ⟨rfl, k7⟩
  · obtain ⟨m, rfl⟩ := Int.eq_ofNat_of_zero_le (show 0 ≤ n by omega)
    have hb5 : ¬ 400 < (m : Int) := by omega
    have hm : m ≤ 400 := by omega
    clear hb4 hneg hbig
    go_enter Tryd.func4, Tryd.ntmps4
    go_wp2_with fail
    refine (macAwake_any _ (HL.out.below KB.out HL.out.size)).mono ?_
    rintro e w1 ⟨rfl, b1⟩
    have k1 : Below w.heap.size w w1 := KB.out.trans (b1.mono KB.out.size)
    have c0 := CELL.out 0 _ rfl w1 b1
    have c1 := CELL.out 1 _ rfl w1 b1
    have c2 := CELL.out 2 _ rfl w1 b1
    have c3 := CELL.out 3 _ rfl w1 b1
    have B1 := Lib.hid b1
    clear b1
    go_wp2_with fail

    refine (expand_any _ _ ss is m w1 (HL.out.below k1 HL.out.size) (HS.out.below k1) (HI.out.below k1) (by omega) (by omega) (by omega)).mono ?_
    rintro e w2 ⟨r2, rfl, o2, b2⟩
    have k2 : Below w.heap.size w w2 := k1.trans (b2.mono k1.size)
    have B2 := Lib.hid (B1.out.trans (b2.mono B1.out.size))
    have O2 := Lib.hid o2
    clear c0 c1 c2 c3
    have c0 := CELL.out 0 _ rfl w2 B2.out
    have c1 := CELL.out 1 _ rfl w2 B2.out
    have c2 := CELL.out 2 _ rfl w2 B2.out
    have c3 := CELL.out 3 _ rfl w2 B2.out
    clear o2 b2 k1 B1
    go_wp2_with fail
    refine (rexpand_any _ _ ss is m w2 (HS.out.below k2) HSN.out (HI.out.below k2) HIN.out (by omega) (by omega) (by omega)).mono ?_
    rintro e w3 ⟨r3, rfl, o3, b3⟩
    have k3 : Below w.heap.size w w3 := k2.trans (b3.mono k2.size)
    have B3 := Lib.hid (B2.out.trans (b3.mono B2.out.size))
    have O3 := Lib.hid o3.isB
    have P2 := Lib.hid (O2.out.below b3).isB
    clear c0 c1 c2 c3
    have c0 := CELL.out 0 _ rfl w3 B3.out
    have c1 := CELL.out 1 _ rfl w3 B3.out
    have c2 := CELL.out 2 _ rfl w3 B3.out
    have c3 := CELL.out 3 _ rfl w3 B3.out
    clear o3 b3 k2 B2 O2
    go_wp2_with fail
    refine (derive_any _ _ _ ss ks is m w3 (HL.out.below k3 HL.out.size) (HS.out.below k3) (HK.out.below k3) (HI.out.below k3) (by omega) (by omega) (by omega) (by omega)).mono ?_
    rintro e w4 ⟨r4, rfl, o4, b4⟩
    have k4 : Below w.heap.size w w4 := k3.trans (b4.mono k3.size)
    have B4 := Lib.hid (B3.out.trans (b4.mono B3.out.size))
    have O4 := Lib.hid o4
    have Q2 := Lib.hid (P2.out.below b4)
    have Q3 := Lib.hid (O3.out.below b4)
    clear c0 c1 c2 c3
    have c0 := CELL.out 0 _ rfl w4 B4.out
    have c1 := CELL.out 1 _ rfl w4 B4.out
    have c2 := CELL.out 2 _ rfl w4 B4.out
    have c3 := CELL.out 3 _ rfl w4 B4.out
    clear o4 b4 k3 B3 P2 O3
    go_wp2_with fail
    refine (rderive_any _ _ _ ss ks is m w4 (HS.out.below k4) HSN.out (HK.out.below k4) HKN.out (HI.out.below k4) HIN.out (by omega) (by omega) (by omega) (by omega)).mono ?_
    rintro e w5 ⟨r5, rfl, o5, b5⟩
    have k5 : Below w.heap.size w w5 := k4.trans (b5.mono k4.size)
    have O5 := Lib.hid o5.isB
    have P4 := Lib.hid (O4.out.below b5).isB
    have R2 := Lib.hid (Q2.out.below b5)
    have R3 := Lib.hid (Q3.out.below b5)
    clear o5 b5 k4 B4 O4 Q2 Q3 c0 c1 c2 c3
    go_wp2_with fail
    refine (requal_yes _ _ _ w5 R2.out R3.out).mono ?_
    rintro e w6 ⟨rfl, b6⟩
    have k6 : Below w.heap.size w w6 := k5.trans (b6.mono k5.size)
    have P5 := Lib.hid (O5.out.below b6)
    have P6 := Lib.hid (P4.out.below b6)
    clear b6 k5 R2 R3 O5 P4
    go_wp2_with fail
    refine (requal_yes _ _ _ w6 P6.out P5.out).mono ?_
    rintro e w7 ⟨rfl, b7⟩
    have k7 : Below w.heap.size w w7 := k6.trans (b7.mono k6.size)
    go_wp2
    go_ret
    exact ⟨rfl, k7⟩

end Go.Proofs.YtmjeilhppgdmfaaDoor
