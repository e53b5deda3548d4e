/-
  THE WALK OF orloplaw08.CurveShares, under CurveOk: it returns true, and writes nothing that was there. Conditions: CurveOk (proved of the code elsewhere).
  THE WALK OF orloplaw08.CurvePoints, under CurveOk: it returns true, and writes nothing that was there. Conditions: CurveOk (proved of the code elsewhere); at most 2^47 bytes; what is nil has no spare room.
  THE WALK OF orloplaw08.CurveClamped, under CurveOk: it returns true, and writes nothing that was there. Conditions: CurveOk (proved of the code elsewhere).
  THE BITS THAT curve.Shared LEAVES OUT: the scalar turned in those that clamping fixes, the point in its greatest. Conditions: CurveOk (proved of the code elsewhere).
  THE WALK OF orloplaw08.CurveLoose, under CurveOk: it returns true, and writes nothing that was there. Conditions: CurveOk (proved of the code elsewhere).
-/
import Derived.Test.YteombilmndlhjaaRefCurve
import Derived.Test.YteombilmndlhjaaApart
import Derived.Test.YteombilmndlhjaaFieldLaw
import Derived.Laws.BitsAllLaws

namespace Go.Proofs.Yteombilmndlhjaa
open Go.RowKit
set_option linter.unusedVariables false

/-- The call hands back bytes and a code. -/
def GivesBC (w : World) (bs : List UInt8) (c : Int) (e : Ending) (w' : World) : Prop := ∃ r, e = .returned (.tuple #[r, .int .i64 c]) ∧ IsB w' r bs ∧ Below w.heap.size w w'

theorem MakesOk.bc {w : World} {bs : List UInt8} {e : Ending} {w' : World} (h : MakesOk w bs e w') : GivesBC w bs 0 e w' := by
  obtain ⟨r, h1, h2, h3⟩ := h
  exact ⟨r, h1, h2.isB, h3⟩

theorem Refuses.bc {w : World} {c : Nat} {e : Ending} {w' : World} (h : Refuses w c e w') : GivesBC w [] (c : Int) e w' := ⟨_, h.1, IsB.nil w', h.2⟩

/-- The code and the document tell the same of a scalar and a point. -/
theorem shares_alike (C : CurveOk) (ks ps : List UInt8) : ∃ (bs : List UInt8) (c : Int), ∀ (kv pv : Value) (w : World), IsB w kv ks → IsB w pv ps →
    Calls Try.prog 8 #[kv, pv] w (GivesBC w bs c) ∧ Calls Try.prog 9 #[kv, pv] w (GivesBC w bs c) := by
  by_cases h : ks.length = 32 ∧ ps.length = 32
  · by_cases h0 : M.secret ks ps = 0
    · exact ⟨[], 10, fun kv pv w h1 h2 => ⟨(C.sharedLow kv pv ks ps w h1 h2 h.1 h.2 h0).mono fun e w' h => h.bc, (rshared_low kv pv ks ps w h1 h2 h.1 h.2 h0).mono fun e w' h => h.bc⟩⟩
    · exact ⟨M.le (M.secret ks ps) 32, 0, fun kv pv w h1 h2 => ⟨(C.shared_ kv pv ks ps w h1 h2 h.1 h.2 h0).mono fun e w' h => h.bc, (rshared_ok kv pv ks ps w h1 h2 h.1 h.2 h0).mono fun e w' h => h.bc⟩⟩
  · refine ⟨[], 1, fun kv pv w h1 h2 => ⟨(C.sharedNo kv pv ks ps w h1 h2 h).mono fun e w' h => h.bc, (rshared_no kv pv ks ps w h1 h2 h).mono fun e w' h => ?_⟩⟩
    exact ⟨_, h.1, IsB.nil w', by rw [h.2]; exact Below.refl _ _⟩

set_option maxHeartbeats 4000000 in
theorem curveShares_walk_of (C : CurveOk) (w : World) (kv : Value) (ks : List UInt8) (hk : IsB w kv ks) (pv : Value) (ps : List UInt8) (hp : IsB w pv ps) :
    Calls Try.prog 3 #[kv, pv] w fun e w' => e = .returned (.bool true) ∧ Below w.heap.size w w' := by
  obtain ⟨bs, c, hall⟩ := shares_alike C ks ps
  have HA := Lib.hid hall
  have HK := Lib.hid hk
  have HP := Lib.hid hp
  have CA := Lib.hid (curveAwake_any C w)
  have hc : (c == c) = true := by simp
  obtain ⟨ao, cap, rfl⟩ := hk.shape
  obtain ⟨ap, cap2, rfl⟩ := hp.shape
  obtain ⟨n, hn⟩ : ∃ n, n = ks.length := ⟨_, rfl⟩
  obtain ⟨m, hm⟩ : ∃ n, n = ps.length := ⟨_, rfl⟩
  rw [← hn] at HK ⊢
  rw [← hm] at HP ⊢
  clear hall hk hp hn hm C
  go_enter Try.func3, Try.ntmps3
  go_wp2_with fail
  refine CA.out.mono ?_
  rintro e w1 ⟨rfl, k1⟩
  have K1 := Lib.hid k1
  clear k1 CA
  go_wp2_with fail
  refine (HA.out _ _ w1 (HK.out.below K1.out) (HP.out.below K1.out)).1.mono ?_
  rintro e w2 ⟨r2, rfl, i2, k2⟩
  have I2 := Lib.hid i2
  have K2 : Hid (Below w.heap.size w w2) := K1.out.trans (k2.mono K1.out.size)
  clear i2 k2 K1
  go_wp2_with fail
  refine (HA.out _ _ w2 (HK.out.below K2.out) (HP.out.below K2.out)).2.mono ?_
  rintro e w3 ⟨r3, rfl, i3, k3⟩
  have I3 := Lib.hid i3
  have I23 := Lib.hid (I2.out.below k3)
  have K3 : Hid (Below w.heap.size w w3) := K2.out.trans (k3.mono K2.out.size)
  obtain ⟨a2, c2, rfl⟩ := i3.shape
  obtain ⟨a3, c3, rfl⟩ := I2.out.shape
  clear i3 k3 K2 I2
  go_wp2_with fail
  refine (requal_b _ _ bs bs w3 I23.out I3.out).mono ?_
  rintro e w4 ⟨rfl, k4⟩
  rw [decide_eq_true (rfl : bs = bs)]
  have K4 : Hid (Below w.heap.size w w4) := K3.out.trans (k4.mono K3.out.size)
  clear k4 K3
  go_wp2
  go_ret
  exact ⟨rfl, K4.out⟩

end Go.Proofs.Yteombilmndlhjaa

namespace Go.Proofs.Yteombilmndlhjaa
open Go.RowKit
set_option linter.unusedVariables false

theorem points_alike (C : CurveOk) (ks : List UInt8) : ∃ (bs : List UInt8) (c : Int), ∀ (kv : Value) (w : World), IsB w kv ks →
    Calls Try.prog 11 #[kv] w (GivesBC w bs c) ∧ Calls Try.prog 12 #[kv] w (GivesBC w bs c) := by
  by_cases h : ks.length = 32
  · exact ⟨M.le (M.point ks) 32, 0, fun kv w h1 => ⟨(C.public_ kv ks w h1 h).mono fun e w' h => h.bc, (rpublic_yes kv ks w h1 h).mono fun e w' h => h.bc⟩⟩
  · refine ⟨[], 1, fun kv w h1 => ⟨(C.publicNo kv ks w h1 h).mono fun e w' h => h.bc, (rpublic_no kv ks w h1 h).mono fun e w' h => ?_⟩⟩
    exact ⟨_, h.1, IsB.nil w', by rw [h.2]; exact Below.refl _ _⟩

set_option maxHeartbeats 4000000 in
theorem curvePoints_walk_of (C : CurveOk) (w : World) (kv : Value) (ks : List UInt8) (hk : IsB w kv ks) (hz : ∀ n c, kv = .slice none n c → c = 0) (hlen : ks.length ≤ 140737488355328) :
    Calls Try.prog 4 #[kv] w fun e w' => e = .returned (.bool true) ∧ Below w.heap.size w w' := by
  obtain ⟨bs, c, hall⟩ := points_alike C ks
  have HA := Lib.hid hall
  have HK := Lib.hid hk
  have HZ := Lib.hid hz
  have HLEN := Lib.hid hlen
  have CA := Lib.hid (curveAwake_any C w)
  have hc : (c != c) = false := by simp
  obtain ⟨cs, hcs⟩ : ∃ cs, Hid (cs = M.clampB ks) := ⟨_, rfl⟩
  have CY : Hid (ks.length = 32 → ∀ kv w, IsB w kv ks → Calls Try.prog 13 #[kv] w (GivesBC w cs 0)) := by
    rw [hcs.out]; exact fun h kv w h1 => (C.clamp_ kv ks w h1 h).mono fun e w' h => h.bc
  have CN : Hid (¬ ks.length = 32 → ∀ kv w, IsB w kv ks → Calls Try.prog 13 #[kv] w (Refuses w 1)) := fun h kv w h1 => C.clampNo kv ks w h1 h
  have RC : Hid (ks.length = 32 → ∀ kv w, IsB w kv ks → Calls Try.prog 14 #[kv] w (Makes w cs)) := by
    rw [hcs.out]; exact fun h kv w h1 => rclamp_any kv ks w h1 h
  obtain ⟨ao, cap, rfl⟩ := hk.shape
  obtain ⟨n, hn⟩ : ∃ n, n = ks.length := ⟨_, rfl⟩
  rw [← hn] at HK HZ CY CN RC ⊢
  have HN := Lib.hid hn
  clear hall hk hn C hz hlen hcs
  by_cases h32 : n = 32
  · have CY2 := Lib.hid (CY.out h32)
    have RC2 := Lib.hid (RC.out h32)
    subst h32
    clear CY CN RC
    go_enter Try.func4, Try.ntmps4
    go_wp2_with fail
    refine CA.out.mono ?_
    rintro e w1 ⟨rfl, k1⟩
    have K1 := Lib.hid k1
    have HK1 := Lib.hid (HK.out.below k1)
    clear k1 CA HK
    go_wp2_with (at_builtin; go_must (refine wpList_app _ rfl _ _ rfl w1.heap.size _ [] rfl ?c1 _ ks rfl ?c2 HZ.out (by have := HLEN.out; simp; omega) (by simp) ?_))
    case c1 => exact own_empty w1
    case c2 => exact HK1.out.below ((Below.refl _ _).alloc (Nat.le_refl _) _)
    intro r2 w2 o2 b2 _
    have I2 : Hid (IsB w2 r2 ks) := (show Own w2 w1.heap.size r2 ks from o2).isB
    have KA : Hid (Below w1.heap.size w1 w2) := ((Below.refl _ _).alloc (Nat.le_refl _) (.cells #[] 5)).trans b2
    have K2 : Hid (Below w.heap.size w w2) := K1.out.trans (KA.out.mono K1.out.size)
    have HK2 := Lib.hid (HK1.out.below KA.out)
    obtain ⟨r, hr⟩ : ∃ r, r = r2 := ⟨_, rfl⟩
    clear o2 b2 KA HK1 K1
    go_wp2_with fail
    refine (HA.out _ w2 I2.out).1.mono ?_
    rintro e w3 ⟨r3, rfl, i3, k3⟩
    have I3 := Lib.hid i3
    have I23 := Lib.hid (I2.out.below k3)
    have HK3 := Lib.hid (HK2.out.below k3)
    have K3 : Hid (Below w.heap.size w w3) := K2.out.trans (k3.mono K2.out.size)
    clear i3 k3 I2 HK2 K2
    go_wp2_with fail
    refine (HA.out _ w3 HK3.out).2.mono ?_
    rintro e w4 ⟨r4, rfl, i4, k4⟩
    have I4 := Lib.hid i4
    have I34 := Lib.hid (I3.out.below k4)
    have I24 := Lib.hid (I23.out.below k4)
    have HK4 := Lib.hid (HK3.out.below k4)
    have K4 : Hid (Below w.heap.size w w4) := K3.out.trans (k4.mono K3.out.size)
    clear i4 k4 I3 I23 HK3 K3
    go_wp2_with fail
    refine (CY2.out _ w4 I24.out).mono ?_
    rintro e w5 ⟨r5, rfl, i5, k5⟩
    have I5 := Lib.hid i5
    have I45 := Lib.hid (I4.out.below k5)
    have I35 := Lib.hid (I34.out.below k5)
    have I25 := Lib.hid (I24.out.below k5)
    have HK5 := Lib.hid (HK4.out.below k5)
    have K5 : Hid (Below w.heap.size w w5) := K4.out.trans (k5.mono K4.out.size)
    clear i5 k5 I4 I34 I24 HK4 K4
    go_wp2_with fail
    refine (requal_b _ _ bs bs w5 I35.out I45.out).mono ?_
    rintro e w6 ⟨rfl, k6⟩
    rw [decide_eq_true (rfl : bs = bs)]
    have I26 := Lib.hid (I25.out.below k6)
    have I56 := Lib.hid (I5.out.below k6)
    have HK6 := Lib.hid (HK5.out.below k6)
    have K6 : Hid (Below w.heap.size w w6) := K5.out.trans (k6.mono K5.out.size)
    clear k6 I35 I45 I25 I5 HK5 K5
    go_wp2_with fail
    refine (requal_b _ _ ks ks w6 I26.out HK6.out).mono ?_
    rintro e w7 ⟨rfl, k7⟩
    rw [decide_eq_true (rfl : ks = ks)]
    have I57 := Lib.hid (I56.out.below k7)
    have HK7 := Lib.hid (HK6.out.below k7)
    have K7 : Hid (Below w.heap.size w w7) := K6.out.trans (k7.mono K6.out.size)
    clear k7 I26 I56 HK6 K6
    go_wp2_with fail
    refine (RC2.out _ w7 HK7.out).mono ?_
    rintro e w8 ⟨r8, rfl, o8, k8⟩
    have I8 := Lib.hid o8.isB
    have I58 := Lib.hid (I57.out.below k8)
    have K8 : Hid (Below w.heap.size w w8) := K7.out.trans (k8.mono K7.out.size)
    clear o8 k8 I57 HK7 K7
    go_wp2_with fail
    refine (requal_b _ _ cs cs w8 I58.out I8.out).mono ?_
    rintro e w9 ⟨rfl, k9⟩
    rw [decide_eq_true (rfl : cs = cs)]
    have K9 : Hid (Below w.heap.size w w9) := K8.out.trans (k9.mono K8.out.size)
    go_wp2
    go_ret
    exact ⟨rfl, K9.out⟩
  · have CN2 := Lib.hid (CN.out h32)
    obtain ⟨e1, e2, e3⟩ := ne32 h32
    clear CY CN RC h32
    go_enter Try.func4, Try.ntmps4
    go_wp2_with fail
    refine CA.out.mono ?_
    rintro e w1 ⟨rfl, k1⟩
    have K1 := Lib.hid k1
    have HK1 := Lib.hid (HK.out.below k1)
    clear k1 CA HK
    go_wp2_with (at_builtin; go_must (refine wpList_app _ rfl _ _ rfl w1.heap.size _ [] rfl ?d1 _ ks rfl ?d2 HZ.out (by have := HLEN.out; simp; omega) (by simp) ?_))
    case d1 => exact own_empty w1
    case d2 => exact HK1.out.below ((Below.refl _ _).alloc (Nat.le_refl _) _)
    intro r2 w2 o2 b2 _
    have I2 : Hid (IsB w2 r2 ks) := (show Own w2 w1.heap.size r2 ks from o2).isB
    have KA : Hid (Below w1.heap.size w1 w2) := ((Below.refl _ _).alloc (Nat.le_refl _) (.cells #[] 5)).trans b2
    have K2 : Hid (Below w.heap.size w w2) := K1.out.trans (KA.out.mono K1.out.size)
    have HK2 := Lib.hid (HK1.out.below KA.out)
    obtain ⟨r, hr⟩ : ∃ r, r = r2 := ⟨_, rfl⟩
    clear o2 b2 KA HK1 K1
    go_wp2_with fail
    refine (HA.out _ w2 I2.out).1.mono ?_
    rintro e w3 ⟨r3, rfl, i3, k3⟩
    have I3 := Lib.hid i3
    have I23 := Lib.hid (I2.out.below k3)
    have HK3 := Lib.hid (HK2.out.below k3)
    have K3 : Hid (Below w.heap.size w w3) := K2.out.trans (k3.mono K2.out.size)
    clear i3 k3 I2 HK2 K2
    go_wp2_with fail
    refine (HA.out _ w3 HK3.out).2.mono ?_
    rintro e w4 ⟨r4, rfl, i4, k4⟩
    have I4 := Lib.hid i4
    have I34 := Lib.hid (I3.out.below k4)
    have I24 := Lib.hid (I23.out.below k4)
    have HK4 := Lib.hid (HK3.out.below k4)
    have K4 : Hid (Below w.heap.size w w4) := K3.out.trans (k4.mono K3.out.size)
    clear i4 k4 I3 I23 HK3 K3
    go_wp2_with fail
    refine (CN2.out _ w4 I24.out).mono ?_
    rintro e w5 ⟨rfl, k5⟩
    have I45 := Lib.hid (I4.out.below k5)
    have I35 := Lib.hid (I34.out.below k5)
    have I25 := Lib.hid (I24.out.below k5)
    have HK5 := Lib.hid (HK4.out.below k5)
    have K5 : Hid (Below w.heap.size w w5) := K4.out.trans (k5.mono K4.out.size)
    clear k5 I4 I34 I24 HK4 K4
    go_wp2_with fail
    refine (requal_b _ _ bs bs w5 I35.out I45.out).mono ?_
    rintro e w6 ⟨rfl, k6⟩
    rw [decide_eq_true (rfl : bs = bs)]
    have I26 := Lib.hid (I25.out.below k6)
    have HK6 := Lib.hid (HK5.out.below k6)
    have K6 : Hid (Below w.heap.size w w6) := K5.out.trans (k6.mono K5.out.size)
    clear k6 I35 I45 I25 HK5 K5
    go_wp2_with fail
    refine (requal_b _ _ ks ks w6 I26.out HK6.out).mono ?_
    rintro e w7 ⟨rfl, k7⟩
    rw [decide_eq_true (rfl : ks = ks)]
    have K7 : Hid (Below w.heap.size w w7) := K6.out.trans (k7.mono K6.out.size)
    clear k7 I26 HK6 K6
    go_wp2
    go_ret
    exact ⟨rfl, K7.out⟩

end Go.Proofs.Yteombilmndlhjaa

namespace Go.Proofs.Yteombilmndlhjaa
open Go.RowKit
set_option linter.unusedVariables false

namespace M

theorem clampB_get (ks : List UInt8) (h : ks.length = 32) : ((clampB ks).getD 0 0).toNat = (ks.getD 0 0).toNat / 8 * 8 ∧ ((clampB ks).getD 31 0).toNat = (ks.getD 31 0).toNat % 64 + 64 := by
  have h0 : (ks.getD 0 0).toNat < 256 := UInt8.toNat_lt _
  have h1 : (ks.getD 31 0).toNat < 256 := UInt8.toNat_lt _
  constructor
  · rw [clampB, List.getD_eq_getElem?_getD, List.getElem?_set_ne (by decide), List.getElem?_set_self (by omega), Option.getD_some, of_nat8 _ (by omega)]
  · rw [clampB, List.getD_eq_getElem?_getD, List.getElem?_set_self (by rw [List.length_set]; omega), Option.getD_some, of_nat8 _ (by omega)]

theorem clampB_twice (ks : List UInt8) (h : ks.length = 32) : clampB (clampB ks) = clampB ks := by
  obtain ⟨e0, e1⟩ := clampB_get ks h
  rw [clampB, e0, e1, show (ks.getD 0 0).toNat / 8 * 8 / 8 * 8 = (ks.getD 0 0).toNat / 8 * 8 by omega, show ((ks.getD 31 0).toNat % 64 + 64) % 64 + 64 = (ks.getD 31 0).toNat % 64 + 64 by omega]
  rw [clampB]
  refine List.ext_getElem? fun i => ?_
  simp only [List.getElem?_set, List.length_set]
  split
  · rfl
  · split <;> rfl

theorem secret_clamp (ks ps : List UInt8) (h : ks.length = 32) : secret (clampB ks) ps = secret ks ps := by rw [secret, secret, clampB_twice ks h]

theorem point_clamp (ks : List UInt8) (h : ks.length = 32) : point (clampB ks) = point ks := by rw [point, point, clampB_twice ks h]

end M

/-- A scalar, and it clamped, share the same. -/
theorem clamped_alike (C : CurveOk) (ks ps : List UInt8) (hk : ks.length = 32) (hp : ps.length = 32) : ∃ (bs : List UInt8) (c : Int), ∀ (kv pv : Value) (w : World), IsB w pv ps →
    (IsB w kv ks → Calls Try.prog 8 #[kv, pv] w (GivesBC w bs c)) ∧ (IsB w kv (M.clampB ks) → Calls Try.prog 8 #[kv, pv] w (GivesBC w bs c)) := by
  have hc : (M.clampB ks).length = 32 := by rw [M.clampB_length, hk]
  by_cases h0 : M.secret ks ps = 0
  · exact ⟨[], 10, fun kv pv w h2 => ⟨fun h1 => (C.sharedLow kv pv ks ps w h1 h2 hk hp h0).mono fun e w' h => h.bc, fun h1 => (C.sharedLow kv pv _ ps w h1 h2 hc hp (by rw [M.secret_clamp ks ps hk]; exact h0)).mono fun e w' h => h.bc⟩⟩
  · refine ⟨M.le (M.secret ks ps) 32, 0, fun kv pv w h2 => ⟨fun h1 => (C.shared_ kv pv ks ps w h1 h2 hk hp h0).mono fun e w' h => h.bc, fun h1 => ?_⟩⟩
    have := C.shared_ kv pv _ ps w h1 h2 hc hp (by rw [M.secret_clamp ks ps hk]; exact h0)
    rw [M.secret_clamp ks ps hk] at this
    exact this.mono fun e w' h => h.bc

set_option maxRecDepth 100000 in
set_option maxHeartbeats 4000000 in
theorem curveClamped_walk_of (C : CurveOk) (w : World) (ks : List UInt8) (hk : ks.length = 32) (ps : List UInt8) (hp : ps.length = 32) :
    Calls Try.prog 6 #[.agg (Lib.byteCells ks).toArray, .agg (Lib.byteCells ps).toArray] w fun e w' => e = .returned (.bool true) ∧ Below w.heap.size w w' := by
  obtain ⟨bs, c, hall⟩ := clamped_alike C ks ps hk hp
  have HS := Lib.hid hall
  obtain ⟨cs, hcs⟩ : ∃ cs, Hid (cs = M.clampB ks) := ⟨_, rfl⟩
  rw [← hcs.out] at HS
  have C1 : Hid (∀ kv w, IsB w kv ks → Calls Try.prog 13 #[kv] w (GivesBC w cs 0)) := by
    rw [hcs.out]; exact fun kv w h => (C.clamp_ kv ks w h hk).mono fun e w' h => h.bc
  have C2 : Hid (∀ kv w, IsB w kv cs → Calls Try.prog 13 #[kv] w (GivesBC w cs 0)) := by
    rw [hcs.out]
    intro kv w h
    have := C.clamp_ kv _ w h (by rw [M.clampB_length, hk])
    rw [M.clampB_twice ks hk] at this
    exact this.mono fun e w' h => h.bc
  obtain ⟨y, hy⟩ : ∃ y, Hid (y = M.le (M.point ks) 32) := ⟨_, rfl⟩
  have P1 : Hid (∀ kv w, IsB w kv ks → Calls Try.prog 11 #[kv] w (GivesBC w y 0)) := by
    rw [hy.out]; exact fun kv w h => (C.public_ kv ks w h hk).mono fun e w' h => h.bc
  have P2 : Hid (∀ kv w, IsB w kv cs → Calls Try.prog 11 #[kv] w (GivesBC w y 0)) := by
    rw [hy.out, hcs.out]
    intro kv w h
    have := C.public_ kv _ w h (by rw [M.clampB_length, hk])
    rw [M.point_clamp ks hk] at this
    exact this.mono fun e w' h => h.bc
  have CA := Lib.hid (fun w => curveAwake_any C w)
  have HK := Lib.hid hk
  have HP := Lib.hid hp
  have hc : (c == c) = true := by simp
  obtain ⟨g, hg⟩ : ∃ g, g = w.heap.size := ⟨_, rfl⟩
  obtain ⟨W, hW⟩ : ∃ W, Hid (W = ((w.alloc (.cells (Lib.byteCells ks).toArray 31)).alloc (.cells (Lib.byteCells ps).toArray 31))) := ⟨_, rfl⟩
  have B0 : Hid (Blk W g 31 (Lib.byteCells ks)) := by rw [hW.out, hg]; exact (Blk.newAt _ _ _ _ _ (by simp) rfl).alloc _
  have B1 : Hid (Blk W (g + 1) 31 (Lib.byteCells ps)) := by rw [hW.out, hg]; exact Blk.newAt _ _ _ _ _ (by simp) rfl
  have K0 : Hid (Below w.heap.size w W) := by rw [hW.out]; exact ((Below.refl _ _).alloc (Nat.le_refl _) _).alloc (by simp) _
  have hsl0 := slice32_all g
  have hsl1 := slice32_all (g + 1)
  clear hall hcs hy C hk hp
  go_enter Try.func6, Try.ntmps6
  go_upto_region 1 with fail
  rw [← hW.out, ← hg]
  clear hW hg
  go_wp2_with fail
  refine (CA.out W).mono ?_
  rintro e w1 ⟨rfl, k1⟩
  have I0 : Hid (IsB w1 (.slice (some ⟨g, 0, none⟩) 32 32) ks) := blk_all (B0.out.below k1 B0.out.lt) HK.out
  have I1 : Hid (IsB w1 (.slice (some ⟨g + 1, 0, none⟩) 32 32) ps) := blk_all (B1.out.below k1 B1.out.lt) HP.out
  have K1 : Hid (Below w.heap.size w w1) := K0.out.trans (k1.mono K0.out.size)
  clear k1 B0 B1 K0 CA
  go_wp2_with fail
  refine (C1.out _ w1 I0.out).mono ?_
  rintro e w2 ⟨r2, rfl, i2, k2⟩
  have I2 := Lib.hid i2
  have I02 := Lib.hid (I0.out.below k2)
  have I12 := Lib.hid (I1.out.below k2)
  have K2 : Hid (Below w.heap.size w w2) := K1.out.trans (k2.mono K1.out.size)
  clear i2 k2 I0 I1 K1
  go_wp2_with fail
  refine (C2.out _ w2 I2.out).mono ?_
  rintro e w3 ⟨r3, rfl, i3, k3⟩
  have I3 := Lib.hid i3
  have I23 := Lib.hid (I2.out.below k3)
  have I03 := Lib.hid (I02.out.below k3)
  have I13 := Lib.hid (I12.out.below k3)
  have K3 : Hid (Below w.heap.size w w3) := K2.out.trans (k3.mono K2.out.size)
  clear i3 k3 I2 I02 I12 K2
  go_wp2_with fail
  refine (requal_b _ _ cs cs w3 I23.out I3.out).mono ?_
  rintro e w4 ⟨rfl, k4⟩
  rw [decide_eq_true (rfl : cs = cs)]
  have I24 := Lib.hid (I23.out.below k4)
  have I04 := Lib.hid (I03.out.below k4)
  have I14 := Lib.hid (I13.out.below k4)
  have K4 : Hid (Below w.heap.size w w4) := K3.out.trans (k4.mono K3.out.size)
  clear k4 I3 I23 I03 I13 K3
  go_upto_region 7 with fail
  have J0 : Hid (IsB w4.drew (.slice (some ⟨g, 0, none⟩) 32 32) ks) := I04.out.below (below_draws w4 1)
  have J1 : Hid (IsB w4.drew (.slice (some ⟨g + 1, 0, none⟩) 32 32) ps) := I14.out.below (below_draws w4 1)
  go_region_with (go_at_call 8; refine ((HS.out _ _ _ J1.out).1 J0.out).mono ?_; rintro e w5 ⟨r5, rfl, i5, k5⟩)
  all_goals (
    have I5 := Lib.hid i5
    have J05 := Lib.hid (J0.out.below k5)
    have J15 := Lib.hid (J1.out.below k5)
    have J25 : Hid (IsB w5 _ cs) := (I24.out.below (below_draws w4 1)).below k5
    have K5 : Hid (Below w.heap.size w w5) := (K4.out.trans ((below_draws w4 1).mono K4.out.size)).trans (k5.mono (by have := K4.out.size; simpa using this))
    clear i5 k5 J0 J1 I04 I14 I24 K4
    go_wp2_with fail
    refine ((HS.out _ _ _ J15.out).2 J25.out).mono ?_
    rintro e w6 ⟨r6, rfl, i6, k6⟩
    have I6 := Lib.hid i6
    have I56 := Lib.hid (I5.out.below k6)
    have J06 := Lib.hid (J05.out.below k6)
    have J26 := Lib.hid (J25.out.below k6)
    have K6 : Hid (Below w.heap.size w w6) := K5.out.trans (k6.mono K5.out.size)
    clear i6 k6 I5 J05 J15 J25 K5
    go_wp2_with fail
    refine (P1.out _ w6 J06.out).mono ?_
    rintro e w7 ⟨r7, rfl, i7, k7⟩
    have I7 := Lib.hid i7
    have I57 := Lib.hid (I56.out.below k7)
    have I67 := Lib.hid (I6.out.below k7)
    have J27 := Lib.hid (J26.out.below k7)
    have K7 : Hid (Below w.heap.size w w7) := K6.out.trans (k7.mono K6.out.size)
    clear i7 k7 I6 I56 J06 J26 K6
    go_wp2_with fail
    refine (P2.out _ w7 J27.out).mono ?_
    rintro e w8 ⟨r8, rfl, i8, k8⟩
    have I8 := Lib.hid i8
    have I58 := Lib.hid (I57.out.below k8)
    have I68 := Lib.hid (I67.out.below k8)
    have I78 := Lib.hid (I7.out.below k8)
    have K8 : Hid (Below w.heap.size w w8) := K7.out.trans (k8.mono K7.out.size)
    clear i8 k8 I7 I57 I67 J27 K7
    go_wp2_with fail
    refine (requal_b _ _ bs bs w8 I58.out I68.out).mono ?_
    rintro e w9 ⟨rfl, k9⟩
    rw [decide_eq_true (rfl : bs = bs)]
    have I79 := Lib.hid (I78.out.below k9)
    have I89 := Lib.hid (I8.out.below k9)
    have K9 : Hid (Below w.heap.size w w9) := K8.out.trans (k9.mono K8.out.size)
    clear k9 I58 I68 I78 I8 K8
    go_wp2_with fail
    refine (requal_b _ _ y y w9 I79.out I89.out).mono ?_
    rintro e w10 ⟨rfl, k10⟩
    rw [decide_eq_true (rfl : y = y)]
    have K10 : Hid (Below w.heap.size w w10) := K9.out.trans (k10.mono K9.out.size)
    go_wp2
    go_ret
    exact ⟨rfl, K10.out⟩)

end Go.Proofs.Yteombilmndlhjaa

namespace Go.Proofs.Yteombilmndlhjaa
open Go.RowKit
set_option linter.unusedVariables false

namespace M

theorem x8 : ∀ (x : Fin 256) (z : Fin 8), (x.1 ^^^ z.1) / 8 = x.1 / 8 := by decide +kernel
theorem x64 : ∀ (x : Fin 256) (z : Fin 4), (x.1 ^^^ (z.1 * 64)) % 64 = x.1 % 64 := by decide +kernel
theorem x128 : ∀ (x : Fin 256) (z : Fin 2), (x.1 ^^^ (z.1 * 128)) % 128 = x.1 % 128 := by decide +kernel

/-- The scalar whose free bits are turned; the point whose greatest bit is. -/
def loosS (ks : List UInt8) (m n : Nat) : List UInt8 := (ks.set 0 (UInt8.ofNat ((ks.getD 0 0).toNat ^^^ m))).set 31 (UInt8.ofNat ((ks.getD 31 0).toNat ^^^ n))
def loosP (ps : List UInt8) (m : Nat) : List UInt8 := ps.set 31 (UInt8.ofNat ((ps.getD 31 0).toNat ^^^ m))

theorem xor_lt8 (x : UInt8) (m : Nat) (h : m < 256) : x.toNat ^^^ m < 256 := Nat.xor_lt_two_pow (n := 8) x.toNat_lt h

theorem loosS_clamp (ks : List UInt8) (h : ks.length = 32) (m n : Nat) (hm : m < 8) (hn : n < 4) : clampB (loosS ks m (n * 64)) = clampB ks := by
  have a0 : (loosS ks m (n * 64)).getD 0 0 = UInt8.ofNat ((ks.getD 0 0).toNat ^^^ m) := by
    rw [loosS, List.getD_eq_getElem?_getD, List.getElem?_set_ne (by decide), List.getElem?_set_self (by omega), Option.getD_some]
  have a1 : (loosS ks m (n * 64)).getD 31 0 = UInt8.ofNat ((ks.getD 31 0).toNat ^^^ (n * 64)) := by
    rw [loosS, List.getD_eq_getElem?_getD, List.getElem?_set_self (by rw [List.length_set]; omega), Option.getD_some]
  rw [clampB, a0, a1, of_nat8 _ (xor_lt8 _ _ (by omega)), of_nat8 _ (xor_lt8 _ _ (by omega)), x8 ⟨_, UInt8.toNat_lt _⟩ ⟨m, hm⟩, x64 ⟨_, UInt8.toNat_lt _⟩ ⟨n, hn⟩]
  rw [clampB, loosS]
  refine List.ext_getElem? fun i => ?_
  simp only [List.getElem?_set, List.length_set]
  split
  · rfl
  · split <;> rfl

theorem told_last (b : List UInt8) : told b = gl b 31 + (b.getD 31 0).toNat % 128 * 256 ^ 31 := by
  have h := gl_dropF b 31 1
  have h1 : gl (b.drop 31) 1 = (b.getD 31 0).toNat := by simp [gl, List.getD_eq_getElem?_getD]
  have hl := gl_lt b 31
  rw [told, show (32 : Nat) = 31 + 1 from rfl, h, h1]
  have e : (2 : Nat) ^ 255 = 256 ^ 31 * 128 := by decide +kernel
  rw [e]
  generalize (256 : Nat) ^ 31 = D at *
  generalize gl b 31 = x at *
  generalize (b.getD 31 0).toNat = y at *
  rw [Nat.mod_mul, Nat.add_mul_mod_self_right, Nat.mod_eq_of_lt hl, Nat.add_mul_div_right _ _ (by omega), Nat.div_eq_of_lt hl, Nat.zero_add, Nat.mul_comm D]

theorem loosP_told (ps : List UInt8) (h : ps.length = 32) (m : Nat) (hm : m < 2) : told (loosP ps (m * 128)) = told ps := by
  have a1 : (loosP ps (m * 128)).getD 31 0 = UInt8.ofNat ((ps.getD 31 0).toNat ^^^ (m * 128)) := by
    rw [loosP, List.getD_eq_getElem?_getD, List.getElem?_set_self (by omega), Option.getD_some]
  rw [told_last, told_last, a1, of_nat8 _ (xor_lt8 _ _ (by omega)), x128 ⟨_, UInt8.toNat_lt _⟩ ⟨m, hm⟩]
  congr 1
  refine gl_congr _ _ _ fun i hi => ?_
  rw [loosP, List.getD_eq_getElem?_getD, List.getElem?_set_ne (by omega), List.getD_eq_getElem?_getD]

theorem loos_secret (ks ps : List UInt8) (hk : ks.length = 32) (hp : ps.length = 32) (m n o : Nat) (hm : m < 8) (hn : n < 4) (ho : o < 2) : secret (loosS ks m (n * 64)) (loosP ps (o * 128)) = secret ks ps := by
  rw [secret, secret, loosS_clamp ks hk m n hm hn, loosP_told ps hp o ho]

theorem loosS_length (ks : List UInt8) (m n : Nat) : (loosS ks m n).length = ks.length := by simp [loosS]
theorem loosP_length (ps : List UInt8) (m : Nat) : (loosP ps m).length = ps.length := by simp [loosP]

end M

theorem loosed_alike (C : CurveOk) (ks ps : List UInt8) (hk : ks.length = 32) (hp : ps.length = 32) (m n o : Nat) (hm : m < 8) (hn : n < 4) (ho : o < 2) : ∃ (bs : List UInt8) (c : Int), (c = 0 ∨ c = 10) ∧ ∀ (kv pv : Value) (w : World),
    (IsB w kv ks → IsB w pv ps → Calls Try.prog 8 #[kv, pv] w (GivesBC w bs c)) ∧ (IsB w kv (M.loosS ks m (n * 64)) → IsB w pv (M.loosP ps (o * 128)) → Calls Try.prog 8 #[kv, pv] w (GivesBC w bs c)) := by
  have e := M.loos_secret ks ps hk hp m n o hm hn ho
  have l1 : (M.loosS ks m (n * 64)).length = 32 := by rw [M.loosS_length, hk]
  have l2 : (M.loosP ps (o * 128)).length = 32 := by rw [M.loosP_length, hp]
  by_cases h0 : M.secret ks ps = 0
  · exact ⟨[], 10, .inr rfl, fun kv pv w => ⟨fun h1 h2 => (C.sharedLow kv pv ks ps w h1 h2 hk hp h0).mono fun e w' h => h.bc, fun h1 h2 => (C.sharedLow kv pv _ _ w h1 h2 l1 l2 (by rw [e]; exact h0)).mono fun e w' h => h.bc⟩⟩
  · refine ⟨M.le (M.secret ks ps) 32, 0, .inl rfl, fun kv pv w => ⟨fun h1 h2 => (C.shared_ kv pv ks ps w h1 h2 hk hp h0).mono fun e w' h => h.bc, fun h1 h2 => ?_⟩⟩
    have := C.shared_ kv pv _ _ w h1 h2 l1 l2 (by rw [e]; exact h0)
    rw [e] at this
    exact this.mono fun e w' h => h.bc

end Go.Proofs.Yteombilmndlhjaa

namespace Go.Proofs.Yteombilmndlhjaa
open Go.RowKit
set_option linter.unusedVariables false

set_option maxRecDepth 100000 in
set_option maxHeartbeats 4000000 in
theorem curveLoose_walk_of (C : CurveOk) (w : World) (ks : List UInt8) (hk : ks.length = 32) (ps : List UInt8) (hp : ps.length = 32) (ts : List UInt8) (ht : ts.length = 3) :
    Calls Try.prog 5 #[.agg (Lib.byteCells ks).toArray, .agg (Lib.byteCells ps).toArray, .agg (Lib.byteCells ts).toArray] w fun e w' => e = .returned (.bool true) ∧ Below w.heap.size w w' := by
  obtain ⟨x0, hx0⟩ : ∃ x, Hid (x = (ks.getD 0 0).toNat) := ⟨_, rfl⟩
  obtain ⟨x1, hx1⟩ : ∃ x, Hid (x = (ks.getD 31 0).toNat) := ⟨_, rfl⟩
  obtain ⟨y1, hy1⟩ : ∃ x, Hid (x = (ps.getD 31 0).toNat) := ⟨_, rfl⟩
  obtain ⟨b0, hb0⟩ : ∃ x, Hid (x = (ts.getD 0 0).toNat) := ⟨_, rfl⟩
  obtain ⟨b1, hb1⟩ : ∃ x, Hid (x = (ts.getD 1 0).toNat) := ⟨_, rfl⟩
  obtain ⟨b2, hb2⟩ : ∃ x, Hid (x = (ts.getD 2 0).toNat) := ⟨_, rfl⟩
  have lx0 : x0 < 256 := by rw [hx0.out]; exact UInt8.toNat_lt _
  have lx1 : x1 < 256 := by rw [hx1.out]; exact UInt8.toNat_lt _
  have ly1 : y1 < 256 := by rw [hy1.out]; exact UInt8.toNat_lt _
  have lb0 : b0 < 256 := by rw [hb0.out]; exact UInt8.toNat_lt _
  have lb1 : b1 < 256 := by rw [hb1.out]; exact UInt8.toNat_lt _
  have lb2 : b2 < 256 := by rw [hb2.out]; exact UInt8.toNat_lt _
  obtain ⟨m, hm⟩ : ∃ x, x = b0 % 8 := ⟨_, rfl⟩
  obtain ⟨n, hn⟩ : ∃ x, x = b1 / 64 := ⟨_, rfl⟩
  obtain ⟨o, ho⟩ : ∃ x, x = b2 / 128 := ⟨_, rfl⟩
  have lm : m < 8 := by omega
  have ln : n < 4 := by omega
  have lo_ : o < 2 := by omega
  obtain ⟨nn, hnn⟩ : ∃ x, x = n * 64 := ⟨_, rfl⟩
  obtain ⟨oo, hoo⟩ : ∃ x, x = o * 128 := ⟨_, rfl⟩
  obtain ⟨z0, hz0⟩ : ∃ x, x = x0 ^^^ m := ⟨_, rfl⟩
  obtain ⟨z1, hz1⟩ : ∃ x, x = x1 ^^^ nn := ⟨_, rfl⟩
  obtain ⟨z2, hz2⟩ : ∃ x, x = y1 ^^^ oo := ⟨_, rfl⟩
  have s1 : (b0 : Int) % 8 = (m : Int) := by omega
  have s1' : (b0 : Int).tmod 8 = (m : Int) := by rw [Int.tmod_eq_emod_of_nonneg (by omega)]; exact s1
  have s2 : (b1 : Int) / 64 = (n : Int) := by omega
  have s2' : (b1 : Int).tdiv 64 = (n : Int) := by rw [Int.tdiv_eq_ediv_of_nonneg (by omega)]; exact s2
  have s3 : (b2 : Int) / 128 = (o : Int) := by omega
  have s3' : (b2 : Int).tdiv 128 = (o : Int) := by rw [Int.tdiv_eq_ediv_of_nonneg (by omega)]; exact s3
  have s4 : IntKind.u8.wrap ((n : Int) * 64) = (nn : Int) := by rw [IntKind.wrap_u8]; omega
  have s4' : ((n : Int) * 64) % 256 = (nn : Int) := by omega
  have s5 : IntKind.u8.wrap ((o : Int) * 128) = (oo : Int) := by rw [IntKind.wrap_u8]; omega
  have s5' : ((o : Int) * 128) % 256 = (oo : Int) := by omega
  have s6 : (n : Int) % 256 = (n : Int) := by omega
  have s7 : (o : Int) % 256 = (o : Int) := by omega
  have t0 : bits BinOp.xor .u8 (x0 : Int) (m : Int) = (z0 : Int) := by rw [u8_xor_nat _ _ lx0 (by omega), hz0]
  have t1 : bits BinOp.xor .u8 (x1 : Int) (nn : Int) = (z1 : Int) := by rw [u8_xor_nat _ _ lx1 (by omega), hz1]
  have t2 : bits BinOp.xor .u8 (y1 : Int) (oo : Int) = (z2 : Int) := by rw [u8_xor_nat _ _ ly1 (by omega), hz2]
  have lz0 : z0 < 256 := by rw [hz0]; exact Nat.xor_lt_two_pow (n := 8) lx0 (by omega)
  have lz1 : z1 < 256 := by rw [hz1]; exact Nat.xor_lt_two_pow (n := 8) lx1 (by omega)
  have lz2 : z2 < 256 := by rw [hz2]; exact Nat.xor_lt_two_pow (n := 8) ly1 (by omega)
  obtain ⟨bs, c, hc10, hall⟩ := loosed_alike C ks ps hk hp m n o lm ln lo_
  obtain ⟨ls, hls⟩ : ∃ l, Hid (l = M.loosS ks m (n * 64)) := ⟨_, rfl⟩
  obtain ⟨qs, hqs⟩ : ∃ l, Hid (l = M.loosP ps (o * 128)) := ⟨_, rfl⟩
  rw [← hls.out, ← hqs.out] at hall
  have HS := Lib.hid hall
  have HL : Hid (((Lib.byteCells ks).set 0 (.int .u8 (z0 : Int))).set 31 (.int .u8 (z1 : Int)) = Lib.byteCells ls) := by
    rw [Hid, hls.out, M.loosS, ← hx0.out, ← hx1.out, ← hnn, ← hz0, ← hz1, ← bc_set, ← bc_set, M.of_nat8 _ lz0, M.of_nat8 _ lz1]
  have HQ : Hid ((Lib.byteCells ps).set 31 (.int .u8 (z2 : Int)) = Lib.byteCells qs) := by
    rw [Hid, hqs.out, M.loosP, ← hy1.out, ← hoo, ← hz2, ← bc_set, M.of_nat8 _ lz2]
  have HLL : Hid (ls.length = 32) := by rw [hls.out]; rw [Hid, M.loosS_length, hk]
  have HQL : Hid (qs.length = 32) := by rw [hqs.out]; rw [Hid, M.loosP_length, hp]
  have CA := Lib.hid (fun w => curveAwake_any C w)
  have HC10 := Lib.hid hc10
  have HK := Lib.hid hk
  have HP := Lib.hid hp
  have HT := Lib.hid ht
  have hc : (c == c) = true := by simp
  obtain ⟨g, hg⟩ : ∃ g, g = w.heap.size := ⟨_, rfl⟩
  obtain ⟨W, hW⟩ : ∃ W, Hid (W = (((w.alloc (.cells (Lib.byteCells ks).toArray 31)).alloc (.cells (Lib.byteCells ps).toArray 31)).alloc (.cells (Lib.byteCells ts).toArray 32))) := ⟨_, rfl⟩
  have B0 : Hid (Blk W g 31 (Lib.byteCells ks)) := by rw [hW.out, hg]; exact ((Blk.newAt _ _ _ _ _ (by simp) rfl).alloc _).alloc _
  have B1 : Hid (Blk W (g + 1) 31 (Lib.byteCells ps)) := by rw [hW.out, hg]; exact (Blk.newAt _ _ _ _ _ (by simp) rfl).alloc _
  have B2 : Hid (Blk W (g + 2) 32 (Lib.byteCells ts)) := by rw [hW.out, hg]; exact Blk.newAt _ _ _ _ _ (by simp) rfl
  have K0 : Hid (Below w.heap.size w W) := by rw [hW.out]; exact (((Below.refl _ _).alloc (Nat.le_refl _) _).alloc (by simp) _).alloc (by simp; omega) _
  have HG : Hid (w.heap.size = g) := hg.symm
  have hsl0 := slice32_all g
  have hsl1 := slice32_all (g + 1)
  clear hall hc10 C hk hp ht hls hqs hm hn ho hnn hoo hz0 hz1 hz2 lx0 lx1 ly1 lb0 lb1 lb2 lm ln lo_ lz0 lz1 lz2
  go_enter Try.func5, Try.ntmps5
  go_upto_region 1 with fail
  rw [← hW.out, ← hg]
  clear hW hg
  go_wp2_with fail
  refine (CA.out W).mono ?_
  rintro e w1 ⟨rfl, k1⟩
  have D0 : Hid (Blk w1 g 31 (Lib.byteCells ks)) := B0.out.below k1 B0.out.lt
  have D1 : Hid (Blk w1 (g + 1) 31 (Lib.byteCells ps)) := B1.out.below k1 B1.out.lt
  have D2 : Hid (Blk w1 (g + 2) 32 (Lib.byteCells ts)) := B2.out.below k1 B2.out.lt
  have K1 : Hid (Below w.heap.size w w1) := K0.out.trans (k1.mono K0.out.size)
  clear k1 B0 B1 B2 K0 CA
  go_upto_region 3 with fail
  have kd := below_draws w1 1
  have J0 : Hid (IsB w1.drew (.slice (some ⟨g, 0, none⟩) 32 32) ks) := (blk_all D0.out HK.out).below kd
  have J1 : Hid (IsB w1.drew (.slice (some ⟨g + 1, 0, none⟩) 32 32) ps) := (blk_all D1.out HP.out).below kd
  have E0 : Hid (Blk w1.drew g 31 (Lib.byteCells ks)) := D0.out.below kd D0.out.lt
  have E1 : Hid (Blk w1.drew (g + 1) 31 (Lib.byteCells ps)) := D1.out.below kd D1.out.lt
  have E2 : Hid (Blk w1.drew (g + 2) 32 (Lib.byteCells ts)) := D2.out.below kd D2.out.lt
  have KD : Hid (Below w.heap.size w w1.drew) := K1.out.trans (kd.mono K1.out.size)
  clear kd D0 D1 D2 K1
  go_region_with (go_at_call 8; refine ((HS.out _ _ _).1 J0.out J1.out).mono ?_; rintro e w2 ⟨r2, rfl, i2, k2⟩)
  all_goals (
    have I2 := Lib.hid i2
    have F0 : Hid (Blk w2 g 31 (Lib.byteCells ks)) := E0.out.below k2 E0.out.lt
    have F1 : Hid (Blk w2 (g + 1) 31 (Lib.byteCells ps)) := E1.out.below k2 E1.out.lt
    have F2 : Hid (Blk w2 (g + 2) 32 (Lib.byteCells ts)) := E2.out.below k2 E2.out.lt
    have K2 : Hid (Below w.heap.size w w2) := KD.out.trans (k2.mono KD.out.size)
    clear i2 k2 J0 J1 E0 E1 E2 KD hsl0 hsl1
    obtain ⟨g3, hg3⟩ : ∃ g, g = w2.heap.size := ⟨_, rfl⟩
    have HG3 : Hid (g + 2 < g3) := by rw [Hid, hg3]; exact F2.out.lt
    have HB : Hid (w2.heap.size = g3) := hg3.symm
    have R0 : Hid (w2.rangeAt g 0 (Lib.byteCells ks)) := F0.out.range 0 _ [] (by simp)
    go_upto_region 5 with (first
      | (refine wpList_load_mid rfl 31 (.tmp 3) rfl g 0 rfl (Lib.byteCells ks) _ R0.out Try.underlying31 rfl (by rw [byteCells_length, HK.out]; kernel_rfl) ?_)
      | (rw [← hg3]; refine wpList_store_blk rfl 31 (.tmp 9) (.tmp 21) rfl g3 (Lib.byteCells ks).toArray rfl rfl 31 (List.replicate 32 (.int .u8 0)) (Blk.newAt _ _ _ _ _ hg3 rfl) (by rw [List.size_toArray, byteCells_length, HK.out]; kernel_rfl) (by rw [List.size_toArray, byteCells_length, HK.out, List.length_replicate]) (bc_oneCell ks) ?_; intro w3 hb3 ho3))
    have k3 : Below w.heap.size w w3 := (K2.out.alloc K2.out.size _).trans (ho3.below (by have := K2.out.size; have := HG.out; have := HG3.out; simp; omega) (by have := HG.out; have := HG3.out; omega))
    have F30 : Hid (Blk w3 g 31 (Lib.byteCells ks)) := (F0.out.alloc _).grown ho3 (by intro e; injection e with e; have := HG3.out; omega)
    have F31 : Hid (Blk w3 (g + 1) 31 (Lib.byteCells ps)) := (F1.out.alloc _).grown ho3 (by intro e; injection e with e; have := HG3.out; omega)
    have F32 : Hid (Blk w3 (g + 2) 32 (Lib.byteCells ts)) := (F2.out.alloc _).grown ho3 (by intro e; injection e with e; have := HG3.out; omega)
    have F33 : Hid (Blk w3 g3 31 (Lib.byteCells ks)) := hb3
    have L3 : Hid (Below g3 w2 w3) := ((Below.refl _ _).alloc (Nat.le_of_eq hg3) _).trans (ho3.below (by simp; omega) (Nat.le_refl _))
    clear hb3 ho3 F0 F1 F2 K2 R0 hg3
    obtain ⟨g4, hg4⟩ : ∃ g, g = w3.heap.size := ⟨_, rfl⟩
    have HG4 : Hid (g3 < g4) := by rw [Hid, hg4]; exact F33.out.lt
    have R1 : Hid (w3.rangeAt (g + 1) 0 (Lib.byteCells ps)) := F31.out.range 0 _ [] (by simp)
    go_upto_region 6 with (first
      | (refine wpList_load_mid rfl 31 (.tmp 4) rfl (g + 1) 0 rfl (Lib.byteCells ps) _ R1.out Try.underlying31 rfl (by rw [byteCells_length, HP.out]; kernel_rfl) ?_)
      | (rw [← hg4]; refine wpList_store_blk rfl 31 (.tmp 10) (.tmp 22) rfl g4 (Lib.byteCells ps).toArray rfl rfl 31 (List.replicate 32 (.int .u8 0)) (Blk.newAt _ _ _ _ _ hg4 rfl) (by rw [List.size_toArray, byteCells_length, HP.out]; kernel_rfl) (by rw [List.size_toArray, byteCells_length, HP.out, List.length_replicate]) (bc_oneCell ps) ?_; intro w4 hb4 ho4))
    have F42 : Hid (Blk w4 (g + 2) 32 (Lib.byteCells ts)) := (F32.out.alloc _).grown ho4 (by intro e; injection e with e; have := HG3.out; have := HG4.out; omega)
    have F43 : Hid (Blk w4 g3 31 (Lib.byteCells ks)) := (F33.out.alloc _).grown ho4 (by intro e; injection e with e; have := HG4.out; omega)
    have F44 : Hid (Blk w4 g4 31 (Lib.byteCells ps)) := hb4
    have k4 : Below w.heap.size w w4 := (k3.alloc k3.size _).trans (ho4.below (by have := k3.size; have := HG.out; have := HG3.out; have := HG4.out; simp; omega) (by have := HG.out; have := HG3.out; have := HG4.out; omega))
    have L4 : Hid (Below g3 w2 w4) := (L3.out.alloc (Nat.le_of_lt (by rw [← hg4]; exact HG4.out)) _).trans (ho4.below (by have := HG4.out; simp; omega) (Nat.le_of_lt HG4.out))
    have K4 := Lib.hid k4
    have GA : Hid (w.heap.size ≤ g3 ∧ w.heap.size ≤ g4 ∧ g + 2 ≠ g3 ∧ g + 2 ≠ g4 ∧ g3 ≠ g4) := by
      have := HG.out; have := HG3.out; have := HG4.out
      exact ⟨by omega, by omega, by omega, by omega, by omega⟩
    clear hb4 ho4 k3 k4 L3 F30 F31 F32 F33 R1 hg4
    have c0 : w4.cell? ⟨g3, 0, none⟩ = some (.int .u8 (x0 : Int)) := by rw [F43.out.cell, byteCells_getElem? _ _ (by rw [HK.out]; decide), hx0.out]
    have e0 : w4.cell? ⟨g + 2, 0, none⟩ = some (.int .u8 (b0 : Int)) := by rw [F42.out.cell, byteCells_getElem? _ _ (by rw [HT.out]; decide), hb0.out]
    have f0 : w4.frozen? ⟨g3, 0, none⟩ = false := F43.out.frozen 0
    go_upto_region 7 with fail
    obtain ⟨w5, hw5⟩ : ∃ x, Hid (x = w4.setCell ⟨g3, 0, none⟩ (.int .u8 (z0 : Int))) := ⟨_, rfl⟩
    rw [← hw5.out]
    have F52 : Hid (Blk w5 (g + 2) 32 (Lib.byteCells ts)) := by rw [hw5.out]; exact blk_far F42.out GA.out.2.2.1 _
    have F53 : Hid (Blk w5 g3 31 ((Lib.byteCells ks).set 0 (.int .u8 (z0 : Int)))) := by rw [hw5.out]; exact F43.out.set_ 0 _
    have F54 : Hid (Blk w5 g4 31 (Lib.byteCells ps)) := by rw [hw5.out]; exact blk_far F44.out (Ne.symm GA.out.2.2.2.2) _
    have K5 : Hid (Below w.heap.size w w5) := by rw [hw5.out]; exact below_set K4.out GA.out.1 _
    have L5 : Hid (Below g3 w2 w5) := by rw [hw5.out]; exact below_set L4.out (Nat.le_refl _) _
    clear hw5 c0 e0 f0 F42 F43 F44 K4 L4
    have c1 : w5.cell? ⟨g3, 31, none⟩ = some (.int .u8 (x1 : Int)) := by rw [F53.out.cell, List.getElem?_set_ne (by decide), byteCells_getElem? _ _ (by rw [HK.out]; decide), hx1.out]
    have e1 : w5.cell? ⟨g + 2, 1, none⟩ = some (.int .u8 (b1 : Int)) := by rw [F52.out.cell, byteCells_getElem? _ _ (by rw [HT.out]; decide), hb1.out]
    have f1 : w5.frozen? ⟨g3, 31, none⟩ = false := F53.out.frozen 31
    go_upto_region 8 with fail
    obtain ⟨w6, hw6⟩ : ∃ x, Hid (x = w5.setCell ⟨g3, 31, none⟩ (.int .u8 (z1 : Int))) := ⟨_, rfl⟩
    rw [← hw6.out]
    have F62 : Hid (Blk w6 (g + 2) 32 (Lib.byteCells ts)) := by rw [hw6.out]; exact blk_far F52.out GA.out.2.2.1 _
    have F63 : Hid (Blk w6 g3 31 (Lib.byteCells ls)) := by rw [hw6.out, ← HL.out]; exact F53.out.set_ 31 _
    have F64 : Hid (Blk w6 g4 31 (Lib.byteCells ps)) := by rw [hw6.out]; exact blk_far F54.out (Ne.symm GA.out.2.2.2.2) _
    have K6 : Hid (Below w.heap.size w w6) := by rw [hw6.out]; exact below_set K5.out GA.out.1 _
    have L6 : Hid (Below g3 w2 w6) := by rw [hw6.out]; exact below_set L5.out (Nat.le_refl _) _
    clear hw6 c1 e1 f1 F52 F53 F54 K5 L5
    have c2 : w6.cell? ⟨g4, 31, none⟩ = some (.int .u8 (y1 : Int)) := by rw [F64.out.cell, byteCells_getElem? _ _ (by rw [HP.out]; decide), hy1.out]
    have e2 : w6.cell? ⟨g + 2, 2, none⟩ = some (.int .u8 (b2 : Int)) := by rw [F62.out.cell, byteCells_getElem? _ _ (by rw [HT.out]; decide), hb2.out]
    have f2 : w6.frozen? ⟨g4, 31, none⟩ = false := F64.out.frozen 31
    have hsl3 := slice32_all g3
    have hsl4 := slice32_all g4
    go_upto_region 9 with fail
    obtain ⟨w7, hw7⟩ : ∃ x, Hid (x = w6.setCell ⟨g4, 31, none⟩ (.int .u8 (z2 : Int))) := ⟨_, rfl⟩
    rw [← hw7.out]
    have F73 : Hid (Blk w7 g3 31 (Lib.byteCells ls)) := by rw [hw7.out]; exact blk_far F63.out GA.out.2.2.2.2 _
    have F74 : Hid (Blk w7 g4 31 (Lib.byteCells qs)) := by rw [hw7.out, ← HQ.out]; exact F64.out.set_ 31 _
    have K7 : Hid (Below w.heap.size w w7) := by rw [hw7.out]; exact below_set K6.out GA.out.2.1 _
    have L7 : Below g3 w2 w7 := by rw [hw7.out]; exact below_set L6.out (Nat.le_of_lt HG4.out) _
    rw [← HB.out] at L7
    have I7 : Hid (IsB w7 r2 bs) := I2.out.below L7
    clear hw7 c2 e2 f2 F62 F63 F64 K6 L6 L7 I2
    have kd := below_draws w7 1
    have J0 : Hid (IsB w7.drew (.slice (some ⟨g3, 0, none⟩) 32 32) ls) := (blk_all F73.out HLL.out).below kd
    have J1 : Hid (IsB w7.drew (.slice (some ⟨g4, 0, none⟩) 32 32) qs) := (blk_all F74.out HQL.out).below kd
    have I8 : Hid (IsB w7.drew r2 bs) := I7.out.below kd
    have K8 : Hid (Below w.heap.size w w7.drew) := K7.out.trans (kd.mono K7.out.size)
    clear kd F73 F74 I7 K7
    go_region_with (go_at_call 8; refine ((HS.out _ _ _).2 J0.out J1.out).mono ?_; rintro e w9 ⟨r9, rfl, i9, k9⟩)
    all_goals (
      have I9 := Lib.hid i9
      have I89 := Lib.hid (I8.out.below k9)
      have K9 : Hid (Below w.heap.size w w9) := K8.out.trans (k9.mono K8.out.size)
      clear i9 k9 J0 J1 I8 K8 hsl3 hsl4
      go_wp2_with fail
      refine (requal_b _ _ bs bs w9 I89.out I9.out).mono ?_
      rintro e w10 ⟨rfl, k10⟩
      rw [decide_eq_true (rfl : bs = bs)]
      have K10 : Hid (Below w.heap.size w w10) := K9.out.trans (k10.mono K9.out.size)
      rcases HC10.out with h | h
      · subst h
        go_wp2
        go_ret
        exact ⟨rfl, K10.out⟩
      · subst h
        go_wp2
        go_ret
        exact ⟨rfl, K10.out⟩))

end Go.Proofs.Yteombilmndlhjaa
