/-
  CONTRACT OF orlopref06.Open: the document's own opening of a box. Conditions: boxes and what is said beside of up to 1024 bytes each; what is nil has no spare room; keys and nonces of whatever lengths (refused, if they aren't 32 and 12).
-/
import Derived.Test.YtogklpeehfoijaaDoorRefAead
namespace Go.Proofs.YtogklpeehfoijaaDoor
open Go.RowKit
set_option linter.unusedVariables false

theorem ropen_no (kv nv bv tv : Value) (key nonce : List UInt8) (w : World) (hk : IsB w kv key) (hn : IsB w nv nonce) (hl : ¬ (key.length = 32 ∧ nonce.length = 12)) :
    Calls Tryd.prog 13 #[kv, nv, bv, tv] w fun e w' => e = .returned (.tuple #[.slice none 0 0, .int .i64 1]) ∧ w' = w := by
  obtain ⟨a1, c1, rfl⟩ := hk.shape
  obtain ⟨a2, c2, rfl⟩ := hn.shape
  obtain ⟨n, hn1⟩ : ∃ n, n = key.length := ⟨_, rfl⟩
  obtain ⟨m, hm1⟩ : ∃ n, n = nonce.length := ⟨_, rfl⟩
  rw [← hn1, ← hm1] at hl ⊢
  clear hk hn hn1 hm1
  by_cases h1 : n = 32
  · have h2 : ¬ (m : Int) = 12 := by omega
    subst h1
    clear hl
    go_enter Tryd.func13, Tryd.ntmps13
    go_wp2
    go_ret2
    exact ⟨rfl, rfl⟩
  · have h3 : ¬ (n : Int) = 32 := by omega
    clear hl
    go_enter Tryd.func13, Tryd.ntmps13
    go_wp2
    go_ret2
    exact ⟨rfl, rfl⟩

theorem ropen_short (kv nv bv tv : Value) (key nonce box : List UInt8) (w : World) (hk : IsB w kv key) (hn : IsB w nv nonce) (ht : IsB w tv box) (hkl : key.length = 32) (hnl : nonce.length = 12) (hq : box.length < 16) :
    Calls Tryd.prog 13 #[kv, nv, bv, tv] w fun e w' => e = .returned (.tuple #[.slice none 0 0, .int .i64 8]) ∧ w' = w := by
  obtain ⟨a1, c1, rfl⟩ := hk.shape
  obtain ⟨a2, c2, rfl⟩ := hn.shape
  obtain ⟨a4, c4, rfl⟩ := ht.shape
  rw [hkl, hnl]
  obtain ⟨n, hn1⟩ : ∃ n, n = box.length := ⟨_, rfl⟩
  rw [← hn1] at hq ⊢
  have h2 : (n : Int) < 16 := by omega
  clear hk hn ht hkl hnl hn1
  go_enter Tryd.func13, Tryd.ntmps13
  go_wp2
  go_ret2
  exact ⟨rfl, rfl⟩

set_option maxHeartbeats 2000000 in
theorem ropen_any (kv nv bv tv : Value) (key nonce beside box : List UInt8) (w : World) (hk : IsB w kv key) (hn : IsB w nv nonce) (hb : IsB w bv beside) (ht : IsB w tv box) (hkl : key.length = 32) (hnl : nonce.length = 12)
    (zb : ∀ n c, bv = .slice none n c → c = 0) (hlen : beside.length ≤ 1024) (hlen2 : box.length ≤ 1024) (q : Nat) (hq : q + 16 = box.length) :
    Calls Tryd.prog 13 #[kv, nv, bv, tv] w fun e w' => (M.boxTag key nonce beside (box.take q) = box.drop q → ∃ r, e = .returned (.tuple #[r, .int .i64 0]) ∧ Own w' w.heap.size r (M.hide key nonce (box.take q))) ∧
      (¬ M.boxTag key nonce beside (box.take q) = box.drop q → e = .returned (.tuple #[.slice none 0 0, .int .i64 7])) ∧ Below w.heap.size w w' := by
  rw [← M.box_iff key nonce beside box q hq]
  obtain ⟨a1, c1, rfl⟩ := hk.shape
  obtain ⟨a2, c2, rfl⟩ := hn.shape
  obtain ⟨a4, c4, rfl⟩ := ht.shape
  rw [hkl] at hk ⊢
  rw [hnl] at hn ⊢
  have hc4 : box.length ≤ c4 := by obtain ⟨_, _, e, h1, _⟩ := ht; injection e with _ _ e; omega
  have hqn : q ≤ box.length := by omega
  have ht6 := ht.take q hqn
  obtain ⟨H, hH⟩ : ∃ H, Hid (H = box.take q) := ⟨_, rfl⟩
  have HHL : Hid (H.length = q) := by rw [Hid, hH.out, List.length_take]; omega
  obtain ⟨X, hX⟩ : ∃ X, Hid (X = M.hide key nonce H) := ⟨_, rfl⟩
  have HXL : Hid (X.length = q) := by rw [hX.out, Hid, M.hide_length]; exact HHL.out
  obtain ⟨Y, hY⟩ : ∃ Y, Hid (Y = M.box key nonce beside X) := ⟨_, rfl⟩
  rw [← hH.out] at ht6 ⊢
  rw [← hX.out, ← hY.out]
  have C1 := Lib.hid (rxor_any (.slice a1 32 c1) (.slice a2 12 c2) (.slice a4 q c4) key nonce H 1 w hk hn ht6 hkl hnl (by rw [HHL.out]; omega))
  rw [show M.xo (M.strm key nonce 1) H H.length = M.hide key nonce H from rfl, ← hX.out] at C1
  have C2 := Lib.hid (fun w' v (k : Below w.heap.size w w') (h : IsB w' v X) => rseal_any (.slice a1 32 c1) (.slice a2 12 c2) bv v key nonce beside X w' (hk.below k) (hn.below k) (hb.below k) h hkl hnl zb hlen (by rw [HXL.out]; omega))
  rw [← hY.out] at C2
  have HTT := Lib.hid ht
  obtain ⟨n, hn4⟩ : ∃ n, n = box.length := ⟨_, rfl⟩
  rw [← hn4] at hlen2 hc4 hqn hq HTT ⊢
  have s0 : ¬ (n : Int) < 16 := by omega
  have s1 : (n : Int) - 16 = (q : Int) := by omega
  have hqc : (q : Int) ≤ (c4 : Int) := by omega
  clear hq hn4 hk hn hb ht hkl hnl zb ht6 hH hX hY
  go_enter Tryd.func13, Tryd.ntmps13
  go_wp2_with fail
  refine C1.out.mono ?_
  rintro e w1 ⟨r1, rfl, o1, k1⟩
  have O1 := Lib.hid o1
  have K1 := Lib.hid k1
  clear o1 k1 C1
  go_wp2_with fail
  refine (C2.out w1 _ K1.out O1.out.isB).mono ?_
  rintro e w2 ⟨r2, rfl, o2, k2⟩
  have O2 := Lib.hid o2
  have O12 : Hid (Own w2 w.heap.size r1 X) := O1.out.below k2
  have K2 : Hid (Below w.heap.size w w2) := K1.out.trans (k2.mono K1.out.size)
  have T2 : Hid (IsB w2 (.slice a4 n c4) box) := HTT.out.below K2.out
  clear o2 k2 O1 K1 C2
  by_cases hyes : Y = box
  · have HY := Lib.hid hyes
    have C3 := Lib.hid (requal_b r2 (.slice a4 n c4) Y box w2 O2.out.isB T2.out)
    rw [decide_eq_true hyes] at C3
    clear hyes
    go_wp2_with fail
    refine C3.out.mono ?_
    rintro e w3 ⟨rfl, k3⟩
    have K3 : Hid (Below w.heap.size w w3) := K2.out.trans (k3.mono K2.out.size)
    have O3 : Hid (Own w3 w.heap.size r1 X) := O12.out.below k3
    clear k3 C3 O2 T2 K2 O12
    go_wp2
    go_ret2
    exact ⟨fun _ => ⟨_, rfl, O3.out⟩, fun h => absurd HY.out h, K3.out⟩
  · have HY := Lib.hid hyes
    have C3 := Lib.hid (requal_b r2 (.slice a4 n c4) Y box w2 O2.out.isB T2.out)
    rw [decide_eq_false hyes] at C3
    clear hyes
    go_wp2_with fail
    refine C3.out.mono ?_
    rintro e w3 ⟨rfl, k3⟩
    have K3 : Hid (Below w.heap.size w w3) := K2.out.trans (k3.mono K2.out.size)
    clear k3 C3 O2 T2 K2 O12
    go_wp2
    go_ret2
    exact ⟨fun h => absurd h HY.out, fun _ => rfl, K3.out⟩

end Go.Proofs.YtogklpeehfoijaaDoor
