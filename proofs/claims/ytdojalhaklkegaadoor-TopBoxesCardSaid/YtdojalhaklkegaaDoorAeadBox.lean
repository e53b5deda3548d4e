/-
  CONTRACTS OF aead.Seal AND aead.Open. Conditions: layer 4's table of places lies as it was laid; what is sealed, and said beside, has up to 2^46 - 64 bytes together; what is nil has no spare room; keys and nonces of whatever lengths (refused, if they aren't 32 and 12).
-/
import Derived.Test.YtdojalhaklkegaaDoorAeadTag
import Derived.Test.YtdojalhaklkegaaDoorChaXor
import Derived.Test.YtdojalhaklkegaaDoorWordC
import Derived.Deep.QuietTactic
import Derived.BigQuiet
set_option maxRecDepth 100000
namespace Go.Proofs.YtdojalhaklkegaaDoor
open Go.RowKit
set_option linter.unusedVariables false

set_option maxHeartbeats 1000000 in
theorem aseal_any (kv nv bv tv : Value) (key nonce beside text : List UInt8) (w : World) (hL : LaidP w) (hk : IsB w kv key) (hn : IsB w nv nonce) (hb : IsB w bv beside) (ht : IsB w tv text) (hkl : key.length = 32) (hnl : nonce.length = 12)
    (zb : ∀ n c, bv = .slice none n c → c = 0) (hlen : beside.length + text.length ≤ 70368744177600) :
    Calls Tryd.prog 10 #[kv, nv, bv, tv] w fun e w' => ∃ r, e = .returned (.tuple #[r, .int .i64 0]) ∧ Own w' w.heap.size r (M.box key nonce beside text) ∧ Below w.heap.size w w' := by
  obtain ⟨H, hH⟩ : ∃ H, Hid (H = M.hide key nonce text) := ⟨_, rfl⟩
  have HHL : Hid (H.length = text.length) := by rw [hH.out]; exact M.hide_length _ _ _
  obtain ⟨T, hT⟩ : ∃ T, Hid (T = M.boxTag key nonce beside H) := ⟨_, rfl⟩
  have HTL : Hid (T.length = 16) := by rw [hT.out]; exact M.boxTag_length _ _ _ _
  obtain ⟨X, hX⟩ : ∃ X, Hid (X = M.box key nonce beside text) := ⟨_, rfl⟩
  have HX : Hid (H ++ T = X) := by rw [hX.out, hT.out, hH.out]; rfl
  have C1 := Lib.hid (xor_any kv nv tv key nonce text 1 w hL hk hn ht hkl hnl (by omega))
  rw [show M.xo (M.strm key nonce 1) text text.length = M.hide key nonce text from rfl, ← hH.out] at C1
  have C2 := Lib.hid (fun w' hv (k : Below w.heap.size w w') (hh : IsB w' hv H) zh => tagOf_any kv nv bv hv key nonce beside H w' (hL.below k hL.size) (hk.below k) (hn.below k) (hb.below k) hh hkl hnl zb zh (by rw [HHL.out]; exact hlen))
  rw [← hT.out] at C2
  rw [← hX.out]
  have HS : Hid (H.length + T.length ≤ 140737488355328) := by rw [Hid, HHL.out, HTL.out]; omega
  clear hL hk hn hb ht hkl hnl zb hlen hH hT hX
  go_enter Tryd.func10, Tryd.ntmps10
  go_wp2_with fail
  refine C1.out.mono ?_
  rintro e w1 ⟨r1, rfl, o1, k1⟩
  have O1 := Lib.hid o1
  have K1 := Lib.hid k1
  clear o1 k1
  go_wp2_with fail
  refine (C2.out w1 _ K1.out O1.out.isB O1.out.nil0).mono ?_
  rintro e w2 ⟨r2, rfl, o2, k2⟩
  have O2 := Lib.hid o2
  have O12 : Hid (Own w2 w.heap.size r1 H) := O1.out.below k2
  have K2 : Hid (Below w.heap.size w w2) := K1.out.trans (k2.mono K1.out.size)
  clear o2 k2
  go_wp2_with (at_builtin; go_must (refine wpList_app _ rfl _ _ rfl w.heap.size _ H rfl O12.out _ T rfl O2.out.isB O2.out.nil0 HS.out K2.out.size ?_))
  intro r3 w3 o3 k3 _
  rw [HX.out] at o3
  have O3 := Lib.hid o3
  have K3 : Hid (Below w.heap.size w w3) := K2.out.trans k3
  clear o3 k3
  go_wp2
  go_ret2
  exact ⟨_, rfl, O3.out, K3.out⟩

theorem aseal_no (kv nv bv tv : Value) (key nonce : List UInt8) (w : World) (hk : IsB w kv key) (hn : IsB w nv nonce) (hl : ¬ (key.length = 32 ∧ nonce.length = 12)) :
    Calls Tryd.prog 10 #[kv, nv, bv, tv] w fun e w' => e = .returned (.tuple #[.slice none 0 0, .int .i64 1]) ∧ w' = w := by
  have HC := Lib.hid (xor_no kv nv tv key nonce 1 w hk hn hl)
  clear hk hn hl
  go_enter Tryd.func10, Tryd.ntmps10
  go_wp2_with fail
  refine HC.out.mono ?_
  rintro e w1 ⟨rfl, rfl⟩
  go_wp2
  go_ret2
  exact ⟨rfl, rfl⟩

/-- 'b[m:]'. -/
theorem IsB.from_ {w : World} {ao : Option Addr} {n cap : Nat} {bs : List UInt8} (h : IsB w (.slice ao n cap) bs) (m : Nat) (hm : m ≤ n) : ∃ a, (∀ W : World, (Instr.slice 24 (.slice ao n cap) (some (.int .i64 (m : Int))) none none).run Tryd.prog W = .ok (.slice a (n - m) (cap - m)) W) ∧ IsB w (.slice a (n - m) (cap - m)) (bs.drop m) := by
  have hel : Tryd.prog.elem 24 = 5 := by simp [Program.elem, Tryd.underlying24]
  refine ⟨if cap = m then ao else ao.map (·.add m), fun W => ?_, ?_⟩
  · rw [run_slice_l W 24 ao n cap (by rw [hel]; exact Tryd.underlying24) .i64 (m : Int) (by omega) (by omega), hel, Tryd.sizeOf5]
    simp only [Result.andThen_ok, sliced, Int.toNat_natCast, Nat.mul_one]
  · obtain ⟨ao', cap', e, h1, h2, h3⟩ := h
    injection e with e1 e2 e3
    subst e1 e2 e3
    have hl : (bs.drop m).length = bs.length - m := by rw [List.length_drop]
    refine ⟨_, cap - m, by rw [hl], by rw [hl]; omega, by omega, ?_⟩
    by_cases hc : cap = m
    · exact .inl (List.eq_nil_of_length_eq_zero (by rw [hl]; omega))
    · rw [if_neg hc]
      rcases h3 with h | ⟨b, off, rfl, h⟩
      · exact .inl (by rw [h]; simp)
      · refine .inr ⟨b, off + m, by rw [Option.map_some, Addr.add_lit], fun i hi => ?_⟩
        rw [hl] at hi
        rw [Nat.add_assoc, h (m + i) (by omega)]
        simp [List.getD_eq_getElem?_getD]

set_option maxHeartbeats 2000000 in
theorem open_any (kv nv bv tv : Value) (key nonce beside box : List UInt8) (w : World) (hL : LaidP w) (hk : IsB w kv key) (hn : IsB w nv nonce) (hb : IsB w bv beside) (ht : IsB w tv box) (hkl : key.length = 32) (hnl : nonce.length = 12)
    (zb : ∀ n c, bv = .slice none n c → c = 0) (zt : ∀ n c, tv = .slice none n c → c = 0) (hlen : beside.length + box.length ≤ 70368744177600) (q : Nat) (hq : q + 16 = box.length) :
    Calls Tryd.prog 11 #[kv, nv, bv, tv] w fun e w' => (M.boxTag key nonce beside (box.take q) = box.drop q → ∃ r, e = .returned (.tuple #[r, .int .i64 0]) ∧ Own w' w.heap.size r (M.hide key nonce (box.take q))) ∧
      (¬ M.boxTag key nonce beside (box.take q) = box.drop q → e = .returned (.tuple #[.slice none 0 0, .int .i64 7])) ∧ Below w.heap.size w w' := by
  obtain ⟨a4, c4, rfl⟩ := ht.shape
  have hc4 : box.length ≤ c4 := by obtain ⟨_, _, e, h1, _⟩ := ht; injection e with _ _ e; omega
  have hqn : q ≤ box.length := by omega
  obtain ⟨a5, hsl, ht5⟩ := ht.from_ q hqn
  have hn16 : box.length - q = 16 := by omega
  rw [hn16] at hsl ht5
  obtain ⟨c5, hc5⟩ : ∃ c, c = c4 - q := ⟨_, rfl⟩
  rw [← hc5] at hsl ht5
  have ht6 := ht.take q hqn
  have z6 : ∀ n c, Value.slice a4 q c4 = .slice none n c → c = 0 := fun n c e => by injection e with e1 e2 e3; subst e1; exact e3 ▸ zt _ _ rfl
  obtain ⟨H, hH⟩ : ∃ H, Hid (H = box.take q) := ⟨_, rfl⟩
  have HHL : Hid (H.length = q) := by rw [Hid, hH.out, List.length_take]; omega
  obtain ⟨T, hT⟩ : ∃ T, Hid (T = box.drop q) := ⟨_, rfl⟩
  obtain ⟨R, hR⟩ : ∃ R, Hid (R = M.boxTag key nonce beside H) := ⟨_, rfl⟩
  obtain ⟨X, hX⟩ : ∃ X, Hid (X = M.hide key nonce H) := ⟨_, rfl⟩
  rw [← hH.out] at ht6 ⊢
  rw [← hT.out] at ht5 ⊢
  rw [← hR.out, ← hX.out]
  have C1 := Lib.hid (fun w' (k : Below w.heap.size w w') => tagOf_any kv nv bv (.slice a4 q c4) key nonce beside H w' (hL.below k hL.size) (hk.below k) (hn.below k) (hb.below k) (ht6.below k) hkl hnl zb z6 (by rw [HHL.out]; omega))
  have C2 := Lib.hid (fun w' (k : Below w.heap.size w w') => xor_any kv nv (.slice a4 q c4) key nonce H 1 w' (hL.below k hL.size) (hk.below k) (hn.below k) (ht6.below k) hkl hnl (by rw [HHL.out]; omega))
  rw [← hR.out] at C1
  simp only [show M.xo (M.strm key nonce 1) H H.length = M.hide key nonce H from rfl] at C2
  rw [← hX.out] at C2
  have HT5 := Lib.hid ht5
  obtain ⟨n, hn4⟩ : ∃ n, n = box.length := ⟨_, rfl⟩
  rw [← hn4] at hlen hc4 hqn hq hsl ⊢
  have s1 : (n : Int) - 16 = (q : Int) := by omega
  have hqc : (q : Int) ≤ (c4 : Int) := by omega
  have hqn' : (q : Int) ≤ (n : Int) := by omega
  clear hc5 hq hn16 hn4 hL hk hn hb ht hkl hnl zb zt ht5 ht6 z6 hH hT hR hX
  go_enter Tryd.func11, Tryd.ntmps11
  go_wp2
  go_quiet (fail)
  obtain ⟨w1, hw1⟩ : ∃ W, Hid (W = w.drewN nq) := ⟨_, rfl⟩
  have K1 : Hid (Below w.heap.size w w1) := by rw [hw1.out]; exact below_draws w nq
  have T1 : Hid (IsB w1 (.slice a5 16 c5) T) := HT5.out.below K1.out
  rw [← hw1.out]
  clear hw1 HT5 hsl
  go_wp2_with fail
  refine (C1.out w1 K1.out).mono ?_
  rintro e w2 ⟨r2, rfl, o2, k2⟩
  have O2 := Lib.hid o2
  have T2 : Hid (IsB w2 (.slice a5 16 c5) T) := T1.out.below k2
  have K2 : Hid (Below w.heap.size w w2) := K1.out.trans (k2.mono K1.out.size)
  clear o2 k2 T1 C1 K1
  by_cases hyes : R = T
  · have HY := Lib.hid hyes
    have C3 := Lib.hid (wequal_yes (.slice a5 16 c5) r2 T w2 T2.out (hyes ▸ O2.out.isB))
    clear hyes
    go_wp2_with fail
    refine C3.out.mono ?_
    rintro e w3 ⟨rfl, k3⟩
    have K3 : Hid (Below w.heap.size w w3) := K2.out.trans (k3.mono K2.out.size)
    clear k3 C3 O2 T2 K2
    go_wp2_with fail
    refine (C2.out w3 K3.out).mono ?_
    rintro e w4 ⟨r4, rfl, o4, k4⟩
    have K4 : Hid (Below w.heap.size w w4) := K3.out.trans (k4.mono K3.out.size)
    have O4 : Hid (Own w4 w.heap.size r4 X) := o4.mono K3.out.size
    clear o4 k4 C2 K3
    go_wp2
    go_ret2
    exact ⟨fun _ => ⟨_, rfl, O4.out⟩, fun h => absurd HY.out h, K4.out⟩
  · have HY := Lib.hid hyes
    have C3 := Lib.hid (wequal_no (.slice a5 16 c5) r2 T R w2 T2.out O2.out.isB (fun e => hyes e.symm))
    clear hyes
    go_wp2_with fail
    refine C3.out.mono ?_
    rintro e w3 ⟨rfl, k3⟩
    have K3 : Hid (Below w.heap.size w w3) := K2.out.trans (k3.mono K2.out.size)
    clear k3 C3 O2 T2 K2
    go_wp2
    go_ret2
    exact ⟨fun h => absurd h HY.out, fun _ => rfl, K3.out⟩

/-- Fewer bytes than a tag's. -/
theorem open_short (kv nv bv tv : Value) (key nonce beside box : List UInt8) (w : World) (hL : LaidP w) (hk : IsB w kv key) (hn : IsB w nv nonce) (hb : IsB w bv beside) (ht : IsB w tv box) (hkl : key.length = 32) (hnl : nonce.length = 12)
    (zb : ∀ n c, bv = .slice none n c → c = 0) (zt : ∀ n c, tv = .slice none n c → c = 0) (hlen : beside.length ≤ 70368744177600) (hq : box.length < 16) :
    Calls Tryd.prog 11 #[kv, nv, bv, tv] w fun e w' => e = .returned (.tuple #[.slice none 0 0, .int .i64 8]) ∧ Below w.heap.size w w' := by
  obtain ⟨a4, c4, rfl⟩ := ht.shape
  have ht6 := ht.take 0 (Nat.zero_le _)
  have z6 : ∀ n c, Value.slice a4 0 c4 = .slice none n c → c = 0 := fun n c e => by injection e with e1 e2 e3; subst e1; exact e3 ▸ zt _ _ rfl
  have C1 := Lib.hid (fun w' (k : Below w.heap.size w w') => tagOf_any kv nv bv (.slice a4 0 c4) key nonce beside (box.take 0) w' (hL.below k hL.size) (hk.below k) (hn.below k) (hb.below k) (ht6.below k) hkl hnl zb z6 (by simpa using hlen))
  obtain ⟨n, hn4⟩ : ∃ n, n = box.length := ⟨_, rfl⟩
  rw [← hn4] at hq ⊢
  have s1 : (n : Int) - 16 < 0 := by omega
  have s2 : (n : Int) < 16 := by omega
  obtain ⟨R, hR⟩ : ∃ R, Hid (R = M.boxTag key nonce beside (box.take 0)) := ⟨_, rfl⟩
  rw [← hR.out] at C1
  clear hn4 hL hk hn hb ht hkl hnl zb zt ht6 z6 hR hlen
  go_enter Tryd.func11, Tryd.ntmps11
  go_wp2
  go_quiet (fail)
  have K1 : Hid (Below w.heap.size w (w.drewN nq)) := below_draws w nq
  go_wp2_with fail
  refine (C1.out _ K1.out).mono ?_
  rintro e w2 ⟨r2, rfl, o2, k2⟩
  have K2 : Hid (Below w.heap.size w w2) := K1.out.trans (k2.mono K1.out.size)
  clear k2 o2
  go_wp2
  go_ret2
  exact ⟨rfl, K2.out⟩

/-- Another key's or nonce's length. -/
theorem open_no (kv nv bv tv : Value) (key nonce box : List UInt8) (w : World) (hk : IsB w kv key) (hn : IsB w nv nonce) (ht : IsB w tv box) (hl : ¬ (key.length = 32 ∧ nonce.length = 12)) :
    Calls Tryd.prog 11 #[kv, nv, bv, tv] w fun e w' => e = .returned (.tuple #[.slice none 0 0, .int .i64 1]) ∧ Below w.heap.size w w' := by
  have C1 := Lib.hid (fun w' hv (k : Below w.heap.size w w') => tagOf_no kv nv bv hv key nonce w' (hk.below k) (hn.below k) hl)
  obtain ⟨a4, c4, rfl⟩ := ht.shape
  have hc4 : box.length ≤ c4 := by obtain ⟨_, _, e, h1, _⟩ := ht; injection e with _ _ e; omega
  have hcm : c4 ≤ 9223372036854775807 := by obtain ⟨_, _, e, _, h1, _⟩ := ht; injection e with _ _ e; unfold maxLen at h1; omega
  by_cases hq : box.length < 16
  · obtain ⟨n, hn4⟩ : ∃ n, n = box.length := ⟨_, rfl⟩
    rw [← hn4] at hq ⊢
    have s1 : (n : Int) - 16 < 0 := by omega
    clear hn4 hk hn ht hl hc4
    go_enter Tryd.func11, Tryd.ntmps11
    go_wp2
    go_quiet (fail)
    have K1 : Hid (Below w.heap.size w (w.drewN nq)) := below_draws w nq
    go_wp2_with fail
    refine (C1.out _ _ K1.out).mono ?_
    rintro e w2 ⟨rfl, rfl⟩
    go_wp2
    go_ret2
    exact ⟨rfl, K1.out⟩
  · obtain ⟨q, hq'⟩ : ∃ q, q = box.length - 16 := ⟨_, rfl⟩
    have hqn : q ≤ box.length := by omega
    obtain ⟨a5, hsl, ht5⟩ := ht.from_ q hqn
    have hn16 : box.length - q = 16 := by omega
    rw [hn16] at hsl ht5
    obtain ⟨c5, hc5⟩ : ∃ c, c = c4 - q := ⟨_, rfl⟩
    rw [← hc5] at hsl ht5
    obtain ⟨n, hn4⟩ : ∃ n, n = box.length := ⟨_, rfl⟩
    rw [← hn4] at hq hc4 hqn hq' hsl ⊢
    have s1 : (n : Int) - 16 = (q : Int) := by omega
    have hqc : (q : Int) ≤ (c4 : Int) := by omega
    have hqn' : (q : Int) ≤ (n : Int) := by omega
    clear hc5 hq' hn16 hn4 hk hn ht hl ht5
    go_enter Tryd.func11, Tryd.ntmps11
    go_wp2
    go_quiet (fail)
    have K1 : Hid (Below w.heap.size w (w.drewN nq)) := below_draws w nq
    go_wp2_with fail
    refine (C1.out _ _ K1.out).mono ?_
    rintro e w2 ⟨rfl, rfl⟩
    go_wp2
    go_ret2
    exact ⟨rfl, K1.out⟩

end Go.Proofs.YtdojalhaklkegaaDoor
