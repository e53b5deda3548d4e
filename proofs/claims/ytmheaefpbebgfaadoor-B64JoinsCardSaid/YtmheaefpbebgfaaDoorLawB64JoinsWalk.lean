/-
  THE WALK OF orloplaw14.B64Joins: it returns true, and writes nothing that was there. Conditions: none.
-/
import Derived.Test.YtmheaefpbebgfaaDoorLawB64TextsWalk
import Derived.Test.YtmheaefpbebgfaaDoorApart
import Derived.Test.YtmheaefpbebgfaaDoorHeldA
namespace Go.Proofs.YtmheaefpbebgfaaDoor
open Go.RowKit
set_option linter.unusedVariables false
set_option maxRecDepth 100000

theorem IsB.behind {w : World} {ao : Option Addr} {n cap : Nat} {bs : List UInt8} (h : IsB w (.slice ao n cap) bs) (m : Nat) (hm : m ≤ n) : ∃ a, (∀ W : World, (Instr.slice 22 (.slice ao n cap) (some (.int .i64 (m : Int))) none none).run Tryd.prog W = .ok (.slice a (n - m) (cap - m)) W) ∧ IsB w (.slice a (n - m) (cap - m)) (bs.drop m) := by
  have hel : Tryd.prog.elem 22 = 5 := by simp [Program.elem, Tryd.underlying22]
  refine ⟨if cap = m then ao else ao.map (·.add m), fun W => ?_, ?_⟩
  · rw [run_slice_l W 22 ao n cap (by rw [hel]; exact Tryd.underlying22) .i64 (m : Int) (by omega) (by omega), hel, Tryd.sizeOf5]
    simp only [Result.andThen_ok, sliced, Int.toNat_natCast, Nat.mul_one]
  · obtain ⟨ao', cap', e, h1, h2, h3⟩ := h
    injection e with e1 e2 e3
    subst e1 e2 e3
    have hl : (bs.drop m).length = bs.length - m := by rw [List.length_drop]
    refine ⟨_, cap - m, by rw [hl], by rw [hl]; omega, by omega, ?_⟩
    by_cases hc : cap = m
    · exact .inl (List.eq_nil_of_length_eq_zero (by rw [hl]; omega))
    · rw [if_neg hc]
      rcases h3 with h | ⟨b, off, rfl, h⟩
      · exact .inl (by rw [h]; simp)
      · refine .inr ⟨b, off + m, by rw [Option.map_some, Addr.add_lit], fun i hi => ?_⟩
        rw [hl] at hi
        rw [Nat.add_assoc, h (m + i) (by omega)]
        simp [List.getD_eq_getElem?_getD]

theorem IsB.ahead {w : World} {ao : Option Addr} {n cap : Nat} {bs : List UInt8} (h : IsB w (.slice ao n cap) bs) (m : Nat) (hm : m ≤ cap) : ∀ W : World, (Instr.slice 22 (.slice ao n cap) none (some (.int .i64 (m : Int))) none).run Tryd.prog W = .ok (.slice ao m cap) W := fun W => by
  have hel : Tryd.prog.elem 22 = 5 := by simp [Program.elem, Tryd.underlying22]
  rw [run_slice_h W 22 ao n cap (by rw [hel]; exact Tryd.underlying22) .i64 (m : Int) (by omega) (by omega), hel, Tryd.sizeOf5]
  simp only [Result.andThen_ok, sliced]
  cases ao <;> simp [Addr.add]

set_option maxHeartbeats 4000000 in
theorem b64Joins_walk (w : World) (v : Value) (bs : List UInt8) (h : IsB w v bs) (n : Nat) (hn : n < 65536) :
    Calls Tryd.prog 5 #[v, .int .u16 (n : Int)] w fun e w' => e = .returned (.bool true) ∧ Below w.heap.size w w' := by
  have HI := Lib.hid h
  obtain ⟨ao, cap, rfl, hl, hm, _⟩ := h
  unfold maxLen at hm
  obtain ⟨L, hL⟩ : ∃ L, L = bs.length := ⟨_, rfl⟩
  rw [← hL] at HI hl ⊢
  obtain ⟨k, hk⟩ : ∃ k, k = 3 * n := ⟨_, rfl⟩
  have hki : (3 : Int) * (n : Int) = (k : Int) := by omega
  have hni : (n : Int) < 65536 := by omega
  by_cases hb : 4096 < L ∨ L < k
  · clear hL hk hn
    by_cases hb1 : 4096 < L
    · have b1 : (L : Int) > 4096 := by omega
      clear hb
      go_enter Tryd.func5, Tryd.ntmps5
      go_wp2_with fail
      refine (awake14_any _).mono ?_
      rintro e w1 ⟨rfl, k⟩
      go_wp2
      go_ret
      exact ⟨rfl, k⟩
    · have b1 : ¬ (L : Int) > 4096 := by omega
      have b2 : (k : Int) > (L : Int) := by omega
      clear hb hb1
      go_enter Tryd.func5, Tryd.ntmps5
      go_wp2_with fail
      refine (awake14_any _).mono ?_
      rintro e w1 ⟨rfl, k⟩
      go_wp2
      go_ret
      exact ⟨rfl, k⟩
  · have hlen : L ≤ 4096 := by omega
    have hkL : k ≤ L := by omega
    obtain ⟨S, HS, hsz⟩ := name_text (M.enc64 bs)
    obtain ⟨A, HA, hsa⟩ := name_text (M.enc64 (bs.take k))
    obtain ⟨B, HB, hsb⟩ := name_text (M.enc64 (bs.drop k))
    have HSAB : Hid (A ++ B = S) := by
      have e := M.enc64_append (bs.take k) (bs.drop k) (by rw [List.length_take]; omega)
      rw [List.take_append_drop] at e
      rw [Hid, HS.out, HA.out, HB.out, e]
      apply ByteArray.ext
      rw [ByteArray.data_append]
      simp
    have HAL : Hid (A.size ≤ 100000) := by rw [Hid, hsa, M.enc64_len, List.length_take]; omega
    have HBL : Hid (B.size ≤ 100000) := by rw [Hid, hsb, M.enc64_len, List.length_drop]; omega
    have HAB : Hid (A.size + B.size ≤ 9223372036854775807) := by have h1 := HAL.out; have h2 := HBL.out; rw [Hid]; omega
    obtain ⟨ab, hsl2, ib⟩ := HI.out.behind k hkL
    have hsl1 := HI.out.ahead k (by omega)
    have ia := HI.out.take k hkL
    have CT : Hid (∀ W, Below w.heap.size w W → Calls Tryd.prog 8 #[.slice ao L cap] W fun e w' => e = .returned (.string S) ∧ Below W.heap.size W w') := fun W k => by
      rw [HS.out]
      exact text64_any _ bs W (HI.out.below k) (by omega)
    have CA : Hid (∀ W, Below w.heap.size w W → Calls Tryd.prog 8 #[.slice ao k cap] W fun e w' => e = .returned (.string A) ∧ Below W.heap.size W w') := fun W kk => by
      rw [HA.out]
      exact text64_any _ _ W (ia.below kk) (by rw [List.length_take]; omega)
    have CB : Hid (∀ W, Below w.heap.size w W → Calls Tryd.prog 8 #[.slice ab (L - k) (cap - k)] W fun e w' => e = .returned (.string B) ∧ Below W.heap.size W w') := fun W kk => by
      rw [HB.out]
      exact text64_any _ _ W (ib.below kk) (by rw [List.length_drop]; omega)
    have b1 : ¬ (L : Int) > 4096 := by omega
    have b2 : ¬ (k : Int) > (L : Int) := by omega
    have d1 : decide ((4096 : Int) < (L : Int)) = false := by simpa using b1
    have d2 : decide ((L : Int) < (k : Int)) = false := by simpa using b2
    have d3 : (L : Int) ≤ 4096 := by omega
    have d4 : (k : Int) ≤ (L : Int) := by omega
    clear hL hk hn hb hsz hsa hsb ib ia
    go_enter Tryd.func5, Tryd.ntmps5
    go_wp2_with fail
    refine (awake14_any _).mono ?_
    rintro e w1 ⟨rfl, k1⟩
    have K1 := Lib.hid k1
    clear k1
    clear hni
    go_upto_region 6 with fail
    refine wp_region_any (by kernel_rfl) ?_
    change wpAny _ _ _ _ _ _ _ (World.drew _)
    refine wpAny_of_held (S := fun _ => True) _ _ _ _ ?_
    have S0 : True := trivial
    refine wpAnyH_take_at (i := 0) (v := .slice ao L cap) rfl rfl (by kernel_rfl) (by kernel_rfl) (by kernel_rfl) (fun _ _ _ h => h) (Or.inl ⟨by rfl, fun w hS => by go_simp⟩) S0 ?_
    try simp only [List.setIfInBounds_toArray, List.set_cons_zero, List.set_cons_succ]
    refine wpAnyH_take_at (i := 2) (v := .slice ao L cap) rfl rfl (by kernel_rfl) (by kernel_rfl) (by kernel_rfl) (fun _ _ _ h => h) (Or.inl ⟨by rfl, fun w hS => by go_simp⟩) S0 ?_
    try simp only [List.setIfInBounds_toArray, List.set_cons_zero, List.set_cons_succ]
    refine wpAnyH_take_at (i := 3) (v := .int .i64 (k : Int)) rfl rfl (by kernel_rfl) (by kernel_rfl) (by kernel_rfl) (fun _ _ _ h => h) (Or.inl ⟨by rfl, fun w hS => by go_simp⟩) S0 ?_
    try simp only [List.setIfInBounds_toArray, List.set_cons_zero, List.set_cons_succ]
    refine wpAnyH_take_at (i := 4) (v := .slice ao k cap) rfl rfl (by kernel_rfl) (by kernel_rfl) (by kernel_rfl) (fun _ _ _ h => h) (Or.inl ⟨by rfl, fun w hS => by go_simp⟩) S0 ?_
    try simp only [List.setIfInBounds_toArray, List.set_cons_zero, List.set_cons_succ]
    refine wpAnyH_take_at (i := 6) (v := .slice ao L cap) rfl rfl (by kernel_rfl) (by kernel_rfl) (by kernel_rfl) (fun _ _ _ h => h) (Or.inl ⟨by rfl, fun w hS => by go_simp⟩) S0 ?_
    try simp only [List.setIfInBounds_toArray, List.set_cons_zero, List.set_cons_succ]
    refine wpAnyH_take_at (i := 7) (v := .int .i64 (k : Int)) rfl rfl (by kernel_rfl) (by kernel_rfl) (by kernel_rfl) (fun _ _ _ h => h) (Or.inl ⟨by rfl, fun w hS => by go_simp⟩) S0 ?_
    try simp only [List.setIfInBounds_toArray, List.set_cons_zero, List.set_cons_succ]
    refine wpAnyH_take_at (i := 8) (v := .slice ab (L - k) (cap - k)) rfl rfl (by kernel_rfl) (by kernel_rfl) (by kernel_rfl) (fun _ _ _ h => h) (Or.inl ⟨by rfl, fun w hS => by go_simp⟩) S0 ?_
    try simp only [List.setIfInBounds_toArray, List.set_cons_zero, List.set_cons_succ]
    refine wpAnyH_ready (rs := [1]) (by kernel_rfl) (by simp) ?_
    refine AllReadyH.cons rfl (fun K hK => ?_) AllReadyH.nil
    go_simp
    refine (CT.out _ K1.out.drew).mono ?_
    rintro e w2 ⟨rfl, k2⟩
    have K2 : Hid (Below w.heap.size w w2) := K1.out.drew.trans (k2.mono K1.out.size)
    refine hK.out _ _ S0 (fun _ => ?_)
    clear hK k2
    refine wpAnyH_ready (rs := [5]) (by kernel_rfl) (by simp) ?_
    refine AllReadyH.cons rfl (fun K hK => ?_) AllReadyH.nil
    go_simp
    refine (CA.out _ K2.out).mono ?_
    rintro e w3 ⟨rfl, k3⟩
    have K3 : Hid (Below w.heap.size w w3) := K2.out.trans (k3.mono K2.out.size)
    refine hK.out _ _ S0 (fun _ => ?_)
    clear hK k3
    refine wpAnyH_ready (rs := [9]) (by kernel_rfl) (by simp) ?_
    refine AllReadyH.cons rfl (fun K hK => ?_) AllReadyH.nil
    go_simp
    refine (CB.out _ K3.out).mono ?_
    rintro e w4 ⟨rfl, k4⟩
    have K4 : Hid (Below w.heap.size w w4) := K3.out.trans (k4.mono K3.out.size)
    refine hK.out _ _ S0 (fun _ => ?_)
    clear hK k4
    refine wpAnyH_take_at (i := 10) (v := .string S) rfl rfl (by kernel_rfl) (by kernel_rfl) (by kernel_rfl) (fun _ _ _ h => h) (Or.inl ⟨by rfl, fun w hS => by have h1 := HSAB.out; have h2 := HAB.out; go_simp⟩) S0 ?_
    try simp only [List.setIfInBounds_toArray, List.set_cons_zero, List.set_cons_succ]
    refine wpAnyH_take_at (i := 11) (v := .bool true) rfl rfl (by kernel_rfl) (by kernel_rfl) (by kernel_rfl) (fun _ _ _ h => h) (Or.inl ⟨by rfl, fun w hS => by go_simp⟩) S0 ?_
    try simp only [List.setIfInBounds_toArray, List.set_cons_zero, List.set_cons_succ]
    refine wpAnyH_take_at (i := 12) (v := .bool true) rfl rfl (by kernel_rfl) (by kernel_rfl) (by kernel_rfl) (fun _ _ _ h => h) (Or.inl ⟨by rfl, fun w hS => by go_simp⟩) S0 ?_
    try simp only [List.setIfInBounds_toArray, List.set_cons_zero, List.set_cons_succ]
    refine wpAnyH_done (by kernel_rfl) ?_ _
    go_wp2
    go_ret
    exact ⟨rfl, K4.out⟩

end Go.Proofs.YtmheaefpbebgfaaDoor
