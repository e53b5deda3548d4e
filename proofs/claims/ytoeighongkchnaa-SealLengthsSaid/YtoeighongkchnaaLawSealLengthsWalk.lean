/-
  THE WALK OF orloplaw17.SealLengths. Conditions: none.
-/
import Derived.Test.YtoeighongkchnaaSealAwake
namespace Go.Proofs.Ytoeighongkchnaa
open Go.RowKit Go.Maps
set_option linter.unusedVariables false
set_option maxRecDepth 100000

theorem np_up (a b : Nat) (h : 1 ≤ b) : (0 < a % b → M.np a b = a / b + 1) ∧ (a = 0 → M.np a b = a / b + 1) ∧ (a % b = 0 → 0 < a → M.np a b = a / b) := by
  have hb : 0 < b := h
  have hm := Nat.div_add_mod a b
  have hr := Nat.mod_lt a hb
  have key : (a + b - 1) / b = a / b + (a % b + b - 1) / b := by
    have e : a + b - 1 = (a % b + b - 1) + b * (a / b) := by
      generalize b * (a / b) = x at hm ⊢
      generalize a % b = y at hm ⊢
      omega
    rw [e, Nat.add_mul_div_left _ _ hb, Nat.add_comm]
  unfold M.np
  rw [key]
  refine ⟨fun h0 => ?_, fun h0 => ?_, fun h0 h1 => ?_⟩
  · have : (a % b + b - 1) / b = 1 := by
      rw [Nat.div_eq_iff hb]
      omega
    rw [this]
    exact Nat.max_eq_left (Nat.le_add_left _ _)
  · subst h0
    have : (0 % b + b - 1) / b = 0 := by rw [Nat.zero_mod]; exact Nat.div_eq_of_lt (by omega)
    rw [this]
    simp
  · have : (a % b + b - 1) / b = 0 := by rw [h0]; exact Nat.div_eq_of_lt (by omega)
    rw [this]
    have : 1 ≤ a / b := by
      rcases Nat.eq_zero_or_pos (a / b) with h2 | h2
      · rw [h2, h0] at hm; omega
      · exact h2
    exact Nat.max_eq_left this

/-- The numbers of a length. -/
theorem len_nums (a b c : Nat) (ha : a ≤ 2147483647) (hc : c ≤ a + 1) : ∃ s p t : Nat, 12 + (a : Int) = (s : Int) ∧ wrap64 (s : Int) = (s : Int) ∧ 16 * (c : Int) = (p : Int) ∧ wrap64 (p : Int) = (p : Int) ∧ (s : Int) + (p : Int) = (t : Int) ∧ wrap64 (t : Int) = (t : Int) ∧ 12 + (a : Int) + 16 * (c : Int) = (t : Int) ∧ wrap64 (c : Int) = (c : Int) :=
  ⟨12 + a, 16 * c, 12 + a + 16 * c, by omega, by unfold wrap64; omega, by omega, by unfold wrap64; omega, by omega, by unfold wrap64; omega, by omega, by unfold wrap64; omega⟩

set_option maxHeartbeats 8000000 in
theorem sealLengths_walk (w : World) (n : Int) (hn : (Lit.int .i64 n).wf = true) (size : Int) (hsw : (Lit.int .i64 size).wf = true) :
    Calls Try.prog 7 #[.int .i64 n, .int .i64 size] w fun e w' => e = .returned (.bool true) ∧ Below w.heap.size w w' := by
  have CA := Lib.hid (awake17_any w)
  have CL := Lib.hid (fun W => slength_any n size W)
  clear hn hsw
  by_cases h1 : n < 0
  · have q1 : decide (n < 0) = true := decide_eq_true h1
    have e0 : M.sealLen n size = 0 := if_pos (.inl h1)
    rw [e0] at CL
    clear h1 e0
    go_enter Try.func7, Try.ntmps7
    go_wp2_with fail
    refine CA.out.mono ?_
    rintro e w1 ⟨rfl, k1⟩
    have K1 := Lib.hid k1
    clear k1
    go_wp2_with fail
    refine (CL.out w1).mono ?_
    rintro e w2 ⟨rfl, hq⟩
    rw [hq]
    clear hq w2
    go_wp2
    go_ret
    exact ⟨rfl, K1.out⟩
  · have q1 : decide (n < 0) = false := decide_eq_false h1
    by_cases h2 : 2147483647 < n
    · have q2 : decide (2147483647 < n) = true := decide_eq_true h2
      have e0 : M.sealLen n size = 0 := if_pos (.inr (.inl h2))
      rw [e0] at CL
      clear h1 h2 e0
      go_enter Try.func7, Try.ntmps7
      go_wp2_with fail
      refine CA.out.mono ?_
      rintro e w1 ⟨rfl, k1⟩
      have K1 := Lib.hid k1
      clear k1
      go_wp2_with fail
      refine (CL.out w1).mono ?_
      rintro e w2 ⟨rfl, hq⟩
      rw [hq]
      clear hq w2
      go_wp2
      go_ret
      exact ⟨rfl, K1.out⟩
    · have q2 : decide (2147483647 < n) = false := decide_eq_false h2
      by_cases h3 : size < 1
      · have q3 : decide (size < 1) = true := decide_eq_true h3
        have e0 : M.sealLen n size = 0 := if_pos (.inr (.inr (by omega)))
        rw [e0] at CL
        clear h1 h2 h3 e0
        go_enter Try.func7, Try.ntmps7
        go_wp2_with fail
        refine CA.out.mono ?_
        rintro e w1 ⟨rfl, k1⟩
        have K1 := Lib.hid k1
        clear k1
        go_wp2_with fail
        refine (CL.out w1).mono ?_
        rintro e w2 ⟨rfl, hq⟩
        rw [hq]
        clear hq w2
        go_wp2
        go_ret
        exact ⟨rfl, K1.out⟩
      · have q3 : decide (size < 1) = false := decide_eq_false h3
        by_cases h4 : 65536 < size
        · have q4 : decide (65536 < size) = true := decide_eq_true h4
          have e0 : M.sealLen n size = 0 := if_pos (.inr (.inr (by omega)))
          rw [e0] at CL
          clear h1 h2 h3 h4 e0
          go_enter Try.func7, Try.ntmps7
          go_wp2_with fail
          refine CA.out.mono ?_
          rintro e w1 ⟨rfl, k1⟩
          have K1 := Lib.hid k1
          clear k1
          go_wp2_with fail
          refine (CL.out w1).mono ?_
          rintro e w2 ⟨rfl, hq⟩
          rw [hq]
          clear hq w2
          go_wp2
          go_ret
          exact ⟨rfl, K1.out⟩
        · have q4 : decide (65536 < size) = false := decide_eq_false h4
          obtain ⟨a, rfl⟩ := Int.eq_ofNat_of_zero_le (show 0 ≤ n by omega)
          obtain ⟨b, rfl⟩ := Int.eq_ofNat_of_zero_le (show 0 ≤ size by omega)
          have hb : 1 ≤ b := by omega
          have ha : a ≤ 2147483647 := by omega
          obtain ⟨u1, u2, u3⟩ := np_up a b hb
          obtain ⟨c, hc⟩ : ∃ c, c = M.np a b := ⟨_, rfl⟩
          rw [← hc] at u1 u2 u3
          have hca : c ≤ a + 1 := by rw [hc]; exact M.np_le a b hb
          have e0 : M.sealLen (a : Int) (b : Int) = 12 + (a : Int) + 16 * (c : Int) := by
            rw [M.sealLen, if_neg (by omega), Int.toNat_natCast, Int.toNat_natCast, ← hc]
          obtain ⟨s, p, t, t1, t2, t3, t4, t5, t6, t7, t8⟩ := len_nums a b c ha hca
          rw [e0, t7] at CL
          have TT : Hid (12 + (a : Int) = (s : Int) ∧ wrap64 (s : Int) = (s : Int) ∧ 16 * (c : Int) = (p : Int) ∧ wrap64 (p : Int) = (p : Int) ∧ (s : Int) + (p : Int) = (t : Int) ∧ wrap64 (t : Int) = (t : Int) ∧ wrap64 (c : Int) = (c : Int)) := ⟨t1, t2, t3, t4, t5, t6, t8⟩
          clear t1 t2 t3 t4 t5 t6 t7 t8
          have z2 : ((b : Int) == 0) = false := beq_false_of_ne (by omega)
          have zm : ¬ b = 0 := by omega
          obtain ⟨q, hq⟩ : ∃ q, q = a / b := ⟨_, rfl⟩
          obtain ⟨r, hr⟩ : ∃ r, r = a % b := ⟨_, rfl⟩
          rw [← hq] at u1 u2 u3
          rw [← hr] at u1 u3
          have v1 : (a : Int).tdiv (b : Int) = (q : Int) := by rw [hq]; rfl
          have v2 : (a : Int).tmod (b : Int) = (r : Int) := by rw [hr]; rfl
          have hqa : q ≤ a := by rw [hq]; exact Nat.div_le_self _ _
          have v3 : wrap64 (q : Int) = (q : Int) := by clear v1 v2 hq hr; unfold wrap64; omega
          have V := Lib.hid (And.intro v1 (And.intro v2 v3))
          clear hq hr hqa hc hca e0 h1 h2 h3 h4 v1 v2 v3
          by_cases g1 : 0 < r
          · have g2 : (q : Int) + 1 = (c : Int) := by have := u1 g1; clear V; omega
            have d1 : decide ((0 : Int) < (r : Int)) = true := decide_eq_true (by clear V; omega)
            have d0 : ¬ r = 0 := by clear V; omega
            clear u1 u2 u3 g1 hb ha
            obtain ⟨v1, v2, v3⟩ := V.out
            obtain ⟨t1, t2, t3, t4, t5, t6, t8⟩ := TT.out
            have tt : ((t : Int) == (t : Int)) = true := by simp
            go_enter Try.func7, Try.ntmps7
            go_wp2_with fail
            refine CA.out.mono ?_
            rintro e w1 ⟨rfl, k1⟩
            have K1 := Lib.hid k1
            clear k1
            go_wp2_with fail
            refine (CL.out w1).mono ?_
            rintro e w2 ⟨rfl, hq⟩
            rw [hq]
            clear hq w2
            go_wp2
            go_ret
            exact ⟨rfl, K1.out⟩
          · have d1 : decide ((0 : Int) < (r : Int)) = false := decide_eq_false (by clear V; omega)
            have d0 : r = 0 := by clear V; omega
            subst d0
            by_cases g2 : a = 0
            · have g3 : (q : Int) + 1 = (c : Int) := by have := u2 g2; clear V; omega
              have d2 : ((a : Int) == 0) = true := by rw [g2]; rfl
              clear u1 u2 u3 g1 g2 hb ha
              obtain ⟨v1, v2, v3⟩ := V.out
              obtain ⟨t1, t2, t3, t4, t5, t6, t8⟩ := TT.out
              have tt : ((t : Int) == (t : Int)) = true := by simp
              go_enter Try.func7, Try.ntmps7
              go_wp2_with fail
              refine CA.out.mono ?_
              rintro e w1 ⟨rfl, k1⟩
              have K1 := Lib.hid k1
              clear k1
              go_wp2_with fail
              refine (CL.out w1).mono ?_
              rintro e w2 ⟨rfl, hq⟩
              rw [hq]
              clear hq w2
              go_wp2
              go_ret
              exact ⟨rfl, K1.out⟩
            · have g3 : c = q := u3 (by omega) (by omega)
              subst g3
              have d2 : ((a : Int) == 0) = false := beq_false_of_ne (by clear V; omega)
              clear u1 u2 u3 g1 g2 hb ha
              obtain ⟨v1, v2, v3⟩ := V.out
              obtain ⟨t1, t2, t3, t4, t5, t6, t8⟩ := TT.out
              have tt : ((t : Int) == (t : Int)) = true := by simp
              go_enter Try.func7, Try.ntmps7
              go_wp2_with fail
              refine CA.out.mono ?_
              rintro e w1 ⟨rfl, k1⟩
              have K1 := Lib.hid k1
              clear k1
              go_wp2_with fail
              refine (CL.out w1).mono ?_
              rintro e w2 ⟨rfl, hq⟩
              rw [hq]
              clear hq w2
              go_wp2
              go_ret
              exact ⟨rfl, K1.out⟩

end Go.Proofs.Ytoeighongkchnaa
