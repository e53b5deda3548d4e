/-
  CONTRACTS OF word.Equal AND word.Wipe. Conditions: what is wiped is a row of the call's own.
-/
import Derived.Test.YtdojalhaklkegaaDoorRefA
import Derived.Lib.SliceRun
namespace Go.Proofs.YtdojalhaklkegaaDoor
open Go.RowKit

theorem xor_zero_iff (a b : Nat) : a ^^^ b = 0 ↔ a = b := by
  constructor
  · intro h
    apply Nat.eq_of_testBit_eq
    intro i
    have := congrArg (fun n => n.testBit i) h
    simpa using this
  · rintro rfl
    exact Nat.xor_self a

theorem or_zero_iff (a b : Nat) : a ||| b = 0 ↔ a = 0 ∧ b = 0 := by
  constructor
  · intro h
    refine ⟨Nat.eq_of_testBit_eq fun i => ?_, Nat.eq_of_testBit_eq fun i => ?_⟩
    all_goals
      have := congrArg (fun n => n.testBit i) h
      simp at this
      simp [this]
  · rintro ⟨rfl, rfl⟩
    rfl

theorem take_succ_iff (xs ys : List UInt8) (k : Nat) (hx : k < xs.length) (hy : k < ys.length) :
    xs.take (k + 1) = ys.take (k + 1) ↔ xs.take k = ys.take k ∧ (xs.getD k 0).toNat = (ys.getD k 0).toNat := by
  constructor
  · intro h
    refine ⟨?_, ?_⟩
    · have := congrArg (List.take k) h
      simpa [List.take_take, Nat.min_eq_left (Nat.le_succ k)] using this
    · have := congrArg (fun l => (l.getD k 0)) h
      simp [List.getD_eq_getElem?_getD] at this
      simp [List.getD_eq_getElem?_getD, this]
  · rintro ⟨h1, h2⟩
    exact M.take_next xs ys k hx hy h1 h2

theorem wequal_any (v1 v2 : Value) (xs ys : List UInt8) (w : World) (h1 : IsB w v1 xs) (h2 : IsB w v2 ys) :
    Calls Tryd.prog 27 #[v1, v2] w fun e w' => e = .returned (.bool (decide (xs = ys))) ∧ ∃ n, w' = w.drewN n := by
  obtain ⟨ao1, cap1, rfl, hl1, hm1, H1⟩ := h1
  obtain ⟨ao2, cap2, rfl, hl2, hm2, H2⟩ := h2
  unfold maxLen at hm1 hm2
  have H1 : Hid (At w ao1 xs) := H1
  have H2 : Hid (At w ao2 ys) := H2
  by_cases hlen : xs.length = ys.length
  · have HL : Hid (xs.length = ys.length) := hlen
    clear hlen
    rw [HL.out]
    go_enter Tryd.func27, Tryd.ntmps27
    go_wp2
    go_loopw [5, 14] (fun x i wr => ∃ k u : Nat, k ≤ ys.length ∧ i = .int .i64 k ∧ x = .int .u8 u ∧ u < 256 ∧ Hid (u = 0 ↔ xs.take k = ys.take k) ∧ ∃ n, wr = w.drewN n)
      (fun _ i _ => ys.length - (intOf i).toNat)
    case atStart => exact ⟨0, 0, Nat.zero_le _, rfl, rfl, by omega, by simp [Hid], 0, rfl⟩
    case round =>
      obtain ⟨k, u, hk, rfl, rfl, hu, hpre, nq, rfl⟩ := hrel
      by_cases hlt : k < ys.length
      · rcases H1.out with h0 | ⟨b1, off1, rfl, hc1⟩
        · have := HL.out; subst h0; simp at this; simp [← this] at hlt
        rcases H2.out with h0 | ⟨b2, off2, rfl, hc2⟩
        · subst h0; simp at hlt
        have g1 := hc1 k (by rw [HL.out]; exact hlt)
        have g2 := hc2 k hlt
        clear hc1 hc2
        obtain ⟨c1, hcc1⟩ : ∃ c, c = (xs.getD k 0).toNat := ⟨_, rfl⟩
        obtain ⟨c2, hcc2⟩ : ∃ c, c = (ys.getD k 0).toNat := ⟨_, rfl⟩
        rw [← hcc1] at g1
        rw [← hcc2] at g2
        have l1 : c1 < 256 := by rw [hcc1]; exact (xs.getD k 0).toNat_lt
        have l2 : c2 < 256 := by rw [hcc2]; exact (ys.getD k 0).toNat_lt
        have HC1 : Hid (c1 = (xs.getD k 0).toNat) := hcc1
        have HC2 : Hid (c2 = (ys.getD k 0).toNat) := hcc2
        clear hcc1 hcc2
        have hltI : (k : Int) < (ys.length : Int) := by omega
        go_wp2
        go_quiet (fail)
        go_wp2
        go_roundw
        case rel =>
          refine ⟨k + 1, u ||| (c1 ^^^ c2), by omega, by go_num, ?_, Nat.or_lt_two_pow (n := 8) hu (Nat.xor_lt_two_pow (n := 8) l1 l2), ?_, _, rfl⟩
          · rw [u8_xor_nat c1 c2 l1 l2, u8_or_nat u _ hu (Nat.xor_lt_two_pow (n := 8) l1 l2)]
          · rw [Hid, or_zero_iff, xor_zero_iff, take_succ_iff xs ys k (by rw [HL.out]; exact hlt) hlt, hpre.out, HC1.out, HC2.out]
        case measure => simp [intOf]; omega
      · obtain rfl : k = ys.length := by omega
        go_wp2
        go_ret
        refine ⟨ret_bool ?_, _, rfl⟩
        have e := hpre.out
        rw [List.take_length, List.take_of_length_le (by rw [HL.out]; exact Nat.le_refl _)] at e
        by_cases hx : xs = ys
        · have h0 : u = 0 := e.2 hx
          simp [h0, hx]
        · have h0 : u ≠ 0 := fun h => hx (e.1 h)
          simp [hx]
          omega
  · have hne : ¬ xs = ys := fun e => hlen (by rw [e])
    have HN : Hid (¬ xs = ys) := hne
    clear hne
    go_enter Tryd.func27, Tryd.ntmps27
    go_wp2
    go_ret
    refine ⟨ret_bool ?_, 0, rfl⟩
    symm
    rw [decide_eq_false_iff_not]
    exact HN.out

theorem wequal_b (v1 v2 : Value) (xs ys : List UInt8) (w : World) (h1 : IsB w v1 xs) (h2 : IsB w v2 ys) :
    Calls Tryd.prog 27 #[v1, v2] w fun e w' => e = .returned (.bool (decide (xs = ys))) ∧ Below w.heap.size w w' := by
  refine (wequal_any v1 v2 xs ys w h1 h2).mono ?_
  rintro e w' ⟨rfl, n, rfl⟩
  exact ⟨rfl, below_draws w n⟩

theorem requal_b (v1 v2 : Value) (xs ys : List UInt8) (w : World) (h1 : IsB w v1 xs) (h2 : IsB w v2 ys) :
    Calls Tryd.prog 12 #[v1, v2] w fun e w' => e = .returned (.bool (decide (xs = ys))) ∧ Below w.heap.size w w' := by
  refine (equal_any v1 v2 xs ys w h1 h2).mono ?_
  rintro e w' ⟨rfl, n, rfl⟩
  exact ⟨rfl, below_draws w n⟩

theorem wequal_yes (v1 v2 : Value) (xs : List UInt8) (w : World) (h1 : IsB w v1 xs) (h2 : IsB w v2 xs) :
    Calls Tryd.prog 27 #[v1, v2] w fun e w' => e = .returned (.bool true) ∧ Below w.heap.size w w' := by
  refine (wequal_any v1 v2 xs xs w h1 h2).mono ?_
  rintro e w' ⟨rfl, n, rfl⟩
  exact ⟨by simp, below_draws w n⟩

theorem wequal_no (v1 v2 : Value) (xs ys : List UInt8) (w : World) (h1 : IsB w v1 xs) (h2 : IsB w v2 ys) (hne : ¬ xs = ys) :
    Calls Tryd.prog 27 #[v1, v2] w fun e w' => e = .returned (.bool false) ∧ Below w.heap.size w w' := by
  refine (wequal_any v1 v2 xs ys w h1 h2).mono ?_
  rintro e w' ⟨rfl, n, rfl⟩
  exact ⟨by simp [hne], below_draws w n⟩

/-- Cells written one after the other, from the place o on. -/
def over (xs : List Value) : Nat → List Value → List Value
  | _, [] => xs
  | o, v :: r => over (xs.set o v) (o + 1) r

theorem over_all (z : Value) : ∀ (ys : List Value) (o : Nat), over (List.replicate o z ++ ys) o (List.replicate ys.length z) = List.replicate (o + ys.length) z := by
  intro ys
  induction ys with
  | nil => intro o; simp [over]
  | cons y r ih =>
    intro o
    have e : (List.replicate o z ++ y :: r).set o z = List.replicate (o + 1) z ++ r := by
      rw [List.replicate_succ', List.append_assoc]
      simp
    rw [List.length_cons, List.replicate_succ, over, e, ih (o + 1)]
    congr 1
    omega

/-- Many stores into a row that is owned. -/
theorem stored_many {base g n cap : Nat} {e : TypeId} : ∀ (vs : List Value) (o : Nat) (w : World) (xs : List Value), w.ownsRow base e 1 (.slice (some ⟨g, 0, none⟩) n cap) n xs →
    (w.setCells g o vs).ownsRow base e 1 (.slice (some ⟨g, 0, none⟩) n cap) n (over xs o vs) ∧ w.grownBy (w.setCells g o vs) (some g) := by
  intro vs
  induction vs with
  | nil => intro o w xs h; exact ⟨h, World.grownBy.refl _ _⟩
  | cons v r ih =>
    intro o w xs h
    obtain ⟨h1, g1⟩ := h.stored o v
    obtain ⟨h2, g2⟩ := ih (o + 1) _ _ h1
    refine ⟨h2, ⟨g2.os.trans g1.os, g2.tape.trans g1.tape, g2.output.trans g1.output, Nat.le_trans g1.size g2.size, fun k hk hne => ?_⟩⟩
    exact (g2.block k (Nat.lt_of_lt_of_le hk g1.size) hne).trans (g1.block k hk hne)

end Go.Proofs.YtdojalhaklkegaaDoor
