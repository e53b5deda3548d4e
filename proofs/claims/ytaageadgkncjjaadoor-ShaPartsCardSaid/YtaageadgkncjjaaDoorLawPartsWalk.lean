/-
  THE WALK OF orloplaw02.ShaParts: it returns true, and writes nothing that was there. Conditions: the program's two tables lie as they were laid.
-/
import Derived.Test.YtaageadgkncjjaaDoorLawDigestsWalk
namespace Go.Proofs.YtaageadgkncjjaaDoor
open Go.RowKit
set_option linter.unusedVariables false

theorem Own.only {w w' : World} {B g : Nat} {v : Value} {bs : List UInt8} (h : Own w B v bs) (k : Only g w w') (hg : g < B) : Own w' B v bs := by
  refine ⟨h.1, ?_⟩
  rcases h.2 with hn | ⟨g', cap, cur, rfl, hb, hh, rest⟩
  · exact .inl hn
  · refine .inr ⟨g', cap, cur, rfl, hb, ?_, rest⟩
    rw [k.block g' (Array.getElem?_eq_some_iff.1 hh).1 (fun e => by injection e with e; omega)]
    exact hh

/-- The value is a slice of the rows of bytes ls. -/
def IsBB (w : World) (v : Value) (ls : List (List UInt8)) : Prop :=
  ∃ ao cap, v = .slice ao ls.length cap ∧ ls.length ≤ maxLen ∧ (ls = [] ∨ ∃ b off, ao = some ⟨b, off, none⟩ ∧ ∀ i, i < ls.length → ∃ x, w.cell? ⟨b, off + i, none⟩ = some x ∧ IsB w x (ls.getD i []) ∧ (ls.getD i []).length ≤ 140737488355328 ∧ ∀ n c, x = .slice none n c → c = 0)

set_option maxHeartbeats 1000000 in
theorem shaParts_walk (w : World) (hL : Laid w) (v : Value) (ls : List (List UInt8)) (h1 : IsBB w v ls) :
    Calls Tryd.prog 4 #[v] w fun e w' => e = .returned (.bool true) ∧ Below w.heap.size w w' := by
  obtain ⟨ao, cap, rfl, hl, hat⟩ := h1
  have HAT : Hid (ls = [] ∨ ∃ b off, ao = some ⟨b, off, none⟩ ∧ ∀ i, i < ls.length → ∃ x, w.cell? ⟨b, off + i, none⟩ = some x ∧ IsB w x (ls.getD i []) ∧ (ls.getD i []).length ≤ 140737488355328 ∧ ∀ n c, x = .slice none n c → c = 0) := hat
  have HL : Hid (Laid w) := hL
  unfold maxLen at hl
  obtain ⟨N, hN⟩ : ∃ N, N = ls.length := ⟨_, rfl⟩
  rw [← hN] at hl ⊢
  have HN : Hid (N = ls.length) := hN
  clear hat hL hN
  go_enter Tryd.func4, Tryd.ntmps4
  go_wp2_with fail
  refine (shaAwake_any w HL.out).mono ?_
  rintro e w1 ⟨rfl, k1⟩
  go_wp2_with fail
  refine (new_any w1 (HL.out.below k1 HL.out.size)).mono ?_
  rintro e w2 ⟨rfl, hx, b2⟩
  have k2 : Below w.heap.size w w2 := k1.trans (b2.mono k1.size)
  have hw1 : w.heap.size ≤ w1.heap.size := k1.size
  have hgx : w1.heap.size < w2.heap.size := hx.lt
  have hg2 : 2 ≤ w1.heap.size := Nat.le_trans HL.out.size hw1
  obtain ⟨g, hge⟩ : ∃ g, g = w1.heap.size := ⟨_, rfl⟩
  rw [← hge] at hx hgx hw1 hg2 ⊢
  have X2 : Hid (HashIs w2 g []) := hx
  clear hx b2 k1 hge
  go_wp2
  go_loopw [4, 5] (fun x i wr => ∃ (k : Nat) (m : List UInt8), k ≤ N ∧ i = .int .i64 k ∧ m.length ≤ 4096 ∧ Hid (Own wr w2.heap.size x m) ∧ Hid (HashIs wr g m) ∧ Below w.heap.size w wr ∧ w2.heap.size ≤ wr.heap.size)
    (fun _ i _ => N - (intOf i).toNat)
  case atStart => exact ⟨0, [], Nat.zero_le _, rfl, by simp, World.ownsRow_nil _ _ _ _, X2, k2, Nat.le_refl _⟩
  case round =>
    clear X2 k2
    obtain ⟨wz, rfl⟩ : ∃ y, y = wr := ⟨_, rfl⟩
    obtain ⟨k, m, hk, rfl, hm, oo, hh, kk, hsz⟩ := hrel
    obtain ⟨ax, cx, rfl⟩ : ∃ a c, u4 = .slice a m.length c := by
      obtain ⟨a, c, e, _⟩ := oo.out.isB
      exact ⟨a, c, e⟩
    by_cases hlt : k < N
    · obtain ⟨b, off, rfl, hc⟩ : ∃ b off, ao = some ⟨b, off, none⟩ ∧ ∀ i, i < ls.length → ∃ x, w.cell? ⟨b, off + i, none⟩ = some x ∧ IsB w x (ls.getD i []) ∧ (ls.getD i []).length ≤ 140737488355328 ∧ ∀ n c, x = .slice none n c → c = 0 := by
        rcases HAT.out with h0 | h0
        · have := HN.out
          rw [h0] at this
          simp at this
          omega
        · exact h0
      obtain ⟨x, hcx, hxb, hbl, hxn⟩ := hc k (by rw [← HN.out]; exact hlt)
      obtain ⟨bs, hbs⟩ : ∃ bs, bs = ls.getD k [] := ⟨_, rfl⟩
      rw [← hbs] at hxb hbl
      obtain ⟨a5, c5, rfl⟩ : ∃ a c, x = .slice a bs.length c := by
        obtain ⟨a, c, e, _⟩ := hxb
        exact ⟨a, c, e⟩
      have hbw : b < w.heap.size := World.block_lt_of_cell? w _ hcx
      have HX : Hid (w.cell? ⟨b, off + k, none⟩ = some (.slice a5 bs.length c5)) := hcx
      have HXB : Hid (IsB w (.slice a5 bs.length c5) bs) := hxb
      have HXN : Hid (∀ n c, Value.slice a5 bs.length c5 = .slice none n c → c = 0) := hxn
      clear hc hbs hcx hxb hxn
      have x0 : wz.cell? ⟨b, off + k, none⟩ = some (.slice a5 bs.length c5) := by rw [kk.cell hbw]; exact HX.out
      by_cases hcond : k < 100 ∧ m.length + bs.length ≤ 4096
      · obtain ⟨h100, hsum⟩ := hcond
        have HOF : Hid (Off (.slice a5 bs.length c5) g) := HXB.out.off hw1
        go_wp2_with fail
        refine (add_any g m bs _ wz (HL.out.below kk HL.out.size) hg2 hh.out (HXB.out.below kk) HOF.out (by omega)).mono ?_
        rintro e w4 ⟨rfl, hx4, o4⟩
        have k4 : Below w.heap.size w w4 := kk.trans (o4.below kk.size hw1)
        have X4 : Hid (HashIs w4 g (m ++ bs)) := hx4
        have O4 : Hid (Own w4 w2.heap.size (.slice ax m.length cx) m) := oo.out.only o4 hgx
        have hs4 : w2.heap.size ≤ w4.heap.size := Nat.le_trans hsz o4.size
        have x4 : w4.cell? ⟨b, off + k, none⟩ = some (.slice a5 bs.length c5) := by rw [k4.cell hbw]; exact HX.out
        clear hx4 o4 x0
        go_wp2_with (at_builtin; go_must (refine wpList_app _ rfl _ _ rfl w2.heap.size _ m rfl O4.out _ bs rfl (HXB.out.below k4) HXN.out (by omega) hs4 ?_))
        intro r5 w5 o5 b5 _
        have hk24 : w.heap.size ≤ w2.heap.size := Nat.le_trans hw1 (Nat.le_of_lt hgx)
        have k5 : Below w.heap.size w w5 := k4.trans (b5.mono hk24)
        have X5 : Hid (HashIs w5 g (m ++ bs)) := X4.out.below b5 hgx
        have O5 : Hid (Own w5 w2.heap.size r5 (m ++ bs)) := o5
        have hs5 : w2.heap.size ≤ w5.heap.size := Nat.le_trans hs4 b5.size
        obtain ⟨M2, hM2⟩ : ∃ M2, M2 = m ++ bs := ⟨_, rfl⟩
        rw [← hM2] at X5 O5
        have hM2l : M2.length ≤ 4096 := by rw [hM2, List.length_append]; omega
        clear o5 b5 k4 X4 O4 x4 hs4 hM2
        go_wp2_with fail
        refine (of_any r5 M2 w5 (HL.out.below k5 HL.out.size) O5.out.isB (by omega)).mono ?_
        rintro e w6 ⟨r6, rfl, o6, b6⟩
        have k6 : Below w.heap.size w w6 := k5.trans (b6.mono k5.size)
        have R6 : Hid (Own w6 w5.heap.size r6 (M.sha M2)) := o6
        have X6 : Hid (HashIs w6 g M2) := X5.out.below b6 X5.out.lt
        have O6 : Hid (Own w6 w2.heap.size r5 M2) := O5.out.below b6
        have hs6 : w2.heap.size ≤ w6.heap.size := Nat.le_trans hs5 b6.size
        clear o6 b6 k5 X5 O5 hs5
        go_wp2_with fail
        refine (sum_any g M2 w6 (HL.out.below k6 HL.out.size) X6.out (by omega)).mono ?_
        rintro e w7 ⟨r7, rfl, o7, b7⟩
        have k7 : Below w.heap.size w w7 := k6.trans (b7.mono k6.size)
        have R7 : Hid (Own w7 w6.heap.size r7 (M.sha M2)) := o7
        have R6' : Hid (Own w7 w5.heap.size r6 (M.sha M2)) := R6.out.below b7
        have X7 : Hid (HashIs w7 g M2) := X6.out.below b7 X6.out.lt
        have O7 : Hid (Own w7 w2.heap.size r5 M2) := O6.out.below b7
        have hs7 : w2.heap.size ≤ w7.heap.size := Nat.le_trans hs6 b7.size
        clear o7 b7 k6 X6 O6 hs6 R6
        go_wp2_with fail
        refine (requal_yes _ _ (M.sha M2) w7 R7.out.isB R6'.out.isB).mono ?_
        rintro e w8 ⟨rfl, b8⟩
        have k8 : Below w.heap.size w w8 := k7.trans (b8.mono k7.size)
        have R6 : Hid (Own w8 w5.heap.size r6 (M.sha M2)) := R6'.out.below b8
        have X8 : Hid (HashIs w8 g M2) := X7.out.below b8 X7.out.lt
        have O8 : Hid (Own w8 w2.heap.size r5 M2) := O7.out.below b8
        have hs8 : w2.heap.size ≤ w8.heap.size := Nat.le_trans hs7 b8.size
        clear b8 k7 X7 O7 hs7 R7 R6'
        go_wp2_with fail
        refine (sum_any g M2 w8 (HL.out.below k8 HL.out.size) X8.out (by omega)).mono ?_
        rintro e w9 ⟨r9, rfl, o9, b9⟩
        have k9 : Below w.heap.size w w9 := k8.trans (b9.mono k8.size)
        have R9 : Hid (Own w9 w8.heap.size r9 (M.sha M2)) := o9
        have R6' : Hid (Own w9 w5.heap.size r6 (M.sha M2)) := R6.out.below b9
        have X9 : Hid (HashIs w9 g M2) := X8.out.below b9 X8.out.lt
        have O9 : Hid (Own w9 w2.heap.size r5 M2) := O8.out.below b9
        have hs9 : w2.heap.size ≤ w9.heap.size := Nat.le_trans hs8 b9.size
        clear o9 b9 k8 X8 O8 hs8 R6
        go_wp2_with fail
        refine (requal_yes _ _ (M.sha M2) w9 R9.out.isB R6'.out.isB).mono ?_
        rintro e w10 ⟨rfl, b10⟩
        have k10 : Below w.heap.size w w10 := k9.trans (b10.mono k9.size)
        have X10 : Hid (HashIs w10 g M2) := X9.out.below b10 X9.out.lt
        have O10 : Hid (Own w10 w2.heap.size r5 M2) := O9.out.below b10
        have hs10 : w2.heap.size ≤ w10.heap.size := Nat.le_trans hs9 b10.size
        clear b10 k9 X9 O9 hs9 R9 R6'
        go_wp2
        go_roundw
        case rel => exact ⟨k + 1, M2, by omega, by go_num, hM2l, O10, X10, k10, hs10⟩
        case measure => simp [intOf]; omega
      · have hcases : ¬ k < 100 ∨ (k < 100 ∧ ¬ m.length + bs.length ≤ 4096) := by omega
        clear hcond
        rcases hcases with h100 | ⟨h100, hsum⟩
        all_goals
          go_wp2_with fail
          refine (sum_any g m wz (HL.out.below kk HL.out.size) hh.out (by omega)).mono ?_
          rintro e w8 ⟨r8, rfl, o8, b8⟩
          have k8 : Below w.heap.size w w8 := kk.trans (b8.mono kk.size)
          have R8 : Hid (Own w8 wz.heap.size r8 (M.sha m)) := o8
          have O8 : Hid (Own w8 w2.heap.size (.slice ax m.length cx) m) := oo.out.below b8
          clear o8 b8
          go_wp2_with fail
          refine (rof_any _ m w8 O8.out.isB O8.out.nil0 (by omega)).mono ?_
          rintro e w9 ⟨r9, rfl, o9, b9⟩
          have k9 : Below w.heap.size w w9 := k8.trans (b9.mono k8.size)
          have R9 : Hid (Own w9 w8.heap.size r9 (M.sha m)) := o9
          have R8' : Hid (Own w9 wz.heap.size r8 (M.sha m)) := R8.out.below b9
          clear o9 b9
          go_wp2_with fail
          refine (requal_yes _ _ (M.sha m) w9 R8'.out.isB R9.out.isB).mono ?_
          rintro e w10 ⟨rfl, b10⟩
          have k10 : Below w.heap.size w w10 := k9.trans (b10.mono k9.size)
          go_wp2
          go_ret
          exact ⟨rfl, k10⟩
    · obtain rfl : k = N := by omega
      go_wp2_with fail
      refine (sum_any g m wz (HL.out.below kk HL.out.size) hh.out (by omega)).mono ?_
      rintro e w8 ⟨r8, rfl, o8, b8⟩
      have k8 : Below w.heap.size w w8 := kk.trans (b8.mono kk.size)
      have R8 : Hid (Own w8 wz.heap.size r8 (M.sha m)) := o8
      have O8 : Hid (Own w8 w2.heap.size (.slice ax m.length cx) m) := oo.out.below b8
      clear o8 b8
      go_wp2_with fail
      refine (rof_any _ m w8 O8.out.isB O8.out.nil0 (by omega)).mono ?_
      rintro e w9 ⟨r9, rfl, o9, b9⟩
      have k9 : Below w.heap.size w w9 := k8.trans (b9.mono k8.size)
      have R9 : Hid (Own w9 w8.heap.size r9 (M.sha m)) := o9
      have R8' : Hid (Own w9 wz.heap.size r8 (M.sha m)) := R8.out.below b9
      clear o9 b9
      go_wp2_with fail
      refine (requal_yes _ _ (M.sha m) w9 R8'.out.isB R9.out.isB).mono ?_
      rintro e w10 ⟨rfl, b10⟩
      have k10 : Below w.heap.size w w10 := k9.trans (b10.mono k9.size)
      go_wp2
      go_ret
      exact ⟨rfl, k10⟩

end Go.Proofs.YtaageadgkncjjaaDoor
