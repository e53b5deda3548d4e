/-
  CONTRACTS OF orlopref10.May AND Same. Conditions: the list and the rows lie so.
  ROWS OF ROWS OF THE CALL'S OWN (OwnLL), 'append' onto rows of anything in plain regions, AND THE CONTRACT OF orlopref10.Ahead. Conditions: as each says.
  CONTRACT OF orlopref10.Done: the blocks with the changes done; a row of the call's own, whose rows are the old ones, or new. Conditions: the rows and the changes lie so, the changes fit, there is a block.
  THE FACE OF THE CODE'S JOURNAL (WalOk): what each of its calls does, over a predicate Wl w gw gd ('a Wal at gw over the disk at gd') and functions O (Open), C (Commit) of disks; and what these make of what may survive a loss of power. Nothing of it is proved here. Conditions: none.
  CONTRACT OF orloplaw10.seen, over the face of the code's journal: the blocks behind it. Conditions: WalCalls.
  LISTS OF CHANGES OF THE CALL'S OWN (OwnCL), AND THE CONTRACTS OF orloplaw10.changes AND small. Conditions: the transactions lie so; one has 60 changes at most.
  CONTRACTS OF orloplaw10.small AND awake, the latter over the face of the code's journal. Conditions: WalCalls, WalMath; the transactions lie so.
  TWO DISKS AND WHAT THEIR CALLS LEAVE ALONE (St2); lists of changes joined. Conditions: as each says.
-/
import Derived.Test.YtlglkiknpbfnmaaDoorWalMem
import Derived.Test.YtlglkiknpbfnmaaDoorPkDisk
import Derived.Maps.AppendAt

namespace Go.Proofs.YtlglkiknpbfnmaaDoor
open Go.RowKit
set_option linter.unusedVariables false

def M.Fits (n : Nat) (c : Int × List UInt8) : Prop := 0 ≤ c.1 ∧ c.1 < (n : Int) ∧ c.2.length = 256

theorem M.may_iff (n : Nat) (l : M.CL) : M.May n l ↔ l.length ≤ 40 ∧ ∀ i, i < l.length → M.Fits n (l.getD i (0, [])) := by
  constructor
  · rintro ⟨h1, h2⟩
    refine ⟨h1, fun i hi => h2 _ ?_⟩
    rw [List.getD_eq_getElem?_getD, List.getElem?_eq_getElem hi]
    exact List.getElem_mem hi
  · rintro ⟨h1, h2⟩
    refine ⟨h1, fun c hc => ?_⟩
    obtain ⟨i, hi, rfl⟩ := List.mem_iff_getElem.1 hc
    have := h2 i hi
    rwa [List.getD_eq_getElem?_getD, List.getElem?_eq_getElem hi] at this

set_option maxRecDepth 100000 in
set_option maxHeartbeats 4000000 in
theorem rmay_any (n : Nat) (hn : n < 1000000) (lv : Value) (l : M.CL) (xs : List Value) (w : World) (hl : IsCL w lv l xs) :
    Calls Tryd.prog 15 #[.int .i64 (n : Int), lv] w fun e w' => e = .returned (.bool (decide (M.May n l))) ∧ w' = w := by
  obtain ⟨ao, cap, rfl, hc1, hc2, hx, hrow, hcell⟩ := hl
  obtain ⟨nn, hnn⟩ : ∃ n, n = l.length := ⟨_, rfl⟩
  rw [← hnn] at hc1 ⊢
  have HNN : Hid (l.length = nn) := hnn.symm
  have HL : Hid (nn ≤ maxLen) := Nat.le_trans hc1 hc2
  have HC := Lib.hid hcell
  have HR := Lib.hid hrow
  clear hcell hc1 hc2 hnn hrow hx
  go_enter Tryd.func15, Tryd.ntmps15
  go_wp2
  go_loopw [5] (fun v wr => ∃ k : Nat, v = .int .i64 (k : Int) ∧ Hid (k ≤ nn ∧ k ≤ 41 ∧ ∀ i, i < k → M.Fits n (l.getD i (0, []))) ∧ wr = w)
    (fun v _ => 41 - numOf v)
  case atStart => exact ⟨0, rfl, ⟨Nat.zero_le _, Nat.zero_le _, fun i hi => by omega⟩, rfl⟩
  case round =>
    obtain ⟨k, rfl, hk, rfl⟩ := hrel
    by_cases hlt : k < nn
    · have b1 : (k : Int) < nn := by omega
      by_cases h6 : k ≤ 40
      · have b2 : (k : Int) ≤ 40 := by omega
        obtain ⟨b, off, rfl, hc⟩ := HC.out.resolve_left (fun e => by have := HNN.out; rw [e] at this; simp at this; omega)
        obtain ⟨c0, c1⟩ := hc k (by rw [HNN.out]; exact hlt)
        obtain ⟨ib, _, r1, r2⟩ := HR.out k (by rw [HNN.out]; exact hlt)
        obtain ⟨xa, xc, ex⟩ := ib.shape
        rw [ex] at c1
        obtain ⟨q, hq⟩ : ∃ q, q = (l.getD k (0, [])).2.length := ⟨_, rfl⟩
        obtain ⟨p, hp⟩ : ∃ p, p = (l.getD k (0, [])).1 := ⟨_, rfl⟩
        rw [← hq] at c1
        rw [← hp] at c0
        have HP := Lib.hid hp
        have HQ := Lib.hid hq
        have g1 : wrap64 ((k : Int) + 1) = ((k + 1 : Nat) : Int) := by unfold wrap64; omega
        have g2 : (0 : Int) ≤ (k : Int) := by omega
        have g3 : ((k : Int)).toNat = k := by omega
        have HK := Lib.hid hlt
        have H6 := Lib.hid h6
        have HF : Hid (M.Fits n (l.getD k (0, [])) ↔ 0 ≤ p ∧ p < (n : Int) ∧ q = 256) := by rw [Hid, M.Fits, hp, hq]
        have HNO : Hid (¬ M.Fits n (l.getD k (0, [])) → decide (M.May n l) = false) := fun hno => decide_eq_false fun h => hno (((M.may_iff n l).1 h).2 k (by rw [HNN.out]; exact HK.out))
        clear hc ib r1 r2 ex hp hq hlt h6
        by_cases s1 : p < 0
        · have hS : Hid (decide (M.May n l) = false) := HNO.out fun h => by have := HF.out.1 h; omega
          clear hk
          go_wp2
          go_ret
          exact ⟨by rw [hS.out]; rfl, rfl⟩
        · by_cases s2 : (n : Int) ≤ p
          · have hS : Hid (decide (M.May n l) = false) := HNO.out fun h => by have := HF.out.1 h; omega
            clear hk
            go_wp2
            go_ret
            exact ⟨by rw [hS.out]; rfl, rfl⟩
          · by_cases s3 : q = 256
            · have hS : Hid (k + 1 ≤ nn ∧ k + 1 ≤ 41 ∧ ∀ i, i < k + 1 → M.Fits n (l.getD i (0, []))) := by
                refine ⟨HK.out, Nat.succ_le_succ H6.out, fun i hi => ?_⟩
                by_cases e : i = k
                · rw [e]; exact HF.out.2 (by omega)
                · exact hk.out.2.2 i (by omega)
              have t3 : ((q : Int) != 256) = false := by rw [s3]; rfl
              clear hk s3
              go_wp2
              go_roundw
              case rel => exact ⟨k + 1, rfl, hS, trivial⟩
              case measure =>
                have := H6.out
                show 41 - (((k + 1 : Nat) : Int)).toNat < 41 - ((k : Int)).toNat
                omega
            · have hS : Hid (decide (M.May n l) = false) := HNO.out fun h => s3 (HF.out.1 h).2.2
              have t2 : ¬ (q : Int) = 256 := by omega
              have t3 : ((q : Int) != 256) = true := by simpa using t2
              clear hk s3
              go_wp2
              go_ret
              exact ⟨by rw [hS.out]; rfl, rfl⟩
      · have b2 : ¬ (k : Int) ≤ 40 := by omega
        have b3 : ¬ (nn : Int) ≤ 40 := by omega
        have hS : Hid (decide (M.May n l) = false) := decide_eq_false fun h => by have := h.1; have := HNN.out; omega
        clear hk hlt h6
        go_wp2
        go_ret
        exact ⟨by rw [hS.out]; rfl, rfl⟩
    · have b1 : ¬ (k : Int) < nn := by omega
      have e : k = nn := by have := hk.out.1; omega
      by_cases h40 : nn ≤ 40
      · have b3 : (nn : Int) ≤ 40 := by omega
        have hS : Hid (decide (M.May n l) = true) := decide_eq_true ((M.may_iff n l).2 ⟨by rw [HNN.out]; exact h40, fun i hi => hk.out.2.2 i (by rw [e, ← HNN.out]; exact hi)⟩)
        clear hk hlt h40 e
        go_wp2
        go_ret
        exact ⟨by rw [hS.out]; rfl, rfl⟩
      · have b3 : ¬ (nn : Int) ≤ 40 := by omega
        have hS : Hid (decide (M.May n l) = false) := decide_eq_false fun h => h40 (by rw [← HNN.out]; exact h.1)
        clear hk hlt h40 e
        go_wp2
        go_ret
        exact ⟨by rw [hS.out]; rfl, rfl⟩

theorem M.take_succ_rows (A B : List (List UInt8)) (k : Nat) (ha : k < A.length) (hb : k < B.length) : A.take (k + 1) = B.take (k + 1) ↔ A.take k = B.take k ∧ A.getD k [] = B.getD k [] := by
  rw [List.take_add_one, List.take_add_one, List.getElem?_eq_getElem ha, List.getElem?_eq_getElem hb, List.getD_eq_getElem?_getD, List.getD_eq_getElem?_getD, List.getElem?_eq_getElem ha, List.getElem?_eq_getElem hb]
  simp only [Option.toList, Option.getD_some]
  constructor
  · intro h
    have := List.append_inj h (by rw [List.length_take, List.length_take]; omega)
    exact ⟨this.1, by simpa using this.2⟩
  · rintro ⟨h1, h2⟩
    rw [h1, h2]

set_option maxRecDepth 100000 in
set_option maxHeartbeats 4000000 in
theorem rsame10_any (av bv : Value) (A B : List (List UInt8)) (xs ys : List Value) (w : World) (ha : IsLL w av A xs) (hb : IsLL w bv B ys) :
    Calls Tryd.prog 16 #[av, bv] w fun e w' => e = .returned (.bool (decide (A = B))) ∧ Below w.heap.size w w' := by
  obtain ⟨ao, ac, rfl, ha1, ha2, hax, harow, hacell⟩ := ha
  obtain ⟨bo, bc, rfl, hb1, hb2, hbx, hbrow, hbcell⟩ := hb
  obtain ⟨n, hn⟩ : ∃ n, n = A.length := ⟨_, rfl⟩
  obtain ⟨m, hm⟩ : ∃ n, n = B.length := ⟨_, rfl⟩
  rw [← hn] at ha1 ⊢
  rw [← hm] at hb1 ⊢
  have HN : Hid (A.length = n) := hn.symm
  have HM : Hid (B.length = m) := hm.symm
  have HL : Hid (n ≤ maxLen) := Nat.le_trans ha1 ha2
  have HAC := Lib.hid hacell
  have HAR := Lib.hid harow
  have HBC := Lib.hid hbcell
  have HBR := Lib.hid hbrow
  clear hacell harow hbcell hbrow ha1 ha2 hb1 hb2 hax hbx hn hm
  by_cases hnm : n = m
  · subst hnm
    have t1 : ((n : Int) != (n : Int)) = false := by simp
    go_enter Tryd.func16, Tryd.ntmps16
    go_wp2
    go_loopw [5] (fun v wr => ∃ k : Nat, v = .int .i64 (k : Int) ∧ Hid (k ≤ n ∧ A.take k = B.take k) ∧ Hid (Below w.heap.size w wr))
      (fun v _ => n - numOf v)
    case atStart => exact ⟨0, rfl, ⟨Nat.zero_le _, by simp⟩, Below.refl _ _⟩
    case round =>
      obtain ⟨wz, rfl⟩ : ∃ x, x = wr := ⟨_, rfl⟩
      obtain ⟨k, rfl, hk, kk⟩ := hrel
      by_cases hlt : k < n
      · have b1 : (k : Int) < n := by omega
        obtain ⟨b, off, rfl, hc⟩ := HAC.out.resolve_left (fun e => by have := HN.out; rw [e] at this; simp at this; omega)
        obtain ⟨d, dff, rfl, hd⟩ := HBC.out.resolve_left (fun e => by have := HM.out; rw [e] at this; simp at this; omega)
        have c0 := hc k (by rw [HN.out]; exact hlt)
        have d0 := hd k (by rw [HM.out]; exact hlt)
        have i0 := (HAR.out k (by rw [HN.out]; exact hlt)).1
        have j0 := (HBR.out k (by rw [HM.out]; exact hlt)).1
        have c1 : wz.cell? ⟨b, off + k, none⟩ = some (xs.getD k undef) := (kk.out.cell (p := ⟨b, off + k, none⟩) (World.block_lt_of_cell? w _ c0)).trans c0
        have d1 : wz.cell? ⟨d, dff + k, none⟩ = some (ys.getD k undef) := (kk.out.cell (p := ⟨d, dff + k, none⟩) (World.block_lt_of_cell? w _ d0)).trans d0
        obtain ⟨x, hx⟩ : ∃ x, x = xs.getD k undef := ⟨_, rfl⟩
        obtain ⟨y, hy⟩ : ∃ x, x = ys.getD k undef := ⟨_, rfl⟩
        rw [← hx] at c1 i0
        rw [← hy] at d1 j0
        obtain ⟨P, hP⟩ : ∃ x, x = A.getD k [] := ⟨_, rfl⟩
        obtain ⟨R, hR⟩ : ∃ x, x = B.getD k [] := ⟨_, rfl⟩
        rw [← hP] at i0
        rw [← hR] at j0
        have HT : Hid (A.take (k + 1) = B.take (k + 1) ↔ A.take k = B.take k ∧ P = R) := by rw [Hid, hP, hR]; exact M.take_succ_rows A B k (by rw [HN.out]; exact hlt) (by rw [HM.out]; exact hlt)
        have C := Lib.hid (fun w' (kb : Below wz.heap.size wz w') => requal_b x y P R w' ((i0.below kk.out).below kb) ((j0.below kk.out).below kb))
        have HK := Lib.hid hlt
        have g1 : wrap64 ((k : Int) + 1) = ((k + 1 : Nat) : Int) := by have := HL.out; unfold maxLen at this; unfold wrap64; omega
        have G1 := Lib.hid g1
        have g2 : (0 : Int) ≤ (k : Int) := by omega
        have g3 : ((k : Int)).toNat = k := by omega
        have z0 : 0 ≤ n := Nat.zero_le _
        clear hc hd c0 d0 i0 j0 hx hy hP hR hlt g1
        have HCD : Hid ((wz.cell? ⟨b, off + k, none⟩ = some x) ∧ (wz.cell? ⟨d, dff + k, none⟩ = some y)) := ⟨c1, d1⟩
        have KZ : Hid (∀ w', Below wz.heap.size wz w' → w'.cell? ⟨b, off + k, none⟩ = some x ∧ w'.cell? ⟨d, dff + k, none⟩ = some y) := fun w' kb =>
          ⟨(kb.cell (p := ⟨b, off + k, none⟩) (World.block_lt_of_cell? wz _ HCD.out.1)).trans HCD.out.1, (kb.cell (p := ⟨d, dff + k, none⟩) (World.block_lt_of_cell? wz _ HCD.out.2)).trans HCD.out.2⟩
        clear c1 d1
        go_upto_region 6 with fail
        refine wp_region_any (by kernel_rfl) ?_
        change wpAny _ _ _ _ _ _ _ (World.drew _)
        refine wpAny_of_held (S := fun w' => Below wz.heap.size wz w') _ _ _ _ ?_
        have S0 : Below wz.heap.size wz wz.drew := (Below.refl _ _).drew
        refine wpAnyH_take_at (i := 0) (v := .slice (some ⟨b, off, none⟩) n ac) rfl rfl (by kernel_rfl) (by kernel_rfl) (by kernel_rfl) (fun _ _ _ h => h) (Or.inl ⟨by rfl, fun w hS => by go_simp⟩) S0 ?_
        simp only [List.setIfInBounds_toArray, List.set_cons_zero, List.set_cons_succ]
        refine wpAnyH_take_at (i := 1) (v := .int .i64 (k : Int)) rfl rfl (by kernel_rfl) (by kernel_rfl) (by kernel_rfl) (fun _ _ _ h => h) (Or.inl ⟨by rfl, fun w hS => by go_simp⟩) S0 ?_
        simp only [List.setIfInBounds_toArray, List.set_cons_zero, List.set_cons_succ]
        refine wpAnyH_take_at (i := 2) (v := .pointer (some ⟨b, off + k, none⟩)) rfl rfl (by kernel_rfl) (by kernel_rfl) (by kernel_rfl) (fun _ _ _ h => h) (Or.inl ⟨by rfl, fun w hS => by go_simp⟩) S0 ?_
        simp only [List.setIfInBounds_toArray, List.set_cons_zero, List.set_cons_succ]
        refine wpAnyH_take_at (i := 3) (v := x) rfl rfl (by kernel_rfl) (by kernel_rfl) (by kernel_rfl) (fun _ _ _ h => h) (Or.inl ⟨by rfl, fun w hS => by have c := (KZ.out w hS).1; go_simp⟩) S0 ?_
        simp only [List.setIfInBounds_toArray, List.set_cons_zero, List.set_cons_succ]
        refine wpAnyH_take_at (i := 4) (v := .slice (some ⟨d, dff, none⟩) n bc) rfl rfl (by kernel_rfl) (by kernel_rfl) (by kernel_rfl) (fun _ _ _ h => h) (Or.inl ⟨by rfl, fun w hS => by go_simp⟩) S0 ?_
        simp only [List.setIfInBounds_toArray, List.set_cons_zero, List.set_cons_succ]
        refine wpAnyH_take_at (i := 5) (v := .int .i64 (k : Int)) rfl rfl (by kernel_rfl) (by kernel_rfl) (by kernel_rfl) (fun _ _ _ h => h) (Or.inl ⟨by rfl, fun w hS => by go_simp⟩) S0 ?_
        simp only [List.setIfInBounds_toArray, List.set_cons_zero, List.set_cons_succ]
        refine wpAnyH_take_at (i := 6) (v := .pointer (some ⟨d, dff + k, none⟩)) rfl rfl (by kernel_rfl) (by kernel_rfl) (by kernel_rfl) (fun _ _ _ h => h) (Or.inl ⟨by rfl, fun w hS => by go_simp⟩) S0 ?_
        simp only [List.setIfInBounds_toArray, List.set_cons_zero, List.set_cons_succ]
        refine wpAnyH_take_at (i := 7) (v := y) rfl rfl (by kernel_rfl) (by kernel_rfl) (by kernel_rfl) (fun _ _ _ h => h) (Or.inl ⟨by rfl, fun w hS => by have c := (KZ.out w hS).2; go_simp⟩) S0 ?_
        simp only [List.setIfInBounds_toArray, List.set_cons_zero, List.set_cons_succ]
        refine wpAnyH_ready (rs := [8]) (by kernel_rfl) (by simp) ?_
        refine AllReadyH.cons rfl (fun K hK => ?_) AllReadyH.nil
        go_simp
        refine (C.out _ S0).mono ?_
        rintro e w1 ⟨rfl, k1⟩
        have S1 : Below wz.heap.size wz w1 := S0.trans (k1.mono S0.size)
        refine hK.out _ _ S1 (fun _ => ?_)
        clear hK K S0 k1
        obtain ⟨r, hr⟩ : ∃ r, r = decide (P = R) := ⟨_, rfl⟩
        rw [← hr]
        have HR := Lib.hid hr
        clear hr
        have KN : Hid (Below w.heap.size w w1) := kk.out.trans (S1.mono kk.out.size)
        refine wpAnyH_take_at (i := 9) (v := .bool (!r)) rfl rfl (by kernel_rfl) (by kernel_rfl) (by kernel_rfl) (fun _ _ _ h => h) (Or.inl ⟨by rfl, fun w hS => by go_simp⟩) S1 ?_
        simp only [List.setIfInBounds_toArray, List.set_cons_zero, List.set_cons_succ]
        refine wpAnyH_done (by kernel_rfl) ?_ _
        clear S1 KZ HCD C kk
        cases r with
        | true =>
          have hS : Hid (k + 1 ≤ n ∧ A.take (k + 1) = B.take (k + 1)) := ⟨HK.out, HT.out.2 ⟨hk.out.2, of_decide_eq_true HR.out.symm⟩⟩
          clear hk HT HR
          go_wp2
          go_roundw
          case rel => exact ⟨k + 1, by rw [G1.out], hS, KN⟩
          case measure =>
            have := HK.out
            rw [G1.out]
            show n - (((k + 1 : Nat) : Int)).toNat < n - ((k : Int)).toNat
            omega
        | false =>
          have hS : Hid (decide (A = B) = false) := decide_eq_false fun e => of_decide_eq_false HR.out.symm (HT.out.1 (by rw [e])).2
          clear hk HT HR
          go_wp2
          go_ret
          exact ⟨by rw [hS.out]; rfl, KN.out⟩
      · have b1 : ¬ (k : Int) < n := by omega
        have hS : Hid (decide (A = B) = true) := decide_eq_true (by
          have h := hk.out.2
          have e : k = n := by have := hk.out.1; omega
          rwa [List.take_of_length_le (by rw [HN.out, e]; exact Nat.le_refl _), List.take_of_length_le (by rw [HM.out, e]; exact Nat.le_refl _)] at h)
        clear hk hlt
        go_wp2
        go_ret
        exact ⟨by rw [hS.out]; rfl, kk.out⟩
  · have t1 : ((n : Int) != (m : Int)) = true := by have h : ¬ (n : Int) = (m : Int) := by omega
                                                    simpa using h
    have hS : Hid (decide (A = B) = false) := decide_eq_false fun e => hnm (by rw [← HN.out, ← HM.out, e])
    go_enter Tryd.func16, Tryd.ntmps16
    go_wp2
    go_ret
    exact ⟨by rw [hS.out]; rfl, Below.refl _ _⟩

end Go.Proofs.YtlglkiknpbfnmaaDoor

namespace Go.Proofs.YtlglkiknpbfnmaaDoor
open Go.RowKit
set_option linter.unusedVariables false

theorem rows10 : RowTy 31 34 1 24 (.slice none 0 0) := ⟨Tryd.underlying31, by kernel_rfl, rfl, by decide⟩

/-- 'append(xs, ys...)' onto an owned row, in a plain region. -/
theorem wpList_app_row {t e : TypeId} {size bytes : Nat} {z : Value} (hT : RowTy t e size bytes z) (w : World) {ops : Array Oper} {rest : List Oper} {o : Oper} {a : Act} {Q : Exit → Act → World → Prop} (hg : o.guard = none) (s x : Operand)
    (ho : o.op = .call { callee := .builtin .append, args := #[s, x], argTypes := #[t, t] })
    (B : Nat) (v : Value) (n : Nat) (xs : List Value) (hs : a.eval s = v) (hown : w.ownsRow B e size v n xs) (ad : Addr) (m c : Nat) (news : List Value) (hx : a.eval x = .slice (some ad) m c) (hl : news.length = m * size)
    (hc : ∀ j u, news[j]? = some u → w.cell? (ad.add j) = some u) (h1 : ∀ u ∈ news, u.oneCell' = true) (hm : n + m ≤ maxLen) (hb : (n + m) * bytes ≤ 140737488355328) (hB : B ≤ w.heap.size)
    (h : ∀ v' w', w'.ownsRow B e size v' (n + m) (xs ++ news) → w.grownBy w' v.ownBlock → (v'.ownBlock = v.ownBlock ∨ v'.ownBlock = some w.heap.size) → wpList Tryd.prog ops Q rest (a.put o.dst v') w') : wpList Tryd.prog ops Q (o :: rest) a w := by
  obtain ⟨hu, hi, hz, h0⟩ := hT
  obtain ⟨i0, hi0, hz0, hz1, hz2⟩ := info_any hi
  exact wpList_append_own_at (P := Tryd.prog) w hg s x t ho B e i0 z size bytes hu hi0 hz0 hz1 hz2 hz h0 v n xs hs hown ad m c news hx hl hc h1 hm hb hB fun v' w' a b _ d => h v' w' a b d

/-- A row of rows of the call's own, from block B on; so are its rows. -/
structure OwnLL (w : World) (B : Nat) (v : Value) (L : List (List UInt8)) (rows : List Value) : Prop where
  row : w.ownsRow B 34 1 v L.length rows
  each : ∀ i, i < L.length → IsB w (rows.getD i undef) (L.getD i []) ∧ (∀ n c, rows.getD i undef = .slice none n c → c = 0) ∧ Lies (fun k => B ≤ k ∧ k < w.heap.size ∧ v.ownBlock ≠ some k) (rows.getD i undef)

theorem OwnLL.len {w : World} {B : Nat} {v : Value} {L : List (List UInt8)} {rows : List Value} (h : OwnLL w B v L rows) : rows.length = L.length := by
  have := h.row.1
  omega

theorem OwnLL.nil (w : World) (B : Nat) : OwnLL w B (.slice none 0 0) [] [] := ⟨World.ownsRow_nil _ _ _ _, fun i hi => by cases hi⟩

theorem OwnLL.chg {F : Nat → Prop} {w w' : World} {B : Nat} {v : Value} {L : List (List UInt8)} {rows : List Value} (h : OwnLL w B v L rows) (c : Chg F w w') (hF : ∀ k, F k → B ≤ k → k < w.heap.size → False) : OwnLL w' B v L rows where
  row := own_chg h.row c fun b hb hf => hF b hf (h.row.lt b hb).1 (h.row.lt b hb).2
  each := fun i hi => ⟨(h.each i hi).1.chg c ((h.each i hi).2.2.mono fun k hk hf => hF k hf hk.1 hk.2.1), (h.each i hi).2.1, (h.each i hi).2.2.mono fun k hk => ⟨hk.1, Nat.lt_of_lt_of_le hk.2.1 c.size, hk.2.2⟩⟩

theorem OwnLL.below {w w' : World} {B : Nat} {v : Value} {L : List (List UInt8)} {rows : List Value} (h : OwnLL w B v L rows) (c : Below w.heap.size w w') : OwnLL w' B v L rows :=
  h.chg (Chg.of_below (F := fun _ => False) c) fun _ h _ _ => h

theorem OwnLL.isLL {w : World} {B : Nat} {v : Value} {L : List (List UInt8)} {rows : List Value} (h : OwnLL w B v L rows) : IsLL w v L rows := by
  obtain ⟨ao, cap, rfl⟩ := ownShape h.row
  have hl := h.len
  rcases h.row.2 with ⟨e, hn⟩ | ⟨g, cap', cur, e, hb, hg, hn, hm, hs, ht⟩
  · injection e with e1 e2 e3
    refine ⟨ao, cap, rfl, by omega, by unfold maxLen; omega, hl, fun i hi => by omega, .inl (by cases L; rfl; simp at hn)⟩
  · injection e with e1 e2 e3
    subst e1 e3
    refine ⟨_, cap, rfl, by omega, hm, hl, fun i hi => ⟨(h.each i hi).1, (h.each i hi).2.1⟩, ?_⟩
    by_cases h0 : L = []
    · exact .inl h0
    · refine .inr ⟨g, 0, rfl, fun i hi => ?_⟩
      obtain ⟨g2, e9, _, cs, _⟩ := ownCells h.row (by cases L; exact absurd rfl h0; simp)
      injection e9 with e9
      injection e9 with e9
      subst e9
      rw [Nat.zero_add, cs _ (by omega), List.getD_eq_getElem?_getD, List.getElem?_eq_getElem (by omega)]
      rfl

theorem OwnLL.gains {w w' : World} {K : World → Prop} {v : Value} {L : List (List UInt8)} {rows : List Value} (h : OwnLL w' w.heap.size v L rows) : Gains w w' K (fun x => IsLL x v L rows) :=
  fun F x c hf _ => (h.chg c fun k h1 h2 h3 => by have := hf k h1; omega).isLL

/-- A row more. -/
theorem OwnLL.add {w w2 w4 : World} {B : Nat} {v v' rv : Value} {L : List (List UInt8)} {rows : List Value} {bs : List UInt8} (h : OwnLL w B v L rows) (k : Below w.heap.size w w2) (hB : B ≤ w.heap.size) (d : Own w2 w.heap.size rv bs)
    (o : w4.ownsRow B 34 1 v' (L.length + 1) (rows ++ [rv])) (g : w2.grownBy w4 v.ownBlock) (a : v'.ownBlock = v.ownBlock ∨ ∃ j, v'.ownBlock = some j ∧ w2.heap.size ≤ j) : OwnLL w4 B v' (L ++ [bs]) (rows ++ [rv]) where
  row := by rw [List.length_append]; exact o
  each := by
    intro i hi
    have hi' : i < L.length + 1 := by simpa using hi
    have hl := h.len
    have hk := k.size
    have c4 : Chg (fun b => v.ownBlock = some b) w2 w4 := Chg.of_grown g fun k hk => hk
    have hv : ∀ b, v.ownBlock = some b → b < w.heap.size := fun b hb => (h.row.lt b hb).2
    have hne : ∀ b, b < w2.heap.size → v.ownBlock ≠ some b → v'.ownBlock ≠ some b := fun b h1 h2 e => by
      rcases a with a | ⟨j, a, hj⟩
      · exact h2 (a ▸ e)
      · rw [a] at e
        injection e with e
        omega
    have g4 := c4.size
    rw [getD_snoc _ _ _ _ (by rw [hl]; exact hi'), getD_snoc _ _ _ _ hi', hl]
    by_cases hlt : i < L.length
    · rw [if_pos hlt, if_pos hlt]
      obtain ⟨h1, h2, h3⟩ := h.each i hlt
      exact ⟨(h1.below k).chg c4 (h3.mono fun b hb => hb.2.2), h2, h3.mono fun b hb => ⟨hb.1, by omega, hne b (by omega) hb.2.2⟩⟩
    · rw [if_neg hlt, if_neg hlt]
      have ld : Lies (fun b => w.heap.size ≤ b ∧ b < w2.heap.size) rv := d.lies fun k h1 h2 => ⟨h1, h2⟩
      exact ⟨d.isB.chg c4 (ld.mono fun b hb e => by have := hv b e; omega), d.nil0, ld.mono fun b hb => ⟨by omega, by omega, hne b hb.2 fun e => by have := hv b e; omega⟩⟩

theorem M.drop42_take (s : List (List UInt8)) (k : Nat) (h : 42 + k < s.length) : (s.drop 42).take (k + 1) = (s.drop 42).take k ++ [s.getD (42 + k) []] := by
  rw [List.take_add_one, List.getElem?_drop, List.getD_eq_getElem?_getD, List.getElem?_eq_getElem h]
  rfl

set_option maxRecDepth 100000 in
set_option maxHeartbeats 4000000 in
theorem rahead_any (iv : Value) (s : List (List UInt8)) (w : World) (hi : IsB w iv s.flatten) (hf : ∀ b ∈ s, b.length = 256) (hs : s.length ≤ 2176) :
    Calls Tryd.prog 20 #[iv] w fun e w' => ∃ v rows, e = .returned v ∧ OwnLL w' w.heap.size v (s.drop 42) rows ∧ Below w.heap.size w w' := by
  have HI := Lib.hid hi
  have HF := Lib.hid hf
  obtain ⟨N, hN⟩ : ∃ N, N = s.length := ⟨_, rfl⟩
  have HN : Hid (s.length = N) := hN.symm
  have hNs : N ≤ 2176 := by omega
  have HNS := Lib.hid hNs
  have HL : Hid (s.flatten.length = 256 * N) := by rw [Hid, flat_length _ hf, ← hN]
  obtain ⟨ao, cap, rfl⟩ := hi.shape
  rw [HL.out] at HI ⊢
  clear hi hf hs hN hNs
  go_enter Tryd.func20, Tryd.ntmps20
  go_wp2
  go_loopw [3, 4] (fun v i wr => ∃ (k : Nat) (rows : List Value), i = .int .i64 ((10752 + 256 * k : Nat) : Int) ∧ Hid (k ≤ N - 42) ∧ Hid (OwnLL wr w.heap.size v ((s.drop 42).take k) rows) ∧ Hid (Below w.heap.size w wr))
    (fun v i _ => 600000 - numOf i)
  case atStart => exact ⟨0, [], rfl, Nat.zero_le _, by rw [List.take_zero]; exact OwnLL.nil _ _, Below.refl _ _⟩
  case round =>
    obtain ⟨wz, rfl⟩ : ∃ x, x = wr := ⟨_, rfl⟩
    obtain ⟨v3, rfl⟩ : ∃ x, x = u3 := ⟨_, rfl⟩
    obtain ⟨k, rows, rfl, hk, oo, kk⟩ := hrel
    obtain ⟨a, ha⟩ : ∃ a, a = 10752 + 256 * k := ⟨_, rfl⟩
    obtain ⟨z, hz⟩ : ∃ z, z = a + 256 := ⟨_, rfl⟩
    obtain ⟨M', hM⟩ : ∃ m, m = 256 * N := ⟨_, rfl⟩
    rw [← ha, ← hM]
    have HA := Lib.hid ha
    have HZ := Lib.hid hz
    have HM := Lib.hid hM
    have n2 : wrap64 ((a : Int) + 256) = (z : Int) := by have := HNS.out; have := hk.out; unfold wrap64; omega
    have N2 := Lib.hid n2
    by_cases hlt : 42 + k < N
    · have b1 : (z : Int) ≤ (M' : Int) := by clear n2; omega
      obtain ⟨ao', cap', e, hc1, hc2, hat⟩ := HI.out
      injection e with e1 e2 e3
      subst e1 e3
      obtain ⟨bb, bo, rfl⟩ : ∃ b off, ao = some ⟨b, off, none⟩ := by
        rcases hat with h | ⟨b, off, e, _⟩
        · rw [h] at e2; simp at e2; clear n2; omega
        · exact ⟨b, off, e⟩
      obtain ⟨cr, hcr⟩ : ∃ c, c = cap - a := ⟨_, rfl⟩
      have hcm : cap ≤ maxLen := hc2
      have hcM : M' ≤ cap := by clear n2; omega
      have h1 : (0 : Int) ≤ (a : Int) := by clear n2; omega
      have h2 : (a : Int) ≤ (z : Int) := by clear n2; omega
      have h3 : (z : Int) ≤ (cap : Int) := by clear n2; omega
      have h4 : ((a : Int)).toNat = a := by clear n2; omega
      have h5 : ((z : Int)).toNat = z := by clear n2; omega
      have h6 : z - a = 256 := by clear n2; omega
      have h7 : (z : Int) - (a : Int) = 256 := by clear n2; omega
      have hle : Hid (a + 256 ≤ s.flatten.length ∧ 256 ≤ cr ∧ cr ≤ maxLen) := ⟨by rw [HL.out]; clear n2; omega, by clear n2; omega, by clear n2; omega⟩
      have h8 : cap - a = cr := hcr.symm
      have h9 : ¬ cap = a := by clear n2; omega
      have HLT := Lib.hid hlt
      have hb0 : s.getD (42 + k) [] ∈ s := by rw [List.getD_eq_getElem?_getD, List.getElem?_eq_getElem (by rw [HN.out]; exact hlt)]; exact List.getElem_mem _
      have hy : (s.flatten.drop a).take 256 = s.getD (42 + k) [] := by rw [ha, show 10752 + 256 * k = 256 * (42 + k) by clear n2; omega]; exact M.flat_mid s _ HF.out (by rw [HN.out]; exact hlt)
      obtain ⟨y, hye⟩ : ∃ y, y = s.getD (42 + k) [] := ⟨_, rfl⟩
      have HYL : Hid (y.length = 256) := by rw [Hid, hye]; exact HF.out _ hb0
      rw [← hye] at hy
      have IY : Hid (IsB wz (.slice (some ⟨bb, bo + a, none⟩) 256 cr) y) := by
        have := (HI.out.below kk.out).mid a 256 cr hle.out.1 hle.out.2.1 hle.out.2.2
        rwa [hy] at this
      have HT : Hid ((s.drop 42).take (k + 1) = (s.drop 42).take k ++ [y]) := by rw [hye]; exact M.drop42_take s k (by rw [HN.out]; exact hlt)
      obtain ⟨Lk, hLk⟩ : ∃ x, x = (s.drop 42).take k := ⟨_, rfl⟩
      have HLK : Hid (Lk.length = k) := by rw [Hid, hLk, List.length_take, List.length_drop, HN.out]; clear n2; omega
      rw [← hLk] at oo HT
      have HK2 : Hid (k + 1 ≤ N - 42) := by rw [Hid]; clear n2; omega
      have n3 : wrap64 ((a : Int) + 256) = ((10752 + 256 * (k + 1) : Nat) : Int) := by rw [n2, HZ.out, HA.out]; clear n2; omega
      have N3 := Lib.hid n3
      have HMM : Hid (600000 - (10752 + 256 * (k + 1)) < 600000 - a) := by rw [Hid]; have := HNS.out; clear n2 n3; omega
      clear e2 hc1 hc2 hat hcr hcm hcM ha hz hM hlt hb0 hy hye hLk n3
      go_wp2_with (at_builtin; go_must (refine wpList_app2 _ rfl _ _ rfl wz.heap.size _ [] rfl (own_empty wz) _ y rfl ?c1 (by intro n c e; cases e) (by have := HYL.out; simp; omega) (by simp) ?_))
      case c1 => exact IY.out.below ((Below.refl _ _).alloc (Nat.le_refl _) _)
      intro r1 w1 o1 g1
      have k1 : Below wz.heap.size wz w1 := ((Below.refl _ wz).alloc (Nat.le_refl _) _).grown g1 (by simp) fun k hk => by
        simp only [Value.ownBlock] at hk
        have : k = wz.heap.size := by simpa using hk.symm
        omega
      obtain ⟨ra, rc, rfl⟩ := o1.shape'
      have HOY : Hid (y.length = 256) := HYL.out
      obtain ⟨q, hq⟩ : ∃ q, q = y.length := ⟨_, rfl⟩
      rw [← hq] at o1 ⊢
      have K12 : Below w1.heap.size w1 (w1.alloc (.cells #[.slice ra q rc] 34)) := (Below.refl _ _).alloc (Nat.le_refl _) _
      have K2 : Hid (Below wz.heap.size wz (w1.alloc (.cells #[.slice ra q rc] 34))) := k1.trans (K12.mono k1.size)
      have B2 : Hid (Blk (w1.alloc (.cells #[.slice ra q rc] 34)) w1.heap.size 34 [(.slice ra q rc)]) := Blk.newAt _ _ _ _ _ rfl rfl
      have O2 : Hid (Own (w1.alloc (.cells #[.slice ra q rc] 34)) wz.heap.size (.slice ra q rc) y) := o1.below K12
      have R2 : Hid ((w1.alloc (.cells #[.slice ra q rc] 34)).ownsRow w.heap.size 34 1 v3 Lk.length rows) := own_chg oo.out.row (Chg.of_below (F := fun _ => False) K2.out) fun _ _ h => h
      have HC1 : Hid (∀ u ∈ [Value.slice ra q rc], u.oneCell' = true) := by intro u hu; simp only [List.mem_cons, List.not_mem_nil, or_false] at hu; rw [hu]; rfl
      have HS : Hid (w.heap.size ≤ (w1.alloc (.cells #[.slice ra q rc] 34)).heap.size) := Nat.le_trans kk.out.size K2.out.size
      clear o1 g1 k1 K12 IY hq HOY
      go_wp2_with (at_builtin; go_must (refine wpList_app_row rows10 _ rfl _ _ rfl w.heap.size v3 Lk.length rows rfl R2.out ⟨w1.heap.size, 0, none⟩ 1 1 [(.slice ra q rc)] rfl rfl ?d1 HC1.out ?d2 ?d3 HS.out ?_))
      case d1 => exact fun j u hj => by rw [Addr.add_lit, Nat.zero_add, B2.out.cell]; exact hj
      case d2 => have := HLK.out; have := HK2.out; have := HNS.out; clear n2; unfold maxLen; omega
      case d3 => have := HLK.out; have := HK2.out; have := HNS.out; clear n2; omega
      intro v4 w4 o4 g4 a4
      have OO := Lib.hid (oo.out.add K2.out kk.out.size O2.out o4 g4 (a4.imp_right fun h => ⟨_, h, by simp⟩))
      rw [← HT.out] at OO
      have KK : Hid (Below w.heap.size w w4) := (kk.out.trans (K2.out.mono kk.out.size)).grown g4 HS.out fun k hk => (oo.out.row.lt k hk).1
      clear o4 g4 a4 R2 O2 B2 K2 HC1 HS oo kk
      go_wp2
      go_roundw
      case rel => exact ⟨k + 1, _, by rw [N3.out], HK2.out, OO.out, KK⟩
      case measure =>
        rw [N3.out]
        exact HMM.out
    · have b1 : ¬ (z : Int) ≤ (M' : Int) := by clear n2; omega
      have e : (s.drop 42).take k = s.drop 42 := List.take_of_length_le (by rw [List.length_drop, HN.out]; omega)
      rw [e] at oo
      clear ha hz hM hlt e
      go_wp2
      go_ret
      exact ⟨_, rfl, ⟨rows, oo.out⟩, kk.out⟩

end Go.Proofs.YtlglkiknpbfnmaaDoor

namespace Go.Proofs.YtlglkiknpbfnmaaDoor
open Go.RowKit
set_option linter.unusedVariables false

/-- A row of the call's own since w0; its rows are those of xs, or the call's own. -/
structure OwnD (w0 w : World) (v : Value) (L : List (List UInt8)) (xs : List Value) (D : List (List UInt8)) (rows : List Value) : Prop where
  row : w.ownsRow w0.heap.size 34 1 v D.length rows
  each : ∀ i, i < D.length → (rows.getD i undef = xs.getD i undef ∧ D.getD i [] = L.getD i []) ∨ (IsB w (rows.getD i undef) (D.getD i []) ∧ (∀ n c, rows.getD i undef = .slice none n c → c = 0) ∧ Lies (fun k => w0.heap.size ≤ k ∧ k < w.heap.size ∧ v.ownBlock ≠ some k) (rows.getD i undef))

theorem OwnD.len {w0 w : World} {v : Value} {L D : List (List UInt8)} {xs rows : List Value} (h : OwnD w0 w v L xs D rows) : rows.length = D.length := by
  have := h.row.1
  omega

theorem OwnD.chg {F : Nat → Prop} {w0 w w' : World} {v : Value} {L D : List (List UInt8)} {xs rows : List Value} (h : OwnD w0 w v L xs D rows) (c : Chg F w w') (hF : ∀ k, F k → w0.heap.size ≤ k → k < w.heap.size → False) : OwnD w0 w' v L xs D rows where
  row := own_chg h.row c fun b hb hf => hF b hf (h.row.lt b hb).1 (h.row.lt b hb).2
  each := fun i hi => (h.each i hi).imp_right fun ⟨a, b, d⟩ => ⟨a.chg c (d.mono fun k hk hf => hF k hf hk.1 hk.2.1), b, d.mono fun k hk => ⟨hk.1, Nat.lt_of_lt_of_le hk.2.1 c.size, hk.2.2⟩⟩

theorem OwnD.isLL {w0 w : World} {v bv : Value} {L D : List (List UInt8)} {xs rows : List Value} (h : OwnD w0 w v L xs D rows) (b : IsLL w bv L xs) (hl : D.length = L.length) : IsLL w v D rows := by
  obtain ⟨ao, cap, rfl⟩ := ownShape h.row
  have hr := h.len
  obtain ⟨_, _, _, _, _, _, brow, _⟩ := b
  have hrows : ∀ i, i < D.length → IsB w (rows.getD i undef) (D.getD i []) ∧ ∀ n c, rows.getD i undef = .slice none n c → c = 0 := fun i hi => by
    rcases h.each i hi with ⟨e1, e2⟩ | ⟨a, b, _⟩
    · rw [e1, e2]; exact brow i (by omega)
    · exact ⟨a, b⟩
  rcases h.row.2 with ⟨e, hn⟩ | ⟨g, cap', cur, e, hb, hg, hn, hm, hs, ht⟩
  · injection e with e1 e2 e3
    refine ⟨ao, cap, rfl, by omega, by unfold maxLen; omega, hr, hrows, .inl (by cases D; rfl; simp at hn)⟩
  · injection e with e1 e2 e3
    subst e1 e3
    refine ⟨_, cap, rfl, by omega, hm, hr, hrows, ?_⟩
    by_cases h0 : D = []
    · exact .inl h0
    · refine .inr ⟨g, 0, rfl, fun i hi => ?_⟩
      obtain ⟨g2, e9, _, cs, _⟩ := ownCells h.row (by cases D; exact absurd rfl h0; simp)
      injection e9 with e9
      injection e9 with e9
      subst e9
      rw [Nat.zero_add, cs _ (by omega), List.getD_eq_getElem?_getD, List.getElem?_eq_getElem (by omega)]
      rfl

theorem OwnD.gains {w w' : World} {v bv : Value} {L D : List (List UInt8)} {xs rows : List Value} (h : OwnD w w' v L xs D rows) (hl : D.length = L.length) : Gains w w' (fun x => IsLL x bv L xs) (fun x => IsLL x v D rows) :=
  fun F x c hf hk => (h.chg c fun k h1 h2 h3 => by have := hf k h1; omega).isLL hk hl

/-- A row put in another one's place. -/
theorem OwnD.put {w0 w w2 w3 : World} {v dv : Value} {L D : List (List UInt8)} {xs rows : List Value} {y : List UInt8} {p : Nat} (h : OwnD w0 w v L xs D rows) (k : Below w.heap.size w w2) (hB : w0.heap.size ≤ w.heap.size) (d : Own w2 w.heap.size dv y) (hp : p < D.length)
    (c : Chg (fun k => v.ownBlock = some k) w2 w3) (o : w3.ownsRow w0.heap.size 34 1 v D.length (rows.set p dv)) : OwnD w0 w3 v L xs (D.set p y) (rows.set p dv) where
  row := by rw [List.length_set]; exact o
  each := by
    intro i hi
    have hi' : i < D.length := by simpa using hi
    have hl := h.len
    have hk := k.size
    have hc := c.size
    have hv : ∀ b, v.ownBlock = some b → b < w.heap.size := fun b hb => (h.row.lt b hb).2
    rw [getD_set8 _ _ _ _ _ (by rw [hl]; exact hp), getD_set8 _ _ _ _ _ hp]
    by_cases e : i = p
    · rw [if_pos e, if_pos e]
      have ld : Lies (fun b => w.heap.size ≤ b ∧ b < w2.heap.size) dv := d.lies fun k h1 h2 => ⟨h1, h2⟩
      exact .inr ⟨d.isB.chg c (ld.mono fun b hb e => by have := hv b e; omega), d.nil0, ld.mono fun b hb => ⟨by omega, by omega, fun e => by have := hv b e; omega⟩⟩
    · rw [if_neg e, if_neg e]
      exact (h.each i hi').imp_right fun ⟨a, b, q⟩ => ⟨(a.below k).chg c (q.mono fun b hb => hb.2.2), b, q.mono fun b hb => ⟨hb.1, by omega, hb.2.2⟩⟩

theorem M.done_next (L : List (List UInt8)) (l : M.CL) (k : Nat) (h : k < l.length) : M.done L (l.take (k + 1)) = (M.done L (l.take k)).set (l.getD k (0, [])).1.toNat (l.getD k (0, [])).2 := by
  rw [List.take_add_one, List.getElem?_eq_getElem h, List.getD_eq_getElem?_getD, List.getElem?_eq_getElem h]
  exact M.done_snoc _ _ _

set_option maxRecDepth 100000 in
set_option maxHeartbeats 4000000 in
theorem rdone_any (bv lv : Value) (L : List (List UInt8)) (xs : List Value) (l : M.CL) (ys : List Value) (w : World) (hb : IsLL w bv L xs) (hl : IsCL w lv l ys) (h0 : 0 < L.length) (hm : L.length ≤ 2176) (hlm : l.length ≤ 1000000)
    (hfit : ∀ i, i < l.length → M.Fits L.length (l.getD i (0, []))) :
    Calls Tryd.prog 19 #[bv, lv] w fun e w' => ∃ v rows, e = .returned v ∧ OwnD w w' v L xs (M.done L l) rows ∧ Below w.heap.size w w' := by
  obtain ⟨ba, bc, rfl, hb1, hb2, hbx, hbrow, hbcell⟩ := hb
  obtain ⟨la, lc, rfl, hl1, hl2, hlx, hlrow, hlcell⟩ := hl
  obtain ⟨n, hn⟩ : ∃ n, n = L.length := ⟨_, rfl⟩
  obtain ⟨N, hN⟩ : ∃ n, n = l.length := ⟨_, rfl⟩
  obtain ⟨bb, bo, rfl, hbc⟩ := hbcell.resolve_left (fun e => by rw [e] at h0; simp at h0)
  have HBC := Lib.hid hbc
  have HBR := Lib.hid hbrow
  have HLR := Lib.hid hlrow
  have HLC := Lib.hid hlcell
  have HN : Hid (L.length = n) := hn.symm
  have HNN : Hid (l.length = N) := hN.symm
  have HFIT := Lib.hid hfit
  have H0 : Hid (0 < n ∧ n ≤ 2176 ∧ N ≤ 1000000) := ⟨by omega, by omega, by omega⟩
  have HX : Hid (xs.length = n) := by rw [Hid, hbx, hn]
  have HC1 : Hid (∀ u ∈ xs, u.oneCell' = true) := by
    intro u hu
    obtain ⟨i, hi, rfl⟩ := List.mem_iff_getElem.1 hu
    obtain ⟨xa, xc, ex⟩ := (hbrow i (by omega)).1.shape
    rw [List.getD_eq_getElem?_getD, List.getElem?_eq_getElem hi] at ex
    simp only [Option.getD_some] at ex
    rw [ex]; rfl
  rw [← hn, ← hN]
  clear hb1 hb2 hbx hbrow hbc hbcell hl1 hl2 hlx hlrow hlcell h0 hm hlm hfit hn hN
  go_enter Tryd.func19, Tryd.ntmps19
  have k1 : Below w.heap.size w (w.alloc (.cells #[] 34)) := (Below.refl _ _).alloc (Nat.le_refl _) _
  have K1 := Lib.hid k1
  have R1 : Hid ((w.alloc (.cells #[] 34)).ownsRow w.heap.size 34 1 (.slice (some ⟨w.heap.size, 0, none⟩) 0 0) 0 []) :=
    ⟨rfl, .inr ⟨w.heap.size, 0, #[], rfl, Nat.le_refl _, Blk.newAt w _ #[] _ [] rfl rfl, Nat.le_refl _, Nat.zero_le _, rfl, rfl⟩⟩
  clear k1
  go_wp2_with (at_builtin; go_must (refine wpList_app_row rows10 _ rfl _ _ rfl w.heap.size _ 0 [] rfl R1.out ⟨bb, bo, none⟩ n bc xs rfl ?d0 ?d1 HC1.out ?d2 ?d3 K1.out.size ?_))
  case d0 => rw [HX.out, Nat.mul_one]
  case d1 =>
    intro j u hj
    have hlt := (List.getElem?_eq_some_iff.1 hj).1
    have hj' : j < L.length := by have := HN.out; have := HX.out; omega
    have := HBC.out j hj'
    rw [List.getD_eq_getElem?_getD, hj] at this
    rw [Addr.add_mid]
    exact (K1.out.cell (p := ⟨bb, bo + j, none⟩) (World.block_lt_of_cell? w _ this)).trans this
  case d2 => have := H0.out; unfold maxLen; omega
  case d3 => have := H0.out; omega
  intro v1 w1 o1 g1 a1
  obtain ⟨va, vc, rfl⟩ := ownShape o1
  have KK1 : Hid (Below w.heap.size w w1) := K1.out.grown g1 K1.out.size fun k hk => by
    simp only [Value.ownBlock] at hk
    have : k = w.heap.size := by simpa using hk.symm
    omega
  have D1 : Hid (OwnD w w1 (.slice va n vc) L xs (M.done L (l.take 0)) xs) := ⟨by show w1.ownsRow w.heap.size 34 1 (.slice va n vc) L.length xs; rw [HN.out]; exact o1, fun i _ => .inl ⟨rfl, rfl⟩⟩
  clear o1 g1 a1 K1 R1
  go_wp2
  go_loopw [6] (fun i wr => ∃ (k : Nat) (rows : List Value), i = .int .i64 (k : Int) ∧ Hid (k ≤ N) ∧ Hid (OwnD w wr (.slice va n vc) L xs (M.done L (l.take k)) rows) ∧ Hid (Below w.heap.size w wr))
    (fun i _ => N - numOf i)
  case atStart => exact ⟨0, xs, rfl, Nat.zero_le _, D1, KK1⟩
  case round =>
    clear D1 KK1
    obtain ⟨wz, rfl⟩ : ∃ x, x = wr := ⟨_, rfl⟩
    obtain ⟨k, rows, rfl, hk, oo, kk⟩ := hrel
    by_cases hlt : k < N
    · have b1 : (k : Int) < (N : Int) := by omega
      obtain ⟨lb, lo, rfl, hc⟩ := HLC.out.resolve_left (fun e => by have := HNN.out; rw [e] at this; simp at this; omega)
      have hkl : k < l.length := by rw [HNN.out]; exact hlt
      obtain ⟨c0, c1⟩ := hc k hkl
      obtain ⟨ib, _, _, _⟩ := HLR.out k hkl
      obtain ⟨f1, f2, f3⟩ := HFIT.out k hkl
      have HT := Lib.hid (M.done_next L l k hkl)
      obtain ⟨pc, hpc⟩ : ∃ p, p = (l.getD k (0, [])).1 := ⟨_, rfl⟩
      obtain ⟨y, hy⟩ : ∃ p, p = (l.getD k (0, [])).2 := ⟨_, rfl⟩
      rw [← hpc] at f1 f2 c0 HT
      rw [← hy] at f3 ib HT
      obtain ⟨p, rfl⟩ := Int.eq_ofNat_of_zero_le f1
      rw [Int.toNat_natCast] at HT
      obtain ⟨D, hD⟩ : ∃ D, D = M.done L (l.take k) := ⟨_, rfl⟩
      rw [← hD] at oo HT
      have HDL : Hid (D.length = n) := by rw [Hid, hD, M.done_len, HN.out]
      have hpn : p < n := by have := HN.out; omega
      have HPN := Lib.hid hpn
      have ow := oo.out.row
      rw [HDL.out] at ow
      obtain ⟨sb, rfl, hsc, cs, fs⟩ := ownCells ow (by omega)
      obtain ⟨xa, xc, ex⟩ := ib.shape
      obtain ⟨x, hx⟩ : ∃ x, x = ys.getD k undef := ⟨_, rfl⟩
      rw [← hx] at c1 ib ex
      have hRL : rows.length = n := by rw [oo.out.len, HDL.out]
      have s0 : wz.cell? ⟨sb, p, none⟩ = some (rows.getD p undef) := by rw [cs _ (by omega), List.getD_eq_getElem?_getD, List.getElem?_eq_getElem (by omega)]; rfl
      have sbl : sb < wz.heap.size := World.block_lt_of_cell? wz _ s0
      have sbw : w.heap.size ≤ sb := (ow.lt sb rfl).1
      have IB := Lib.hid ib
      have HYL : Hid (y.length = 256) := f3
      have KC : Hid (∀ w', Below w.heap.size w w' → w'.cell? ⟨lb, lo + k * 2, none⟩ = some (.int .i64 (p : Int)) ∧ w'.cell? ⟨lb, lo + k * 2 + 1, none⟩ = some x) := fun w' kb =>
        ⟨(kb.cell (p := ⟨lb, lo + k * 2, none⟩) (World.block_lt_of_cell? w _ c0)).trans c0, (kb.cell (p := ⟨lb, lo + k * 2 + 1, none⟩) (World.block_lt_of_cell? w _ c1)).trans c1⟩
      have g2 : (0 : Int) ≤ (k : Int) := by omega
      have g3 : ((k : Int)).toNat = k := by omega
      have g4 : (0 : Int) ≤ (p : Int) := by omega
      have g5 : ((p : Int)).toNat = p := by omega
      have g6 : (p : Int) < (n : Int) := by omega
      have HK := Lib.hid hlt
      clear hc c0 c1 ib f1 f2 f3 hx hy hpc hD hkl hlt ex cs fs hsc hRL
      go_upto_region 5 with fail
      refine wp_region_any (by kernel_rfl) ?_
      change wpAny _ _ _ _ _ _ _ (World.drew _)
      refine wpAny_of_held (S := fun w' => Below w.heap.size w w') _ _ _ _ ?_
      have S0 : Below w.heap.size w wz.drew := kk.out.drew
      refine wpAnyH_take_at (i := 0) (v := .slice (some ⟨sb, 0, none⟩) n vc) rfl rfl (by kernel_rfl) (by kernel_rfl) (by kernel_rfl) (fun _ _ _ h => h) (Or.inl ⟨by rfl, fun w hS => by go_simp⟩) S0 ?_
      simp only [List.setIfInBounds_toArray, List.set_cons_zero, List.set_cons_succ]
      refine wpAnyH_take_at (i := 1) (v := .slice (some ⟨lb, lo, none⟩) N lc) rfl rfl (by kernel_rfl) (by kernel_rfl) (by kernel_rfl) (fun _ _ _ h => h) (Or.inl ⟨by rfl, fun w hS => by go_simp⟩) S0 ?_
      simp only [List.setIfInBounds_toArray, List.set_cons_zero, List.set_cons_succ]
      refine wpAnyH_take_at (i := 2) (v := .int .i64 (k : Int)) rfl rfl (by kernel_rfl) (by kernel_rfl) (by kernel_rfl) (fun _ _ _ h => h) (Or.inl ⟨by rfl, fun w hS => by go_simp⟩) S0 ?_
      simp only [List.setIfInBounds_toArray, List.set_cons_zero, List.set_cons_succ]
      refine wpAnyH_take_at (i := 3) (v := .pointer (some ⟨lb, lo + k * 2, none⟩)) rfl rfl (by kernel_rfl) (by kernel_rfl) (by kernel_rfl) (fun _ _ _ h => h) (Or.inl ⟨by rfl, fun w hS => by go_simp⟩) S0 ?_
      simp only [List.setIfInBounds_toArray, List.set_cons_zero, List.set_cons_succ]
      refine wpAnyH_take_at (i := 4) (v := .pointer (some ⟨lb, lo + k * 2, none⟩)) rfl rfl (by kernel_rfl) (by kernel_rfl) (by kernel_rfl) (fun _ _ _ h => h) (Or.inl ⟨by rfl, fun w hS => by go_simp⟩) S0 ?_
      simp only [List.setIfInBounds_toArray, List.set_cons_zero, List.set_cons_succ]
      refine wpAnyH_take_at (i := 5) (v := .int .i64 (p : Int)) rfl rfl (by kernel_rfl) (by kernel_rfl) (by kernel_rfl) (fun _ _ _ h => h) (Or.inl ⟨by rfl, fun w hS => by have c := (KC.out w hS).1; go_simp⟩) S0 ?_
      simp only [List.setIfInBounds_toArray, List.set_cons_zero, List.set_cons_succ]
      refine wpAnyH_take_at (i := 7) (v := .slice (some ⟨lb, lo, none⟩) N lc) rfl rfl (by kernel_rfl) (by kernel_rfl) (by kernel_rfl) (fun _ _ _ h => h) (Or.inl ⟨by rfl, fun w hS => by go_simp⟩) S0 ?_
      simp only [List.setIfInBounds_toArray, List.set_cons_zero, List.set_cons_succ]
      refine wpAnyH_take_at (i := 8) (v := .int .i64 (k : Int)) rfl rfl (by kernel_rfl) (by kernel_rfl) (by kernel_rfl) (fun _ _ _ h => h) (Or.inl ⟨by rfl, fun w hS => by go_simp⟩) S0 ?_
      simp only [List.setIfInBounds_toArray, List.set_cons_zero, List.set_cons_succ]
      refine wpAnyH_take_at (i := 9) (v := .pointer (some ⟨lb, lo + k * 2, none⟩)) rfl rfl (by kernel_rfl) (by kernel_rfl) (by kernel_rfl) (fun _ _ _ h => h) (Or.inl ⟨by rfl, fun w hS => by go_simp⟩) S0 ?_
      simp only [List.setIfInBounds_toArray, List.set_cons_zero, List.set_cons_succ]
      refine wpAnyH_take_at (i := 10) (v := .pointer (some ⟨lb, lo + k * 2 + 1, none⟩)) rfl rfl (by kernel_rfl) (by kernel_rfl) (by kernel_rfl) (fun _ _ _ h => h) (Or.inl ⟨by rfl, fun w hS => by go_simp⟩) S0 ?_
      simp only [List.setIfInBounds_toArray, List.set_cons_zero, List.set_cons_succ]
      refine wpAnyH_take_at (i := 11) (v := x) rfl rfl (by kernel_rfl) (by kernel_rfl) (by kernel_rfl) (fun _ _ _ h => h) (Or.inl ⟨by rfl, fun w hS => by have c := (KC.out w hS).2; go_simp⟩) S0 ?_
      simp only [List.setIfInBounds_toArray, List.set_cons_zero, List.set_cons_succ]
      refine wpAnyH_ready (rs := [6]) (by kernel_rfl) (by simp) ?_
      refine AllReadyH.cons rfl (fun K hK => ?_) AllReadyH.nil
      go_simp
      obtain ⟨w1, hw1⟩ : ∃ x, x = (wz.alloc (.cells #[] 5)).drew := ⟨_, rfl⟩
      rw [← hw1]
      have k1 : Below wz.heap.size wz w1 := by rw [hw1]; exact drewN_below ((Below.refl _ wz).alloc (Nat.le_refl _) _) 1
      have o1 : Own w1 wz.heap.size (.slice (some ⟨wz.heap.size, 0, none⟩) 0 0) [] := by rw [hw1]; exact own_empty wz
      have S1 : Below w.heap.size w w1 := kk.out.trans (k1.mono kk.out.size)
      refine hK.out _ _ S1 (fun _ => ?_)
      clear hK K hw1 S0
      refine wpAnyH_ready (rs := [12]) (by kernel_rfl) (by simp) ?_
      refine AllReadyH.cons rfl (fun K hK => ?_) AllReadyH.nil
      refine step_clone rfl (.tmp 22) (.tmp 27) rfl wz.heap.size _ rfl o1 x y rfl (IB.out.below S1) (by intro e; have := HYL.out; rw [e] at this; cases this) (by have := HYL.out; omega) k1.size ?_
      intro dv w2 od k2
      have kw2 : Below wz.heap.size wz w2 := k1.trans k2
      obtain ⟨da, dc, rfl⟩ := ownShape od
      rw [HYL.out] at od ⊢
      have S2 : Below w.heap.size w w2 := kk.out.trans (kw2.mono kk.out.size)
      refine hK.out _ _ S2 (fun _ => ?_)
      clear hK K S1 o1 k1 k2
      refine wpAnyH_take_at (i := 13) (v := .pointer (some ⟨sb, p, none⟩)) rfl rfl (by kernel_rfl) (by kernel_rfl) (by kernel_rfl) (fun _ _ _ h => h) (Or.inl ⟨by rfl, fun w hS => by go_simp⟩) S2 ?_
      simp only [List.setIfInBounds_toArray, List.set_cons_zero, List.set_cons_succ]
      refine wpAnyH_ready (rs := [14]) (by kernel_rfl) (by simp) ?_
      refine AllReadyH.cons rfl (fun K hK => ?_) AllReadyH.nil
      have s2 : w2.cell? ⟨sb, p, none⟩ = some (rows.getD p undef) := by rw [World.cell?_of_block (kw2.block sb sbl), s0]
      have ow2 := own_chg ow (Chg.of_below (F := fun _ => False) kw2) (fun _ _ h => h)
      obtain ⟨_, e9, _, _, fs2⟩ := ownCells ow2 (by omega)
      injection e9 with e9
      injection e9 with e9
      subst e9
      have f2 := fs2 p
      go_simp
      obtain ⟨dv, hdv⟩ : ∃ x, x = Value.slice da 256 dc := ⟨_, rfl⟩
      rw [← hdv] at od ⊢
      have st := (ow2.stored p dv).1
      have ks : Chg (fun k => (Value.slice (some ⟨sb, 0, none⟩) n vc).ownBlock = some k) w2 (w2.setCell ⟨sb, p, none⟩ dv) := (Chg.refl _ w2).setCell _ _ (.inl rfl)
      have RL := oo.out.put kw2 kk.out.size od (by rw [HDL.out]; exact HPN.out) ks (by rw [HDL.out]; exact st)
      rw [← HT.out] at RL
      have R6 := Lib.hid RL
      have K6 : Hid (Below w.heap.size w (w2.setCell ⟨sb, p, none⟩ dv)) := S2.setCell sbw _
      refine hK.out _ _ K6.out (fun _ => ?_)
      clear hK K
      refine wpAnyH_done (by kernel_rfl) ?_ _
      have n3 : wrap64 ((k : Int) + 1) = ((k + 1 : Nat) : Int) := by have := HK.out; have := H0.out; unfold wrap64; omega
      have N3 := Lib.hid n3
      clear g2 g3 g4 g5 g6 n3 s2 ow2 fs2 f2 od hdv st ks RL oo kk ow s0 sbl sbw kw2 S2 KC IB b1
      go_wp2
      go_roundw
      case rel => exact ⟨k + 1, _, by rw [N3.out], HK.out, R6.out, K6.out⟩
      case measure =>
        rw [N3.out]
        have := HK.out
        show N - (((k + 1 : Nat) : Int)).toNat < N - ((k : Int)).toNat
        omega
    · have b1 : ¬ (k : Int) < (N : Int) := by omega
      have e : l.take k = l := List.take_of_length_le (by rw [HNN.out]; omega)
      rw [e] at oo
      clear hlt e
      go_wp2
      go_ret
      exact ⟨_, rfl, ⟨rows, oo.out⟩, kk.out⟩

end Go.Proofs.YtlglkiknpbfnmaaDoor

namespace Go.Proofs.YtlglkiknpbfnmaaDoor
open Go.RowKit
set_option linter.unusedVariables false

/-- What a journal's disk may be: its power is there, nothing waits; armed or not. -/
def M.lit (s : List (List UInt8)) (k : Nat) : M.Dsk := ⟨s, [], k, false⟩

/-- The calls. Ld: what the code leans on besides (package-level variables); Wl: a Wal; O, C: what Open and Commit make of a disk, and what they answer. -/
structure WalCalls (Ld : World → Prop) (Wl : World → Nat → Nat → Prop) (O : M.Dsk → M.Dsk × Int) (C : M.Dsk → M.CL → M.Dsk × Int) : Prop where
  ld : ∀ {w0 w}, Ld w0 → Below w0.heap.size w0 w → Ld w
  open_yes : ∀ {T w g m}, CodeDk T w g m → Keeps T w Ld → 42 < m.safe.length → m.wait.length < 100000 → Calls Tryd.prog 10 #[.pointer (some ⟨g, 0, none⟩)] w fun e w' =>
    Chg T w w' ∧ ∃ T', CodeDk T' w' g (O m).1 ∧ (∀ k, T' k → T k ∨ w.heap.size ≤ k) ∧
      (((O m).2 = 0 ∧ ∃ gw, e = .returned (.tuple #[.pointer (some ⟨gw, 0, none⟩), .int .i64 0]) ∧ ∀ F, (∀ k, F k → T' k ∨ k < w.heap.size ∨ w'.heap.size ≤ k) → Keeps F w' (fun x => Wl x gw g)) ∨ ((O m).2 = 11 ∧ e = .returned (.tuple #[.pointer none, .int .i64 11])))
  open_no : ∀ {T w g m}, CodeDk T w g m → Keeps T w Ld → m.safe.length ≤ 42 → Calls Tryd.prog 10 #[.pointer (some ⟨g, 0, none⟩)] w fun e w' =>
    e = .returned (.tuple #[.pointer none, .int .i64 1]) ∧ Below w.heap.size w w'
  blocks : ∀ {T w gw g m}, CodeDk T w g m → Wl w gw g → 42 < m.safe.length → Calls Tryd.prog 23 #[.pointer (some ⟨gw, 0, none⟩)] w fun e w' =>
    e = .returned (.int .i64 ((m.safe.length - 42 : Nat) : Int)) ∧ Below w.heap.size w w'
  read_yes : ∀ {T w gw g m}, CodeDk T w g m → Wl w gw g → m.wait.length < 1000000 → ∀ (i : Nat), 42 + i < m.safe.length → Calls Tryd.prog 24 #[.pointer (some ⟨gw, 0, none⟩), .int .i64 (i : Int)] w fun e w' =>
    ∃ r, e = .returned (.tuple #[r, .int .i64 0]) ∧ Own w' w.heap.size r (m.read (42 + i)) ∧ Below w.heap.size w w'
  read_no : ∀ {T w gw g m}, CodeDk T w g m → Wl w gw g → 42 < m.safe.length → ∀ (i : Int), ¬ (0 ≤ i ∧ i < ((m.safe.length - 42 : Nat) : Int)) → Calls Tryd.prog 24 #[.pointer (some ⟨gw, 0, none⟩), .int .i64 i] w fun e w' =>
    e = .returned (.tuple #[.slice none 0 0, .int .i64 1]) ∧ Below w.heap.size w w'
  write_yes : ∀ {T w gw g m}, CodeDk T w g m → Keeps T w (fun x => Wl x gw g) → m.wait.length < 1000000 → ∀ (i : Nat), 42 + i < m.safe.length → ∀ (bv : Value) (bs : List UInt8), IsB w bv bs → bs.length = 256 →
    Calls Tryd.prog 25 #[.pointer (some ⟨gw, 0, none⟩), .int .i64 (i : Int), bv] w fun e w' =>
      e = .returned (.int .i64 (m.doWrite ((42 + i : Nat) : Int) bs).2) ∧ Chg T w w' ∧ ∃ T', CodeDk T' w' g (m.doWrite ((42 + i : Nat) : Int) bs).1 ∧ ∀ k, T' k → T k ∨ w.heap.size ≤ k
  write_no : ∀ {T w gw g m}, CodeDk T w g m → Wl w gw g → 42 < m.safe.length → ∀ (i : Int) (bv : Value) (bs : List UInt8), -9223372036854775808 ≤ i ∧ i < 9223372036854775808 → IsB w bv bs → ¬ (0 ≤ i ∧ i < ((m.safe.length - 42 : Nat) : Int) ∧ bs.length = 256) →
    Calls Tryd.prog 25 #[.pointer (some ⟨gw, 0, none⟩), .int .i64 i, bv] w fun e w' => e = .returned (.int .i64 1) ∧ Below w.heap.size w w'
  sync : ∀ {T w gw g m}, CodeDk T w g m → Keeps T w (fun x => Wl x gw g) → m.wait.length < 1000000 → Calls Tryd.prog 26 #[.pointer (some ⟨gw, 0, none⟩)] w fun e w' =>
    e = .returned (.int .i64 m.doSync.2) ∧ Chg T w w' ∧ ∃ T', CodeDk T' w' g m.doSync.1 ∧ ∀ k, T' k → T k ∨ w.heap.size ≤ k
  commit_yes : ∀ {T w gw g m}, CodeDk T w g m → Keeps T w Ld → Keeps T w (fun x => Wl x gw g) → 42 < m.safe.length → m.wait.length < 100000 → ∀ (lv : Value) (l : M.CL) (xs : List Value), Keeps T w (fun x => IsCL x lv l xs) → M.May (m.safe.length - 42) l →
    Calls Tryd.prog 14 #[.pointer (some ⟨gw, 0, none⟩), lv] w fun e w' =>
      e = .returned (.int .i64 (C m l).2) ∧ Chg T w w' ∧ ∃ T', CodeDk T' w' g (C m l).1 ∧ ∀ k, T' k → T k ∨ w.heap.size ≤ k
  commit_no : ∀ {T w gw g m}, CodeDk T w g m → Keeps T w Ld → Wl w gw g → 42 < m.safe.length → ∀ (lv : Value) (l : M.CL) (xs : List Value), IsCL w lv l xs → ¬ M.May (m.safe.length - 42) l → l.length ≤ 1000000 →
    Calls Tryd.prog 14 #[.pointer (some ⟨gw, 0, none⟩), lv] w fun e w' => e = .returned (.int .i64 1) ∧ Below w.heap.size w w'

/-- What O and C make of disks whose journal is settled. Rec: what an opening makes of safe blocks. -/
structure WalMath (O : M.Dsk → M.Dsk × Int) (C : M.Dsk → M.CL → M.Dsk × Int) (Clean : List (List UInt8) → Prop) (Rec : List (List UInt8) → List (List UInt8)) : Prop where
  /-- an opening, the power being there and not armed: OK, all is settled and safe -/
  opens : ∀ (s : List (List UInt8)) (c : List (Nat × List UInt8)), (⟨s, c, 0, false⟩ : M.Dsk).Ok → 42 < s.length → ∃ s', O ⟨s, c, 0, false⟩ = (M.lit s' 0, 0) ∧ s'.length = s.length ∧ s'.drop 42 = Rec (M.laid s c) ∧ Clean s'
  recs : ∀ (s : List (List UInt8)), Clean s → Rec s = s.drop 42
  /-- an opening in which the power goes, or not -/
  falls : ∀ (s : List (List UInt8)) (k : Nat), (M.lit s k).Ok → 42 < s.length → ((O (M.lit s k)).2 = 0 ∨ (O (M.lit s k)).2 = 11) ∧ (O (M.lit s k)).1.safe.length = s.length ∧ (O (M.lit s k)).1.wait.length ≤ 1000 ∧ ∀ keep, Rec ((O (M.lit s k)).1.crash keep).safe = Rec s
  /-- a commit of no changes -/
  none : ∀ (m : M.Dsk), C m [] = m.doSync
  /-- a commit, the power being there -/
  commits : ∀ (s : List (List UInt8)) (k : Nat) (l : M.CL), (M.lit s k).Ok → 42 < s.length → Clean s → M.May (s.length - 42) l →
    (((C (M.lit s k) l).2 = 0 ∧ ∃ s' k', (C (M.lit s k) l).1 = M.lit s' k' ∧ k' ≤ k ∧ s'.length = s.length ∧ s'.drop 42 = M.done (s.drop 42) l ∧ Clean s') ∨
     ((C (M.lit s k) l).2 = 11 ∧ k ≠ 0 ∧ (C (M.lit s k) l).1.down = true ∧ (C (M.lit s k) l).1.safe.length = s.length ∧ (C (M.lit s k) l).1.wait.length ≤ 1000 ∧
        ∀ keep, Rec ((C (M.lit s k) l).1.crash keep).safe = s.drop 42 ∨ Rec ((C (M.lit s k) l).1.crash keep).safe = M.done (s.drop 42) l))

section
variable {Ld : World → Prop} {Wl : World → Nat → Nat → Prop} {O : M.Dsk → M.Dsk × Int} {C : M.Dsk → M.CL → M.Dsk × Int} {w0 w : World} {g gw : Nat} {m : M.Dsk} {K : World → Prop}

/-- An opening: a Wal, or none. -/
theorem St.open_ (W : WalCalls Ld Wl O C) (hL : Ld w0) (s : St w0 w g m K) (h42 : 42 < m.safe.length) (hw : m.wait.length < 100000) :
    Calls Tryd.prog 10 #[.pointer (some ⟨g, 0, none⟩)] w fun e w' =>
      ((O m).2 = 0 ∧ ∃ gw, e = .returned (.tuple #[.pointer (some ⟨gw, 0, none⟩), .int .i64 0]) ∧ St w0 w' g (O m).1 (fun x => K x ∧ Wl x gw g)) ∨ ((O m).2 = 11 ∧ e = .returned (.tuple #[.pointer none, .int .i64 11]) ∧ St w0 w' g (O m).1 K) := by
  obtain ⟨T, d, t, b, k⟩ := s
  have hb := b.size
  refine (W.open_yes d (fun x c => W.ld hL (b.trans (c.below hb t))) h42 hw).mono ?_
  rintro e w' ⟨c, T', d', ht, h⟩
  have t' : ∀ j, T' j → w0.heap.size ≤ j := fun j hj => by
    rcases ht j hj with q | q
    · exact t j q
    · omega
  rcases h with ⟨h0, gw, he, kw⟩ | ⟨h11, he⟩
  · exact .inl ⟨h0, gw, he, T', d', t', b.trans (c.below hb t), (k.next c ht).and (kw T' fun _ h => .inl h)⟩
  · exact .inr ⟨h11, he, T', d', t', b.trans (c.below hb t), k.next c ht⟩

theorem St.open_no (W : WalCalls Ld Wl O C) (hL : Ld w0) (s : St w0 w g m K) (h42 : m.safe.length ≤ 42) :
    Calls Tryd.prog 10 #[.pointer (some ⟨g, 0, none⟩)] w fun e w' => e = .returned (.tuple #[.pointer none, .int .i64 1]) ∧ Below w.heap.size w w' := by
  obtain ⟨T, d, t, b, k⟩ := s
  exact W.open_no d (fun x c => W.ld hL (b.trans (c.below b.size t))) h42

theorem St.wblocks (W : WalCalls Ld Wl O C) (s : St w0 w g m K) (hk : K w → Wl w gw g) (h42 : 42 < m.safe.length) :
    Calls Tryd.prog 23 #[.pointer (some ⟨gw, 0, none⟩)] w fun e w' => e = .returned (.int .i64 ((m.safe.length - 42 : Nat) : Int)) ∧ Below w.heap.size w w' := by
  obtain ⟨T, d, t, b, k⟩ := s
  exact W.blocks d (hk k.now) h42

theorem St.wread (W : WalCalls Ld Wl O C) (s : St w0 w g m K) (hk : K w → Wl w gw g) (hw : m.wait.length < 1000000) (i : Nat) (hi : 42 + i < m.safe.length) :
    Calls Tryd.prog 24 #[.pointer (some ⟨gw, 0, none⟩), .int .i64 (i : Int)] w fun e w' => ∃ r, e = .returned (.tuple #[r, .int .i64 0]) ∧ Own w' w.heap.size r (m.read (42 + i)) ∧ Below w.heap.size w w' := by
  obtain ⟨T, d, t, b, k⟩ := s
  exact W.read_yes d (hk k.now) hw i hi

theorem St.wread_no (W : WalCalls Ld Wl O C) (s : St w0 w g m K) (hk : K w → Wl w gw g) (h42 : 42 < m.safe.length) (i : Int) (hi : ¬ (0 ≤ i ∧ i < ((m.safe.length - 42 : Nat) : Int))) :
    Calls Tryd.prog 24 #[.pointer (some ⟨gw, 0, none⟩), .int .i64 i] w fun e w' => e = .returned (.tuple #[.slice none 0 0, .int .i64 1]) ∧ Below w.heap.size w w' := by
  obtain ⟨T, d, t, b, k⟩ := s
  exact W.read_no d (hk k.now) h42 i hi

theorem St.wwrite (W : WalCalls Ld Wl O C) (s : St w0 w g m K) (hk : ∀ x, K x → Wl x gw g) (hw : m.wait.length < 1000000) (i : Nat) (hi : 42 + i < m.safe.length) (bv : Value) (bs : List UInt8) (hb : K w → IsB w bv bs) (hl : bs.length = 256) :
    Calls Tryd.prog 25 #[.pointer (some ⟨gw, 0, none⟩), .int .i64 (i : Int), bv] w fun e w' => e = .returned (.int .i64 (m.doWrite ((42 + i : Nat) : Int) bs).2) ∧ St w0 w' g (m.doWrite ((42 + i : Nat) : Int) bs).1 K :=
  s.op fun T d _ k => W.write_yes d (k.mono fun x h => hk x h.1) hw i hi bv bs (hb k.now.1) hl

theorem St.wwrite_no (W : WalCalls Ld Wl O C) (s : St w0 w g m K) (hk : K w → Wl w gw g) (h42 : 42 < m.safe.length) (i : Int) (hi : -9223372036854775808 ≤ i ∧ i < 9223372036854775808) (bv : Value) (bs : List UInt8) (hb : K w → IsB w bv bs) (hno : ¬ (0 ≤ i ∧ i < ((m.safe.length - 42 : Nat) : Int) ∧ bs.length = 256)) :
    Calls Tryd.prog 25 #[.pointer (some ⟨gw, 0, none⟩), .int .i64 i, bv] w fun e w' => e = .returned (.int .i64 1) ∧ Below w.heap.size w w' := by
  obtain ⟨T, d, t, b, k⟩ := s
  exact W.write_no d (hk k.now) h42 i bv bs hi (hb k.now) hno

theorem St.wsync (W : WalCalls Ld Wl O C) (s : St w0 w g m K) (hk : ∀ x, K x → Wl x gw g) (hw : m.wait.length < 1000000) :
    Calls Tryd.prog 26 #[.pointer (some ⟨gw, 0, none⟩)] w fun e w' => e = .returned (.int .i64 m.doSync.2) ∧ St w0 w' g m.doSync.1 K :=
  s.op fun T d _ k => W.sync d (k.mono fun x h => hk x h.1) hw

theorem St.commit (W : WalCalls Ld Wl O C) (hL : Ld w0) (s : St w0 w g m K) (hk : ∀ x, K x → Wl x gw g) (h42 : 42 < m.safe.length) (hw : m.wait.length < 100000) (lv : Value) (l : M.CL) (xs : List Value) (hl : ∀ x, K x → IsCL x lv l xs) (hm : M.May (m.safe.length - 42) l) :
    Calls Tryd.prog 14 #[.pointer (some ⟨gw, 0, none⟩), lv] w fun e w' => e = .returned (.int .i64 (C m l).2) ∧ St w0 w' g (C m l).1 K :=
  s.op fun T d _ k => W.commit_yes d (k.mono fun x h => W.ld hL h.2) (k.mono fun x h => hk x h.1) h42 hw lv l xs (k.mono fun x h => hl x h.1) hm

theorem St.commit_no (W : WalCalls Ld Wl O C) (hL : Ld w0) (s : St w0 w g m K) (hk : K w → Wl w gw g) (h42 : 42 < m.safe.length) (lv : Value) (l : M.CL) (xs : List Value) (hl : K w → IsCL w lv l xs) (hm : ¬ M.May (m.safe.length - 42) l) (hll : l.length ≤ 1000000) :
    Calls Tryd.prog 14 #[.pointer (some ⟨gw, 0, none⟩), lv] w fun e w' => e = .returned (.int .i64 1) ∧ Below w.heap.size w w' := by
  obtain ⟨T, d, t, b, k⟩ := s
  exact W.commit_no d (fun x c => W.ld hL (b.trans (c.below b.size t))) (hk k.now) h42 lv l xs (hl k.now) hm hll

end

end Go.Proofs.YtlglkiknpbfnmaaDoor

namespace Go.Proofs.YtlglkiknpbfnmaaDoor
open Go.RowKit
set_option linter.unusedVariables false

/-- What is seen behind a journal. -/
def M.Dsk.shows (m : M.Dsk) : List (List UInt8) := (List.range (m.safe.length - 42)).map fun i => m.read (42 + i)

theorem M.shows_len (m : M.Dsk) : m.shows.length = m.safe.length - 42 := by rw [M.Dsk.shows, List.length_map, List.length_range]

theorem M.shows_next (m : M.Dsk) (k : Nat) (h : 42 + k < m.safe.length) : m.shows.take (k + 1) = m.shows.take k ++ [m.read (42 + k)] := by
  have hk : k < m.shows.length := by rw [M.shows_len]; omega
  rw [List.take_add_one, List.getElem?_eq_getElem hk]
  congr 1
  simp [M.Dsk.shows]

theorem M.shows_lit (s : List (List UInt8)) (k : Nat) : (M.lit s k).shows = s.drop 42 := by
  apply List.ext_getElem
  · rw [M.shows_len, List.length_drop]; rfl
  · intro i h1 h2
    have h3 : 42 + i < s.length := by rw [List.length_drop] at h2; omega
    have e : (M.lit s k).read (42 + i) = s.getD (42 + i) [] := rfl
    rw [List.getElem_drop]
    simp only [M.Dsk.shows, List.getElem_map, List.getElem_range, e, List.getD_eq_getElem?_getD, List.getElem?_eq_getElem h3, Option.getD_some]

set_option maxRecDepth 100000 in
set_option maxHeartbeats 4000000 in
theorem seen10_any {Ld : World → Prop} {Wl : World → Nat → Nat → Prop} {O : M.Dsk → M.Dsk × Int} {C : M.Dsk → M.CL → M.Dsk × Int} (W : WalCalls Ld Wl O C) {w0 w : World} {g gw : Nat} {m : M.Dsk} {K : World → Prop}
    (s : St w0 w g m K) (hk : ∀ x, K x → Wl x gw g) (h42 : 42 < m.safe.length) (hw : m.wait.length < 1000000) :
    Calls Tryd.prog 11 #[.pointer (some ⟨gw, 0, none⟩)] w fun e w' => ∃ v rows, e = .returned v ∧ OwnLL w' w.heap.size v m.shows rows ∧ Below w.heap.size w w' := by
  have hok := s.okay
  have HS := Lib.hid s
  have HK := Lib.hid hk
  have H42 := Lib.hid h42
  have HW := Lib.hid hw
  obtain ⟨N, hN⟩ : ∃ N, N = m.safe.length - 42 := ⟨_, rfl⟩
  have HN : Hid (N = m.safe.length - 42) := hN
  have HF : Hid (N ≤ 2176) := by rw [Hid, hN]; have := hok.few; omega
  have HSL : Hid (m.shows.length = N) := by rw [Hid, M.shows_len, hN]
  clear s hk h42 hw hN hok
  go_enter Tryd.func11, Tryd.ntmps11
  go_wp2
  go_loopw [3, 4] (fun v i wr => ∃ (k : Nat) (rows : List Value), i = .int .i64 (k : Int) ∧ Hid (k ≤ N) ∧ Hid (OwnLL wr w.heap.size v (m.shows.take k) rows) ∧ Hid (Below w.heap.size w wr))
    (fun v i _ => N - numOf i)
  case atStart => exact ⟨0, [], rfl, Nat.zero_le _, by rw [List.take_zero]; exact OwnLL.nil _ _, Below.refl _ _⟩
  case round =>
    obtain ⟨wz, rfl⟩ : ∃ x, x = wr := ⟨_, rfl⟩
    obtain ⟨v3, rfl⟩ : ∃ x, x = u3 := ⟨_, rfl⟩
    obtain ⟨k, rows, rfl, hk, oo, kk⟩ := hrel
    have SZ := Lib.hid (HS.out.below kk.out)
    have CB := Lib.hid (SZ.out.wblocks W (HK.out _) H42.out)
    rw [← HN.out] at CB
    go_wp2_with fail
    refine CB.out.mono ?_
    rintro e w1 ⟨rfl, k1⟩
    have S1 := Lib.hid (SZ.out.below k1)
    have K1 : Hid (Below w.heap.size w w1) := kk.out.trans (k1.mono kk.out.size)
    have O1 := Lib.hid (oo.out.below k1)
    clear SZ CB k1 oo kk
    by_cases hlt : k < N
    · have b1 : (k : Int) < (N : Int) := by omega
      have hki : 42 + k < m.safe.length := by have := HN.out; omega
      have CR := Lib.hid (S1.out.wread W (HK.out _) HW.out k hki)
      have HT := Lib.hid (M.shows_next m k hki)
      have HL : Hid ((m.shows.take k).length = k) := by rw [Hid, List.length_take, HSL.out]; omega
      obtain ⟨y, hy⟩ : ∃ y, y = m.read (42 + k) := ⟨_, rfl⟩
      obtain ⟨Lk, hLk⟩ : ∃ y, y = m.shows.take k := ⟨_, rfl⟩
      rw [← hy] at CR HT
      rw [← hLk] at HT HL O1
      have HLT := Lib.hid hlt
      clear hki hy hLk hlt
      go_wp2_with fail
      refine CR.out.mono ?_
      rintro e w2 ⟨r, rfl, o2, k2⟩
      have K2 : Hid (Below w.heap.size w w2) := K1.out.trans (k2.mono K1.out.size)
      have O2 := Lib.hid (O1.out.below k2)
      obtain ⟨ra, rc, rfl⟩ := o2.shape'
      obtain ⟨q, hq⟩ : ∃ q, q = y.length := ⟨_, rfl⟩
      rw [← hq] at o2 ⊢
      have ob : Own w2 w1.heap.size (.slice ra q rc) y := o2
      have K12 : Below w2.heap.size w2 (w2.alloc (.cells #[.slice ra q rc] 34)) := (Below.refl _ _).alloc (Nat.le_refl _) _
      have B3 : Hid (Blk (w2.alloc (.cells #[.slice ra q rc] 34)) w2.heap.size 34 [.slice ra q rc]) := Blk.newAt _ _ _ _ _ rfl rfl
      have K3 : Hid (Below w1.heap.size w1 (w2.alloc (.cells #[.slice ra q rc] 34))) := k2.trans (K12.mono k2.size)
      have O3 : Hid (Own (w2.alloc (.cells #[.slice ra q rc] 34)) w1.heap.size (.slice ra q rc) y) := ob.below K12
      have R3 : Hid ((w2.alloc (.cells #[.slice ra q rc] 34)).ownsRow w.heap.size 34 1 v3 Lk.length rows) := own_chg O1.out.row (Chg.of_below (F := fun _ => False) K3.out) fun _ _ h => h
      have HC1 : Hid (∀ u ∈ [Value.slice ra q rc], u.oneCell' = true) := by intro u hu; simp only [List.mem_cons, List.not_mem_nil, or_false] at hu; rw [hu]; rfl
      have HZ : Hid (w.heap.size ≤ (w2.alloc (.cells #[.slice ra q rc] 34)).heap.size) := Nat.le_trans K1.out.size K3.out.size
      clear o2 ob K12 k2 hq K2 O2 CR
      go_wp2_with (at_builtin; go_must (refine wpList_app_row rows10 _ rfl _ _ rfl w.heap.size v3 Lk.length rows rfl R3.out ⟨w2.heap.size, 0, none⟩ 1 1 [.slice ra q rc] rfl rfl ?d1 HC1.out ?d2 ?d3 HZ.out ?_))
      case d1 => exact fun j u hj => by rw [Addr.add_lit, Nat.zero_add, B3.out.cell]; exact hj
      case d2 => have := HL.out; have := HLT.out; have := HF.out; unfold maxLen; omega
      case d3 => have := HL.out; have := HLT.out; have := HF.out; omega
      intro v4 w4 o4 g4 a4
      have OO := Lib.hid (O1.out.add K3.out K1.out.size O3.out o4 g4 (a4.imp_right fun h => ⟨_, h, by simp⟩))
      rw [← HT.out] at OO
      have KK : Hid (Below w.heap.size w w4) := (K1.out.trans (K3.out.mono K1.out.size)).grown g4 HZ.out fun k hk => (O1.out.row.lt k hk).1
      have n3 : wrap64 ((k : Int) + 1) = ((k + 1 : Nat) : Int) := by have := HLT.out; have := HF.out; unfold wrap64; omega
      have N3 := Lib.hid n3
      clear o4 g4 a4 R3 O3 B3 K3 HC1 HZ O1 K1 n3 b1
      go_wp2
      go_roundw
      case rel => exact ⟨k + 1, _, by rw [N3.out], HLT.out, OO.out, KK⟩
      case measure =>
        rw [N3.out]
        have := HLT.out
        show N - (((k + 1 : Nat) : Int)).toNat < N - ((k : Int)).toNat
        omega
    · have b1 : ¬ (k : Int) < (N : Int) := by omega
      have e : m.shows.take k = m.shows := List.take_of_length_le (by rw [HSL.out]; omega)
      rw [e] at O1
      clear hlt e
      go_wp2
      go_ret
      exact ⟨_, rows, rfl, O1.out, K1.out⟩

end Go.Proofs.YtlglkiknpbfnmaaDoor

namespace Go.Proofs.YtlglkiknpbfnmaaDoor
open Go.RowKit
set_option linter.unusedVariables false

theorem change10 : RowTy 38 56 2 32 (.agg #[.int .i64 0, .slice none 0 0]) := ⟨Tryd.underlying38, by kernel_rfl, rfl, by decide⟩

/-- Changes as cells: a number and a slice each. -/
def chcs : M.CL → List Value → List Value
  | c :: r, d :: s => .int .i64 c.1 :: d :: chcs r s
  | _, _ => []

theorem chcs_length : ∀ (c : M.CL) (d : List Value), d.length = c.length → (chcs c d).length = c.length * 2
  | [], [], _ => rfl
  | c :: r, d :: s, h => by
    have := chcs_length r s (by simpa using h)
    simp only [chcs, List.length_cons, this]
    omega

theorem chcs_append : ∀ (c : M.CL) (d : List Value) (c' : M.CL) (d' : List Value), d.length = c.length → chcs (c ++ c') (d ++ d') = chcs c d ++ chcs c' d'
  | [], [], _, _, _ => rfl
  | c :: r, d :: s, c', d', h => by
    have := chcs_append r s c' d' (by simpa using h)
    simp only [chcs, List.cons_append, this]

theorem chcs_get : ∀ (c : M.CL) (d : List Value) (j : Nat), d.length = c.length → j < c.length → (chcs c d)[j * 2]? = some (.int .i64 (c.getD j (0, [])).1) ∧ (chcs c d)[j * 2 + 1]? = some (d.getD j undef)
  | c :: r, d :: s, 0, h, _ => ⟨rfl, rfl⟩
  | c :: r, d :: s, j + 1, h, hj => by
    have := chcs_get r s j (by simpa using h) (by simpa using hj)
    rw [show (j + 1) * 2 = j * 2 + 1 + 1 by omega, chcs, List.getElem?_cons_succ, List.getElem?_cons_succ, List.getElem?_cons_succ, List.getElem?_cons_succ]
    exact this

/-- A list of changes of the call's own, from block B on; so are its rows. -/
structure OwnCL (w : World) (B : Nat) (v : Value) (l : M.CL) (xs : List Value) : Prop where
  row : w.ownsRow B 56 2 v l.length (chcs l xs)
  len : xs.length = l.length
  each : ∀ i, i < l.length → (IsB w (xs.getD i undef) (l.getD i (0, [])).2 ∧ (∀ n c, xs.getD i undef = .slice none n c → c = 0) ∧ -9223372036854775808 ≤ (l.getD i (0, [])).1 ∧ (l.getD i (0, [])).1 < 9223372036854775808) ∧
    Lies (fun k => B ≤ k ∧ k < w.heap.size ∧ v.ownBlock ≠ some k) (xs.getD i undef)

theorem OwnCL.nil (w : World) (B : Nat) : OwnCL w B (.slice none 0 0) [] [] := ⟨World.ownsRow_nil _ _ _ _, rfl, fun i hi => by cases hi⟩

theorem OwnCL.chg {F : Nat → Prop} {w w' : World} {B : Nat} {v : Value} {l : M.CL} {xs : List Value} (h : OwnCL w B v l xs) (c : Chg F w w') (hF : ∀ k, F k → B ≤ k → k < w.heap.size → False) : OwnCL w' B v l xs where
  row := own_chg h.row c fun b hb hf => hF b hf (h.row.lt b hb).1 (h.row.lt b hb).2
  len := h.len
  each := fun i hi => ⟨⟨(h.each i hi).1.1.chg c ((h.each i hi).2.mono fun k hk hf => hF k hf hk.1 hk.2.1), (h.each i hi).1.2⟩, (h.each i hi).2.mono fun k hk => ⟨hk.1, Nat.lt_of_lt_of_le hk.2.1 c.size, hk.2.2⟩⟩

theorem OwnCL.below {w w' : World} {B : Nat} {v : Value} {l : M.CL} {xs : List Value} (h : OwnCL w B v l xs) (c : Below w.heap.size w w') : OwnCL w' B v l xs :=
  h.chg (Chg.of_below (F := fun _ => False) c) fun _ h _ _ => h

/-- Cells of an owned row of changes read as changes. -/
theorem cl_of_row {w : World} {B : Nat} {v : Value} {l : M.CL} {xs : List Value} (h : w.ownsRow B 56 2 v l.length (chcs l xs)) (hl : xs.length = l.length)
    (each : ∀ i, i < l.length → IsB w (xs.getD i undef) (l.getD i (0, [])).2 ∧ (∀ n c, xs.getD i undef = .slice none n c → c = 0) ∧ -9223372036854775808 ≤ (l.getD i (0, [])).1 ∧ (l.getD i (0, [])).1 < 9223372036854775808) : IsCL w v l xs := by
  obtain ⟨ao, cap, rfl⟩ := ownShape h
  rcases h.2 with ⟨e, hn⟩ | ⟨g, cap', cur, e, hb, hg, hn, hm, hs, ht⟩
  · injection e with e1 e2 e3
    exact ⟨ao, cap, rfl, by omega, by unfold maxLen; omega, hl, each, .inl (by cases l; rfl; simp at hn)⟩
  · injection e with e1 e2 e3
    subst e1 e3
    refine ⟨_, cap, rfl, by omega, hm, hl, each, ?_⟩
    by_cases h0 : l = []
    · exact .inl h0
    · refine .inr ⟨g, 0, rfl, fun i hi => ?_⟩
      obtain ⟨g2, e9, _, cs, _⟩ := ownCells h (by cases l; exact absurd rfl h0; simp)
      injection e9 with e9
      injection e9 with e9
      subst e9
      have cl := chcs_length l xs hl
      have cg := chcs_get l xs i hl hi
      rw [Nat.zero_add, cs _ (by omega), cs _ (by omega)]
      exact cg

theorem OwnCL.isCL {w : World} {B : Nat} {v : Value} {l : M.CL} {xs : List Value} (h : OwnCL w B v l xs) : IsCL w v l xs := cl_of_row h.row h.len fun i hi => (h.each i hi).1

theorem OwnCL.gains {w w' : World} {K : World → Prop} {v : Value} {l : M.CL} {xs : List Value} (h : OwnCL w' w.heap.size v l xs) : Gains w w' K (fun x => IsCL x v l xs) :=
  fun F x c hf _ => (h.chg c fun k h1 h2 h3 => by have := hf k h1; omega).isCL

theorem own_mono {w : World} {B B' n size : Nat} {e : TypeId} {v : Value} {xs : List Value} (h : w.ownsRow B e size v n xs) (hb : B' ≤ B) : w.ownsRow B' e size v n xs :=
  ⟨h.1, h.2.imp_right fun ⟨g, cap, cur, e, hB, rest⟩ => ⟨g, cap, cur, e, Nat.le_trans hb hB, rest⟩⟩

theorem OwnCL.mono {w : World} {B B' : Nat} {v : Value} {l : M.CL} {xs : List Value} (h : OwnCL w B v l xs) (hb : B' ≤ B) : OwnCL w B' v l xs where
  row := own_mono h.row hb
  len := h.len
  each := fun i hi => ⟨(h.each i hi).1, (h.each i hi).2.mono fun k hk => ⟨Nat.le_trans hb hk.1, hk.2⟩⟩

/-- A change more. -/
theorem OwnCL.add {w w2 w4 : World} {B : Nat} {v v' dv : Value} {l : M.CL} {xs : List Value} {p : Int} {bs : List UInt8} (h : OwnCL w B v l xs) (k : Below w.heap.size w w2) (hB : B ≤ w.heap.size) (d : Own w2 w.heap.size dv bs)
    (hp : -9223372036854775808 ≤ p ∧ p < 9223372036854775808) (o : w4.ownsRow B 56 2 v' (l.length + 1) (chcs l xs ++ [.int .i64 p, dv])) (g : w2.grownBy w4 v.ownBlock) (a : v'.ownBlock = v.ownBlock ∨ ∃ j, v'.ownBlock = some j ∧ w2.heap.size ≤ j) :
    OwnCL w4 B v' (l ++ [(p, bs)]) (xs ++ [dv]) where
  row := by
    rw [List.length_append, chcs_append _ _ _ _ h.len]
    exact o
  len := by rw [List.length_append, List.length_append, h.len]; rfl
  each := by
    intro i hi
    have hi' : i < l.length + 1 := by simpa using hi
    have hl := h.len
    have hk := k.size
    have c4 : Chg (fun b => v.ownBlock = some b) w2 w4 := Chg.of_grown g fun k hk => hk
    have hv : ∀ b, v.ownBlock = some b → b < w.heap.size := fun b hb => (h.row.lt b hb).2
    have hne : ∀ b, b < w2.heap.size → v.ownBlock ≠ some b → v'.ownBlock ≠ some b := fun b h1 h2 e => by
      rcases a with a | ⟨j, a, hj⟩
      · exact h2 (a ▸ e)
      · rw [a] at e
        injection e with e
        omega
    have g4 := c4.size
    rw [getD_snoc _ _ _ _ (by rw [hl]; exact hi'), getD_snoc _ _ _ _ hi', hl]
    by_cases hlt : i < l.length
    · rw [if_pos hlt, if_pos hlt]
      obtain ⟨⟨h1, h2⟩, h3⟩ := h.each i hlt
      exact ⟨⟨(h1.below k).chg c4 (h3.mono fun b hb => hb.2.2), h2⟩, h3.mono fun b hb => ⟨hb.1, by omega, hne b (by omega) hb.2.2⟩⟩
    · rw [if_neg hlt, if_neg hlt]
      have ld : Lies (fun b => w.heap.size ≤ b ∧ b < w2.heap.size) dv := d.lies fun k h1 h2 => ⟨h1, h2⟩
      exact ⟨⟨d.isB.chg c4 (ld.mono fun b hb e => by have := hv b e; omega), d.nil0, hp⟩, ld.mono fun b hb => ⟨by omega, by omega, hne b hb.2 fun e => by have := hv b e; omega⟩⟩

theorem isB_trio (w : World) (t : TypeId) (a b c : UInt8) : IsB (w.alloc (.cells #[.int .u8 (a.toNat : Int), .int .u8 (b.toNat : Int), .int .u8 (c.toNat : Int)] t)) (.slice (some ⟨w.heap.size, 0, none⟩) 3 3) [a, b, c] := by
  have B : Blk (w.alloc (.cells #[.int .u8 (a.toNat : Int), .int .u8 (b.toNat : Int), .int .u8 (c.toNat : Int)] t)) w.heap.size t [.int .u8 (a.toNat : Int), .int .u8 (b.toNat : Int), .int .u8 (c.toNat : Int)] := Blk.newAt _ _ _ _ _ rfl rfl
  refine ⟨_, 3, rfl, Nat.le_refl _, by decide, .inr ⟨_, 0, rfl, fun i hi => ?_⟩⟩
  rw [Nat.zero_add, B.cell]
  match i, hi with
  | 0, _ => rfl
  | 1, _ => rfl
  | 2, _ => rfl

theorem M.changes_next (t : M.Tx) (k : Nat) : (List.range (k + 1)).map t.one = (List.range k).map t.one ++ [t.one k] := by rw [List.range_succ, List.map_append]; rfl

set_option maxRecDepth 100000 in
set_option maxHeartbeats 8000000 in
theorem changes10_any (cs : List Value) (t : M.Tx) (w : World) (ht : TxCells w cs t) (h60 : t.blocks.length ≤ 60) :
    Calls Tryd.prog 12 #[.agg cs.toArray] w fun e w' => ∃ v xs, e = .returned v ∧ OwnCL w' w.heap.size v t.changes xs ∧ Below w.heap.size w w' := by
  obtain ⟨bo, bc, yo, yc, ko, kc, jo, jc, rfl, hI, hB, hK1, hK2, hf, ha⟩ := ht
  obtain ⟨N, hN⟩ : ∃ N, N = t.blocks.length := ⟨_, rfl⟩
  obtain ⟨q, hq⟩ : ∃ N, N = t.bytes.length := ⟨_, rfl⟩
  obtain ⟨n1, hn1⟩ : ∃ N, N = t.keep.length := ⟨_, rfl⟩
  obtain ⟨n2, hn2⟩ : ∃ N, N = t.keep2.length := ⟨_, rfl⟩
  obtain ⟨z1, hz1⟩ : ∃ N, N = t.fall := ⟨_, rfl⟩
  obtain ⟨z2, hz2⟩ : ∃ N, N = t.again := ⟨_, rfl⟩
  rw [← hN] at hI h60
  rw [← hq] at hB
  rw [← hN, ← hq, ← hn1, ← hn2, ← hz1, ← hz2]
  have HI := Lib.hid hI
  have HB := Lib.hid hB
  have HN : Hid (t.blocks.length = N) := hN.symm
  have HQ : Hid (t.bytes.length = q) := hq.symm
  have H60 := Lib.hid h60
  obtain ⟨W1, hW1⟩ : ∃ x, Hid (x = w.alloc (.cells #[.slice bo N bc, .slice yo q yc, .int .i64 z1, .slice ko n1 kc, .int .i64 z2, .slice jo n2 jc] 37)) := ⟨_, rfl⟩
  obtain ⟨g, hg⟩ : ∃ g, g = w.heap.size := ⟨_, rfl⟩
  have BX : Hid (Blk W1 g 37 [.slice bo N bc, .slice yo q yc, .int .i64 z1, .slice ko n1 kc, .int .i64 z2, .slice jo n2 jc]) := by rw [hW1.out]; exact Blk.newAt _ _ _ _ _ hg rfl
  have KX : Hid (Below w.heap.size w W1) := by rw [hW1.out]; exact (Below.refl _ _).alloc (Nat.le_refl _) _
  clear hI hB hK1 hK2 hf ha hN hq hn1 hn2 hz1 hz2 h60
  go_enter Tryd.func12, Tryd.ntmps12
  go_upto_region 1 with fail
  rw [← hW1.out, ← hg]
  clear hW1 hg
  go_wp2
  go_loopw [3, 4, 5] (fun v i x wr => ∃ (k : Nat) (xs : List Value), i = .int .i64 (k : Int) ∧ Hid (k ≤ N) ∧ Hid (OwnCL wr W1.heap.size v ((List.range k).map t.one) xs) ∧ Hid (Below W1.heap.size W1 wr))
    (fun v i x _ => N - numOf i)
  case atStart => exact ⟨0, [], rfl, Nat.zero_le _, OwnCL.nil _ _, Below.refl _ _⟩
  case round =>
    obtain ⟨wz, rfl⟩ : ∃ x, x = wr := ⟨_, rfl⟩
    obtain ⟨v3, rfl⟩ : ∃ x, x = u3 := ⟨_, rfl⟩
    obtain ⟨v5, rfl⟩ : ∃ x, x = u5 := ⟨_, rfl⟩
    obtain ⟨k, xs, rfl, hk, oo, kk⟩ := hrel
    have bz := BX.out.below kk.out BX.out.lt
    have c0 : wz.cell? ⟨g, 0, none⟩ = some (.slice bo N bc) := bz.cell 0
    have c1 : wz.cell? ⟨g, 1, none⟩ = some (.slice yo q yc) := bz.cell 1
    by_cases hlt : k < N
    · have b1 : (k : Int) < (N : Int) := by omega
      have hk60 : k < 60 := by have := H60.out; omega
      obtain ⟨X, hX⟩ : ∃ X, X = t.x k := ⟨_, rfl⟩
      obtain ⟨ao', cap', e, i1, i2, i3, i4⟩ := HI.out
      injection e with e1 e2 e3
      subst e1 e3
      obtain ⟨ib, io, rfl, ic⟩ := i4.resolve_left (fun e => by have := HN.out; rw [e] at this; simp at this; omega)
      have d0 := ic k (by rw [HN.out]; exact hlt)
      have r0 := i3 k (by rw [HN.out]; exact hlt)
      obtain ⟨p, hp⟩ : ∃ p, p = t.blocks.getD k 0 := ⟨_, rfl⟩
      rw [← hp] at d0 r0
      obtain ⟨F, hF⟩ : ∃ F, F = M.full [X, UInt8.ofNat k, X] := ⟨_, rfl⟩
      have HT : Hid ((List.range (k + 1)).map t.one = (List.range k).map t.one ++ [(p, F)]) := by rw [Hid, M.changes_next, M.Tx.one, ← hp, ← hX, ← hF]
      obtain ⟨lk, hlk⟩ : ∃ lk, lk = (List.range k).map t.one := ⟨_, rfl⟩
      have HLK : Hid (lk.length = k) := by rw [Hid, hlk, List.length_map, List.length_range]
      rw [← hlk] at oo HT
      have HF := Lib.hid hF
      have HR := Lib.hid r0
      have KXZ : Hid (Below w.heap.size w wz) := KX.out.trans (kk.out.mono KX.out.size)
      have KC : Hid (∀ w', Below W1.heap.size W1 w' → w'.cell? ⟨g, 0, none⟩ = some (.slice (some ⟨ib, io, none⟩) N bc) ∧ w'.cell? ⟨ib, io + k, none⟩ = some (.int .i64 p)) := fun w' kb =>
        ⟨(BX.out.below kb BX.out.lt).cell 0, ((KX.out.trans (kb.mono KX.out.size)).cell (p := ⟨ib, io + k, none⟩) (World.block_lt_of_cell? w _ d0)).trans d0⟩
      have g2 : (0 : Int) ≤ (k : Int) := by omega
      have g3 : ((k : Int)).toNat = k := by omega
      have w8 : IntKind.u8.wrap (k : Int) = (k : Int) := by clear c0 c1 bz; unfold IntKind.wrap; simp [IntKind.signed, IntKind.bits]; omega
      have HK8 : Hid ((k : Int) = ((UInt8.ofNat k).toNat : Int)) := by rw [Hid, UInt8.toNat_ofNat']; omega
      have HK := Lib.hid hlt
      have KKz := Lib.hid (show k < 60 from hk60)
      clear i1 i2 i3 ic d0 r0 hp hF hlk bz e2 hk60
      by_cases hy : k < q
      · have b2 : (k : Int) < (q : Int) := by omega
        obtain ⟨ao', cap', e, j1, j2, j3⟩ := HB.out
        injection e with e1 e2 e3
        subst e1 e3
        obtain ⟨yb, yf, rfl, yy⟩ := j3.resolve_left (fun e => by have := HQ.out; rw [e] at this; simp at this; omega)
        have y0 := yy k (by rw [HQ.out]; exact hy)
        have hXe : t.bytes.getD k 0 = X := by rw [hX, M.Tx.x, if_pos (by rw [HQ.out]; exact hy)]
        rw [hXe] at y0
        have y1 : wz.cell? ⟨yb, yf + k, none⟩ = some (.int .u8 (X.toNat : Int)) := (KXZ.out.cell (p := ⟨yb, yf + k, none⟩) (World.block_lt_of_cell? w _ y0)).trans y0
        clear hXe y0 yy j1 j2 j3 e2 hX hlt hy
        have HB3 : Hid (∀ (w : World) (ty : TypeId), IsB (w.alloc (.cells #[.int .u8 (X.toNat : Int), .int .u8 (k : Int), .int .u8 (X.toNat : Int)] ty)) (.slice (some ⟨w.heap.size, 0, none⟩) 3 3) [X, UInt8.ofNat k, X]) := fun w ty => by
          have := isB_trio w ty X (UInt8.ofNat k) X
          rw [← HK8.out] at this
          exact this
        go_upto_region 8 with fail
        refine wp_region_any (by kernel_rfl) ?_
        change wpAny _ _ _ _ _ _ _ (World.drew _)
        refine wpAny_of_held (S := fun w' => Below W1.heap.size W1 w') _ _ _ _ ?_
        clear c0 c1 y1
        have S0 : Below W1.heap.size W1 wz.drew := kk.out.drew
        refine wpAnyH_take_at (i := 0) (v := v3) rfl rfl (by kernel_rfl) (by kernel_rfl) (by kernel_rfl) (fun _ _ _ h => h) (Or.inl ⟨by rfl, fun w hS => by go_simp⟩) S0 ?_
        simp only [List.setIfInBounds_toArray, List.set_cons_zero, List.set_cons_succ]
        refine wpAnyH_take_at (i := 1) (v := .pointer (some ⟨g, 0, none⟩)) rfl rfl (by kernel_rfl) (by kernel_rfl) (by kernel_rfl) (fun _ _ _ h => h) (Or.inl ⟨by rfl, fun w hS => by go_simp⟩) S0 ?_
        simp only [List.setIfInBounds_toArray, List.set_cons_zero, List.set_cons_succ]
        refine wpAnyH_take_at (i := 2) (v := .slice (some ⟨ib, io, none⟩) N bc) rfl rfl (by kernel_rfl) (by kernel_rfl) (by kernel_rfl) (fun _ _ _ h => h) (Or.inl ⟨by rfl, fun w hS => by have c := (KC.out w hS).1; go_simp⟩) S0 ?_
        simp only [List.setIfInBounds_toArray, List.set_cons_zero, List.set_cons_succ]
        refine wpAnyH_take_at (i := 3) (v := .int .i64 (k : Int)) rfl rfl (by kernel_rfl) (by kernel_rfl) (by kernel_rfl) (fun _ _ _ h => h) (Or.inl ⟨by rfl, fun w hS => by go_simp⟩) S0 ?_
        simp only [List.setIfInBounds_toArray, List.set_cons_zero, List.set_cons_succ]
        refine wpAnyH_take_at (i := 4) (v := .pointer (some ⟨ib, io + k, none⟩)) rfl rfl (by kernel_rfl) (by kernel_rfl) (by kernel_rfl) (fun _ _ _ h => h) (Or.inl ⟨by rfl, fun w hS => by go_simp⟩) S0 ?_
        simp only [List.setIfInBounds_toArray, List.set_cons_zero, List.set_cons_succ]
        refine wpAnyH_take_at (i := 5) (v := .int .i64 p) rfl rfl (by kernel_rfl) (by kernel_rfl) (by kernel_rfl) (fun _ _ _ h => h) (Or.inl ⟨by rfl, fun w hS => by have c := (KC.out w hS).2; go_simp⟩) S0 ?_
        simp only [List.setIfInBounds_toArray, List.set_cons_zero, List.set_cons_succ]
        refine wpAnyH_take_at (i := 6) (v := .int .u8 (X.toNat : Int)) rfl rfl (by kernel_rfl) (by kernel_rfl) (by kernel_rfl) (fun _ _ _ h => h) (Or.inl ⟨by rfl, fun w hS => by go_simp⟩) S0 ?_
        simp only [List.setIfInBounds_toArray, List.set_cons_zero, List.set_cons_succ]
        refine wpAnyH_take_at (i := 7) (v := .int .i64 (k : Int)) rfl rfl (by kernel_rfl) (by kernel_rfl) (by kernel_rfl) (fun _ _ _ h => h) (Or.inl ⟨by rfl, fun w hS => by go_simp⟩) S0 ?_
        simp only [List.setIfInBounds_toArray, List.set_cons_zero, List.set_cons_succ]
        refine wpAnyH_take_at (i := 8) (v := .int .u8 (k : Int)) rfl rfl (by kernel_rfl) (by kernel_rfl) (by kernel_rfl) (fun _ _ _ h => h) (Or.inl ⟨by rfl, fun w hS => by go_simp⟩) S0 ?_
        simp only [List.setIfInBounds_toArray, List.set_cons_zero, List.set_cons_succ]
        refine wpAnyH_take_at (i := 9) (v := .int .u8 (X.toNat : Int)) rfl rfl (by kernel_rfl) (by kernel_rfl) (by kernel_rfl) (fun _ _ _ h => h) (Or.inl ⟨by rfl, fun w hS => by go_simp⟩) S0 ?_
        simp only [List.setIfInBounds_toArray, List.set_cons_zero, List.set_cons_succ]
        refine wpAnyH_ready (rs := [10]) (by kernel_rfl) (by simp) ?_
        refine AllReadyH.cons rfl (fun K hK => ?_) AllReadyH.nil
        go_simp
        obtain ⟨w1, hw1⟩ : ∃ x, Hid (x = (wz.alloc (.cells #[.int .u8 (X.toNat : Int), .int .u8 (k : Int), .int .u8 (X.toNat : Int)] 5)).drew) := ⟨_, rfl⟩
        rw [← hw1.out]
        have k1 : Below wz.heap.size wz w1 := by rw [hw1.out]; exact drewN_below ((Below.refl _ wz).alloc (Nat.le_refl _) _) 1
        have I1 : Hid (IsB w1 (.slice (some ⟨wz.heap.size, 0, none⟩) 3 3) [X, UInt8.ofNat k, X]) := by rw [hw1.out]; exact HB3.out wz _
        have S1 : Below W1.heap.size W1 w1 := kk.out.trans (k1.mono kk.out.size)
        refine hK.out _ _ S1 (fun _ => ?_)
        clear hK K hw1 S0
        refine wpAnyH_ready (rs := [11]) (by kernel_rfl) (by simp) ?_
        refine AllReadyH.cons rfl (fun K hK => ?_) AllReadyH.nil
        go_simp
        refine (full_any (.slice (some ⟨wz.heap.size, 0, none⟩) 3 3) [X, UInt8.ofNat k, X] w1 I1.out (by intro n c e; cases e) (by show 3 ≤ 1000; decide)).mono ?_
        rintro e w2 ⟨dv, rfl, od, k2⟩
        rw [← HF.out] at od
        have HDL : Hid (F.length = 256) := by rw [HF.out]; exact M.full_length _
        obtain ⟨da, dc, rfl⟩ := od.shape'
        rw [HDL.out] at od ⊢
        have kw2 : Below wz.heap.size wz w2 := k1.trans (k2.mono k1.size)
        have S2 : Below W1.heap.size W1 w2 := kk.out.trans (kw2.mono kk.out.size)
        have od2 : Own w2 wz.heap.size (.slice da 256 dc) F := od.mono k1.size
        refine hK.out _ _ S2 (fun _ => ?_)
        clear hK K S1 I1 k1 k2 od
        refine wpAnyH_take_at (i := 12) (v := .agg #[.int .i64 p, .slice da 256 dc]) rfl rfl (by kernel_rfl) (by kernel_rfl) (by kernel_rfl) (fun _ _ _ h => h) (Or.inl ⟨by rfl, fun w hS => by go_simp⟩) S2 ?_
        simp only [List.setIfInBounds_toArray, List.set_cons_zero, List.set_cons_succ]
        refine wpAnyH_ready (rs := [13]) (by kernel_rfl) (by simp) ?_
        refine AllReadyH.cons rfl (fun K hK => ?_) AllReadyH.nil
        go_simp
        obtain ⟨dv, hdv⟩ : ∃ x, x = Value.slice da 256 dc := ⟨_, rfl⟩
        rw [← hdv] at od2 ⊢
        obtain ⟨w3, hw3⟩ : ∃ x, Hid (x = w2.alloc (.cells #[.int .i64 p, dv] 56)) := ⟨_, rfl⟩
        obtain ⟨pp, hpp⟩ : ∃ x, x = w2.heap.size := ⟨_, rfl⟩
        rw [← hw3.out, ← hpp]
        have k3 : Below w2.heap.size w2 w3 := by rw [hw3.out]; exact (Below.refl _ _).alloc (Nat.le_refl _) _
        have kw3 : Below wz.heap.size wz w3 := kw2.trans (k3.mono kw2.size)
        have b3 : Blk w3 pp 56 [.int .i64 p, dv] := by rw [hw3.out]; exact Blk.newAt _ _ _ _ _ hpp rfl
        have d3 : Own w3 wz.heap.size dv F := od2.below k3
        have S3 : Below W1.heap.size W1 w3 := kk.out.trans (kw3.mono kk.out.size)
        have r3 := own_chg oo.out.row (Chg.of_below (F := fun _ => False) kw3) (fun _ _ h => h)
        refine hK.out _ _ S3 (fun _ => ?_)
        clear hK K hw3 S2 od2 k3 kw2 hpp
        refine wpAnyH_ready (rs := [14]) (by kernel_rfl) (by simp) ?_
        refine AllReadyH.cons rfl (fun K hK => ?_) AllReadyH.nil
        refine step_app_row change10 rfl (.tmp 25) (.tmp 38) rfl W1.heap.size v3 lk.length _ rfl r3 ⟨pp, 0, none⟩ 1 1 [.int .i64 p, dv] rfl rfl ?cc ?c1 (by have := HLK.out; have := KKz.out; unfold maxLen; omega) (by have := HLK.out; have := KKz.out; omega) S3.size ?_
        case cc => exact fun j u hj => by rw [Addr.add_lit, Nat.zero_add, b3.cell]; exact hj
        case c1 => intro u hu; simp only [List.mem_cons, List.not_mem_nil, or_false] at hu; rcases hu with rfl | rfl; rfl; rw [hdv]; rfl
        intro v4 w4 o4 g4 a4
        have OO := Lib.hid (oo.out.add kw3 kk.out.size d3 HR.out o4 g4 (a4.imp_right fun h => ⟨_, h, Nat.le_refl _⟩))
        rw [← HT.out] at OO
        have KK : Hid (Below W1.heap.size W1 w4) := S3.grown g4 S3.size fun k hk => (oo.out.row.lt k hk).1
        refine hK.out _ _ KK.out (fun _ => ?_)
        clear hK K S3 o4 g4 a4 r3 d3 b3 kw3 hdv oo kk
        obtain ⟨v4, rfl⟩ : ∃ x, x = v4 := ⟨_, rfl⟩
        refine wpAnyH_take_at (i := 15) (v := v4) rfl rfl (by kernel_rfl) (by kernel_rfl) (by kernel_rfl) (fun _ _ _ h => h) (Or.inl ⟨by rfl, fun w hS => by go_simp⟩) KK.out ?_
        simp only [List.setIfInBounds_toArray, List.set_cons_zero, List.set_cons_succ]
        refine wpAnyH_done (by kernel_rfl) ?_ _
        have n3 : wrap64 ((k : Int) + 1) = ((k + 1 : Nat) : Int) := by have := KKz.out; unfold wrap64; omega
        have N3 := Lib.hid n3
        clear n3 g2 g3 w8 b1 b2 KC KXZ
        go_wp2
        go_roundw
        case rel => exact ⟨k + 1, _, by rw [N3.out], HK.out, OO.out, KK⟩
        case measure =>
          rw [N3.out]
          have := HK.out
          show N - (((k + 1 : Nat) : Int)).toNat < N - ((k : Int)).toNat
          omega
      · have b2 : ¬ (k : Int) < (q : Int) := by omega
        have hXe : (k : Int) = (X.toNat : Int) := by rw [HK8.out, hX, M.Tx.x, if_neg (by rw [HQ.out]; exact hy)]
        have HXE := Lib.hid hXe
        clear hXe hX hlt hy
        have HB3 : Hid (∀ (w : World) (ty : TypeId), IsB (w.alloc (.cells #[.int .u8 (k : Int), .int .u8 (k : Int), .int .u8 (k : Int)] ty)) (.slice (some ⟨w.heap.size, 0, none⟩) 3 3) [X, UInt8.ofNat k, X]) := fun w ty => by
          have := isB_trio w ty X (UInt8.ofNat k) X
          rw [← HK8.out, ← HXE.out] at this
          exact this
        go_upto_region 8 with fail
        refine wp_region_any (by kernel_rfl) ?_
        change wpAny _ _ _ _ _ _ _ (World.drew _)
        refine wpAny_of_held (S := fun w' => Below W1.heap.size W1 w') _ _ _ _ ?_
        clear c0 c1
        have S0 : Below W1.heap.size W1 wz.drew := kk.out.drew
        refine wpAnyH_take_at (i := 0) (v := v3) rfl rfl (by kernel_rfl) (by kernel_rfl) (by kernel_rfl) (fun _ _ _ h => h) (Or.inl ⟨by rfl, fun w hS => by go_simp⟩) S0 ?_
        simp only [List.setIfInBounds_toArray, List.set_cons_zero, List.set_cons_succ]
        refine wpAnyH_take_at (i := 1) (v := .pointer (some ⟨g, 0, none⟩)) rfl rfl (by kernel_rfl) (by kernel_rfl) (by kernel_rfl) (fun _ _ _ h => h) (Or.inl ⟨by rfl, fun w hS => by go_simp⟩) S0 ?_
        simp only [List.setIfInBounds_toArray, List.set_cons_zero, List.set_cons_succ]
        refine wpAnyH_take_at (i := 2) (v := .slice (some ⟨ib, io, none⟩) N bc) rfl rfl (by kernel_rfl) (by kernel_rfl) (by kernel_rfl) (fun _ _ _ h => h) (Or.inl ⟨by rfl, fun w hS => by have c := (KC.out w hS).1; go_simp⟩) S0 ?_
        simp only [List.setIfInBounds_toArray, List.set_cons_zero, List.set_cons_succ]
        refine wpAnyH_take_at (i := 3) (v := .int .i64 (k : Int)) rfl rfl (by kernel_rfl) (by kernel_rfl) (by kernel_rfl) (fun _ _ _ h => h) (Or.inl ⟨by rfl, fun w hS => by go_simp⟩) S0 ?_
        simp only [List.setIfInBounds_toArray, List.set_cons_zero, List.set_cons_succ]
        refine wpAnyH_take_at (i := 4) (v := .pointer (some ⟨ib, io + k, none⟩)) rfl rfl (by kernel_rfl) (by kernel_rfl) (by kernel_rfl) (fun _ _ _ h => h) (Or.inl ⟨by rfl, fun w hS => by go_simp⟩) S0 ?_
        simp only [List.setIfInBounds_toArray, List.set_cons_zero, List.set_cons_succ]
        refine wpAnyH_take_at (i := 5) (v := .int .i64 p) rfl rfl (by kernel_rfl) (by kernel_rfl) (by kernel_rfl) (fun _ _ _ h => h) (Or.inl ⟨by rfl, fun w hS => by have c := (KC.out w hS).2; go_simp⟩) S0 ?_
        simp only [List.setIfInBounds_toArray, List.set_cons_zero, List.set_cons_succ]
        refine wpAnyH_take_at (i := 6) (v := .int .u8 (k : Int)) rfl rfl (by kernel_rfl) (by kernel_rfl) (by kernel_rfl) (fun _ _ _ h => h) (Or.inl ⟨by rfl, fun w hS => by go_simp⟩) S0 ?_
        simp only [List.setIfInBounds_toArray, List.set_cons_zero, List.set_cons_succ]
        refine wpAnyH_take_at (i := 7) (v := .int .i64 (k : Int)) rfl rfl (by kernel_rfl) (by kernel_rfl) (by kernel_rfl) (fun _ _ _ h => h) (Or.inl ⟨by rfl, fun w hS => by go_simp⟩) S0 ?_
        simp only [List.setIfInBounds_toArray, List.set_cons_zero, List.set_cons_succ]
        refine wpAnyH_take_at (i := 8) (v := .int .u8 (k : Int)) rfl rfl (by kernel_rfl) (by kernel_rfl) (by kernel_rfl) (fun _ _ _ h => h) (Or.inl ⟨by rfl, fun w hS => by go_simp⟩) S0 ?_
        simp only [List.setIfInBounds_toArray, List.set_cons_zero, List.set_cons_succ]
        refine wpAnyH_take_at (i := 9) (v := .int .u8 (k : Int)) rfl rfl (by kernel_rfl) (by kernel_rfl) (by kernel_rfl) (fun _ _ _ h => h) (Or.inl ⟨by rfl, fun w hS => by go_simp⟩) S0 ?_
        simp only [List.setIfInBounds_toArray, List.set_cons_zero, List.set_cons_succ]
        refine wpAnyH_ready (rs := [10]) (by kernel_rfl) (by simp) ?_
        refine AllReadyH.cons rfl (fun K hK => ?_) AllReadyH.nil
        go_simp
        obtain ⟨w1, hw1⟩ : ∃ x, Hid (x = (wz.alloc (.cells #[.int .u8 (k : Int), .int .u8 (k : Int), .int .u8 (k : Int)] 5)).drew) := ⟨_, rfl⟩
        rw [← hw1.out]
        have k1 : Below wz.heap.size wz w1 := by rw [hw1.out]; exact drewN_below ((Below.refl _ wz).alloc (Nat.le_refl _) _) 1
        have I1 : Hid (IsB w1 (.slice (some ⟨wz.heap.size, 0, none⟩) 3 3) [X, UInt8.ofNat k, X]) := by rw [hw1.out]; exact HB3.out wz _
        have S1 : Below W1.heap.size W1 w1 := kk.out.trans (k1.mono kk.out.size)
        refine hK.out _ _ S1 (fun _ => ?_)
        clear hK K hw1 S0
        refine wpAnyH_ready (rs := [11]) (by kernel_rfl) (by simp) ?_
        refine AllReadyH.cons rfl (fun K hK => ?_) AllReadyH.nil
        go_simp
        refine (full_any (.slice (some ⟨wz.heap.size, 0, none⟩) 3 3) [X, UInt8.ofNat k, X] w1 I1.out (by intro n c e; cases e) (by show 3 ≤ 1000; decide)).mono ?_
        rintro e w2 ⟨dv, rfl, od, k2⟩
        rw [← HF.out] at od
        have HDL : Hid (F.length = 256) := by rw [HF.out]; exact M.full_length _
        obtain ⟨da, dc, rfl⟩ := od.shape'
        rw [HDL.out] at od ⊢
        have kw2 : Below wz.heap.size wz w2 := k1.trans (k2.mono k1.size)
        have S2 : Below W1.heap.size W1 w2 := kk.out.trans (kw2.mono kk.out.size)
        have od2 : Own w2 wz.heap.size (.slice da 256 dc) F := od.mono k1.size
        refine hK.out _ _ S2 (fun _ => ?_)
        clear hK K S1 I1 k1 k2 od
        refine wpAnyH_take_at (i := 12) (v := .agg #[.int .i64 p, .slice da 256 dc]) rfl rfl (by kernel_rfl) (by kernel_rfl) (by kernel_rfl) (fun _ _ _ h => h) (Or.inl ⟨by rfl, fun w hS => by go_simp⟩) S2 ?_
        simp only [List.setIfInBounds_toArray, List.set_cons_zero, List.set_cons_succ]
        refine wpAnyH_ready (rs := [13]) (by kernel_rfl) (by simp) ?_
        refine AllReadyH.cons rfl (fun K hK => ?_) AllReadyH.nil
        go_simp
        obtain ⟨dv, hdv⟩ : ∃ x, x = Value.slice da 256 dc := ⟨_, rfl⟩
        rw [← hdv] at od2 ⊢
        obtain ⟨w3, hw3⟩ : ∃ x, Hid (x = w2.alloc (.cells #[.int .i64 p, dv] 56)) := ⟨_, rfl⟩
        obtain ⟨pp, hpp⟩ : ∃ x, x = w2.heap.size := ⟨_, rfl⟩
        rw [← hw3.out, ← hpp]
        have k3 : Below w2.heap.size w2 w3 := by rw [hw3.out]; exact (Below.refl _ _).alloc (Nat.le_refl _) _
        have kw3 : Below wz.heap.size wz w3 := kw2.trans (k3.mono kw2.size)
        have b3 : Blk w3 pp 56 [.int .i64 p, dv] := by rw [hw3.out]; exact Blk.newAt _ _ _ _ _ hpp rfl
        have d3 : Own w3 wz.heap.size dv F := od2.below k3
        have S3 : Below W1.heap.size W1 w3 := kk.out.trans (kw3.mono kk.out.size)
        have r3 := own_chg oo.out.row (Chg.of_below (F := fun _ => False) kw3) (fun _ _ h => h)
        refine hK.out _ _ S3 (fun _ => ?_)
        clear hK K hw3 S2 od2 k3 kw2 hpp
        refine wpAnyH_ready (rs := [14]) (by kernel_rfl) (by simp) ?_
        refine AllReadyH.cons rfl (fun K hK => ?_) AllReadyH.nil
        refine step_app_row change10 rfl (.tmp 25) (.tmp 38) rfl W1.heap.size v3 lk.length _ rfl r3 ⟨pp, 0, none⟩ 1 1 [.int .i64 p, dv] rfl rfl ?cc ?c1 (by have := HLK.out; have := KKz.out; unfold maxLen; omega) (by have := HLK.out; have := KKz.out; omega) S3.size ?_
        case cc => exact fun j u hj => by rw [Addr.add_lit, Nat.zero_add, b3.cell]; exact hj
        case c1 => intro u hu; simp only [List.mem_cons, List.not_mem_nil, or_false] at hu; rcases hu with rfl | rfl; rfl; rw [hdv]; rfl
        intro v4 w4 o4 g4 a4
        have OO := Lib.hid (oo.out.add kw3 kk.out.size d3 HR.out o4 g4 (a4.imp_right fun h => ⟨_, h, Nat.le_refl _⟩))
        rw [← HT.out] at OO
        have KK : Hid (Below W1.heap.size W1 w4) := S3.grown g4 S3.size fun k hk => (oo.out.row.lt k hk).1
        refine hK.out _ _ KK.out (fun _ => ?_)
        clear hK K S3 o4 g4 a4 r3 d3 b3 kw3 hdv oo kk
        obtain ⟨v4, rfl⟩ : ∃ x, x = v4 := ⟨_, rfl⟩
        refine wpAnyH_take_at (i := 15) (v := v4) rfl rfl (by kernel_rfl) (by kernel_rfl) (by kernel_rfl) (fun _ _ _ h => h) (Or.inl ⟨by rfl, fun w hS => by go_simp⟩) KK.out ?_
        simp only [List.setIfInBounds_toArray, List.set_cons_zero, List.set_cons_succ]
        refine wpAnyH_done (by kernel_rfl) ?_ _
        have n3 : wrap64 ((k : Int) + 1) = ((k + 1 : Nat) : Int) := by have := KKz.out; unfold wrap64; omega
        have N3 := Lib.hid n3
        clear n3 g2 g3 w8 b1 b2 KC KXZ
        go_wp2
        go_roundw
        case rel => exact ⟨k + 1, _, by rw [N3.out], HK.out, OO.out, KK⟩
        case measure =>
          rw [N3.out]
          have := HK.out
          show N - (((k + 1 : Nat) : Int)).toNat < N - ((k : Int)).toNat
          omega
    · have b1 : ¬ (k : Int) < (N : Int) := by omega
      obtain rfl : k = N := by have := hk.out; omega
      have e : (List.range k).map t.one = t.changes := by rw [M.Tx.changes, HN.out]
      rw [e] at oo
      clear hlt e
      go_wp2
      go_ret
      exact ⟨_, rfl, ⟨xs, oo.out.mono KX.out.size⟩, KX.out.trans (kk.out.mono KX.out.size)⟩

end Go.Proofs.YtlglkiknpbfnmaaDoor

namespace Go.Proofs.YtlglkiknpbfnmaaDoor
open Go.RowKit
set_option linter.unusedVariables false

theorem M.smallTx_step (l : List M.Tx) (k : Nat) (hk : k < l.length) : (l.take (k + 1)).all M.Tx.small = ((l.take k).all M.Tx.small && (l.getD k M.Tx.none).small) := by
  rw [List.take_add_one, List.all_append]
  congr 1
  rw [List.getElem?_eq_getElem hk, List.getD_eq_getElem?_getD, List.getElem?_eq_getElem hk]
  simp

theorem M.smallTx_no (l : List M.Tx) (k : Nat) (hk : k < l.length) (h6 : k < 12) (h : (l.getD k M.Tx.none).small = false) : M.smallTx l = false := by
  rw [M.smallTx, List.all_eq_false]
  refine ⟨l.getD k M.Tx.none, ?_, by rw [h]; simp⟩
  rw [List.getD_eq_getElem?_getD, List.getElem?_eq_getElem hk]
  exact List.mem_take_iff_getElem.2 ⟨k, by omega, rfl⟩

theorem M.smallTx_get (l : List M.Tx) (h : M.smallTx l = true) (k : Nat) (hk : k < l.length) (h6 : k < 12) : (l.getD k M.Tx.none).blocks.length ≤ 60 ∧ (l.getD k M.Tx.none).keep.length ≤ 1000 ∧ (l.getD k M.Tx.none).keep2.length ≤ 1000 := by
  have := List.all_eq_true.1 h (l.getD k M.Tx.none) (by
    rw [List.getD_eq_getElem?_getD, List.getElem?_eq_getElem hk]
    exact List.mem_take_iff_getElem.2 ⟨k, by omega, rfl⟩)
  simpa [M.Tx.small] using this

set_option maxRecDepth 100000 in
set_option maxHeartbeats 4000000 in
theorem small10_any (v : Value) (l : List M.Tx) (w : World) (hs : IsTxs w v l) :
    Calls Tryd.prog 8 #[v] w fun e w' => e = .returned (.bool (M.smallTx l)) ∧ Below w.heap.size w w' := by
  obtain ⟨ao, cap, rfl, hc1, hc2, hcell⟩ := hs
  obtain ⟨nn, hnn⟩ : ∃ n, n = l.length := ⟨_, rfl⟩
  rw [← hnn] at hc1 ⊢
  have HNN : Hid (l.length = nn) := hnn.symm
  have HL : Hid (nn ≤ maxLen) := Nat.le_trans hc1 hc2
  have HC := Lib.hid hcell
  clear hcell hc1 hc2 hnn
  go_enter Tryd.func8, Tryd.ntmps8
  go_wp2
  go_loopw [3] (fun v wr => ∃ k : Nat, v = .int .i64 (k : Int) ∧ Hid (k ≤ nn ∧ k ≤ 12 ∧ (l.take k).all M.Tx.small = true) ∧ wr = w)
    (fun v _ => 12 - numOf v)
  case atStart => exact ⟨0, rfl, ⟨Nat.zero_le _, Nat.zero_le _, by simp⟩, rfl⟩
  case round =>
    obtain ⟨k, rfl, hk, rfl⟩ := hrel
    by_cases hlt : k < nn
    · have b1 : (k : Int) < nn := by omega
      by_cases h6 : k < 12
      · have b2 : (k : Int) < 12 := by omega
        obtain ⟨b, off, rfl, hc⟩ := HC.out.resolve_left (fun e => by have := HNN.out; rw [e] at this; simp at this; omega)
        obtain ⟨cs, ⟨bo, bc, yo, yc, ko, kc, jo, jc, ecs, _⟩, cc⟩ := hc k (by rw [HNN.out]; exact hlt)
        have c0 := cc 0 (by decide)
        have c3 := cc 3 (by decide)
        have c5 := cc 5 (by decide)
        obtain ⟨n1, hn1⟩ : ∃ n, n = (l.getD k M.Tx.none).blocks.length := ⟨_, rfl⟩
        obtain ⟨n2, hn2⟩ : ∃ n, n = (l.getD k M.Tx.none).keep.length := ⟨_, rfl⟩
        obtain ⟨n3, hn3⟩ : ∃ n, n = (l.getD k M.Tx.none).keep2.length := ⟨_, rfl⟩
        rw [ecs, ← hn1, ← hn2, ← hn3] at c0 c3 c5
        have c0 : wr.cell? ⟨b, off + k * 6, none⟩ = some (.slice bo n1 bc) := c0
        have c3 : wr.cell? ⟨b, off + k * 6 + 3, none⟩ = some (.slice ko n2 kc) := c3
        have c5 : wr.cell? ⟨b, off + k * 6 + 5, none⟩ = some (.slice jo n3 jc) := c5
        have HS : Hid ((l.getD k M.Tx.none).small = (decide (n1 ≤ 60) && (decide (n2 ≤ 1000) && decide (n3 ≤ 1000)))) := by rw [Hid, M.Tx.small, hn1, hn2, hn3]
        have g1 : wrap64 ((k : Int) + 1) = ((k + 1 : Nat) : Int) := by unfold wrap64; omega
        have g2 : (0 : Int) ≤ (k : Int) := Int.natCast_nonneg k
        have g3 : ((k : Int)).toNat = k := Int.toNat_natCast k
        have HK := Lib.hid hlt
        have H6 := Lib.hid h6
        have HNO : Hid ((l.getD k M.Tx.none).small = false → M.smallTx l = false) := M.smallTx_no l k (by rw [HNN.out]; exact HK.out) H6.out
        clear hc hn1 hn2 hn3 hlt h6 cc ecs
        by_cases s1 : n1 ≤ 60
        · have t1 : ¬ (60 : Int) < (n1 : Int) := by omega
          by_cases s2 : n2 ≤ 1000
          · have t2 : ¬ (1000 : Int) < (n2 : Int) := by omega
            by_cases s3 : n3 ≤ 1000
            · have t3 : ¬ (1000 : Int) < (n3 : Int) := by omega
              have hS : Hid (k + 1 ≤ nn ∧ k + 1 ≤ 12 ∧ (l.take (k + 1)).all M.Tx.small = true) := by
                refine ⟨HK.out, H6.out, ?_⟩
                rw [M.smallTx_step l k (by rw [HNN.out]; exact HK.out), hk.out.2.2, HS.out, decide_eq_true s1, decide_eq_true s2, decide_eq_true s3]; rfl
              clear hk s1 s2 s3
              go_wp2
              go_roundw
              case rel => exact ⟨k + 1, rfl, hS, trivial⟩
              case measure =>
                have := H6.out
                show 12 - (((k + 1 : Nat) : Int)).toNat < 12 - ((k : Int)).toNat
                omega
            · have t3 : (1000 : Int) < (n3 : Int) := by omega
              have hS : Hid (M.smallTx l = false) := HNO.out (by rw [HS.out, decide_eq_false s3, Bool.and_false, Bool.and_false])
              clear hk s1 s2 s3
              go_wp2
              go_ret
              exact ⟨by rw [hS.out]; rfl, Below.refl _ _⟩
          · have t2 : (1000 : Int) < (n2 : Int) := by omega
            have hS : Hid (M.smallTx l = false) := HNO.out (by rw [HS.out, decide_eq_false s2, Bool.false_and, Bool.and_false])
            clear hk s1 s2
            go_wp2
            go_ret
            exact ⟨by rw [hS.out]; rfl, Below.refl _ _⟩
        · have t1 : (60 : Int) < (n1 : Int) := by omega
          have hS : Hid (M.smallTx l = false) := HNO.out (by rw [HS.out, decide_eq_false s1, Bool.false_and])
          clear hk s1
          go_wp2
          go_ret
          exact ⟨by rw [hS.out]; rfl, Below.refl _ _⟩
      · have b2 : ¬ (k : Int) < 12 := by omega
        have hS : Hid (M.smallTx l = true) := by
          have e : k = 12 := by have := hk.out; omega
          rw [Hid, M.smallTx, ← e]; exact hk.out.2.2
        clear hk hlt h6
        go_wp2
        go_ret
        exact ⟨by rw [hS.out]; rfl, Below.refl _ _⟩
    · have b1 : ¬ (k : Int) < nn := by omega
      have hS : Hid (M.smallTx l = true) := by
        have e : k = nn := by have := hk.out; omega
        have h := hk.out.2.2
        have hle := hk.out.2.1
        rw [Hid, M.smallTx, List.take_of_length_le (by rw [HNN.out, ← e]; exact hle)]
        rwa [List.take_of_length_le (by rw [HNN.out, ← e]; exact Nat.le_refl _)] at h
      clear hk hlt
      go_wp2
      go_ret
      exact ⟨by rw [hS.out]; rfl, Below.refl _ _⟩

theorem M.dnew_lit (n : Nat) (h : n ≤ 2176) : M.dnew n = M.lit (List.replicate n M.zero256) 0 := by rw [M.dnew, Nat.min_eq_left h]; rfl
theorem M.lit_crash (s : List (List UInt8)) (k : Nat) (kp : List Bool) : (M.lit s k).crash kp = M.lit s 0 := rfl
theorem M.lit_arm (s : List (List UInt8)) (k : Nat) (n : Int) : (M.lit s k).arm n = M.lit s n.toNat := rfl
theorem M.lit_ok {s : List (List UInt8)} {k : Nat} (h : (M.lit s k).Ok) (j : Nat) : (M.lit s j).Ok := ⟨h.few, h.full, fun c hc => by cases hc⟩

/-- Two changes built in place. -/
theorem isCL_two {w : World} {g : Nat} {t : TypeId} {d e : Value} {p q : Int} {x y : List UInt8} (h : Blk w g t [.int .i64 p, d, .int .i64 q, e]) (hd : IsB w d x) (he : IsB w e y) (nd : ∀ n c, d = .slice none n c → c = 0) (ne : ∀ n c, e = .slice none n c → c = 0)
    (hp : -9223372036854775808 ≤ p ∧ p < 9223372036854775808) (hq : -9223372036854775808 ≤ q ∧ q < 9223372036854775808) : IsCL w (.slice (some ⟨g, 0, none⟩) 2 2) [(p, x), (q, y)] [d, e] := by
  refine ⟨_, 2, rfl, Nat.le_refl _, by decide, rfl, fun i hi => ?_, .inr ⟨g, 0, rfl, fun i hi => ?_⟩⟩
  · match i, hi with
    | 0, _ => exact ⟨hd, nd, hp⟩
    | 1, _ => exact ⟨he, ne, hq⟩
  · match i, hi with
    | 0, _ => exact ⟨h.cell 0, h.cell 1⟩
    | 1, _ => exact ⟨h.cell 2, h.cell 3⟩

theorem isCL_one {w : World} {g : Nat} {t : TypeId} {d : Value} {p : Int} {x : List UInt8} (h : Blk w g t [.int .i64 p, d]) (hd : IsB w d x) (nd : ∀ n c, d = .slice none n c → c = 0)
    (hp : -9223372036854775808 ≤ p ∧ p < 9223372036854775808) : IsCL w (.slice (some ⟨g, 0, none⟩) 1 1) [(p, x)] [d] := by
  refine ⟨_, 1, rfl, Nat.le_refl _, by decide, rfl, fun i hi => ?_, .inr ⟨g, 0, rfl, fun i hi => ?_⟩⟩
  · match i, hi with
    | 0, _ => exact ⟨hd, nd, hp⟩
  · match i, hi with
    | 0, _ => exact ⟨h.cell 0, h.cell 1⟩

section
variable {Ld : World → Prop} {Wl : World → Nat → Nat → Prop} {O : M.Dsk → M.Dsk × Int} {C : M.Dsk → M.CL → M.Dsk × Int} {Clean : List (List UInt8) → Prop} {Rec : List (List UInt8) → List (List UInt8)}

/-- A new disk's journal, opened. -/
theorem open_new (W : WalCalls Ld Wl O C) (X : WalMath O C Clean Rec) {w0 w : World} {g : Nat} {K : World → Prop} {s : List (List UInt8)} (hL : Ld w0) (st : St w0 w g (M.lit s 0) K) (h42 : 42 < s.length) :
    Calls Tryd.prog 10 #[.pointer (some ⟨g, 0, none⟩)] w fun e w' => ∃ gw s', e = .returned (.tuple #[.pointer (some ⟨gw, 0, none⟩), .int .i64 0]) ∧ St w0 w' g (M.lit s' 0) (fun x => K x ∧ Wl x gw g) ∧ s'.length = s.length ∧ s'.drop 42 = Rec s ∧ Clean s' := by
  obtain ⟨s', e1, e2, e3, e4⟩ := X.opens s [] st.okay h42
  refine (st.open_ W hL h42 (by show 0 < 100000; decide)).mono ?_
  have hO : O (M.lit s 0) = (M.lit s' 0, 0) := e1
  rintro e w' (⟨h0, gw, he, t⟩ | ⟨h1, _, _⟩)
  · rw [hO] at t
    exact ⟨gw, s', he, t, e2, e3, e4⟩
  · rw [hO] at h1
    cases h1

set_option maxRecDepth 100000 in
set_option maxHeartbeats 8000000 in
theorem awake10_any (W : WalCalls Ld Wl O C) (X : WalMath O C Clean Rec) (w : World) (hL : Ld w) :
    Calls Tryd.prog 7 #[] w fun e w' => e = .returned (.bool true) ∧ Below w.heap.size w w' := by
  have HL := Lib.hid hL
  clear hL
  go_enter Tryd.func7, Tryd.ntmps7
  go_wp2_with fail
  refine (st_new (K := fun _ => True) 44 (by decide) (Below.refl _ w) (fun _ _ => trivial)).mono ?_
  rintro e w1 ⟨g, rfl, s1⟩
  obtain ⟨S, hS⟩ : ∃ S, S = List.replicate 44 M.zero256 := ⟨_, rfl⟩
  have SL : S.length = 44 := by rw [hS]; exact List.length_replicate
  have e1 : M.dnew (Int.toNat 44) = M.lit S 0 := by rw [hS]; exact M.dnew_lit 44 (by decide)
  rw [e1] at s1
  have S1 := Lib.hid s1
  have X1 := Lib.hid (open_new W X HL.out s1 (by rw [SL]; decide))
  clear s1 e1 hS
  go_wp2_with fail
  refine X1.out.mono ?_
  rintro e w2 ⟨gw, s', rfl, s2, l2, r2, c2⟩
  rw [SL] at l2
  have S2 := Lib.hid s2
  have L2 : Hid (s'.length = 44) := l2
  have C2 := Lib.hid c2
  clear S1 X1 s2 l2 r2 c2 SL
  go_wp2_with fail
  have k3 : Below w2.heap.size w2 (w2.alloc (.cells #[.int .u8 1] 5)) := (Below.refl _ _).alloc (Nat.le_refl _) _
  refine (full_any _ [1] _ (isB_one w2 5 1 1 rfl) (by intro n c e; cases e) (by decide)).mono ?_
  rintro e w3 ⟨v3, rfl, o3, k3'⟩
  have s3 := (S2.out.below k3).gain k3' (Gains.own (K := fun x => True ∧ Wl x gw g) o3 |>.mono (fun _ h => ⟨trivial, h.2⟩) (fun _ h => h))
  have N3 := Lib.hid o3.nil0
  obtain ⟨a3, p3, rfl⟩ := o3.shape'
  rw [M.full_length] at s3 N3 ⊢
  have S3 := Lib.hid s3
  clear k3 k3' o3 s3 S2
  go_wp2_with fail
  have k4 : Below w3.heap.size w3 (w3.alloc (.cells #[.int .u8 2] 5)) := (Below.refl _ _).alloc (Nat.le_refl _) _
  refine (full_any _ [2] _ (isB_one w3 5 2 2 rfl) (by intro n c e; cases e) (by decide)).mono ?_
  rintro e w4 ⟨v4, rfl, o4, k4'⟩
  have s4 := (S3.out.below k4).gain k4' (Gains.own o4)
  have N4 := Lib.hid o4.nil0
  obtain ⟨a4, p4, rfl⟩ := o4.shape'
  rw [M.full_length] at s4 N4 ⊢
  have S4 := Lib.hid s4
  clear k4 k4' o4 s4 S3
  obtain ⟨w5, hw5⟩ : ∃ x, Hid (x = w4.alloc (.cells #[.int .i64 0, .slice a3 256 p3, .int .i64 1, .slice a4 256 p4] 56)) := ⟨_, rfl⟩
  obtain ⟨p, hp⟩ : ∃ x, Hid (x = w4.heap.size) := ⟨_, rfl⟩
  have k5 : Below w4.heap.size w4 w5 := by rw [hw5.out]; exact (Below.refl _ _).alloc (Nat.le_refl _) _
  have b5 : Blk w5 p 56 [.int .i64 0, .slice a3 256 p3, .int .i64 1, .slice a4 256 p4] := by rw [hw5.out]; exact Blk.newAt _ _ _ _ _ hp.out rfl
  have s5 := S4.out.gain k5 (Gains.blk b5 (by rw [hp.out]; exact Nat.le_refl _))
  have S5 : Hid (St w w5 g (M.lit s' 0) (fun x => Wl x gw g ∧ IsCL x (.slice (some ⟨p, 0, none⟩) 2 2) [(0, M.full [1]), (1, M.full [2])] [.slice a3 256 p3, .slice a4 256 p4])) :=
    s5.mono fun x h => ⟨h.1.1.1.2, isCL_two h.2 h.1.1.2 h.1.2 N3.out N4.out (by decide) (by decide)⟩
  have hmay : M.May ((M.lit s' 0).safe.length - 42) [(0, M.full [1]), (1, M.full [2])] := by
    show M.May (s'.length - 42) _
    rw [L2.out]
    refine ⟨by decide, fun c hc => ?_⟩
    rcases List.mem_cons.1 hc with rfl | hc
    · exact ⟨by decide, by decide, M.full_length _⟩
    · rcases List.mem_cons.1 hc with rfl | hc
      · exact ⟨by decide, by decide, M.full_length _⟩
      · cases hc
  have CM := Lib.hid (S5.out.commit W HL.out (fun x h => h.1) (by show 42 < s'.length; rw [L2.out]; decide) (by show 0 < 100000; decide) _ _ _ (fun x h => h.2) hmay)
  have XM : Hid ((C (M.lit s' 0) [(0, M.full [1]), (1, M.full [2])]).2 = 0 ∧ ∃ s2 k2, (C (M.lit s' 0) [(0, M.full [1]), (1, M.full [2])]).1 = M.lit s2 k2 ∧ s2.length = 44 ∧ s2.getD 43 [] = M.full [2]) := by
    rcases X.commits s' 0 _ S5.out.okay (by rw [L2.out]; decide) C2.out hmay with ⟨h0, s2, k2, e1, _, e2, e3, _⟩ | ⟨_, hne, _⟩
    · refine ⟨h0, s2, k2, e1, by rw [e2, L2.out], ?_⟩
      have : (s2.drop 42).getD 1 [] = M.full [2] := by
        rw [e3]
        show (((s'.drop 42).set 0 (M.full [1])).set 1 (M.full [2])).getD 1 [] = M.full [2]
        rw [List.getD_eq_getElem?_getD, List.getElem?_set_self (by rw [List.length_set, List.length_drop, L2.out]; decide)]
        rfl
      rw [List.getD_eq_getElem?_getD, List.getElem?_drop] at this
      rw [List.getD_eq_getElem?_getD]
      exact this
    · exact absurd rfl hne
  obtain ⟨hC0, s2, k2, hC1, hL2, hG⟩ := XM
  rw [hC0, hC1] at CM
  have HL2 : Hid (s2.length = 44) := hL2
  have HG2 : Hid (s2.getD 43 [] = M.full [2]) := hG
  clear S4 hmay hC0 hC1 hL2 hG s5 b5 k5 S5 N3 N4 C2 L2
  go_wp2_with fail
  rw [← hw5.out, ← hp.out]
  clear hw5 hp
  refine CM.out.mono ?_
  rintro e w6 ⟨rfl, s6⟩
  have S6 := Lib.hid s6
  clear CM s6
  go_wp2_with fail
  refine (full_any _ [] _ (IsB.nil w6) (by intro n c e; cases e; rfl) (by decide)).mono ?_
  rintro e w7 ⟨v7, rfl, o7, k7⟩
  have s7 := S6.out.gain k7 (Gains.own o7)
  have N7 := Lib.hid o7.nil0
  obtain ⟨a7, p7, rfl⟩ := o7.shape'
  rw [M.full_length] at s7 N7 ⊢
  obtain ⟨w8, hw8⟩ : ∃ x, Hid (x = w7.alloc (.cells #[.int .i64 2, .slice a7 256 p7] 56)) := ⟨_, rfl⟩
  obtain ⟨p8, hp8⟩ : ∃ x, Hid (x = w7.heap.size) := ⟨_, rfl⟩
  have k8 : Below w7.heap.size w7 w8 := by rw [hw8.out]; exact (Below.refl _ _).alloc (Nat.le_refl _) _
  have b8 : Blk w8 p8 56 [.int .i64 2, .slice a7 256 p7] := by rw [hw8.out]; exact Blk.newAt _ _ _ _ _ hp8.out rfl
  have s8 := s7.gain k8 (Gains.blk b8 (by rw [hp8.out]; exact Nat.le_refl _))
  have S8 : Hid (St w w8 g (M.lit s2 k2) (fun x => Wl x gw g ∧ IsCL x (.slice (some ⟨p8, 0, none⟩) 1 1) [(2, M.full [])] [.slice a7 256 p7])) :=
    s8.mono fun x h => ⟨h.1.1.1, isCL_one h.2 h.1.2 N7.out (by decide)⟩
  have hno : ¬ M.May ((M.lit s2 k2).safe.length - 42) [(2, M.full [])] := by
    show ¬ M.May (s2.length - 42) _
    rw [HL2.out]
    intro h
    have := (h.2 _ (List.mem_cons_self ..)).2.1
    revert this
    decide
  have CN := Lib.hid (S8.out.commit_no W HL.out (fun h => h.1) (by show 42 < s2.length; rw [HL2.out]; decide) _ _ _ (fun h => h.2) hno (by show 1 ≤ 1000000; decide))
  clear S6 k7 o7 s7 k8 b8 s8 hno N7
  go_wp2_with fail
  rw [← hw8.out, ← hp8.out]
  clear hw8 hp8
  refine CN.out.mono ?_
  rintro e w9 ⟨rfl, k9⟩
  have S9 : Hid (St w w9 g (M.lit s2 k2) (fun x => Wl x gw g)) := (S8.out.below k9).mono fun x h => h.1
  clear CN S8 k9
  go_wp2_with fail
  refine (S9.out.crash (.slice none 0 0) [] (IsZ.nil w)).mono ?_
  rintro e w10 ⟨rfl, s10⟩
  rw [M.lit_crash] at s10
  have S10 := Lib.hid s10
  have RD := Lib.hid (s10.wread W (fun h => h) (by show 0 < 1000000; decide) 1 (by show 42 + 1 < s2.length; rw [HL2.out]; decide))
  have e10 : (M.lit s2 0).read (42 + 1) = M.full [2] := HG2.out
  rw [e10] at RD
  clear S9 s10 e10
  go_wp2_with fail
  refine RD.out.mono ?_
  rintro e w11 ⟨r, rfl, o11, k11⟩
  have S11 := Lib.hid (S10.out.below k11)
  obtain ⟨b, cap, rfl, hbw⟩ : ∃ b cap, r = .slice (some ⟨b, 0, none⟩) 256 cap ∧ w11.cell? ⟨b, 0, none⟩ = some (.int .u8 2) := by
    obtain ⟨ao, cap, rfl, hc1, hc2, hat⟩ := o11.isB
    obtain ⟨b, off, rfl, hc⟩ := hat.resolve_left (by intro e; have := M.full_length [2]; rw [e] at this; simp at this)
    obtain ⟨b', cap', e9, hB⟩ := o11.shape (by rw [M.full_length]; decide)
    injection e9 with e1 e2 e3
    injection e1 with e1
    injection e1 with e1 e4 e5
    subst e1 e4 e3
    rw [M.full_length]
    refine ⟨_, _, rfl, ?_⟩
    have := hc 0 (by rw [M.full_length]; omega)
    rw [Nat.add_zero] at this
    rw [this]
    rfl
  have BL := Lib.hid (S11.out.wblocks W (fun h => h) (by show 42 < s2.length; rw [HL2.out]; decide))
  have e11 : (((M.lit s2 0).safe.length - 42 : Nat) : Int) = 2 := by show ((s2.length - 42 : Nat) : Int) = 2; rw [HL2.out]; rfl
  rw [e11] at BL
  clear S10 RD o11 k11 e11
  go_wp2_with fail
  refine BL.out.mono ?_
  rintro e w12 ⟨rfl, k12⟩
  have K12 := (S11.out.below k12).under
  clear S11 BL k12
  go_wp2
  go_ret
  exact ⟨rfl, K12⟩

end

end Go.Proofs.YtlglkiknpbfnmaaDoor

namespace Go.Proofs.YtlglkiknpbfnmaaDoor
open Go.RowKit
set_option linter.unusedVariables false

/-- Two disks in memory of their own since w0, apart from each other, and what their calls leave alone. -/
def St2 (w0 w : World) (g : Nat) (m : M.Dsk) (h : Nat) (n : M.Dsk) (K : World → Prop) : Prop :=
  ∃ T S, CodeDk T w g m ∧ CodeDk S w h n ∧ (∀ k, T k → ¬ S k) ∧ (∀ k, T k → w0.heap.size ≤ k) ∧ (∀ k, S k → w0.heap.size ≤ k) ∧ Below w0.heap.size w0 w ∧ Keeps (fun k => T k ∨ S k) w K

section
variable {w0 w w' : World} {g h : Nat} {m m' n : M.Dsk} {K K' : World → Prop}

theorem Keeps.less {T S : Nat → Prop} (k : Keeps S w K) (h : ∀ j, T j → S j) : Keeps T w K := fun x c => k x (c.mono fun j _ hj => h j hj)

theorem St2.first (s : St2 w0 w g m h n K) : St w0 w g m K := by
  obtain ⟨T, S, d, e, p, t, u, b, k⟩ := s
  exact ⟨T, d, t, b, k.less fun _ h => .inl h⟩

theorem St2.swap (s : St2 w0 w g m h n K) : St2 w0 w h n g m K := by
  obtain ⟨T, S, d, e, p, t, u, b, k⟩ := s
  exact ⟨S, T, e, d, fun j a c => p j c a, u, t, b, k.less fun j h => h.symm⟩

theorem St2.below (s : St2 w0 w g m h n K) (c : Below w.heap.size w w') : St2 w0 w' g m h n K := by
  obtain ⟨T, S, d, e, p, t, u, b, k⟩ := s
  exact ⟨T, S, d.below c, e.below c, p, t, u, b.trans (c.mono b.size), k.below c⟩

theorem St2.mono (s : St2 w0 w g m h n K) (hK : ∀ x, K x → K' x) : St2 w0 w g m h n K' := by
  obtain ⟨T, S, d, e, p, t, u, b, k⟩ := s
  exact ⟨T, S, d, e, p, t, u, b, k.mono hK⟩

theorem St2.gain (s : St2 w0 w g m h n K) (c : Below w.heap.size w w') (gn : Gains w w' K K') : St2 w0 w' g m h n (fun x => K x ∧ K' x) := by
  obtain ⟨T, S, d, e, p, t, u, b, k⟩ := s
  exact ⟨T, S, d.below c, e.below c, p, t, u, b.trans (c.mono b.size), k.gain (fun j hj => by rcases hj with hj | hj; exact d.there j hj; exact e.there j hj) c gn⟩

/-- A second one beside the first. -/
theorem St.beside (s : St w0 w g m K) {S : Nat → Prop} (e : CodeDk S w' h n) (hs : ∀ k, S k → w.heap.size ≤ k) (c : Below w.heap.size w w') : St2 w0 w' g m h n K := by
  obtain ⟨T, d, t, b, k⟩ := s
  have hb := b.size
  refine ⟨T, S, d.below c, e, fun j a q => by have := d.there j a; have := hs j q; omega, t, fun j hj => by have := hs j hj; omega, b.trans (c.mono hb), fun x cx => k x ?_⟩
  exact (Chg.of_below c : Chg T w w').trans cx fun j hj q => by rcases q with q | q; exact q; have := hs j q; omega

theorem st2_new (s : St w0 w g m K) (q : Int) (hq : -9223372036854775808 ≤ q ∧ q < 9223372036854775808) :
    Calls Tryd.prog 9 #[.int .i64 q] w fun e w' => ∃ h, e = .returned (.pointer (some ⟨h, 0, none⟩)) ∧ St2 w0 w' g m h (M.dnew q.toNat) K :=
  (codeDk_new q hq w).mono fun e w' ⟨h, S, he, d, hs, c⟩ => ⟨h, he, s.beside d hs c⟩

/-- The first one's call. -/
theorem St2.op (s : St2 w0 w g m h n K) {f : Nat} {args : Array Value} {R : Ending → Prop}
    (call : ∀ T, CodeDk T w g m → (∀ k, T k → w0.heap.size ≤ k ∧ k < w.heap.size) → Keeps T w (fun x => K x ∧ Below w0.heap.size w0 x) →
      Calls Tryd.prog f args w fun e w' => R e ∧ Chg T w w' ∧ ∃ T', CodeDk T' w' g m' ∧ ∀ k, T' k → T k ∨ w.heap.size ≤ k) :
    Calls Tryd.prog f args w fun e w' => R e ∧ St2 w0 w' g m' h n K := by
  obtain ⟨T, S, d, e, p, t, u, b, k⟩ := s
  have hb := b.size
  refine (call T d (fun j hj => ⟨t j hj, d.there j hj⟩) ((k.less fun j h => .inl h).and fun x c => b.trans (c.below hb t))).mono ?_
  rintro e' w' ⟨r, c, T', d', ht⟩
  refine ⟨r, T', S, d', e.chg c (fun j a q => p j q a), fun j hj hs => ?_, fun j hj => ?_, u, b.trans (c.below hb t), k.next (c.mono fun j _ q => .inl q) fun j q => ?_⟩
  · rcases ht j hj with q | q
    · exact p j q hs
    · have := e.there j hs
      omega
  · rcases ht j hj with q | q
    · exact t j q
    · omega
  · rcases q with q | q
    · rcases ht j q with q | q
      · exact .inl (.inl q)
      · exact .inr q
    · exact .inl (.inr q)

end

section
variable {Ld : World → Prop} {Wl : World → Nat → Nat → Prop} {O : M.Dsk → M.Dsk × Int} {C : M.Dsk → M.CL → M.Dsk × Int} {Clean : List (List UInt8) → Prop} {Rec : List (List UInt8) → List (List UInt8)} {w0 w : World} {g h gw : Nat} {m n : M.Dsk} {K : World → Prop}

theorem St2.commit (W : WalCalls Ld Wl O C) (hL : Ld w0) (s : St2 w0 w g m h n K) (hk : ∀ x, K x → Wl x gw g) (h42 : 42 < m.safe.length) (hw : m.wait.length < 100000) (lv : Value) (l : M.CL) (xs : List Value) (hl : ∀ x, K x → IsCL x lv l xs) (hm : M.May (m.safe.length - 42) l) :
    Calls Tryd.prog 14 #[.pointer (some ⟨gw, 0, none⟩), lv] w fun e w' => e = .returned (.int .i64 (C m l).2) ∧ St2 w0 w' g (C m l).1 h n K :=
  s.op fun T d _ k => W.commit_yes d (k.mono fun x h => W.ld hL h.2) (k.mono fun x h => hk x h.1) h42 hw lv l xs (k.mono fun x h => hl x h.1) hm

/-- A new disk's journal beside another disk. -/
theorem St2.open_new (W : WalCalls Ld Wl O C) (X : WalMath O C Clean Rec) {s : List (List UInt8)} (hL : Ld w0) (st : St2 w0 w g (M.lit s 0) h n K) (h42 : 42 < s.length) :
    Calls Tryd.prog 10 #[.pointer (some ⟨g, 0, none⟩)] w fun e w' => ∃ gw s', e = .returned (.tuple #[.pointer (some ⟨gw, 0, none⟩), .int .i64 0]) ∧ St2 w0 w' g (M.lit s' 0) h n (fun x => K x ∧ Wl x gw g) ∧ s'.length = s.length ∧ s'.drop 42 = Rec s ∧ Clean s' := by
  have hok := st.first.okay
  obtain ⟨T, S, d, e, p, t, u, b, k⟩ := st
  have hb := b.size
  obtain ⟨s', e1, e2, e3, e4⟩ := X.opens s [] hok h42
  have hO : O (M.lit s 0) = (M.lit s' 0, 0) := e1
  refine (W.open_yes d (fun x c => W.ld hL (b.trans (c.below hb t))) h42 (by show 0 < 100000; decide)).mono ?_
  rintro e' w' ⟨c, T', d', ht, hh⟩
  rw [hO] at d' hh
  rcases hh with ⟨h0, gw, he, kw⟩ | ⟨h11, _⟩
  · refine ⟨gw, s', he, ⟨T', S, d', e.chg c (fun j a q => p j q a), fun j hj hs => ?_, fun j hj => ?_, u, b.trans (c.below hb t), (k.next (c.mono fun j _ q => .inl q) fun j q => ?_).and ?_⟩, e2, e3, e4⟩
    · rcases ht j hj with q | q
      · exact p j q hs
      · have := e.there j hs
        omega
    · rcases ht j hj with q | q
      · exact t j q
      · omega
    · rcases q with q | q
      · rcases ht j q with q | q
        · exact .inl (.inl q)
        · exact .inr q
      · exact .inl (.inr q)
    · exact kw _ fun j q => by
        rcases q with q | q
        · exact .inl q
        · exact .inr (.inl (e.there j q))
  · cases h11

end

theorem chcs_oneCell : ∀ (l : M.CL) (xs : List Value), (∀ u ∈ xs, u.oneCell' = true) → ∀ u ∈ chcs l xs, u.oneCell' = true
  | [], _, _, u, hu => by cases hu
  | _ :: _, [], _, u, hu => by cases hu
  | c :: l, x :: xs, h, u, hu => by
    rw [chcs] at hu
    rcases List.mem_cons.1 hu with rfl | hu
    · rfl
    · rcases List.mem_cons.1 hu with rfl | hu
      · exact h _ (List.mem_cons_self ..)
      · exact chcs_oneCell l xs (fun v hv => h v (List.mem_cons_of_mem _ hv)) u hu

theorem IsCL.cells {w : World} {ad : Addr} {n c : Nat} {l : M.CL} {xs : List Value} (h : IsCL w (.slice (some ad) n c) l xs) : (∀ j u, (chcs l xs)[j]? = some u → w.cell? (ad.add j) = some u) ∧ (∀ u ∈ chcs l xs, u.oneCell' = true) ∧ (chcs l xs).length = l.length * 2 := by
  obtain ⟨ao, cap, e, h1, h2, h3, h4, h5⟩ := h
  injection e with e1 e2 e3
  have hlen := chcs_length l xs h3
  refine ⟨fun j u hj => ?_, chcs_oneCell _ _ fun u hu => ?_, hlen⟩
  · have hlt := (List.getElem?_eq_some_iff.1 hj).1
    obtain ⟨b, off, rfl, hc⟩ := h5.resolve_left (fun e => by rw [hlen, e] at hlt; exact absurd hlt (by simp))
    injection e1 with e1
    subst e1
    have hi : j / 2 < l.length := by omega
    obtain ⟨c0, c1⟩ := hc _ hi
    obtain ⟨g0, g1⟩ := chcs_get l xs _ h3 hi
    rw [Addr.add_mid]
    by_cases hp : j % 2 = 0
    · have e : j = j / 2 * 2 := by omega
      rw [e, g0] at hj
      injection hj with hj
      rw [e, ← hj]
      exact c0
    · have e : j = j / 2 * 2 + 1 := by omega
      rw [e, g1] at hj
      injection hj with hj
      rw [e, ← hj, ← Nat.add_assoc]
      exact c1
  · obtain ⟨i, hi, rfl⟩ := List.mem_iff_getElem.1 hu
    obtain ⟨xa, xc, ex⟩ := (h4 i (by omega)).1.shape
    rw [List.getD_eq_getElem?_getD, List.getElem?_eq_getElem hi] at ex
    simp only [Option.getD_some] at ex
    rw [ex]
    rfl

/-- 'append(l, k...)' of changes. -/
theorem wpList_app_cl (w : World) {ops : Array Oper} {rest : List Oper} {o : Oper} {a : Act} {Q : Exit → Act → World → Prop} (hg : o.guard = none) (s x : Operand)
    (ho : o.op = .call { callee := .builtin .append, args := #[s, x], argTypes := #[38, 38] })
    (B : Nat) (v : Value) (l : M.CL) (xs : List Value) (hs : a.eval s = v) (hown : w.ownsRow B 56 2 v l.length (chcs l xs)) (hl : xs.length = l.length) (sv : Value) (k : M.CL) (ys : List Value) (hx : a.eval x = sv) (hi : IsCL w sv k ys)
    (hnil : ∀ n c, sv = .slice none n c → c = 0) (hm : l.length + k.length ≤ 1000000) (hB : B ≤ w.heap.size)
    (h : ∀ v' w', w'.ownsRow B 56 2 v' (l ++ k).length (chcs (l ++ k) (xs ++ ys)) → w.grownBy w' v.ownBlock → (v'.ownBlock = v.ownBlock ∨ v'.ownBlock = some w.heap.size) → wpList Tryd.prog ops Q rest (a.put o.dst v') w') : wpList Tryd.prog ops Q (o :: rest) a w := by
  have hi' := hi
  obtain ⟨ao, cap, rfl, h1, h2, h3, h4, h5⟩ := hi
  cases ao with
  | none =>
    have hk : k = [] := by
      rcases h5 with h | ⟨b, off, e, _⟩
      · exact h
      · cases e
    subst hk
    have hc := hnil _ _ rfl
    subst hc
    have hys : ys = [] := List.length_eq_zero_iff.1 h3
    subst hys
    obtain ⟨hu, hin, hz, h0⟩ := change10
    obtain ⟨i0, hi0, hz0, hz1, hz2⟩ := info_any hin
    refine wpList_append_own_none hg s x _ ho B 56 i0 2 hu hi0 v l.length _ hs hown hx (h _ _ ?_ (World.grownBy.refl _ _) (.inl rfl))
    rw [List.append_nil, List.append_nil]
    exact hown
  | some ad =>
    obtain ⟨hc, ho1, hlen⟩ := hi'.cells
    refine wpList_app_row change10 w hg s x ho B v l.length _ hs hown ad k.length cap (chcs k ys) hx hlen hc ho1 (by unfold maxLen; omega) (by omega) hB ?_
    intro v' w' o1 g1 a1
    refine h v' w' ?_ g1 a1
    rw [List.length_append, chcs_append _ _ _ _ hl]
    exact o1

theorem getD_app {α : Type} (l r : List α) (i : Nat) (d : α) : (l ++ r).getD i d = if i < l.length then l.getD i d else r.getD (i - l.length) d := by
  rw [List.getD_eq_getElem?_getD, List.getElem?_append]
  split
  · rw [List.getD_eq_getElem?_getD]
  · rw [List.getD_eq_getElem?_getD]

/-- Changes joined, as they last. -/
theorem cl_joined {w w' : World} {v lv kv : Value} {l k : M.CL} {xs ys : List Value} {B : Nat} (hB : w.heap.size ≤ B) (o : w'.ownsRow B 56 2 v (l ++ k).length (chcs (l ++ k) (xs ++ ys))) :
    Gains w w' (fun x => IsCL x lv l xs ∧ IsCL x kv k ys) (fun x => IsCL x v (l ++ k) (xs ++ ys)) := by
  rintro F x c hf ⟨⟨_, _, _, _, _, a3, a4, _⟩, _, _, _, _, _, b3, b4, _⟩
  have o' : x.ownsRow B 56 2 v (l ++ k).length (chcs (l ++ k) (xs ++ ys)) := own_chg o c fun b hb h => by
    have h1 := o.lt b hb
    have h2 := hf b h
    omega
  refine cl_of_row o' (by rw [List.length_append, List.length_append, a3, b3]) fun i hi => ?_
  rw [getD_app, getD_app, a3]
  rw [List.length_append] at hi
  by_cases hlt : i < l.length
  · rw [if_pos hlt, if_pos hlt]
    exact a4 i hlt
  · rw [if_neg hlt, if_neg hlt]
    exact b4 _ (by omega)

theorem OwnCL.nil0 {w : World} {B : Nat} {v : Value} {l : M.CL} {xs : List Value} (h : OwnCL w B v l xs) : ∀ n c, v = .slice none n c → c = 0 := by
  intro n c e
  rcases h.row.2 with ⟨e2, _⟩ | ⟨g, cap, cur, e2, _⟩
  · rw [e2] at e
    injection e with _ _ e
    exact e.symm
  · rw [e2] at e
    injection e with e
    cases e

end Go.Proofs.YtlglkiknpbfnmaaDoor
