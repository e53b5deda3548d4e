/-
  CONTRACT OF (*wal.Wal).may, with its closure and slices.ContainsFunc: whether changes may be committed. Conditions: the Wal, the disk and the list lie so.
-/
import Derived.Test.YtgmhfianpdhnmaaGreatDoorWalB
namespace Go.Proofs.YtgmhfianpdhnmaaGreatDoor
open Go.RowKit
set_option linter.unusedVariables false
set_option maxRecDepth 100000

/-- All changes fit. -/
def M.AllFit (n : Nat) (l : M.CL) : Prop := ∀ i, i < l.length → M.Fits n (l.getD i (0, []))
noncomputable instance (n : Nat) (l : M.CL) : Decidable (M.AllFit n l) := Classical.propDecidable _

theorem IsCL.below {w w' : World} {v : Value} {l : M.CL} {xs : List Value} (h : IsCL w v l xs) (k : Below w.heap.size w w') : IsCL w' v l xs := by
  obtain ⟨ao, cap, rfl, h1, h2, h3, h4, h5⟩ := h
  refine ⟨ao, cap, rfl, h1, h2, h3, fun i hi => ⟨(h4 i hi).1.below k, (h4 i hi).2⟩, ?_⟩
  rcases h5 with h | ⟨b, off, rfl, h⟩
  · exact .inl h
  · exact .inr ⟨b, off, rfl, fun i hi => ⟨(k.cell (p := ⟨b, off + i * 2, none⟩) (World.block_lt_of_cell? w _ (h i hi).1)).trans (h i hi).1, (k.cell (p := ⟨b, off + i * 2 + 1, none⟩) (World.block_lt_of_cell? w _ (h i hi).2)).trans (h i hi).2⟩⟩

section
variable {T : Nat → Prop} {gw g : Nat} {m : M.Dsk}

set_option maxHeartbeats 4000000 in
theorem may1_any {w : World} (hD : CodeDk T w g m) (hW : WalIs w gw g) (gb : Nat) (hb : w.cell? ⟨gb, 0, none⟩ = some (.pointer (some ⟨gw, 0, none⟩))) (p : Int) (xa : Option Addr) (yn xc : Nat) (bad : Bool) (hbad : bad = !decide (0 ≤ p ∧ p < (m.safe.length : Int) - 42 ∧ yn = 256)) :
    Calls Tryz.prog 99 #[.agg #[.int .i64 p, .slice xa yn xc], .pointer (some ⟨gb, 0, none⟩)] w fun e w' => e = .returned (.bool bad) ∧ Below w.heap.size w w' := by
  obtain ⟨G, hG⟩ : ∃ G, Hid (G = w.heap.size) := ⟨_, rfl⟩
  obtain ⟨W, hW2⟩ : ∃ W, Hid (W = w.alloc (.cells #[.int .i64 p, .slice xa yn xc] 140)) := ⟨_, rfl⟩
  have KW : Below w.heap.size w W := by rw [hW2.out]; exact (Below.refl _ _).alloc (Nat.le_refl _) _
  have BW : Blk W G 140 [.int .i64 p, .slice xa yn xc] := by rw [hW2.out]; exact Blk.newAt _ _ _ _ _ hG.out rfl
  have c0 : W.cell? ⟨G, 0, none⟩ = some (.int .i64 p) := BW.cell 0
  have c1 : W.cell? ⟨G, 1, none⟩ = some (.slice xa yn xc) := BW.cell 1
  have cb : W.cell? ⟨gb, 0, none⟩ = some (.pointer (some ⟨gw, 0, none⟩)) := (KW.cell (p := ⟨gb, 0, none⟩) (World.block_lt_of_cell? w _ hb)).trans hb
  have H := Lib.hid (whas10 (hD.below KW) (hW.below KW) p)
  have K := Lib.hid KW
  by_cases hp : 0 ≤ p ∧ p < (m.safe.length : Int) - 42
  · rw [decide_eq_true hp] at H
    by_cases h256 : yn = 256
    · have e : bad = false := by rw [hbad, decide_eq_true ⟨hp.1, hp.2, h256⟩]; rfl
      have t1 : ((yn : Int) != 256) = false := by rw [h256]; rfl
      subst e
      clear hD hW hb hp hbad h256 KW BW
      go_enter Tryz.func99, Tryz.ntmps99
      go_upto_region 1 with fail
      rw [← hG.out, ← hW2.out]
      go_wp2_with fail
      refine H.out.mono ?_
      rintro e w1 ⟨rfl, rfl⟩
      go_wp2
      go_ret
      exact ⟨rfl, K.out⟩
    · have e : bad = true := by rw [hbad, decide_eq_false (fun h => h256 h.2.2)]; rfl
      have t2 : ¬ (yn : Int) = 256 := by omega
      have t1 : ((yn : Int) != 256) = true := by simpa using t2
      subst e
      clear hD hW hb hp hbad h256 KW BW
      go_enter Tryz.func99, Tryz.ntmps99
      go_upto_region 1 with fail
      rw [← hG.out, ← hW2.out]
      go_wp2_with fail
      refine H.out.mono ?_
      rintro e w1 ⟨rfl, rfl⟩
      go_wp2
      go_ret
      exact ⟨rfl, K.out⟩
  · rw [decide_eq_false hp] at H
    have e : bad = true := by rw [hbad, decide_eq_false (fun h => hp ⟨h.1, h.2.1⟩)]; rfl
    subst e
    clear hD hW hb hp hbad KW BW
    go_enter Tryz.func99, Tryz.ntmps99
    go_upto_region 1 with fail
    rw [← hG.out, ← hW2.out]
    go_wp2_with fail
    refine H.out.mono ?_
    rintro e w1 ⟨rfl, rfl⟩
    go_wp2
    go_ret
    exact ⟨rfl, K.out⟩

set_option maxHeartbeats 4000000 in
theorem indexFunc10 {w : World} (hD : CodeDk T w g m) (h42 : 42 < m.safe.length) (hW : WalIs w gw g) (gb : Nat) (hb : w.cell? ⟨gb, 0, none⟩ = some (.pointer (some ⟨gw, 0, none⟩))) (lv : Value) (l : M.CL) (xs : List Value) (hl : IsCL w lv l xs) (h40 : l.length ≤ 1000) :
    Calls Tryz.prog 110 #[lv, .func (.func 99) #[] #[.pointer (some ⟨gb, 0, none⟩)]] w fun e w' =>
      ∃ r : Int, e = .returned (.int .i64 r) ∧ Hid (0 ≤ r ↔ ¬ M.AllFit (m.safe.length - 42) l) ∧ Below w.heap.size w w' := by
  obtain ⟨ao, cap, rfl⟩ := hl.shape
  obtain ⟨n, hn⟩ : ∃ n, n = l.length := ⟨_, rfl⟩
  rw [← hn] at hl h40 ⊢
  have HN : Hid (l.length = n) := hn.symm
  have D := Lib.hid hD
  have WI := Lib.hid hW
  have CB := Lib.hid hb
  have HL := Lib.hid hl
  have H40 := Lib.hid h40
  have H42 := Lib.hid h42
  clear hD hW hb hl h40 hn h42
  go_enter Tryz.func110, Tryz.ntmps110
  go_wp2
  go_loopw [8] (fun i wr => ∃ (j : Nat), i = .int .i64 (j : Int) ∧ Hid (j ≤ n ∧ ∀ i, i < j → M.Fits (m.safe.length - 42) (l.getD i (0, []))) ∧ Hid (Below w.heap.size w wr))
    (fun i _ => n - numOf i)
  case atStart => exact ⟨0, rfl, ⟨Nat.zero_le _, fun i hi => by omega⟩, Below.refl _ _⟩
  case round =>
    obtain ⟨wz, rfl⟩ : ∃ x, x = wr := ⟨_, rfl⟩
    obtain ⟨j, rfl, hj, kk⟩ := hrel
    by_cases hlt : j < n
    · have b1 : (j : Int) < (n : Int) := by omega
      have hjl : j < l.length := by rw [HN.out]; exact hlt
      have cl := HL.out
      obtain ⟨lb, lo, rfl⟩ := cl.caps.2.2.2 (fun e => by rw [e] at hjl; cases hjl)
      have ca := cl.at_ j hjl
      have cr := cl.row_ j hjl
      obtain ⟨p, hp⟩ : ∃ p, p = (l.getD j (0, [])).1 := ⟨_, rfl⟩
      obtain ⟨y, hy⟩ : ∃ p, p = (l.getD j (0, [])).2 := ⟨_, rfl⟩
      obtain ⟨xv, hx⟩ : ∃ p, p = xs.getD j undef := ⟨_, rfl⟩
      rw [← hp, ← hx] at ca
      rw [← hx, ← hy] at cr
      obtain ⟨xa, xc, ex⟩ := cr.1.shape
      obtain ⟨yn, hyn⟩ : ∃ n, n = y.length := ⟨_, rfl⟩
      rw [← hyn] at ex
      subst ex
      have c0 : wz.cell? ⟨lb, lo + j * 2, none⟩ = some (.int .i64 p) := (kk.out.cell (p := ⟨lb, lo + j * 2, none⟩) (World.block_lt_of_cell? w _ ca.1)).trans ca.1
      have c1 : wz.cell? ⟨lb, lo + j * 2 + 1, none⟩ = some (.slice xa yn xc) := (kk.out.cell (p := ⟨lb, lo + j * 2 + 1, none⟩) (World.block_lt_of_cell? w _ ca.2)).trans ca.2
      have HF : Hid (M.Fits (m.safe.length - 42) (l.getD j (0, [])) ↔ 0 ≤ p ∧ p < (m.safe.length : Int) - 42 ∧ yn = 256) := by
        rw [Hid, M.Fits, hp, hyn, hy, show ((m.safe.length - 42 : Nat) : Int) = (m.safe.length : Int) - 42 by have := H42.out; omega]
      obtain ⟨bad, hbad⟩ : ∃ b, b = !decide (0 ≤ p ∧ p < (m.safe.length : Int) - 42 ∧ yn = 256) := ⟨_, rfl⟩
      have CM := Lib.hid (may1_any (D.out.below kk.out) (WI.out.below kk.out) gb ((kk.out.cell (p := ⟨gb, 0, none⟩) (World.block_lt_of_cell? w _ CB.out)).trans CB.out) p xa yn xc bad hbad)
      have HB := Lib.hid hbad
      have HJ := Lib.hid hlt
      have g2 : (0 : Int) ≤ (j : Int) := Int.natCast_nonneg j
      have g3 : ((j : Int)).toNat = j := Int.toNat_natCast j
      clear ca cr hp hy hx hyn cl hjl hlt hbad
      cases bad with
      | true =>
        have HNO : Hid (¬ M.AllFit (m.safe.length - 42) l) := fun h => by
          have h1 := HF.out.1 (h j (by rw [HN.out]; exact HJ.out))
          have h2 := HB.out
          rw [decide_eq_true h1] at h2
          cases h2
        go_wp2_with fail
        refine CM.out.mono ?_
        rintro e w1 ⟨rfl, k1⟩
        have K1 : Hid (Below w.heap.size w w1) := kk.out.trans (k1.mono kk.out.size)
        clear CM k1 kk hj
        go_wp2
        go_ret
        exact ⟨_, rfl, iff_of_true (Int.natCast_nonneg j) HNO.out, K1.out⟩
      | false =>
        have HY : Hid (M.Fits (m.safe.length - 42) (l.getD j (0, []))) := HF.out.2 (of_decide_eq_true (by have := HB.out; simpa using this.symm))
        have n3 : wrap64 ((j : Int) + 1) = ((j + 1 : Nat) : Int) := by have := HJ.out; have := H40.out; unfold wrap64; omega
        have N3 := Lib.hid n3
        have HJ2 : Hid (j + 1 ≤ n ∧ ∀ i, i < j + 1 → M.Fits (m.safe.length - 42) (l.getD i (0, []))) := ⟨HJ.out, fun i hi => by
          by_cases e : i = j
          · rw [e]; exact HY.out
          · exact hj.out.2 i (by omega)⟩
        clear n3 hj
        go_wp2_with fail
        refine CM.out.mono ?_
        rintro e w1 ⟨rfl, k1⟩
        have K1 : Hid (Below w.heap.size w w1) := kk.out.trans (k1.mono kk.out.size)
        clear CM k1 kk
        go_wp2
        go_roundw
        case rel => exact ⟨j + 1, by first | rw [N3.out] | rfl, HJ2.out, K1⟩
        case measure =>
          first | rw [N3.out] | skip
          exact step_down HJ.out
    · have b1 : ¬ (j : Int) < (n : Int) := by omega
      have e : j = n := by have := hj.out.1; omega
      have HA : Hid (M.AllFit (m.safe.length - 42) l) := fun i hi => hj.out.2 i (by rw [e, ← HN.out]; exact hi)
      clear e hlt hj
      go_wp2
      go_ret
      exact ⟨-1, rfl, iff_of_false (by omega) (fun h => h HA.out), kk.out⟩

set_option maxHeartbeats 4000000 in
theorem containsFunc10 {w : World} (hD : CodeDk T w g m) (h42 : 42 < m.safe.length) (hW : WalIs w gw g) (gb : Nat) (hb : w.cell? ⟨gb, 0, none⟩ = some (.pointer (some ⟨gw, 0, none⟩))) (lv : Value) (l : M.CL) (xs : List Value) (hl : IsCL w lv l xs) (h40 : l.length ≤ 1000)
    (b : Bool) (hbb : b = !decide (M.AllFit (m.safe.length - 42) l)) :
    Calls Tryz.prog 98 #[lv, .func (.func 99) #[] #[.pointer (some ⟨gb, 0, none⟩)]] w fun e w' =>
      e = .returned (.bool b) ∧ Below w.heap.size w w' := by
  have C := Lib.hid (indexFunc10 hD h42 hW gb hb lv l xs hl h40)
  have HBB := Lib.hid hbb
  obtain ⟨ao, cap, rfl⟩ := hl.shape
  clear hD h42 hW hb hl h40 hbb
  go_enter Tryz.func98, Tryz.ntmps98
  go_wp2_with fail
  refine C.out.mono ?_
  rintro e w1 ⟨r, rfl, hr, k1⟩
  have K1 := Lib.hid k1
  have e1 : decide (0 ≤ r) = b := by
    rw [HBB.out]
    by_cases h : M.AllFit (m.safe.length - 42) l
    · rw [decide_eq_true h, decide_eq_false fun h0 => hr.out.1 h0 h]; rfl
    · rw [decide_eq_false h, decide_eq_true (hr.out.2 h)]; rfl
  have E1 := Lib.hid e1
  clear C k1 hr e1
  go_wp2
  go_ret
  exact ⟨by first | rfl | (show Ending.returned (.bool (decide (0 ≤ r))) = _; rw [E1.out]), K1.out⟩

set_option maxHeartbeats 4000000 in
theorem wmay_any {w : World} (hD : CodeDk T w g m) (h42 : 42 < m.safe.length) (hW : WalIs w gw g) (lv : Value) (l : M.CL) (xs : List Value) (hl : IsCL w lv l xs) (ok : Bool) (hok : ok = decide (M.May (m.safe.length - 42) l)) :
    Calls Tryz.prog 84 #[.pointer (some ⟨gw, 0, none⟩), lv] w fun e w' => e = .returned (.bool ok) ∧ Below w.heap.size w w' := by
  have hmf : ∀ (fn : Fn) (first cap : Array Value) (w : World), (Instr.makeFunc fn first cap).run Tryz.prog w = .ok (.func fn first cap) w := fun _ _ _ _ => rfl
  obtain ⟨G, hG⟩ : ∃ G, Hid (G = w.heap.size) := ⟨_, rfl⟩
  obtain ⟨W, hW2⟩ : ∃ W, Hid (W = w.alloc (.cells #[.pointer (some ⟨gw, 0, none⟩)] 61)) := ⟨_, rfl⟩
  have KW : Below w.heap.size w W := by rw [hW2.out]; exact (Below.refl _ _).alloc (Nat.le_refl _) _
  have BW : Blk W G 61 [.pointer (some ⟨gw, 0, none⟩)] := by rw [hW2.out]; exact Blk.newAt _ _ _ _ _ hG.out rfl
  obtain ⟨ao, cap, rfl⟩ := hl.shape
  obtain ⟨n, hn⟩ : ∃ n, n = l.length := ⟨_, rfl⟩
  have hlW := hl.below KW
  have K := Lib.hid KW
  by_cases h40 : n ≤ 40
  · obtain ⟨b, hb⟩ : ∃ b, b = !decide (M.AllFit (m.safe.length - 42) l) := ⟨_, rfl⟩
    have C := Lib.hid (containsFunc10 (hD.below KW) h42 (hW.below KW) G (BW.cell 0) _ l xs hlW (by omega) b hb)
    have e1 : (!b) = ok := by
      rw [hok, hb, Bool.not_not]
      congr 1
      rw [M.may_iff]
      exact propext ⟨fun h => ⟨by omega, h⟩, fun h => h.2⟩
    have E1 := Lib.hid e1
    have b1 : (n : Int) ≤ 40 := by omega
    rw [← hn] at C ⊢
    clear hD h42 hW hl hok KW BW hlW hb e1 h40 hn
    go_enter Tryz.func84, Tryz.ntmps84
    go_upto_region 1 with fail
    rw [← hG.out, ← hW2.out]
    go_wp2_with fail
    refine C.out.mono ?_
    rintro e w1 ⟨rfl, k1⟩
    have K1 := Lib.hid (K.out.trans (k1.mono K.out.size))
    clear C k1
    go_wp2
    go_ret
    exact ⟨by first | rfl | (show Ending.returned (.bool (!b)) = _; rw [E1.out]) | (rw [← E1.out]; rfl), K1.out⟩
  · have e1 : ok = false := by rw [hok]; exact decide_eq_false fun h => h40 (by have := h.1; omega)
    subst e1
    have b1 : ¬ (n : Int) ≤ 40 := by omega
    rw [← hn]
    clear hD h42 hW hl hok KW BW hlW h40 hn
    go_enter Tryz.func84, Tryz.ntmps84
    go_upto_region 1 with fail
    rw [← hG.out, ← hW2.out]
    go_wp2
    go_ret
    exact ⟨rfl, K.out⟩

end

end Go.Proofs.YtgmhfianpdhnmaaGreatDoor
