/-
  orloplaw10.WalPlain, under the journal's face: it returns true. Conditions: WalCalls, WalMath (proved of the code elsewhere).
-/
import Derived.Test.YtlglkiknpbfnmaaDoorLawWTwiceWalk
namespace Go.Proofs.YtlglkiknpbfnmaaDoor
open Go.RowKit
set_option linter.unusedVariables false

namespace M
theorem shows_idle (s : List (List UInt8)) (c : List (Nat × List UInt8)) : (idle s c).shows = (laid s c).drop 42 := by
  apply List.ext_getElem
  · rw [shows_len, List.length_drop, laid_len]; rfl
  · intro i h1 h2
    have h3 : 42 + i < s.length := by rw [List.length_drop, laid_len] at h2; omega
    have h4 : 42 + i < (laid s c).length := by rw [laid_len]; exact h3
    have e : (idle s c).read (42 + i) = (laid s c).getD (42 + i) [] := by rw [laid_get _ _ _ h3]; rfl
    rw [List.getElem_drop]
    simp only [Dsk.shows, List.getElem_map, List.getElem_range, e, List.getD_eq_getElem?_getD, List.getElem?_eq_getElem h4, Option.getD_some]

theorem laid_add (s : List (List UInt8)) (c : List (Nat × List UInt8)) (i : Nat) (b : List UInt8) : (laid s (c ++ [(42 + i, b)])).drop 42 = ((laid s c).drop 42).set i b := by
  rw [laid_snoc]
  apply List.ext_getElem?
  intro j
  rw [List.getElem?_drop, List.getElem?_set, List.getElem?_set, List.getElem?_drop, List.length_drop]
  by_cases h : i = j
  · subst h
    rw [if_pos rfl, if_pos rfl]
    by_cases h2 : 42 + i < (laid s c).length
    · rw [if_pos h2, if_pos (by omega)]
    · rw [if_neg h2, if_neg (by omega)]
  · rw [if_neg h, if_neg (by omega)]

theorem may_one (n : Nat) (c : Int × List UInt8) : May n [c] ↔ Fits n c := by
  constructor
  · intro h; exact h.2 c (List.mem_cons_self ..)
  · intro h; exact ⟨by show 1 ≤ 40; decide, fun d hd => by rcases List.mem_cons.1 hd with rfl | hd; exact h; cases hd⟩
end M

theorem IsCL.at_ {w : World} {b off n cap : Nat} {l : M.CL} {xs : List Value} (h : IsCL w (.slice (some ⟨b, off, none⟩) n cap) l xs) (i : Nat) (hi : i < l.length) :
    w.cell? ⟨b, off + i * 2, none⟩ = some (.int .i64 (l.getD i (0, [])).1) ∧ w.cell? ⟨b, off + i * 2 + 1, none⟩ = some (xs.getD i undef) := by
  obtain ⟨ao, c, e, h1, h2, h3, h4, h5⟩ := h
  injection e with e1 e2 e3
  obtain ⟨b', off', e', hc⟩ := h5.resolve_left (fun e => by rw [e] at hi; cases hi)
  rw [← e1] at e'
  injection e' with e'
  injection e' with a1 a2 a3
  subst a1 a2
  exact hc i hi

theorem IsCL.row_ {w : World} {v : Value} {l : M.CL} {xs : List Value} (h : IsCL w v l xs) (i : Nat) (hi : i < l.length) :
    IsB w (xs.getD i undef) (l.getD i (0, [])).2 ∧ (∀ n c, xs.getD i undef = .slice none n c → c = 0) ∧ -9223372036854775808 ≤ (l.getD i (0, [])).1 ∧ (l.getD i (0, [])).1 < 9223372036854775808 := by
  obtain ⟨ao, c, e, h1, h2, h3, h4, h5⟩ := h
  exact h4 i hi

theorem IsCL.caps {w : World} {ao : Option Addr} {n cap : Nat} {l : M.CL} {xs : List Value} (h : IsCL w (.slice ao n cap) l xs) : n = l.length ∧ n ≤ cap ∧ cap ≤ maxLen ∧ (l ≠ [] → ∃ b off, ao = some ⟨b, off, none⟩) := by
  obtain ⟨ao', c, e, h1, h2, h3, h4, h5⟩ := h
  injection e with e1 e2 e3
  subst e1 e3
  refine ⟨e2, by omega, h2, fun hn => ?_⟩
  rcases h5 with h | ⟨b, off, e, _⟩
  · exact absurd h hn
  · exact ⟨b, off, e⟩

/-- One change of a list, as a list. -/
theorem IsCL.one {w : World} {b off n cap : Nat} {l : M.CL} {xs : List Value} (h : IsCL w (.slice (some ⟨b, off, none⟩) n cap) l xs) (i : Nat) (hi : i < l.length) (c : Nat) (hc1 : 1 ≤ c) (hc2 : c ≤ maxLen) :
    IsCL w (.slice (some ⟨b, off + i * 2, none⟩) 1 c) [l.getD i (0, [])] [xs.getD i undef] := by
  refine ⟨_, c, rfl, hc1, hc2, rfl, fun j hj => ?_, .inr ⟨b, off + i * 2, rfl, fun j hj => ?_⟩⟩
  · match j, hj with
    | 0, _ => exact h.row_ i hi
  · match j, hj with
    | 0, _ => exact h.at_ i hi

theorem step_down {N j : Nat} (h : j < N) : N - (((j + 1 : Nat) : Int)).toNat < N - ((j : Int)).toNat := by
  rw [Int.toNat_natCast, Int.toNat_natCast]
  omega

section
variable {Ld : World → Prop} {Wl : World → Nat → Nat → Prop} {O : M.Dsk → M.Dsk × Int} {C : M.Dsk → M.CL → M.Dsk × Int} {Clean : List (List UInt8) → Prop} {Rec : List (List UInt8) → List (List UInt8)}

set_option maxRecDepth 100000 in
set_option maxHeartbeats 16000000 in
theorem wplain_walk (W : WalCalls Ld Wl O C) (X : WalMath O C Clean Rec) (w : World) (hL : Ld w) (tv : Value) (l : List M.Tx) (ht : IsTxs w tv l) (sy : Bool) :
    Calls Tryd.prog 5 #[tv, .bool sy] w fun e w' => e = .returned (.bool true) ∧ Below w.heap.size w w' := by
  have HL := Lib.hid hL
  have SM := Lib.hid (fun w1 (k : Below w.heap.size w w1) => small10_any tv l w1 (ht.below k))
  obtain ⟨ta, tc, rfl, h1, h2, h3⟩ := ht
  obtain ⟨nn, hnn⟩ : ∃ n, n = l.length := ⟨_, rfl⟩
  rw [← hnn] at SM h1 ⊢
  have HNN : Hid (l.length = nn) := hnn.symm
  have HMX : Hid (nn ≤ maxLen) := Nat.le_trans h1 h2
  have HT := Lib.hid h3
  clear hL h1 h2 h3 hnn
  go_enter Tryd.func5, Tryd.ntmps5
  go_wp2_with fail
  refine (awake10_any W X w HL.out).mono ?_
  rintro e w1 ⟨rfl, k1⟩
  have K1 := Lib.hid k1
  clear k1
  obtain ⟨sm, hsm⟩ : ∃ b, b = M.smallTx l := ⟨_, rfl⟩
  rw [← hsm] at SM
  have HSM := Lib.hid hsm
  clear hsm
  cases sm with
  | false =>
    go_wp2_with fail
    refine (SM.out w1 K1.out).mono ?_
    rintro e w2 ⟨rfl, k2⟩
    have K2 := K1.out.trans (k2.mono K1.out.size)
    clear k2
    go_wp2
    go_ret
    exact ⟨rfl, K2⟩
  | true =>
    go_wp2_with fail
    refine (SM.out w1 K1.out).mono ?_
    rintro e w2 ⟨rfl, k2⟩
    have K2 := Lib.hid (K1.out.trans (k2.mono K1.out.size))
    clear k2 K1 SM
    go_wp2_with fail
    refine (st_new (w0 := w) (K := fun _ => True) 50 (by decide) K2.out (fun _ _ => trivial)).mono ?_
    rintro e w3 ⟨g, rfl, s3⟩
    obtain ⟨S, hS⟩ : ∃ S, S = List.replicate 50 M.zero256 := ⟨_, rfl⟩
    have SL : Hid (S.length = 50) := by rw [Hid, hS]; exact List.length_replicate
    have e3 : M.dnew (Int.toNat 50) = M.lit S 0 := by rw [hS]; exact M.dnew_lit 50 (by decide)
    rw [e3] at s3
    have S3 := Lib.hid s3
    clear s3 e3 hS K2
    go_wp2_with fail
    refine (open_new W X HL.out S3.out (by rw [SL.out]; decide)).mono ?_
    rintro e w4 ⟨gw, s', rfl, s4, l4, r4, c4⟩
    have S4 : Hid (St w w4 g (M.idle s' []) (fun x => Wl x gw g)) := s4.mono fun x h => h.2
    have L4 : Hid (s'.length = 50) := l4.trans SL.out
    have SE := Lib.hid (seen10_any W S4.out (fun x h => h) (by show 42 < s'.length; rw [L4.out]; decide) (by show 0 < 1000000; decide))
    rw [M.shows_idle] at SE
    clear S3 s4 l4 r4 c4 SL
    go_wp2_with fail
    refine SE.out.mono ?_
    rintro e w5 ⟨v5, r5, rfl, o5, k5⟩
    have S5 : Hid (St w w5 g (M.idle s' []) (fun x => Wl x gw g ∧ IsLL x v5 ((M.laid s' []).drop 42) r5)) := S4.out.gain k5 o5.gains
    clear SE S4 o5 k5
    go_wp2
    go_loopw [8, 9] (fun v i wr => ∃ (k : Nat) (c : List (Nat × List UInt8)) (rows : List Value), i = .int .i64 (k : Int) ∧ Hid (k ≤ nn ∧ k ≤ 12) ∧ Hid (c.length ≤ 40 * k) ∧ Hid (St w wr g (M.idle s' c) (fun x => Wl x gw g ∧ IsLL x v ((M.laid s' c).drop 42) rows)))
      (fun v i _ => 12 - numOf i)
    case atStart => exact ⟨0, [], r5, rfl, ⟨Nat.zero_le _, Nat.zero_le _⟩, Nat.zero_le _, S5⟩
    case round =>
      clear S5
      obtain ⟨wz, rfl⟩ : ∃ x, x = wr := ⟨_, rfl⟩
      obtain ⟨v8, rfl⟩ : ∃ x, x = u8 := ⟨_, rfl⟩
      obtain ⟨k, c, rows, rfl, hk, hc, st⟩ := hrel
      by_cases hlt : k < nn
      · have b1 : (k : Int) < (nn : Int) := by omega
        by_cases h12 : k < 12
        · have b2 : (k : Int) < 12 := by omega
          obtain ⟨tb, tf, rfl, hcell⟩ := HT.out.resolve_left (fun e => by have := HNN.out; rw [e] at this; simp at this; omega)
          obtain ⟨cs, hcs, hcc⟩ := hcell k (by rw [HNN.out]; exact hlt)
          have HSMK := Lib.hid (M.smallTx_get l HSM.out.symm k (by rw [HNN.out]; exact hlt) h12)
          obtain ⟨t, htx⟩ : ∃ t, t = l.getD k M.Tx.none := ⟨_, rfl⟩
          rw [← htx] at hcs HSMK
          obtain ⟨ao, ac, an, a1, a2, a3, a4, a5, a6, a7, a8, a9, ax, ay, rfl⟩ : ∃ ao ac n yo yc yn f ko kc kn g jo jc jn, cs = [.slice ao n ac, .slice yo yn yc, .int .i64 f, .slice ko kn kc, .int .i64 g, .slice jo jn jc] := by
            obtain ⟨bo, bc, yo, yc, ko, kc, jo, jc, rfl, _⟩ := hcs
            exact ⟨_, _, _, _, _, _, _, _, _, _, _, _, _, _, rfl⟩
          have R : Hid (wz.rangeAt tb (tf + k * 6) [.slice ao an ac, .slice a1 a3 a2, .int .i64 a4, .slice a5 a7 a6, .int .i64 a8, .slice a9 ay ax]) := fun j v hj => by
            have hj6 : j < 6 := (List.getElem?_eq_some_iff.1 hj).1
            have h := hcc j hj6
            rw [List.getD_eq_getElem?_getD, hj] at h
            exact (st.out.under.cell (p := ⟨tb, tf + k * 6 + j, none⟩) (World.block_lt_of_cell? w _ h)).trans h
          have XC := Lib.hid (changes10_any _ t wz (hcs.below st.out.under) HSMK.out.1)
          have g2 : (0 : Int) ≤ (k : Int) := Int.natCast_nonneg k
          have g3 : ((k : Int)).toNat = k := Int.toNat_natCast k
          have HLT : Hid (k < nn ∧ k < 12) := ⟨hlt, h12⟩
          obtain ⟨q, hq⟩ : ∃ q, q = t.changes := ⟨_, rfl⟩
          have HQL : Hid (q.length ≤ 60) := by rw [Hid, hq, M.Tx.changes, List.length_map, List.length_range]; exact HSMK.out.1
          rw [← hq] at XC
          clear hcell hcs hcc htx hq hlt h12 HSMK
          go_wp2_with (refine wpList_load_mid rfl 37 (.tmp 44) rfl tb (tf + k * 6) rfl _ _ R.out Tryd.underlying37 rfl (by kernel_rfl) ?_)
          refine XC.out.mono ?_
          rintro e w6 ⟨lv, xs, rfl, o6, k6⟩
          have S6 : Hid (St w w6 g (M.idle s' c) (fun x => (Wl x gw g ∧ IsLL x v8 ((M.laid s' c).drop 42) rows) ∧ IsCL x lv q xs)) := st.out.gain k6 o6.gains
          obtain ⟨la, lc, elv⟩ := S6.out.now.2.shape
          obtain ⟨qn, hqn⟩ : ∃ n, n = q.length := ⟨_, rfl⟩
          rw [← hqn] at elv HQL
          subst elv
          have HQN := Lib.hid hqn
          clear XC st o6 k6 R hqn g2 g3
          go_wp2
          go_loopw [8, 11] (fun v i wr => ∃ (j : Nat) (c : List (Nat × List UInt8)) (rows : List Value), i = .int .i64 (j : Int) ∧ Hid (j ≤ qn ∧ j ≤ 40) ∧ Hid (c.length ≤ 40 * k + j) ∧ Hid (St w wr g (M.idle s' c) (fun x => (Wl x gw g ∧ IsLL x v ((M.laid s' c).drop 42) rows) ∧ IsCL x (.slice la qn lc) q xs)))
            (fun v i _ => 40 - numOf i)
          case atStart => exact ⟨0, c, rows, rfl, ⟨Nat.zero_le _, Nat.zero_le _⟩, by rw [Hid, Nat.add_zero]; exact hc.out, S6⟩
          case round =>
            clear S6 hc
            obtain ⟨wy, rfl⟩ : ∃ x, x = wr := ⟨_, rfl⟩
            obtain ⟨v7, rfl⟩ : ∃ x, x = u8 := ⟨_, rfl⟩
            obtain ⟨j, c, rows, rfl, hj, hc, st⟩ := hrel
            by_cases hlt : j < qn
            · have b1' : (j : Int) < (qn : Int) := by omega
              by_cases h40 : j < 40
              · have b2' : (j : Int) < 40 := by omega
                have hjq : j < q.length := by rw [← HQN.out]; exact hlt
                have cp := st.out.now.2.caps
                obtain ⟨lb, lo, rfl⟩ := cp.2.2.2 (fun e => by rw [e] at hjq; cases hjq)
                have hrw := st.out.now.2.row_ j hjq
                have HAT : Hid (∀ x, IsCL x (.slice (some ⟨lb, lo, none⟩) qn lc) q xs → x.cell? ⟨lb, lo + j * 2, none⟩ = some (.int .i64 (q.getD j (0, [])).1) ∧ x.cell? ⟨lb, lo + j * 2 + 1, none⟩ = some (xs.getD j undef)) := fun x h => h.at_ j hjq
                obtain ⟨cr, hcr⟩ : ∃ c, c = lc - j := ⟨_, rfl⟩
                have hcr1 : 1 ≤ cr ∧ cr ≤ maxLen := ⟨by have := cp.2.1; omega, by have := cp.2.2.1; omega⟩
                have HONE : Hid (∀ x, IsCL x (.slice (some ⟨lb, lo, none⟩) qn lc) q xs → IsCL x (.slice (some ⟨lb, lo + j * 2, none⟩) 1 cr) [q.getD j (0, [])] [xs.getD j undef]) := fun x h => h.one j hjq cr hcr1.1 hcr1.2
                have HIB : Hid (∀ x, IsCL x (.slice (some ⟨lb, lo, none⟩) qn lc) q xs → IsB x (xs.getD j undef) (q.getD j (0, [])).2) := fun x h => (h.row_ j hjq).1
                obtain ⟨p, hp⟩ : ∃ p, p = (q.getD j (0, [])).1 := ⟨_, rfl⟩
                obtain ⟨y, hy⟩ : ∃ y, y = (q.getD j (0, [])).2 := ⟨_, rfl⟩
                have hpy : q.getD j (0, []) = (p, y) := by rw [hp, hy]
                rw [hpy] at HAT HONE HIB hrw
                obtain ⟨x, hx⟩ : ∃ x, x = xs.getD j undef := ⟨_, rfl⟩
                rw [← hx] at HAT HONE HIB
                have HR : Hid (-9223372036854775808 ≤ p ∧ p < 9223372036854775808) := hrw.2.2
                have HCB : Hid (c.length < 100000 ∧ c.length < 1000000 ∧ c.length ≤ 40 * k + (j + 1) ∧ c.length + 1 ≤ 40 * k + (j + 1)) := by
                  have h1 := hc.out
                  have h2 := HLT.out
                  exact ⟨by omega, by omega, by omega, by omega⟩
                obtain ⟨j1, hj1⟩ : ∃ j1, j1 = j + 1 := ⟨_, rfl⟩
                have a1' : (0 : Int) ≤ (j : Int) := Int.natCast_nonneg j
                have a2' : (j : Int) ≤ (j1 : Int) := by omega
                have a3' : (j1 : Int) ≤ (lc : Int) := by have := cp.2.1; omega
                have a4' : ((j : Int)).toNat = j := Int.toNat_natCast j
                have a5' : ((j1 : Int)).toNat = j1 := Int.toNat_natCast j1
                have a6' : j1 - j = 1 := by omega
                have a7' : (j1 : Int) - (j : Int) = 1 := by omega
                have a8' : lc - j = cr := hcr.symm
                have a9' : ¬ lc = j := by have := cp.2.1; omega
                have aa' : (j : Int) + 1 = (j1 : Int) := by omega
                have HJ : Hid (j < qn ∧ j < 40) := ⟨hlt, h40⟩
                have HJ1 := Lib.hid hj1
                have ab' : wrap64 (j1 : Int) = (j1 : Int) := by unfold wrap64; omega
                have AB := Lib.hid ab'
                have st0 := st.out.below (drewN_below (Below.refl _ wy) 1)
                have ST0 : Hid (St w wy.drew g (M.idle s' c) (fun x => (Wl x gw g ∧ IsLL x v7 ((M.laid s' c).drop 42) rows) ∧ IsCL x (.slice (some ⟨lb, lo, none⟩) qn lc) q xs)) := st0
                clear hjq cp hrw hcr hcr1 hp hy hpy hx hj1 hlt h40 ab' st0 st
                by_cases hfit : M.Fits 8 (p, y)
                · obtain ⟨i, hpi⟩ := Int.eq_ofNat_of_zero_le hfit.1
                  have hpi : p = (i : Int) := hpi
                  subst hpi
                  have hi8 : i < 8 := Int.ofNat_lt.1 hfit.2.1
                  have h50 : 42 + i < s'.length := by rw [L4.out]; exact Nat.add_lt_add_left hi8 42
                  have hy256 : y.length = 256 := hfit.2.2
                  have RM : Hid (decide (M.May 8 [((i : Int), y)]) = true) := decide_eq_true ((M.may_one 8 _).2 hfit)
                  have CW := Lib.hid (ST0.out.wwrite W (fun x h => h.1.1) HCB.out.2.1 i h50 x y (fun h => HIB.out _ h.2) hy256)
                  rw [M.idle_write s' c (42 + i) y h50 hy256] at CW
                  have HI8 := Lib.hid hi8
                  have HY := Lib.hid hy256
                  have HFT : Hid (M.Fits 8 ((i : Int), y)) := hfit
                  clear hfit hi8 hy256 h50
                  go_upto_region 17 with fail
                  refine wp_region_any (by kernel_rfl) ?_
                  change wpAny _ _ _ _ _ _ _ (World.drew _)
                  refine wpAny_of_held (S := fun w' => IsCL w' (.slice (some ⟨lb, lo, none⟩) qn lc) q xs) _ _ _ _ ?_
                  have S0 : IsCL wy.drew (.slice (some ⟨lb, lo, none⟩) qn lc) q xs := ST0.out.now.2
                  refine wpAnyH_take_at (i := 0) (v := .pointer (some ⟨gw, 0, none⟩)) rfl rfl (by kernel_rfl) (by kernel_rfl) (by kernel_rfl) (fun _ _ _ h => h) (Or.inl ⟨by rfl, fun w hS => by go_simp⟩) S0 ?_
                  simp only [List.setIfInBounds_toArray, List.set_cons_zero, List.set_cons_succ]
                  refine wpAnyH_take_at (i := 1) (v := .slice (some ⟨lb, lo, none⟩) qn lc) rfl rfl (by kernel_rfl) (by kernel_rfl) (by kernel_rfl) (fun _ _ _ h => h) (Or.inl ⟨by rfl, fun w hS => by go_simp⟩) S0 ?_
                  simp only [List.setIfInBounds_toArray, List.set_cons_zero, List.set_cons_succ]
                  refine wpAnyH_take_at (i := 2) (v := .int .i64 (j : Int)) rfl rfl (by kernel_rfl) (by kernel_rfl) (by kernel_rfl) (fun _ _ _ h => h) (Or.inl ⟨by rfl, fun w hS => by go_simp⟩) S0 ?_
                  simp only [List.setIfInBounds_toArray, List.set_cons_zero, List.set_cons_succ]
                  refine wpAnyH_take_at (i := 3) (v := .pointer (some ⟨lb, lo + j * 2, none⟩)) rfl rfl (by kernel_rfl) (by kernel_rfl) (by kernel_rfl) (fun _ _ _ h => h) (Or.inl ⟨by rfl, fun w hS => by go_simp⟩) S0 ?_
                  simp only [List.setIfInBounds_toArray, List.set_cons_zero, List.set_cons_succ]
                  refine wpAnyH_take_at (i := 4) (v := .pointer (some ⟨lb, lo + j * 2, none⟩)) rfl rfl (by kernel_rfl) (by kernel_rfl) (by kernel_rfl) (fun _ _ _ h => h) (Or.inl ⟨by rfl, fun w hS => by go_simp⟩) S0 ?_
                  simp only [List.setIfInBounds_toArray, List.set_cons_zero, List.set_cons_succ]
                  refine wpAnyH_take_at (i := 5) (v := .int .i64 (i : Int)) rfl rfl (by kernel_rfl) (by kernel_rfl) (by kernel_rfl) (fun _ _ _ h => h) (Or.inl ⟨by rfl, fun w hS => by have c := (HAT.out w hS).1; go_simp⟩) S0 ?_
                  simp only [List.setIfInBounds_toArray, List.set_cons_zero, List.set_cons_succ]
                  refine wpAnyH_take_at (i := 6) (v := .slice (some ⟨lb, lo, none⟩) qn lc) rfl rfl (by kernel_rfl) (by kernel_rfl) (by kernel_rfl) (fun _ _ _ h => h) (Or.inl ⟨by rfl, fun w hS => by go_simp⟩) S0 ?_
                  simp only [List.setIfInBounds_toArray, List.set_cons_zero, List.set_cons_succ]
                  refine wpAnyH_take_at (i := 7) (v := .int .i64 (j : Int)) rfl rfl (by kernel_rfl) (by kernel_rfl) (by kernel_rfl) (fun _ _ _ h => h) (Or.inl ⟨by rfl, fun w hS => by go_simp⟩) S0 ?_
                  simp only [List.setIfInBounds_toArray, List.set_cons_zero, List.set_cons_succ]
                  refine wpAnyH_take_at (i := 8) (v := .pointer (some ⟨lb, lo + j * 2, none⟩)) rfl rfl (by kernel_rfl) (by kernel_rfl) (by kernel_rfl) (fun _ _ _ h => h) (Or.inl ⟨by rfl, fun w hS => by go_simp⟩) S0 ?_
                  simp only [List.setIfInBounds_toArray, List.set_cons_zero, List.set_cons_succ]
                  refine wpAnyH_take_at (i := 9) (v := .pointer (some ⟨lb, lo + j * 2 + 1, none⟩)) rfl rfl (by kernel_rfl) (by kernel_rfl) (by kernel_rfl) (fun _ _ _ h => h) (Or.inl ⟨by rfl, fun w hS => by go_simp⟩) S0 ?_
                  simp only [List.setIfInBounds_toArray, List.set_cons_zero, List.set_cons_succ]
                  refine wpAnyH_take_at (i := 10) (v := x) rfl rfl (by kernel_rfl) (by kernel_rfl) (by kernel_rfl) (fun _ _ _ h => h) (Or.inl ⟨by rfl, fun w hS => by have c := (HAT.out w hS).2; go_simp⟩) S0 ?_
                  simp only [List.setIfInBounds_toArray, List.set_cons_zero, List.set_cons_succ]
                  refine wpAnyH_ready (rs := [11]) (by kernel_rfl) (by simp) ?_
                  refine AllReadyH.cons rfl (fun K hK => ?_) AllReadyH.nil
                  go_simp
                  refine CW.out.mono ?_
                  rintro e w7 ⟨rfl, s7⟩
                  have S7 := Lib.hid s7
                  have S1 : IsCL w7 (.slice (some ⟨lb, lo, none⟩) qn lc) q xs := s7.now.2
                  refine hK.out _ _ S1 (fun _ => ?_)
                  clear hK K S0 s7 CW ST0
                  refine wpAnyH_take_at (i := 12) (v := .int .i64 0) rfl rfl (by kernel_rfl) (by kernel_rfl) (by kernel_rfl) (fun _ _ _ h => h) (Or.inl ⟨by rfl, fun w hS => by go_simp⟩) S1 ?_
                  simp only [List.setIfInBounds_toArray, List.set_cons_zero, List.set_cons_succ]
                  refine wpAnyH_done (by kernel_rfl) ?_ _
                  have RC := Lib.hid (rmay_any 8 (by decide) _ _ _ w7 (HONE.out _ S1))
                  rw [RM.out] at RC
                  rw [show ((8 : Nat) : Int) = 8 from rfl] at RC
                  have RD := Lib.hid (rdone_any _ _ _ _ _ _ w7 S7.out.now.1.2 (HONE.out _ S1) (by rw [List.length_drop, M.laid_len, L4.out]; decide) (by rw [List.length_drop, M.laid_len, L4.out]; decide) (by show 1 ≤ 1000000; decide) (fun m hm => by
                    match m, hm with
                    | 0, _ => rw [List.length_drop, M.laid_len, L4.out]; exact HFT.out))
                  clear S1
                  go_wp2_with fail
                  refine RC.out.mono ?_
                  rintro e w8 ⟨rfl, rfl⟩
                  clear RC
                  go_wp2_with fail
                  refine RD.out.mono ?_
                  rintro e w9 ⟨v9, r9, rfl, o9, k9⟩
                  have HDN : Hid (M.done ((M.laid s' c).drop 42) [((i : Int), y)] = (M.laid s' (c ++ [(42 + i, y)])).drop 42) := by rw [Hid, M.laid_add]; rfl
                  have gn := o9.gains (bv := v7) (by rw [M.done_len])
                  rw [HDN.out] at gn
                  have S9 : Hid (St w w9 g (M.idle s' (c ++ [(42 + i, y)])) (fun x => (Wl x gw g ∧ IsLL x v9 ((M.laid s' (c ++ [(42 + i, y)])).drop 42) r9) ∧ IsCL x (.slice (some ⟨lb, lo, none⟩) qn lc) q xs)) :=
                    (S7.out.gain k9 (gn.mono (fun x h => h.1.2) (fun x h => h))).mono fun x h => ⟨⟨h.1.1.1, h.2⟩, h.1.2⟩
                  have HCL : Hid ((c ++ [(42 + i, y)]).length ≤ 40 * k + (j + 1)) := by rw [Hid, List.length_append]; exact HCB.out.2.2.2
                  clear RD S7 o9 k9 gn
                  have ab' := AB.out
                  go_wp2
                  go_roundw
                  case rel => exact ⟨j + 1, (c++[(42+i,y)]), r9, by first | (rw [AB.out, HJ1.out]) | rw [HJ1.out] | rfl, ⟨HJ.out.1, HJ.out.2⟩, HCL.out, S9.out⟩
                  case measure =>
                    first | (rw [AB.out, HJ1.out]) | rw [HJ1.out] | skip
                    exact step_down HJ.out.2
                · have RM : Hid (decide (M.May 8 [(p, y)]) = false) := decide_eq_false fun h => hfit ((M.may_one 8 _).1 h)
                  have CW := Lib.hid (ST0.out.wwrite_no W (fun h => h.1.1) (by show 42 < s'.length; rw [L4.out]; decide) p HR.out x y (fun h => HIB.out _ h.2) (by rw [show (M.idle s' c).safe.length - 42 = 8 by show s'.length - 42 = 8; rw [L4.out]]; exact hfit))
                  clear hfit
                  go_upto_region 17 with fail
                  refine wp_region_any (by kernel_rfl) ?_
                  change wpAny _ _ _ _ _ _ _ (World.drew _)
                  refine wpAny_of_held (S := fun w' => IsCL w' (.slice (some ⟨lb, lo, none⟩) qn lc) q xs) _ _ _ _ ?_
                  have S0 : IsCL wy.drew (.slice (some ⟨lb, lo, none⟩) qn lc) q xs := ST0.out.now.2
                  refine wpAnyH_take_at (i := 0) (v := .pointer (some ⟨gw, 0, none⟩)) rfl rfl (by kernel_rfl) (by kernel_rfl) (by kernel_rfl) (fun _ _ _ h => h) (Or.inl ⟨by rfl, fun w hS => by go_simp⟩) S0 ?_
                  simp only [List.setIfInBounds_toArray, List.set_cons_zero, List.set_cons_succ]
                  refine wpAnyH_take_at (i := 1) (v := .slice (some ⟨lb, lo, none⟩) qn lc) rfl rfl (by kernel_rfl) (by kernel_rfl) (by kernel_rfl) (fun _ _ _ h => h) (Or.inl ⟨by rfl, fun w hS => by go_simp⟩) S0 ?_
                  simp only [List.setIfInBounds_toArray, List.set_cons_zero, List.set_cons_succ]
                  refine wpAnyH_take_at (i := 2) (v := .int .i64 (j : Int)) rfl rfl (by kernel_rfl) (by kernel_rfl) (by kernel_rfl) (fun _ _ _ h => h) (Or.inl ⟨by rfl, fun w hS => by go_simp⟩) S0 ?_
                  simp only [List.setIfInBounds_toArray, List.set_cons_zero, List.set_cons_succ]
                  refine wpAnyH_take_at (i := 3) (v := .pointer (some ⟨lb, lo + j * 2, none⟩)) rfl rfl (by kernel_rfl) (by kernel_rfl) (by kernel_rfl) (fun _ _ _ h => h) (Or.inl ⟨by rfl, fun w hS => by go_simp⟩) S0 ?_
                  simp only [List.setIfInBounds_toArray, List.set_cons_zero, List.set_cons_succ]
                  refine wpAnyH_take_at (i := 4) (v := .pointer (some ⟨lb, lo + j * 2, none⟩)) rfl rfl (by kernel_rfl) (by kernel_rfl) (by kernel_rfl) (fun _ _ _ h => h) (Or.inl ⟨by rfl, fun w hS => by go_simp⟩) S0 ?_
                  simp only [List.setIfInBounds_toArray, List.set_cons_zero, List.set_cons_succ]
                  refine wpAnyH_take_at (i := 5) (v := .int .i64 p) rfl rfl (by kernel_rfl) (by kernel_rfl) (by kernel_rfl) (fun _ _ _ h => h) (Or.inl ⟨by rfl, fun w hS => by have c := (HAT.out w hS).1; go_simp⟩) S0 ?_
                  simp only [List.setIfInBounds_toArray, List.set_cons_zero, List.set_cons_succ]
                  refine wpAnyH_take_at (i := 6) (v := .slice (some ⟨lb, lo, none⟩) qn lc) rfl rfl (by kernel_rfl) (by kernel_rfl) (by kernel_rfl) (fun _ _ _ h => h) (Or.inl ⟨by rfl, fun w hS => by go_simp⟩) S0 ?_
                  simp only [List.setIfInBounds_toArray, List.set_cons_zero, List.set_cons_succ]
                  refine wpAnyH_take_at (i := 7) (v := .int .i64 (j : Int)) rfl rfl (by kernel_rfl) (by kernel_rfl) (by kernel_rfl) (fun _ _ _ h => h) (Or.inl ⟨by rfl, fun w hS => by go_simp⟩) S0 ?_
                  simp only [List.setIfInBounds_toArray, List.set_cons_zero, List.set_cons_succ]
                  refine wpAnyH_take_at (i := 8) (v := .pointer (some ⟨lb, lo + j * 2, none⟩)) rfl rfl (by kernel_rfl) (by kernel_rfl) (by kernel_rfl) (fun _ _ _ h => h) (Or.inl ⟨by rfl, fun w hS => by go_simp⟩) S0 ?_
                  simp only [List.setIfInBounds_toArray, List.set_cons_zero, List.set_cons_succ]
                  refine wpAnyH_take_at (i := 9) (v := .pointer (some ⟨lb, lo + j * 2 + 1, none⟩)) rfl rfl (by kernel_rfl) (by kernel_rfl) (by kernel_rfl) (fun _ _ _ h => h) (Or.inl ⟨by rfl, fun w hS => by go_simp⟩) S0 ?_
                  simp only [List.setIfInBounds_toArray, List.set_cons_zero, List.set_cons_succ]
                  refine wpAnyH_take_at (i := 10) (v := x) rfl rfl (by kernel_rfl) (by kernel_rfl) (by kernel_rfl) (fun _ _ _ h => h) (Or.inl ⟨by rfl, fun w hS => by have c := (HAT.out w hS).2; go_simp⟩) S0 ?_
                  simp only [List.setIfInBounds_toArray, List.set_cons_zero, List.set_cons_succ]
                  refine wpAnyH_ready (rs := [11]) (by kernel_rfl) (by simp) ?_
                  refine AllReadyH.cons rfl (fun K hK => ?_) AllReadyH.nil
                  go_simp
                  refine CW.out.mono ?_
                  rintro e w7 ⟨rfl, k7⟩
                  have S7 := Lib.hid (ST0.out.below k7)
                  have S1 : IsCL w7 (.slice (some ⟨lb, lo, none⟩) qn lc) q xs := S7.out.now.2
                  refine hK.out _ _ S1 (fun _ => ?_)
                  clear hK K S0 k7 CW ST0
                  refine wpAnyH_take_at (i := 12) (v := .int .i64 1) rfl rfl (by kernel_rfl) (by kernel_rfl) (by kernel_rfl) (fun _ _ _ h => h) (Or.inl ⟨by rfl, fun w hS => by go_simp⟩) S1 ?_
                  simp only [List.setIfInBounds_toArray, List.set_cons_zero, List.set_cons_succ]
                  refine wpAnyH_done (by kernel_rfl) ?_ _
                  have RC := Lib.hid (rmay_any 8 (by decide) _ _ _ w7 (HONE.out _ S1))
                  rw [RM.out] at RC
                  rw [show ((8 : Nat) : Int) = 8 from rfl] at RC
                  clear S1
                  go_wp2_with fail
                  refine RC.out.mono ?_
                  rintro e w8 ⟨rfl, rfl⟩
                  clear RC
                  have HCL : Hid (c.length ≤ 40 * k + (j + 1)) := HCB.out.2.2.1
                  have ab' := AB.out
                  go_wp2
                  go_roundw
                  case rel => exact ⟨j + 1, c, rows, by first | (rw [AB.out, HJ1.out]) | rw [HJ1.out] | rfl, ⟨HJ.out.1, HJ.out.2⟩, HCL.out, S7.out⟩
                  case measure =>
                    first | (rw [AB.out, HJ1.out]) | rw [HJ1.out] | skip
                    exact step_down HJ.out.2
              · have b2' : ¬ (j : Int) < 40 := by omega
                have HC2 : Hid (c.length ≤ 40 * (k + 1)) := by rw [Hid]; have := hc.out; have := hj.out; omega
                have SO : Hid (St w wy g (M.idle s' c) (fun x => Wl x gw g ∧ IsLL x v7 ((M.laid s' c).drop 42) rows)) := st.out.mono fun x h => h.1
                have n3 : wrap64 ((k : Int) + 1) = ((k + 1 : Nat) : Int) := by have := HLT.out; unfold wrap64; omega
                have N3 := Lib.hid n3
                clear n3
                go_wp2
                go_roundw
                case rel => exact ⟨k + 1, c, rows, by first | rw [N3.out] | rfl, ⟨HLT.out.1, HLT.out.2⟩, HC2.out, SO⟩
                case measure =>
                  first | rw [N3.out] | skip
                  exact step_down HLT.out.2
            · have b1' : ¬ (j : Int) < (qn : Int) := by omega
              have HC2 : Hid (c.length ≤ 40 * (k + 1)) := by rw [Hid]; have := hc.out; have := hj.out; omega
              have SO : Hid (St w wy g (M.idle s' c) (fun x => Wl x gw g ∧ IsLL x v7 ((M.laid s' c).drop 42) rows)) := st.out.mono fun x h => h.1
              have n3 : wrap64 ((k : Int) + 1) = ((k + 1 : Nat) : Int) := by have := HLT.out; unfold wrap64; omega
              have N3 := Lib.hid n3
              clear n3
              go_wp2
              go_roundw
              case rel => exact ⟨k + 1, c, rows, by first | rw [N3.out] | rfl, ⟨HLT.out.1, HLT.out.2⟩, HC2.out, SO⟩
              case measure =>
                first | rw [N3.out] | skip
                exact step_down HLT.out.2
        · have b2 : ¬ (k : Int) < 12 := by omega
          clear hlt h12
          have HW : Hid (c.length ≤ 480) := by rw [Hid]; have := hc.out; have := hk.out; omega
          have SE := Lib.hid (seen10_any W st.out (fun x h => h.1) (by show 42 < s'.length; rw [L4.out]; decide) (by show c.length < 1000000; have := HW.out; omega))
          rw [M.shows_idle] at SE
          go_wp2_with fail
          refine SE.out.mono ?_
          rintro e y1 ⟨z1, q1, rfl, p1, j1⟩
          have Y1 := Lib.hid (st.out.below j1)
          have SA := Lib.hid (rsame10_any z1 v8 _ _ q1 rows y1 p1.isLL Y1.out.now.2)
          rw [decide_eq_true rfl] at SA
          clear SE st p1 j1
          go_wp2_with fail
          refine SA.out.mono ?_
          rintro e y2 ⟨rfl, j2⟩
          have Y2 := Lib.hid (Y1.out.below j2)
          clear SA Y1 j2
          cases sy with
          | true =>
            have SY := Lib.hid (Y2.out.wsync W (fun x h => h.1) (by show c.length < 1000000; have := HW.out; omega))
            rw [M.idle_sync] at SY
            go_wp2_with fail
            refine SY.out.mono ?_
            rintro e y3 ⟨rfl, t3⟩
            have Y3 := Lib.hid t3
            clear SY Y2 t3
            go_wp2_with fail
            refine (Y3.out.crash (.slice none 0 0) [] (IsZ.nil w)).mono ?_
            rintro e y4 ⟨rfl, t4⟩
            rw [show (M.idle (M.laid s' c) []).crash [] = M.lit (M.laid s' c) 0 from rfl] at t4
            have Y4 := Lib.hid t4
            clear Y3 t4
            go_wp2_with fail
            refine Y4.out.image.mono ?_
            rintro e y5 ⟨z5, rfl, t5⟩
            have Y5 := Lib.hid t5
            have OK5 := t5.okay
            have AH := Lib.hid (rahead_any z5 (M.laid s' c) y5 t5.now.2 OK5.full OK5.few)
            clear Y4 t5 OK5
            go_wp2_with fail
            refine AH.out.mono ?_
            rintro e y6 ⟨z6, q6, rfl, p6, j6⟩
            have Y6 := Lib.hid (Y5.out.below j6)
            have SA := Lib.hid (rsame10_any z6 v8 _ _ q6 rows y6 p6.isLL Y6.out.now.1.2)
            rw [decide_eq_true rfl] at SA
            clear Y5 AH p6 j6
            go_wp2_with fail
            refine SA.out.mono ?_
            rintro e y7 ⟨rfl, j7⟩
            have K7 := (Y6.out.below j7).under
            clear SA Y6 j7
            go_wp2
            go_ret
            exact ⟨rfl, K7⟩
          | false =>
            have CM := Lib.hid (Y2.out.commit W HL.out (fun x h => h.1) (by show 42 < s'.length; rw [L4.out]; decide) (by show c.length < 100000; have := HW.out; omega) (.slice none 0 0) [] [] (fun x h => ⟨none, 0, rfl, Nat.le_refl _, Nat.zero_le _, rfl, fun i hi => (by cases hi), .inl rfl⟩) ⟨by decide, fun c hc => by cases hc⟩)
            rw [X.none, M.idle_sync] at CM
            go_wp2_with fail
            refine CM.out.mono ?_
            rintro e y3 ⟨rfl, t3⟩
            have Y3 := Lib.hid t3
            clear CM Y2 t3
            go_wp2_with fail
            refine (Y3.out.crash (.slice none 0 0) [] (IsZ.nil w)).mono ?_
            rintro e y4 ⟨rfl, t4⟩
            rw [show (M.idle (M.laid s' c) []).crash [] = M.lit (M.laid s' c) 0 from rfl] at t4
            have Y4 := Lib.hid t4
            clear Y3 t4
            go_wp2_with fail
            refine Y4.out.image.mono ?_
            rintro e y5 ⟨z5, rfl, t5⟩
            have Y5 := Lib.hid t5
            have OK5 := t5.okay
            have AH := Lib.hid (rahead_any z5 (M.laid s' c) y5 t5.now.2 OK5.full OK5.few)
            clear Y4 t5 OK5
            go_wp2_with fail
            refine AH.out.mono ?_
            rintro e y6 ⟨z6, q6, rfl, p6, j6⟩
            have Y6 := Lib.hid (Y5.out.below j6)
            have SA := Lib.hid (rsame10_any z6 v8 _ _ q6 rows y6 p6.isLL Y6.out.now.1.2)
            rw [decide_eq_true rfl] at SA
            clear Y5 AH p6 j6
            go_wp2_with fail
            refine SA.out.mono ?_
            rintro e y7 ⟨rfl, j7⟩
            have K7 := (Y6.out.below j7).under
            clear SA Y6 j7
            go_wp2
            go_ret
            exact ⟨rfl, K7⟩
      · have b1 : ¬ (k : Int) < (nn : Int) := by omega
        clear hlt
        have HW : Hid (c.length ≤ 480) := by rw [Hid]; have := hc.out; have := hk.out; omega
        have SE := Lib.hid (seen10_any W st.out (fun x h => h.1) (by show 42 < s'.length; rw [L4.out]; decide) (by show c.length < 1000000; have := HW.out; omega))
        rw [M.shows_idle] at SE
        go_wp2_with fail
        refine SE.out.mono ?_
        rintro e y1 ⟨z1, q1, rfl, p1, j1⟩
        have Y1 := Lib.hid (st.out.below j1)
        have SA := Lib.hid (rsame10_any z1 v8 _ _ q1 rows y1 p1.isLL Y1.out.now.2)
        rw [decide_eq_true rfl] at SA
        clear SE st p1 j1
        go_wp2_with fail
        refine SA.out.mono ?_
        rintro e y2 ⟨rfl, j2⟩
        have Y2 := Lib.hid (Y1.out.below j2)
        clear SA Y1 j2
        cases sy with
        | true =>
          have SY := Lib.hid (Y2.out.wsync W (fun x h => h.1) (by show c.length < 1000000; have := HW.out; omega))
          rw [M.idle_sync] at SY
          go_wp2_with fail
          refine SY.out.mono ?_
          rintro e y3 ⟨rfl, t3⟩
          have Y3 := Lib.hid t3
          clear SY Y2 t3
          go_wp2_with fail
          refine (Y3.out.crash (.slice none 0 0) [] (IsZ.nil w)).mono ?_
          rintro e y4 ⟨rfl, t4⟩
          rw [show (M.idle (M.laid s' c) []).crash [] = M.lit (M.laid s' c) 0 from rfl] at t4
          have Y4 := Lib.hid t4
          clear Y3 t4
          go_wp2_with fail
          refine Y4.out.image.mono ?_
          rintro e y5 ⟨z5, rfl, t5⟩
          have Y5 := Lib.hid t5
          have OK5 := t5.okay
          have AH := Lib.hid (rahead_any z5 (M.laid s' c) y5 t5.now.2 OK5.full OK5.few)
          clear Y4 t5 OK5
          go_wp2_with fail
          refine AH.out.mono ?_
          rintro e y6 ⟨z6, q6, rfl, p6, j6⟩
          have Y6 := Lib.hid (Y5.out.below j6)
          have SA := Lib.hid (rsame10_any z6 v8 _ _ q6 rows y6 p6.isLL Y6.out.now.1.2)
          rw [decide_eq_true rfl] at SA
          clear Y5 AH p6 j6
          go_wp2_with fail
          refine SA.out.mono ?_
          rintro e y7 ⟨rfl, j7⟩
          have K7 := (Y6.out.below j7).under
          clear SA Y6 j7
          go_wp2
          go_ret
          exact ⟨rfl, K7⟩
        | false =>
          have CM := Lib.hid (Y2.out.commit W HL.out (fun x h => h.1) (by show 42 < s'.length; rw [L4.out]; decide) (by show c.length < 100000; have := HW.out; omega) (.slice none 0 0) [] [] (fun x h => ⟨none, 0, rfl, Nat.le_refl _, Nat.zero_le _, rfl, fun i hi => (by cases hi), .inl rfl⟩) ⟨by decide, fun c hc => by cases hc⟩)
          rw [X.none, M.idle_sync] at CM
          go_wp2_with fail
          refine CM.out.mono ?_
          rintro e y3 ⟨rfl, t3⟩
          have Y3 := Lib.hid t3
          clear CM Y2 t3
          go_wp2_with fail
          refine (Y3.out.crash (.slice none 0 0) [] (IsZ.nil w)).mono ?_
          rintro e y4 ⟨rfl, t4⟩
          rw [show (M.idle (M.laid s' c) []).crash [] = M.lit (M.laid s' c) 0 from rfl] at t4
          have Y4 := Lib.hid t4
          clear Y3 t4
          go_wp2_with fail
          refine Y4.out.image.mono ?_
          rintro e y5 ⟨z5, rfl, t5⟩
          have Y5 := Lib.hid t5
          have OK5 := t5.okay
          have AH := Lib.hid (rahead_any z5 (M.laid s' c) y5 t5.now.2 OK5.full OK5.few)
          clear Y4 t5 OK5
          go_wp2_with fail
          refine AH.out.mono ?_
          rintro e y6 ⟨z6, q6, rfl, p6, j6⟩
          have Y6 := Lib.hid (Y5.out.below j6)
          have SA := Lib.hid (rsame10_any z6 v8 _ _ q6 rows y6 p6.isLL Y6.out.now.1.2)
          rw [decide_eq_true rfl] at SA
          clear Y5 AH p6 j6
          go_wp2_with fail
          refine SA.out.mono ?_
          rintro e y7 ⟨rfl, j7⟩
          have K7 := (Y6.out.below j7).under
          clear SA Y6 j7
          go_wp2
          go_ret
          exact ⟨rfl, K7⟩

end

end Go.Proofs.YtlglkiknpbfnmaaDoor
