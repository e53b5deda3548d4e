/-
  CONTRACT OF orlopref07.fold: a sum of places as a number below 2^256 that is as much by 2^255 - 19. Conditions: at most 63 places, not too great.
-/
import Derived.Test.YteombilmndlhjaaRefS
import Derived.Test.YteombilmndlhjaaFoldMath
import Derived.Deep.RegionHeld
namespace Go.Proofs.Yteombilmndlhjaa
open Go.RowKit
set_option linter.unusedVariables false

def rowAt (w : World) : Value → List Nat
  | .slice (some ⟨b, o, none⟩) n _ => (List.range n).map fun i => cellNat (w.cell? ⟨b, o + i, none⟩)
  | _ => []

theorem rowAt_isI {w : World} {v : Value} {l : List Nat} (h : IsI w v l) : rowAt w v = l := by
  obtain ⟨ao, cap, rfl, _, _, h⟩ := h
  rcases h with rfl | ⟨b, o, rfl, hc⟩
  · match ao with
    | none => rfl
    | some ⟨b, o, none⟩ => rfl
    | some ⟨b, o, some s⟩ => rfl
  · apply M.ext_getDN
    · simp [rowAt]
    · intro i hi
      have hi2 : i < l.length := by simpa [rowAt] using hi
      simp only [rowAt, List.getD_eq_getElem?_getD, List.getElem?_map, List.getElem?_range hi2, Option.map_some, Option.getD_some, hc i hi2, cellNat]
      simp [hi2]

/-- The ints don't lie in block g. -/
def OffI (v : Value) (l : List Nat) (g : Nat) : Prop := ∀ b o n c, v = .slice (some ⟨b, o, none⟩) n c → 0 < l.length → b ≠ g

theorem IsI.far {w : World} {v : Value} {l : List Nat} {g : Nat} (h : IsI w v l) (ho : OffI v l g) (i : Nat) (u : Value) : IsI (w.setCell ⟨g, i, none⟩ u) v l := by
  obtain ⟨ao, cap, rfl, h1, h2, h3⟩ := h
  refine ⟨ao, cap, rfl, h1, h2, ?_⟩
  rcases h3 with h | ⟨b, o, rfl, h⟩
  · exact .inl h
  · refine .inr ⟨b, o, rfl, fun j hj => ?_⟩
    rw [World.cell?_setCell_far _ _ _ _ (show g ≠ b from fun e => ho b o _ _ rfl (by omega) e.symm)]
    exact h j hj

theorem IsI.shape {w : World} {v : Value} {l : List Nat} (h : IsI w v l) : ∃ ao cap, v = .slice ao l.length cap := by
  obtain ⟨ao, cap, rfl, _⟩ := h
  exact ⟨ao, cap, rfl⟩

theorem IsI.cellAt {w : World} {ao : Option Addr} {n cap : Nat} {l : List Nat} (h : IsI w (.slice ao n cap) l) (i : Nat) (hi : i < l.length) : ∃ b o, ao = some ⟨b, o, none⟩ ∧ w.cell? ⟨b, o + i, none⟩ = some (.int .i64 ((l.getD i 0 : Nat) : Int)) := by
  obtain ⟨ao', cap', e, _, _, h⟩ := h
  injection e with e1
  subst e1
  rcases h with rfl | ⟨b, o, rfl, hc⟩
  · simp at hi
  · exact ⟨b, o, rfl, hc i hi⟩

set_option maxRecDepth 100000 in
set_option maxHeartbeats 8000000 in
theorem fold_n (av : Value) (l : List Nat) (w : World) (hl : IsI w av l) (hb : M.FB l) : Calls Try.prog 53 #[av] w fun e w' => ∃ (R : List Value) (f : Nat), e = .returned (.agg R.toArray) ∧ IsN R f ∧ f % M.Q = M.gi l l.length % M.Q ∧ Below w.heap.size w w' := by
  obtain ⟨T, hT⟩ : ∃ T, Hid (T = M.gi l l.length % M.Q) := ⟨M.gi l l.length % M.Q, rfl⟩
  rw [← hT.out]
  obtain ⟨W, hW⟩ : ∃ W, Hid (W = (w.alloc (.cells z32.toArray 49)).alloc (.cells z32.toArray 49)) := ⟨_, rfl⟩
  obtain ⟨g, hg⟩ : ∃ g, g = w.heap.size := ⟨_, rfl⟩
  have HG : Hid (g = w.heap.size) := hg
  have B0 : Hid (Blk W g 49 z32) := by rw [hW.out, hg]; exact (Blk.newAt _ _ _ _ _ rfl rfl).alloc _
  have B1 : Hid (Blk W (g + 1) 49 z32) := by rw [hW.out, hg]; exact Blk.newAt _ _ _ _ _ (by simp) rfl
  have K : Hid (Below w.heap.size w W) := by rw [hW.out]; exact ((Below.refl _ _).alloc (Nat.le_refl _) _).alloc (by simp) _
  have HI : Hid (IsI W av l) := hl.below K.out
  have HO : Hid (OffI av l (g + 1)) := by
    intro b o n c e hn
    obtain ⟨b', o', cap, e2, hc⟩ := hl.at_ hn
    rw [e2] at e
    injection e with e
    injection e with e
    injection e with e
    have : b' < w.heap.size := by exact World.block_lt_of_cell? w _ (hc 0 hn)
    omega
  have HB := Lib.hid hb
  have HZ : Hid (IsN z32 0) := ⟨nm_zero, by decide +kernel⟩
  clear hl hb
  go_enter Try.func53, Try.ntmps53
  go_wp2
  rw [← z32_arr, ← hW.out, ← hg]
  clear hW hg
  go_loopw [0] (fun a wr => ∃ (l : List Nat) (O : Nat) (L : List Value), Hid (IsI wr a l) ∧ Hid (OffI a l (g + 1)) ∧ Hid (M.FB l) ∧ Hid (IsN L O) ∧ Hid ((O + M.gi l l.length) % M.Q = T) ∧ Hid (Blk wr (g + 1) 49 L) ∧ Hid (Blk wr g 49 z32) ∧ Hid (Below w.heap.size w wr))
    (fun a wr => (numAt wr (g + 1) + M.gi (rowAt wr a) (rowAt wr a).length) * 64 + (rowAt wr a).length)
  case atStart => exact ⟨l, 0, z32, HI, HO, HB, HZ, by rw [Hid, Nat.zero_add]; exact hT.out.symm, B1, B0, K⟩
  case round =>
    clear B0 B1 K HI HO HB hT
    obtain ⟨wz, rfl⟩ : ∃ x, x = wr := ⟨_, rfl⟩
    obtain ⟨m, O, L, hi, ho, hb, hN, hs, b1, b0, kk⟩ := hrel
    obtain ⟨va, rfl⟩ : ∃ z, z = u0 := ⟨_, rfl⟩
    obtain ⟨ao, cap, rfl⟩ := hi.out.shape
    obtain ⟨n, hn⟩ : ∃ n, n = m.length := ⟨_, rfl⟩
    have HN := Lib.hid hn
    rw [← hn] at hi ho ⊢
    have hn63 : n ≤ 63 := by rw [hn]; exact hb.out.len
    have HMS : Hid ((numAt wz (g + 1) + M.gi (rowAt wz (.slice ao n cap)) (rowAt wz (.slice ao n cap)).length) * 64 + (rowAt wz (.slice ao n cap)).length = (O + M.gi m m.length) * 64 + m.length) := by
      rw [numAt_isN b1.out hN.out, rowAt_isI hi.out]; rfl
    clear hn
    by_cases hm : n = 0
    · have HOT : Hid (O % M.Q = T) := by
        have e0 : m = [] := List.eq_nil_of_length_eq_zero (by rw [← HN.out]; exact hm)
        have := hs.out
        rw [e0] at this
        rw [Hid]
        simpa [M.gi] using this
      subst hm
      clear hs HMS
      go_wp2_with (first
        | (refine wpList_load_num rfl (.tmp 3) rfl (g + 1) rfl L b1.out hN.out.len ?_)
        | (refine wpList_store_num rfl rfl (.tmp 2) (.tmp 73) rfl g rfl L z32 rfl b0.out z32_len hN.out.len hN.out.one ?_; intro w9 hb9 ho9))
      exact bodyPost_ret (results_cell_row rfl _ _ g _ _ _ _ rfl hb9 Try.underlying49 rfl (by rw [List.size_toArray, hN.out.len]; kernel_rfl)) rfl ⟨L, O, rfl, hN.out, HOT.out, kk.out.trans (ho9.below kk.out.size (by have := HG.out; omega))⟩
    · have hn0 : (0 : Int) < (n : Int) := by omega
      have P1 : Hid (Blk wz (g + 1) 49 (ic (M.prt (M.fY O m 0) O 0))) := by
        have e := b1.out
        rw [hN.out.1] at e
        rw [Hid, M.prt_zero]
        exact e
      have HF0 : Hid (∀ k, M.fY O m k / 256 ^ k ≤ 526345) := fun k => by
        have := M.fY_le O m 134217728 hb.out.le k
        omega
      have HC0 : Hid (M.fY O m 0 / 256 ^ 0 = 0) := by simp [M.fY, M.gi, Hid, Nat.mod_one]
      have HE : Hid (∀ i, m.getD i 0 ≤ 134217728) := hb.out.le
      go_wp2
      go_loopw [4, 5] (fun c i wr => ∃ k : Nat, k ≤ 32 ∧ i = .int .i64 (k : Int) ∧ c = .int .i64 (M.fY O m k / 256 ^ k : Nat) ∧ Hid (Blk wr (g + 1) 49 (ic (M.prt (M.fY O m k) O k))) ∧ Hid (IsI wr (.slice ao n cap) m) ∧ Hid (Blk wr g 49 z32) ∧ Hid (Below w.heap.size w wr))
        (fun _ i _ => 32 - (intOf i).toNat)
      case atStart => exact ⟨0, by omega, rfl, by rw [HC0.out]; rfl, P1, hi, b0, kk⟩
      case round =>
        clear P1 HC0 b1 hi b0 kk
        obtain ⟨wy, rfl⟩ : ∃ x, x = wr := ⟨_, rfl⟩
        obtain ⟨k, hk, rfl, rfl, b1, hi, b0, kk⟩ := hrel
        obtain ⟨c, hc⟩ : ∃ c, c = M.fY O m k / 256 ^ k := ⟨M.fY O m k / 256 ^ k, rfl⟩
        have hcb : c ≤ 526345 := by rw [hc]; exact HF0.out k
        have HC := Lib.hid hc
        rw [← hc]
        clear hc
        by_cases hlt : k < 32
        · obtain ⟨X, hX⟩ : ∃ X, X = O / 256 ^ k % 256 := ⟨O / 256 ^ k % 256, rfl⟩
          have hXl : X < 256 := by rw [hX]; exact Nat.mod_lt _ (by decide)
          have c1 : wy.cell? ⟨g + 1, k, none⟩ = some (.int .i64 (X : Int)) := by rw [b1.out.cell, ic_get _ k (by rw [M.prt_length _ _ _ (by omega)]; exact hlt), M.prt_get _ _ _ hlt, ← hX]
          have f1 : wy.frozen? ⟨g + 1, k, none⟩ = false := b1.out.frozen _
          obtain ⟨Y, hY⟩ : ∃ Y, Y = m.getD k 0 := ⟨_, rfl⟩
          have hYl : Y ≤ 134217728 := by rw [hY]; exact HE.out k
          obtain ⟨z, hz⟩ : ∃ z, z = X + c + Y := ⟨_, rfl⟩
          obtain ⟨d, hd⟩ : ∃ d, d = z % 256 := ⟨_, rfl⟩
          obtain ⟨q, hq⟩ : ∃ q, q = z / 256 := ⟨_, rfl⟩
          have hst := M.fold_step O m k
          rw [← hX, ← HC.out, ← hY, ← hz, ← hd, ← hq] at hst
          have N1 : Hid (Blk (wy.setCell ⟨g + 1, k, none⟩ (.int .i64 (d : Int))) (g + 1) 49 (ic (M.prt (M.fY O m (k + 1)) O (k + 1)))) := (b1.out.set_ _ _).eq_ (by rw [show Value.int .i64 (d : Int) = ci d from rfl, ic_set, M.prt_set _ _ _ k d hlt hst.1])
          have NI : Hid (IsI (wy.setCell ⟨g + 1, k, none⟩ (.int .i64 (d : Int))) (.slice ao n cap) m) := hi.out.far ho.out _ _
          have N0 : Hid (Blk (wy.setCell ⟨g + 1, k, none⟩ (.int .i64 (d : Int))) g 49 z32) := b0.out.far (show g ≠ g + 1 by omega) _
          have NK : Hid (Below w.heap.size w (wy.setCell ⟨g + 1, k, none⟩ (.int .i64 (d : Int)))) := kk.out.setCell (show w.heap.size ≤ g + 1 by have := HG.out; omega) _
          have HQ : Hid (∀ j, j = k + 1 → M.fY O m j / 256 ^ j = q) := fun j e => by rw [e]; exact hst.2
          have e1 : (z : Int) % 256 = (d : Int) := by omega
          have e1' : (z : Int).tmod 256 = (d : Int) := by rw [Int.tmod_eq_emod_of_nonneg (by omega)]; exact e1
          have e2 : (z : Int) / 256 = (q : Int) := by omega
          have e2' : (z : Int).tdiv 256 = (q : Int) := by rw [Int.tdiv_eq_ediv_of_nonneg (by omega)]; exact e2
          by_cases hkn : k < n
          · obtain ⟨b, o, rfl, hcell⟩ := hi.out.cellAt k (by rw [← HN.out]; exact hkn)
            rw [← hY] at hcell
            obtain ⟨v1, hv1⟩ : ∃ v, v = X + c := ⟨_, rfl⟩
            have s1 : (X : Int) + (c : Int) = (v1 : Int) := by omega
            have s2 : (v1 : Int) + (Y : Int) = (z : Int) := by omega
            clear hX hY hz hd hq hst hv1 b1 hi b0 kk
            go_wp2
            go_roundw
            case rel => exact ⟨k + 1, by omega, by go_num, by rw [HQ.out _ rfl], N1, NI, N0, NK⟩
            case measure => simp [intOf]; omega
          · have hY0 : Y = 0 := by
              rw [hY, List.getD_eq_getElem?_getD, List.getElem?_eq_none (by have := HN.out; omega)]
              rfl
            have s1 : (X : Int) + (c : Int) = (z : Int) := by omega
            clear hX hY hz hd hq hst b1 hi b0 kk
            go_wp2
            go_roundw
            case rel => exact ⟨k + 1, by omega, by go_num, by rw [HQ.out _ rfl], N1, NI, N0, NK⟩
            case measure => simp [intOf]; omega
        · obtain rfl : k = 32 := by omega
          obtain ⟨N, hNe⟩ : ∃ N, N = M.fY O m 32 % 256 ^ 32 := ⟨M.fY O m 32 % 256 ^ 32, rfl⟩
          have HNN : Hid (IsN (nm N) N) := ⟨rfl, by rw [hNe]; exact Nat.mod_lt _ (M.pow_pos 32)⟩
          have HCC : Hid (c = M.fC O m) := HC.out
          have D1 : Hid (Blk wy (g + 1) 49 (nm N)) := b1.out.eq_ (by rw [M.prt_all, nm, hNe, M.dg_mod _ 32 32 (Nat.le_refl _)])
          have FIN : Hid (∀ (wq : World) (v' : Value) (l' : List Nat), IsI wq v' l' → M.FB l' → M.gi l' l'.length = 38 * (M.fC O m + M.fR m) → (0 < M.fC O m + M.fR m ∨ l'.length < m.length) → Blk wq (g + 1) 49 (nm N) →
              (N + M.gi l' l'.length) % M.Q = T ∧ (numAt wq (g + 1) + M.gi (rowAt wq v') (rowAt wq v').length) * 64 + (rowAt wq v').length < (numAt wz (g + 1) + M.gi (rowAt wz (.slice ao n cap)) (rowAt wz (.slice ao n cap)).length) * 64 + (rowAt wz (.slice ao n cap)).length) := by
            intro wq v' l' h1 h2 h3 h4 h5
            rw [HMS.out, numAt_isN h5 HNN.out, rowAt_isI h1, hNe]
            refine ⟨?_, M.round_less O _ _ m hN.out.2 h3 h2.len h4⟩
            rw [M.round_mod O _ m hN.out.2 h3]
            exact hs.out
          have HSZ : Hid (g + 1 < wy.heap.size) := b1.out.lt
          clear hNe b1 HMS
          by_cases hlong : 32 < n
          · have hlong' : (32 : Int) < (n : Int) := by omega
            have HLM : Hid (32 < m.length) := by rw [Hid, ← HN.out]; exact hlong
            go_wp2
            rw [decide_eq_true (show 0 < n by omega), show ((32 : Nat) : Int) = 32 from rfl]
            go_loopw [7, 8] (fun x i wr => ∃ j : Nat, 32 + j ≤ n ∧ i = .int .i64 ((32 + j : Nat) : Int) ∧ Hid (OwnI wr wy.heap.size x ((M.nx m).take j)) ∧ Hid (Below wy.heap.size wy wr))
              (fun _ i _ => n - (intOf i).toNat)
            case atStart => exact ⟨0, by omega, rfl, ownI_nil _ _, Below.refl _ _⟩
            case round =>
              obtain ⟨wx, rfl⟩ : ∃ x, x = wr := ⟨_, rfl⟩
              obtain ⟨j, hj, rfl, oo, kx⟩ := hrel
              obtain ⟨vx, rfl⟩ : ∃ z, z = u7 := ⟨_, rfl⟩
              by_cases hlt : 32 + j < n
              · obtain ⟨b, o, rfl, hcell⟩ := (hi.out.below kx.out).cellAt (32 + j) (by rw [← HN.out]; exact hlt)
                obtain ⟨Y, hY⟩ : ∃ Y, Y = m.getD (32 + j) 0 := ⟨_, rfl⟩
                have hYl : Y ≤ 134217728 := by rw [hY]; exact HE.out _
                have HNX : Hid ((M.nx m).take (j + 1) = (M.nx m).take j ++ [38 * Y]) := by rw [hY]; exact M.nx_take m j (by rw [← HN.out]; exact hlt)
                rw [← hY] at hcell
                obtain ⟨p, hp⟩ : ∃ p, p = 32 + j := ⟨_, rfl⟩
                rw [← hp] at hcell hlt ⊢
                obtain ⟨y, hy⟩ : ∃ y, y = 38 * Y := ⟨_, rfl⟩
                have s1 : (38 : Int) * (Y : Int) = (y : Int) := by omega
                rw [← hy] at HNX
                have OA : Hid (OwnI (wx.alloc (.cells #[.int .i64 (y : Int)] 3)) wy.heap.size vx ((M.nx m).take j)) := oo.out.below ((Below.refl _ _).alloc (Nat.le_refl _) _)
                have KA : Hid (Below wy.heap.size wy (wx.alloc (.cells #[.int .i64 (y : Int)] 3))) := kx.out.alloc kx.out.size _
                have CA : Hid ((wx.alloc (.cells #[.int .i64 (y : Int)] 3)).cell? ⟨wx.heap.size, 0, none⟩ = some (.int .i64 (y : Int))) := by rw [(Blk.new wx 3 #[.int .i64 (y : Int)]).cell]; rfl
                have hpn : (p : Int) < (n : Int) := by omega
                have HP := Lib.hid hp
                clear hY hy oo hp
                go_wp2_with (at_builtin; go_must (refine wpList_appI _ rfl _ _ rfl wy.heap.size _ ((M.nx m).take j) rfl OA.out wx.heap.size y rfl CA.out ?d1 KA.out.size ?_))
                case d1 => rw [List.length_take, M.nx_length]; have := HN.out; omega
                intro v2 w2 o2 k2
                rw [← HNX.out] at o2
                have O2 := Lib.hid o2
                have K2 : Hid (Below wy.heap.size wy w2) := KA.out.trans k2
                clear o2 k2 OA KA CA
                go_wp2
                go_roundw
                case rel => exact ⟨j + 1, by have := HP.out; omega, by rw [HP.out]; go_num, O2, K2⟩
                case measure => simp [intOf]; omega
              · have hjn : 32 + j = n := by omega
                have HNL : Hid ((M.nx m).length = n - 32) := by rw [Hid, M.nx_length, ← HN.out]
                have O3 : Hid (OwnI wx wy.heap.size vx (M.nx m)) := by
                  have := oo.out
                  rwa [List.take_of_length_le (by rw [HNL.out]; omega)] at this
                have E1 : Hid (Blk wx (g + 1) 49 (nm N)) := D1.out.below kx.out HSZ.out
                have E0 : Hid (Blk wx g 49 z32) := b0.out.below kx.out (Nat.lt_of_succ_lt HSZ.out)
                have EK : Hid (Below w.heap.size w wx) := kk.out.trans (kx.out.mono kk.out.size)
                obtain ⟨gq, cq, rfl, hgq⟩ : ∃ gq cq, vx = .slice (some ⟨gq, 0, none⟩) (n - 32) cq ∧ wy.heap.size ≤ gq := by
                  rcases O3.out.2 with ⟨_, h0⟩ | ⟨gq, cq, cur, e, hb2, _⟩
                  · have := HNL.out; omega
                  · exact ⟨gq, cq, by rw [e, HNL.out], hb2⟩
                obtain ⟨n2, hn2⟩ : ∃ n2, n2 = n - 32 := ⟨_, rfl⟩
                rw [← hn2] at O3 HNL ⊢
                have hn20 : ¬ (n2 : Int) = 0 := by omega
                have hgt : ¬ ((32 + j : Nat) : Int) < (n : Int) := by omega
                have HGQ : Hid (g + 1 < gq) := Nat.lt_of_lt_of_le HSZ.out hgq
                have hlen2 : n2 < m.length := by rw [← HN.out]; omega
                have HL2 := Lib.hid hlen2
                obtain ⟨p, hp⟩ : ∃ p, p = 32 + j := ⟨_, rfl⟩
                rw [← hp] at hgt ⊢
                clear oo kx hp hlen2 hn2
                by_cases hc0 : c = 0
                · subst hc0
                  have HR := M.long_nil O m HLM.out hb.out HCC.out.symm
                  have FI := FIN.out wx _ (M.nx m) O3.out.isI HR.1 HR.2 (.inr (by rw [HNL.out]; exact HL2.out)) E1.out
                  have HFI := Lib.hid FI
                  have HFB := Lib.hid HR.1
                  have OI : Hid (IsI wx (.slice (some ⟨gq, 0, none⟩) n2 cq) (M.nx m)) := O3.out.isI
                  have OF : Hid (OffI (.slice (some ⟨gq, 0, none⟩) n2 cq) (M.nx m) (g + 1)) := by
                    intro b o n c e _
                    injection e with e
                    injection e with e
                    injection e with e
                    have := HGQ.out
                    omega
                  clear HR FI
                  go_wp2
                  go_roundw
                  case rel => exact ⟨M.nx m, N, nm N, OI, OF, HFB, HNN, HFI.out.1, E1, E0, EK⟩
                  case measure => exact (HFI.out.2)
                · obtain ⟨Z, hZ⟩ : ∃ Z, Z = (M.nx m).getD 0 0 := ⟨_, rfl⟩
                  have hZl : Z ≤ 5100273664 := by rw [hZ, M.nx_get]; have := HE.out (32 + 0); omega
                  have hcI : (0 : Int) < (c : Int) := by omega
                  have cZ : wx.cell? ⟨gq, 0, none⟩ = some (.int .i64 (Z : Int)) := by
                    have h0 := O3.out
                    rw [OwnI, HNL.out] at h0
                    rw [h0.cellAt 0 (by omega), ic_get _ 0 (by rw [HNL.out]; omega), ← hZ]
                  have fZ : wx.frozen? ⟨gq, 0, none⟩ = false := by
                    have h0 := O3.out
                    rw [OwnI, HNL.out] at h0
                    exact h0.frozenAt 0
                  obtain ⟨c38, h38⟩ : ∃ x, x = 38 * c := ⟨_, rfl⟩
                  obtain ⟨s, hsum⟩ : ∃ x, x = Z + c38 := ⟨_, rfl⟩
                  have s1 : (38 : Int) * (c : Int) = (c38 : Int) := by omega
                  have s2 : (Z : Int) + (c38 : Int) = (s : Int) := by omega
                  have HR := M.long_row O m HLM.out hb.out
                  rw [← HCC.out, ← h38, ← hZ, ← hsum] at HR
                  have OS : OwnI (wx.setCell ⟨gq, 0, none⟩ (.int .i64 (s : Int))) wy.heap.size (.slice (some ⟨gq, 0, none⟩) n2 cq) ((M.nx m).set 0 s) := by
                    have h := O3.out
                    rw [OwnI, HNL.out] at h
                    have := (h.stored 0 (.int .i64 (s : Int))).1
                    rw [show Value.int .i64 (s : Int) = ci s from rfl, ic_set] at this
                    rw [OwnI, List.length_set, HNL.out]
                    exact this
                  have OI : Hid (IsI (wx.setCell ⟨gq, 0, none⟩ (.int .i64 (s : Int))) (.slice (some ⟨gq, 0, none⟩) n2 cq) ((M.nx m).set 0 s)) := OS.isI
                  have OF : Hid (OffI (.slice (some ⟨gq, 0, none⟩) n2 cq) ((M.nx m).set 0 s) (g + 1)) := by
                    intro b o n c e _
                    injection e with e
                    injection e with e
                    injection e with e
                    have := HGQ.out
                    omega
                  have F1 : Hid (Blk (wx.setCell ⟨gq, 0, none⟩ (.int .i64 (s : Int))) (g + 1) 49 (nm N)) := E1.out.far (show g + 1 ≠ gq from Nat.ne_of_lt HGQ.out) _
                  have F0 : Hid (Blk (wx.setCell ⟨gq, 0, none⟩ (.int .i64 (s : Int))) g 49 z32) := E0.out.far (show g ≠ gq by have := HGQ.out; omega) _
                  have FK : Hid (Below w.heap.size w (wx.setCell ⟨gq, 0, none⟩ (.int .i64 (s : Int)))) := EK.out.setCell (show w.heap.size ≤ gq by have := HGQ.out; have := HG.out; omega) _
                  have HFI := Lib.hid (FIN.out _ _ _ OI.out HR.1 (by rw [List.length_set, HR.2]; rw [HCC.out]) (.inr (by rw [List.length_set, HNL.out]; exact HL2.out)) F1.out)
                  have HFB := Lib.hid HR.1
                  clear HR OS hZ h38 hsum
                  go_wp2
                  go_roundw
                  case rel => exact ⟨(M.nx m).set 0 s, N, nm N, OI, OF, HFB, HNN, HFI.out.1, F1, F0, FK⟩
                  case measure => exact (HFI.out.2)
          · have hshort : ¬ (32 : Int) < (n : Int) := by omega
            have HSM : Hid (m.length ≤ 32) := by rw [Hid, ← HN.out]; omega
            by_cases hc0 : c = 0
            · subst hc0
              have HR := M.short_nil O m HSM.out HCC.out.symm
              have OI : Hid (IsI wy (.slice none 0 0) []) := ⟨none, 0, rfl, Nat.le_refl _, Nat.zero_le _, .inl rfl⟩
              have OF : Hid (OffI (.slice none 0 0) [] (g + 1)) := by
                intro b o n c e h
                simp at h
              have HFI := Lib.hid (FIN.out wy _ [] OI.out HR.1 HR.2 (.inr (by rw [← HN.out]; show 0 < n; omega)) D1.out)
              have HFB := Lib.hid HR.1
              clear HR
              go_wp2
              go_roundw
              case rel => exact ⟨[], N, nm N, OI, OF, HFB, HNN, HFI.out.1, D1, b0, kk⟩
              case measure => exact (HFI.out.2)
            · have hcI : (0 : Int) < (c : Int) := by omega
              obtain ⟨s, hsum⟩ : ∃ x, x = 38 * c := ⟨_, rfl⟩
              have s1 : (38 : Int) * (c : Int) = (s : Int) := by omega
              have HR := M.short_row O m HSM.out hb.out
              rw [← HCC.out, ← hsum] at HR
              obtain ⟨gq, hgq⟩ : ∃ gq, gq = wy.heap.size := ⟨_, rfl⟩
              have Q1 : Blk (wy.alloc (.cells #[.int .i64 (s : Int)] 3)) gq 3 [.int .i64 (s : Int)] := Blk.newAt _ _ _ _ _ hgq rfl
              have OI : Hid (IsI (wy.alloc (.cells #[.int .i64 (s : Int)] 3)) (.slice (some ⟨gq, 0, none⟩) 1 1) [s]) := by
                refine ⟨_, 1, rfl, Nat.le_refl _, by unfold maxLen; omega, .inr ⟨gq, 0, rfl, fun i hi => ?_⟩⟩
                match i, hi with
                | 0, _ => rw [Q1.cell]; rfl
              have HGQ : Hid (g + 1 < gq) := by rw [hgq]; exact HSZ.out
              have OF : Hid (OffI (.slice (some ⟨gq, 0, none⟩) 1 1) [s] (g + 1)) := by
                intro b o n c e _
                injection e with e
                injection e with e
                injection e with e
                have := HGQ.out
                omega
              have F1 : Hid (Blk (wy.alloc (.cells #[.int .i64 (s : Int)] 3)) (g + 1) 49 (nm N)) := D1.out.alloc _
              have F0 : Hid (Blk (wy.alloc (.cells #[.int .i64 (s : Int)] 3)) g 49 z32) := b0.out.alloc _
              have FK : Hid (Below w.heap.size w (wy.alloc (.cells #[.int .i64 (s : Int)] 3))) := kk.out.alloc kk.out.size _
              have HFI := Lib.hid (FIN.out _ _ [s] OI.out HR.1 (by rw [← HCC.out]; exact HR.2) (.inl (by rw [← HCC.out]; omega)) F1.out)
              have HFB := Lib.hid HR.1
              clear HR Q1 hsum
              go_wp2_with (rw [← hgq])
              go_roundw
              case rel => exact ⟨[s], N, nm N, OI, OF, HFB, HNN, HFI.out.1, F1, F0, FK⟩
              case measure => exact (HFI.out.2)

end Go.Proofs.Yteombilmndlhjaa
