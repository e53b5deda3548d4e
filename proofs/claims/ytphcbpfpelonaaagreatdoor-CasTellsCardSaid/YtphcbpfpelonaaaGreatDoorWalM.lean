/-
  CONTRACTS OF package wal's log, tell and Commit. Conditions: as each says.
-/
import Derived.Test.YtphcbpfpelonaaaGreatDoorPw5
namespace Go.Proofs.YtphcbpfpelonaaaGreatDoor
open Go.RowKit
set_option linter.unusedVariables false
set_option maxRecDepth 100000

namespace M
theorem bytesAt_drop : ∀ (l : CL) (k j : Nat), j < l.length → (bytesAt l k).drop j = (k + j, (l.getD j (0, [])).2) :: (bytesAt l k).drop (j + 1)
  | c :: r, k, 0, _ => rfl
  | c :: r, k, j + 1, h => by
    have ih := bytesAt_drop r (k + 1) j (by simpa using h)
    rw [bytesAt, List.drop_succ_cons, List.drop_succ_cons, ih, show k + 1 + j = k + (j + 1) by omega]
    rfl

theorem bytes_step (l : CL) (j : Nat) (m : Dsk) (h : j < l.length) : writes ((bytesAt l 1).drop j) m = if (m.doWrite (1 + (j : Int)) (l.getD j (0, [])).2).2 = 0 then writes ((bytesAt l 1).drop (j + 1)) (m.doWrite (1 + (j : Int)) (l.getD j (0, [])).2).1 else m.doWrite (1 + (j : Int)) (l.getD j (0, [])).2 := by
  have e : (((1 + j : Nat)) : Int) = 1 + (j : Int) := by omega
  rw [bytesAt_drop l 1 j h, writes]
  simp only [e]

theorem writes_one (m : Dsk) (b : List UInt8) : writes [(0, b)] m = m.doWrite 0 b := by
  show (if (m.doWrite ((0 : Nat) : Int) b).2 = 0 then ((m.doWrite ((0 : Nat) : Int) b).1, (0 : Int)) else m.doWrite ((0 : Nat) : Int) b) = m.doWrite ((0 : Nat) : Int) b
  split
  · rename_i h
    exact Prod.ext rfl h.symm
  · rfl

theorem grow_writes : ∀ (ws : List (Nat × List UInt8)) (m : Dsk), (writes ws m).1.wait.length ≤ m.wait.length + ws.length ∧ (writes ws m).1.safe.length = m.safe.length
  | [], m => ⟨Nat.le_refl _, rfl⟩
  | c :: r, m => by
    have h := wait_write m (c.1 : Int) c.2
    rw [writes]
    split
    · have := grow_writes r (m.doWrite (c.1 : Int) c.2).1
      rw [List.length_cons]
      exact ⟨by omega, by rw [this.2, write_len]⟩
    · rw [List.length_cons]
      exact ⟨by omega, write_len _ _ _⟩

theorem grow_cons (p : Dsk → Dsk × Int) (ps : List (Dsk → Dsk × Int)) (x y : Nat) (h1 : ∀ m, (p m).1.wait.length ≤ m.wait.length + x ∧ (p m).1.safe.length = m.safe.length) (h2 : ∀ m, (phases ps m).1.wait.length ≤ m.wait.length + y ∧ (phases ps m).1.safe.length = m.safe.length) (m : Dsk) :
    (phases (p :: ps) m).1.wait.length ≤ m.wait.length + (x + y) ∧ (phases (p :: ps) m).1.safe.length = m.safe.length := by
  have a := h1 m
  rw [phases]
  split
  · have b := h2 (p m).1
    exact ⟨by omega, by rw [b.2, a.2]⟩
  · exact ⟨by omega, a.2⟩

theorem grow_sync (m : Dsk) : m.doSync.1.wait.length ≤ m.wait.length + 1 ∧ m.doSync.1.safe.length = m.safe.length := ⟨wait_sync m, sync_len m⟩

theorem grow_settle {dec : List (List UInt8) → Option CL} (h40 : ∀ s, ((dec s).getD []).length ≤ 40) (m : Dsk) : (settle dec m).1.wait.length ≤ m.wait.length + 100 ∧ (settle dec m).1.safe.length = m.safe.length := by
  have hs := grow_sync m
  rw [settle]
  split
  · split
    · exact ⟨Nat.le_trans hs.1 (by omega), hs.2⟩
    · have h := h40 m.doSync.1.safe
      have g := grow_cons (lays ((dec m.doSync.1.safe).getD [])) [Dsk.doSync, forgets, Dsk.doSync] 40 (1 + (1 + (1 + 0))) (fun m' => by have := wait_lays ((dec m.doSync.1.safe).getD []) m'; exact ⟨by omega, lays_len _ m'⟩)
        (grow_cons _ _ 1 _ grow_sync (grow_cons _ _ 1 _ (fun m' => by have := wait_write m' 0 zero256; exact ⟨this, write_len m' 0 zero256⟩) (grow_cons _ _ 1 _ grow_sync fun m' => ⟨Nat.le_refl _, rfl⟩))) m.doSync.1
      exact ⟨by omega, g.2.trans hs.2⟩
  · exact ⟨Nat.le_trans hs.1 (by omega), hs.2⟩

theorem dec_le (s : List (List UInt8)) : ((decJ s).getD []).length ≤ 40 := by
  rw [decJ_getD]
  split
  · rw [toldOf, List.length_map, List.length_range]
    exact Nat.min_le_right _ _
  · exact Nat.zero_le _

theorem dec_may (s : List (List UInt8)) : May (s.length - 42) ((decJ s).getD []) := by
  rw [decJ_getD]
  split
  · rename_i h
    exact h.2.1
  · exact ⟨by decide, fun c hc => by cases hc⟩
end M

set_option maxHeartbeats 8000000 in
theorem does_log (K : World → Prop) (g nb : Nat) (lv : Value) (l : M.CL) (xs : List Value) (hk : ∀ x, K x → IsCL x lv l xs) (hl : l.length ≤ 40) :
    Does K g nb 89 #[.agg #[.pointer (some ⟨g, 0, none⟩), lv]] (M.writes (M.bytesAt l 1)) := by
  intro T x m d _ hw k
  obtain ⟨ao, cap, rfl⟩ := (hk x k.now).shape
  have HK := Lib.hid hk
  obtain ⟨n, hn⟩ : ∃ n, n = l.length := ⟨_, rfl⟩
  rw [← hn] at HK hl ⊢
  have HN : Hid (l.length = n) := hn.symm
  have H40 := Lib.hid hl
  obtain ⟨R, hR⟩ : ∃ R, Hid (R = M.writes (M.bytesAt l 1) m) := ⟨_, rfl⟩
  rw [← hR.out]
  obtain ⟨G, hG⟩ : ∃ G, Hid (G = x.heap.size) := ⟨_, rfl⟩
  obtain ⟨W, hW⟩ : ∃ W, Hid (W = x.alloc (.cells #[.pointer (some ⟨g, 0, none⟩), .slice ao n cap] 129)) := ⟨_, rfl⟩
  have KW : Below x.heap.size x W := by rw [hW.out]; exact (Below.refl _ _).alloc (Nat.le_refl _) _
  have BW : Blk W G 129 [.pointer (some ⟨g, 0, none⟩), .slice ao n cap] := by rw [hW.out]; exact Blk.newAt _ _ _ _ _ hG.out rfl
  have HS : Hid (W.heap.size = G + 1) := by rw [Hid, hW.out, hG.out]; simp
  have D := Lib.hid (d.below KW)
  have C0 : Hid (Chg T x W) := Chg.of_below KW
  have KK : Hid (Keeps (fun j => T j ∨ W.heap.size ≤ j) W (fun y => K y ∧ Blk y G 129 [.pointer (some ⟨g, 0, none⟩), .slice ao n cap])) := fun y c => by
    have hlt := BW.lt
    refine ⟨k y ((Chg.of_below KW : Chg T x W).trans c fun j hj h => h.resolve_right (by have := KW.size; omega)), BW.chg c fun h => ?_⟩
    rcases h with h | h
    · have := d.there _ h
      have := hG.out
      omega
    · omega
  have HW := Lib.hid hw
  have HTX : Hid (x.heap.size ≤ W.heap.size) := KW.size
  clear hk hl hn d hw k KW BW
  go_enter Tryz.func89, Tryz.ntmps89
  go_upto_region 1 with fail
  rw [← hG.out, ← hW.out]
  clear hG hW
  have c1 : W.cell? ⟨G, 1, none⟩ = some (.slice ao n cap) := KK.out.now.2.cell 1
  go_wp2
  go_loopw [9] (fun i wr => ∃ (j : Nat) (m' : M.Dsk) (T' : Nat → Prop), i = .int .i64 (j : Int) ∧ Hid (j ≤ n) ∧ Hid (m'.wait.length ≤ m.wait.length + j) ∧ Hid (M.writes ((M.bytesAt l 1).drop j) m' = R) ∧ Hid (CodeDk T' wr g m') ∧ Hid (Chg T x wr) ∧ Hid (∀ k, T' k → T k ∨ W.heap.size ≤ k) ∧ Hid (W.heap.size ≤ wr.heap.size) ∧ Hid (Keeps T' wr (fun y => K y ∧ Blk y G 129 [.pointer (some ⟨g, 0, none⟩), .slice ao n cap])))
    (fun i _ => n - numOf i)
  case atStart => exact ⟨0, m, T, rfl, Nat.zero_le _, Nat.le_refl _, by rw [List.drop_zero]; exact hR.out.symm, D, C0, fun k h => .inl h, Nat.le_refl _, KK.out.less fun _ h => .inl h⟩
  case round =>
    clear D C0 KK c1
    obtain ⟨wz, rfl⟩ : ∃ x, x = wr := ⟨_, rfl⟩
    obtain ⟨j, m', T', rfl, hj, hwt, hr, d, c, ht, hsz, kk⟩ := hrel
    by_cases hlt : j < n
    · have b1 : (j : Int) < (n : Int) := by omega
      have hjl : j < l.length := by rw [HN.out]; exact hlt
      have cl := HK.out _ kk.out.now.1
      obtain ⟨lb, lo, rfl⟩ := cl.caps.2.2.2 (fun e => by rw [e] at hjl; cases hjl)
      have ca := cl.at_ j hjl
      have cr := cl.row_ j hjl
      have hst := M.bytes_step l j m' hjl
      obtain ⟨p, hp⟩ : ∃ p, p = (l.getD j (0, [])).1 := ⟨_, rfl⟩
      obtain ⟨y, hy⟩ : ∃ p, p = (l.getD j (0, [])).2 := ⟨_, rfl⟩
      obtain ⟨xv, hx⟩ : ∃ p, p = xs.getD j undef := ⟨_, rfl⟩
      rw [← hy] at hst
      rw [← hp, ← hx] at ca
      rw [← hx, ← hy] at cr
      obtain ⟨xa, xc, ex⟩ := cr.1.shape
      obtain ⟨yn, hyn⟩ : ∃ n, n = y.length := ⟨_, rfl⟩
      rw [← hyn] at ex
      subst ex
      have c0 : wz.cell? ⟨lb, lo + j * 2, none⟩ = some (.int .i64 p) := ca.1
      have c1 : wz.cell? ⟨lb, lo + j * 2 + 1, none⟩ = some (.slice xa yn xc) := ca.2
      have cG : wz.cell? ⟨G, 0, none⟩ = some (.pointer (some ⟨g, 0, none⟩)) := kk.out.now.2.cell 0
      obtain ⟨pz, hpz⟩ : ∃ z, Hid (z = wz.heap.size) := ⟨_, rfl⟩
      obtain ⟨wa, hwa⟩ : ∃ z, Hid (z = wz.alloc (.cells #[.int .i64 p, .slice xa yn xc] 146)) := ⟨_, rfl⟩
      have kwa : Below wz.heap.size wz wa := by rw [hwa.out]; exact (Below.refl _ _).alloc (Nat.le_refl _) _
      have bz : Blk wa pz 146 [.int .i64 p, .slice xa yn xc] := by rw [hwa.out]; exact Blk.newAt _ _ _ _ _ hpz.out rfl
      have cz0 : wa.cell? ⟨pz, 0, none⟩ = some (.int .i64 p) := bz.cell 0
      have cz1 : wa.cell? ⟨pz, 1, none⟩ = some (.slice xa yn xc) := bz.cell 1
      obtain ⟨pp, hpp⟩ : ∃ z, z = 1 + (j : Int) := ⟨_, rfl⟩
      rw [← hpp] at hst
      have hwb : m'.wait.length < 1000000 := by have := hwt.out; have := HW.out; have := H40.out; omega
      have w42 : wrap64 (1 + (j : Int)) = pp := by rw [hpp]; clear hpp hst; have := H40.out; unfold wrap64; omega
      have cGa : wa.cell? ⟨G, 0, none⟩ = some (.pointer (some ⟨g, 0, none⟩)) := (kwa.cell (p := ⟨G, 0, none⟩) (World.block_lt_of_cell? wz _ cG)).trans cG
      have CW := Lib.hid (codeDk_write (d.out.below kwa) pp (.slice xa yn xc) y (cr.1.below kwa) hwb)
      have HWW := Lib.hid (M.wait_write m' pp y)
      obtain ⟨q, hq⟩ : ∃ q, Hid (q = m'.doWrite pp y) := ⟨_, rfl⟩
      rw [← hq.out] at CW HWW hst
      obtain ⟨cd, hcd⟩ : ∃ c, Hid (c = q.2) := ⟨_, rfl⟩
      have hr' := hr.out
      rw [hst, ← hcd.out] at hr'
      rw [← hcd.out] at CW
      have HR := Lib.hid hr'
      have KWA := Lib.hid kwa
      have HJ := Lib.hid hlt
      have g2 : (0 : Int) ≤ (j : Int) := Int.natCast_nonneg j
      have g3 : ((j : Int)).toNat = j := Int.toNat_natCast j
      clear hwb ca cr hst hp hy hx hyn hr hr' cl hjl kwa hlt cG hpp bz
      go_upto_region 4 with fail
      rw [← hwa.out, ← hpz.out]
      clear hwa hpz c0 c1
      go_wp2_with fail
      refine CW.out.mono ?_
      rintro e w1 ⟨rfl, e1, T1, d1, t1⟩
      have CC : Hid (Chg T x w1) := (c.out.trans (Chg.of_below KWA.out : Chg T wz _) fun _ _ h => h).trans e1 fun k hk h => (ht.out k h).resolve_right (by have := HTX.out; omega)
      have DD := Lib.hid d1
      have KN := Lib.hid ((kk.out.below KWA.out).next e1 t1)
      have hs1 := hsz.out
      have hs2 := KWA.out.size
      have TT : Hid (∀ k, T1 k → T k ∨ W.heap.size ≤ k) := fun k h => by
        rcases t1 k h with h | h
        · exact ht.out k h
        · exact .inr (by omega)
      have SZ : Hid (W.heap.size ≤ w1.heap.size) := by rw [Hid]; have := e1.size; omega
      clear CW e1 d1 t1 hs1 hs2 cGa cz0 cz1 w42
      by_cases h0 : cd = 0
      · have t0 : (cd != 0) = false := by rw [h0]; rfl
        have HR2 : Hid (M.writes ((M.bytesAt l 1).drop (j + 1)) q.1 = R) := by have := HR.out; rwa [if_pos h0] at this
        have n3 : wrap64 ((j : Int) + 1) = ((j + 1 : Nat) : Int) := by have := HJ.out; have := H40.out; unfold wrap64; omega
        have N3 := Lib.hid n3
        have HWN : Hid (q.1.wait.length ≤ m.wait.length + (j + 1)) := by rw [Hid]; have := HWW.out; have := hwt.out; omega
        clear n3 h0 HR d c ht kk hsz
        go_wp2
        go_roundw
        case rel => exact ⟨j + 1, q.1, T1, by first | rw [N3.out] | rfl, HJ.out, HWN, HR2, DD, CC, TT, SZ, KN⟩
        case measure =>
          first | rw [N3.out] | skip
          exact step_down HJ.out
      · have t0 : (cd != 0) = true := by simpa using h0
        have HR2 : Hid (q = R) := by have := HR.out; rwa [if_neg h0] at this
        clear h0 HR d c ht kk hsz
        go_wp2
        go_ret
        exact ⟨by rw [hcd.out, HR2.out]; rfl, CC.out, T1, by rw [← HR2.out]; exact DD.out, fun k h => (TT.out k h).imp_right fun h => Nat.le_trans HTX.out h⟩
    · have b1 : ¬ (j : Int) < (n : Int) := by omega
      have e : (M.bytesAt l 1).drop j = [] := List.drop_eq_nil_of_le (by rw [M.bytesAt_len, HN.out]; omega)
      have hr2 := hr.out
      rw [e] at hr2
      have HR2 : Hid ((m', (0 : Int)) = R) := hr2
      clear e hr2 hlt hr
      go_wp2
      go_ret
      exact ⟨by rw [← HR2.out]; rfl, c.out, T', by rw [← HR2.out]; exact d.out, fun k h => (ht.out k h).imp_right fun h => Nat.le_trans HTX.out h⟩

set_option maxHeartbeats 4000000 in
theorem does_tell (K : World → Prop) (g nb : Nat) (lv : Value) (l : M.CL) (xs : List Value) (hk : ∀ x, K x → IsCL x lv l xs ∧ Laid x) (h40 : l.length ≤ 40) (hd : ∀ c ∈ l, 0 ≤ c.1 ∧ c.1 < 4294967296 ∧ c.2.length = 256) :
    Does K g nb 90 #[.agg #[.pointer (some ⟨g, 0, none⟩), lv]] (M.writes [(0, M.headOf l)]) := by
  intro T x m d _ hw k
  obtain ⟨a, c, rfl⟩ := (hk x k.now).1.shape
  have D := Lib.hid d
  have HW := Lib.hid hw
  have HK := Lib.hid hk
  have KK := Lib.hid k
  obtain ⟨n, hn⟩ : ∃ n, n = l.length := ⟨_, rfl⟩
  rw [← hn] at HK ⊢
  obtain ⟨G, hG⟩ : ∃ G, Hid (G = x.heap.size) := ⟨_, rfl⟩
  obtain ⟨W, hW⟩ : ∃ W, Hid (W = x.alloc (.cells #[.pointer (some ⟨g, 0, none⟩), .slice a n c] 129)) := ⟨_, rfl⟩
  have KW : Hid (Below x.heap.size x W) := by rw [hW.out]; exact (Below.refl _ _).alloc (Nat.le_refl _) _
  have BW : Hid (Blk W G 129 [.pointer (some ⟨g, 0, none⟩), .slice a n c]) := by rw [hW.out]; exact Blk.newAt _ _ _ _ _ hG.out rfl
  have CH := Lib.hid (fun y (ky : Below x.heap.size x y) => headOf_any y (HK.out _ (KK.out.below ky).now).2 (.slice a n c) l xs (HK.out _ (KK.out.below ky).now).1 h40 hd)
  clear d hw k hk hn
  go_enter Tryz.func90, Tryz.ntmps90
  go_upto_region 1 with fail
  rw [← hG.out, ← hW.out]
  have HGX : Hid (∀ k, T k → k ≠ G) := fun k hk => by have := D.out.there k hk; rw [hG.out]; omega
  clear hG hW
  go_upto_region 1 with fail
  refine wp_region_any (by kernel_rfl) ?_
  change wpAny _ _ _ _ _ _ _ (World.drew _)
  refine wpAny_of_held (S := fun w' => w'.cell? ⟨G, 0, none⟩ = some (.pointer (some ⟨g, 0, none⟩)) ∧ w'.cell? ⟨G, 1, none⟩ = some (.slice a n c)) _ _ _ _ ?_
  have S0 : W.drew.cell? ⟨G, 0, none⟩ = some (.pointer (some ⟨g, 0, none⟩)) ∧ W.drew.cell? ⟨G, 1, none⟩ = some (.slice a n c) := ⟨BW.out.cell 0, BW.out.cell 1⟩
  refine wpAnyH_take_at (i := 0) (v := .pointer (some ⟨G, 0, none⟩)) rfl rfl (by kernel_rfl) (by kernel_rfl) (by kernel_rfl) (fun _ _ _ h => h) (Or.inl ⟨by rfl, fun w hS => by go_simp⟩) S0 ?_
  simp only [List.setIfInBounds_toArray, List.set_cons_zero, List.set_cons_succ]
  refine wpAnyH_take_at (i := 1) (v := .pointer (some ⟨g, 0, none⟩)) rfl rfl (by kernel_rfl) (by kernel_rfl) (by kernel_rfl) (fun _ _ _ h => h) (Or.inl ⟨by rfl, fun w hS => by have c := hS.1; go_simp⟩) S0 ?_
  simp only [List.setIfInBounds_toArray, List.set_cons_zero, List.set_cons_succ]
  refine wpAnyH_take_at (i := 2) (v := .pointer (some ⟨G, 1, none⟩)) rfl rfl (by kernel_rfl) (by kernel_rfl) (by kernel_rfl) (fun _ _ _ h => h) (Or.inl ⟨by rfl, fun w hS => by go_simp⟩) S0 ?_
  simp only [List.setIfInBounds_toArray, List.set_cons_zero, List.set_cons_succ]
  refine wpAnyH_take_at (i := 3) (v := .slice a n c) rfl rfl (by kernel_rfl) (by kernel_rfl) (by kernel_rfl) (fun _ _ _ h => h) (Or.inl ⟨by rfl, fun w hS => by have c := hS.2; go_simp⟩) S0 ?_
  simp only [List.setIfInBounds_toArray, List.set_cons_zero, List.set_cons_succ]
  refine wpAnyH_ready (rs := [4]) (by kernel_rfl) (by simp) ?_
  refine AllReadyH.cons rfl (fun K hK => ?_) AllReadyH.nil
  go_simp
  have kd := (drewN_below (Below.refl W.heap.size W) 1 : Below W.heap.size W W.drew)
  refine (CH.out W.drew (KW.out.trans (kd.mono KW.out.size))).mono ?_
  rintro e w1 ⟨v1, rfl, o1, k1⟩
  have k01 : Below W.heap.size W w1 := kd.trans k1
  have B1 := BW.out.below k01 BW.out.lt
  have kx1 : Below x.heap.size x w1 := KW.out.trans (k01.mono KW.out.size)
  refine hK.out _ _ ⟨B1.cell 0, B1.cell 1⟩ (fun _ => ?_)
  clear hK S0
  refine wpAnyH_ready (rs := [5]) (by kernel_rfl) (by simp) ?_
  refine AllReadyH.cons rfl (fun K hK => ?_) AllReadyH.nil
  go_simp
  refine (codeDk_write (D.out.below kx1) 0 v1 (M.headOf l) o1.isB (by have := HW.out; omega)).mono ?_
  rintro e w2 ⟨rfl, c2, T2, d2, t2⟩
  have B2 := B1.chg c2 (fun h => HGX.out _ h rfl)
  refine hK.out _ _ ⟨B2.cell 0, B2.cell 1⟩ (fun _ => ?_)
  have CC : Hid (Chg T x w2) := (Chg.of_below kx1 : Chg T x w1).trans c2 fun _ _ h => h
  have DD := Lib.hid d2
  have hs1 := kx1.size
  have TT : Hid (∀ k, T2 k → T k ∨ x.heap.size ≤ k) := fun k h => (t2 k h).imp_right fun h => Nat.le_trans hs1 h
  have C2 := Lib.hid (And.intro (B2.cell 0) (B2.cell 1))
  clear hK k1 k01 B1 kx1 o1 c2 d2 t2 B2 hs1 kd
  obtain ⟨q, hq⟩ : ∃ q, Hid (q = m.doWrite 0 (M.headOf l)) := ⟨_, rfl⟩
  rw [← hq.out] at DD ⊢
  refine wpAnyH_take_at (i := 6) (v := .int .i64 q.2) rfl rfl (by kernel_rfl) (by kernel_rfl) (by kernel_rfl) (fun _ _ _ h => h) (Or.inl ⟨by rfl, fun w hS => by go_simp⟩) C2.out ?_
  simp only [List.setIfInBounds_toArray, List.set_cons_zero, List.set_cons_succ]
  refine wpAnyH_done (by kernel_rfl) ?_ _
  clear C2
  go_wp2
  go_ret
  exact ⟨by rw [M.writes_one, hq.out]; rfl, CC.out, T2, by rw [M.writes_one, ← hq.out]; exact DD.out, TT.out⟩

set_option maxHeartbeats 8000000 in
theorem wcommit_yes {T : Nat → Prop} {w : World} {gw g : Nat} {m : M.Dsk} (d : CodeDk T w g m) (kl : Keeps T w Laid) (kw : Keeps T w (fun x => WalIs x gw g)) (h42 : 42 < m.safe.length) (hw : m.wait.length < 100000) (lv : Value) (l : M.CL) (xs : List Value) (kc : Keeps T w (fun x => IsCL x lv l xs)) (hm : M.May (m.safe.length - 42) l) :
    Calls Tryz.prog 62 #[.pointer (some ⟨gw, 0, none⟩), lv] w fun e w' => e = .returned (.int .i64 (M.commit M.decJ M.headOf m l).2) ∧ Chg T w w' ∧ ∃ T', CodeDk T' w' g (M.commit M.decJ M.headOf m l).1 ∧ ∀ k, T' k → T k ∨ w.heap.size ≤ k := by
  have hmf : ∀ (fn : Fn) (first cap : Array Value) (w : World), (Instr.makeFunc fn first cap).run Tryz.prog w = .ok (.func fn first cap) w := fun _ _ _ _ => rfl
  obtain ⟨va, vc, rfl⟩ := kc.now.shape
  obtain ⟨N, hN⟩ : ∃ N, N = l.length := ⟨_, rfl⟩
  obtain ⟨n, hn⟩ : ∃ n, n = m.safe.length := ⟨_, rfl⟩
  have CM := Lib.hid (wmay_any d h42 kw.now _ l xs kc.now true (by rw [decide_eq_true hm]))
  rw [← hN] at kc CM ⊢
  rw [← hn] at h42 hm
  have hnf : n ≤ 2176 := by rw [hn]; exact d.ok.few
  have D := Lib.hid d
  have KL := Lib.hid kl
  have KW := Lib.hid kw
  have KC := Lib.hid kc
  have HM := Lib.hid hm
  have H42 := Lib.hid h42
  have HNF := Lib.hid hnf
  have HWT := Lib.hid hw
  have HN : Hid (m.safe.length = n) := hn.symm
  have HL : Hid (l.length = N) := hN.symm
  obtain ⟨R, hR⟩ : ∃ R, Hid (R = M.commit M.decJ M.headOf m l) := ⟨_, rfl⟩
  rw [← hR.out]
  clear d kl kw kc hm h42 hnf hw hn hN
  by_cases h0 : N = 0
  · have hl0 : l = [] := List.eq_nil_of_length_eq_zero (by rw [HL.out]; exact h0)
    have HR : Hid (R = m.doSync) := by rw [Hid, hR.out, M.commit, if_pos hl0]
    have t0 : (((N : Int)) == 0) = true := by rw [h0]; rfl
    have t1 : decide ((N : Int) = 0) = true := by rw [h0]; rfl
    subst h0
    clear hl0 hR
    go_enter Tryz.func62, Tryz.ntmps62
    go_wp2_with fail
    refine CM.out.mono ?_
    rintro e w1 ⟨rfl, k1⟩
    have CS := Lib.hid (wsync10 (D.out.below k1) (KW.out.below k1).now)
    rw [← HR.out] at CS
    have C1 : Hid (Chg T w w1) := Chg.of_below k1
    have S1 : Hid (w.heap.size ≤ w1.heap.size) := k1.size
    clear k1
    go_wp2_with fail
    refine CS.out.mono ?_
    rintro e w2 ⟨rfl, c2, T2, d2, t2⟩
    have C2 : Hid (Chg T w w2) := C1.out.trans c2 fun _ _ h => h
    have D2 := Lib.hid d2
    have T2' : Hid (∀ k, T2 k → T k ∨ w.heap.size ≤ k) := fun k h => (t2 k h).imp_right fun h => Nat.le_trans S1.out h
    clear c2 d2 t2 CS CM
    go_wp2
    go_ret
    exact ⟨rfl, C2.out, T2, D2.out, T2'.out⟩
  · have hl0 : l ≠ [] := fun e => h0 (by rw [← HL.out, e]; rfl)
    have HR : Hid (R = M.phases [M.settle M.decJ, M.writes (M.bytesAt l 1), M.Dsk.doSync, M.writes [(0, M.headOf l)], M.Dsk.doSync, M.lays l, M.Dsk.doSync, M.forgets, M.Dsk.doSync] m) := by rw [Hid, hR.out, M.commit, if_neg hl0]
    have t0 : (((N : Int)) == 0) = false := by simpa using h0
    have t1 : ¬ ((N : Int) = 0) := by omega
    have g0 : w.cell? ⟨gw, 0, none⟩ = some (.pointer (some ⟨g, 0, none⟩)) := KW.out.now.cell 0
    clear hl0 hR h0
    go_enter Tryz.func62, Tryz.ntmps62
    go_wp2_with fail
    refine CM.out.mono ?_
    rintro e w1 ⟨rfl, k1⟩
    have g1 : w1.cell? ⟨gw, 0, none⟩ = some (.pointer (some ⟨g, 0, none⟩)) := (KW.out.below k1).now.cell 0
    obtain ⟨yb, hyb⟩ : ∃ y, Hid (y = w1.heap.size) := ⟨_, rfl⟩
    obtain ⟨W, hW⟩ : ∃ y, Hid (y = w1.alloc (.cells #[.pointer (some ⟨g, 0, none⟩), .slice va N vc] 129)) := ⟨_, rfl⟩
    have kW : Below w1.heap.size w1 W := by rw [hW.out]; exact (Below.refl _ _).alloc (Nat.le_refl _) _
    have bW : Blk W yb 129 [.pointer (some ⟨g, 0, none⟩), .slice va N vc] := by rw [hW.out]; exact Blk.newAt _ _ _ _ _ hyb.out rfl
    have kwW : Below w.heap.size w W := k1.trans (kW.mono k1.size)
    have KWW := Lib.hid kwW
    have BB := Lib.hid bW
    have HYB : Hid (w.heap.size ≤ yb) := by rw [hyb.out]; exact k1.size
    clear CM k1 kW bW g0
    go_upto_region 6 with fail
    rw [← hW.out, ← hyb.out]
    clear hW hyb g1
    obtain ⟨LV, hLV⟩ : ∃ v, Hid (v = Value.slice va N vc) := ⟨_, rfl⟩
    have hlv : ∃ a n c, LV = .slice a n c := ⟨_, _, _, hLV.out⟩
    rw [← hLV.out] at KC BB ⊢
    have DW := Lib.hid (D.out.below KWW.out)
    have KN : Hid (Keeps T W (fun z => (WalIs z gw g ∧ Laid z) ∧ Blk z yb 129 [.pointer (some ⟨g, 0, none⟩), LV] ∧ IsCL z LV l xs)) := fun z c => by
      have c' : Chg T w z := (Chg.of_below KWW.out : Chg T w W).trans c fun _ _ h => h
      exact ⟨⟨KW.out z c', KL.out z c'⟩, BB.out.chg c fun h => by have := D.out.there _ h; have := HYB.out; omega, KC.out z c'⟩
    have CG : Hid (∀ z, Below W.heap.size W z → z.cell? ⟨gw, 0, none⟩ = some (.pointer (some ⟨g, 0, none⟩))) := fun z k => (KN.out.below k).now.1.1.cell 0
    go_upto_region 6 with fail
    refine wp_region_any (by kernel_rfl) ?_
    change wpAny _ _ _ _ _ _ _ (World.drew _)
    refine wpAny_of_held (S := fun w' => w'.cell? ⟨gw, 0, none⟩ = some (.pointer (some ⟨g, 0, none⟩)) ∧ w'.cell? ⟨yb, 0, none⟩ = some (.pointer (some ⟨g, 0, none⟩)) ∧ w'.cell? ⟨yb, 1, none⟩ = some LV) _ _ _ _ ?_
    have S0 : W.drew.cell? ⟨gw, 0, none⟩ = some (.pointer (some ⟨g, 0, none⟩)) ∧ W.drew.cell? ⟨yb, 0, none⟩ = some (.pointer (some ⟨g, 0, none⟩)) ∧ W.drew.cell? ⟨yb, 1, none⟩ = some LV := ⟨KN.out.now.1.1.cell 0, BB.out.cell 0, BB.out.cell 1⟩
    refine wpAnyH_take_at (i := 0) (v := .pointer (some ⟨gw, 0, none⟩)) rfl rfl (by kernel_rfl) (by kernel_rfl) (by kernel_rfl) (fun _ _ _ h => h) (Or.inl ⟨by rfl, fun w hS => by go_simp⟩) S0 ?_
    simp only [List.setIfInBounds_toArray, List.set_cons_zero, List.set_cons_succ]
    refine wpAnyH_take_at (i := 1) (v := .func (.func 47) #[.pointer (some ⟨gw, 0, none⟩)] #[]) rfl rfl (by kernel_rfl) (by kernel_rfl) (by kernel_rfl) (fun _ _ _ h => h) (Or.inl ⟨by rfl, fun w hS => by go_simp⟩) S0 ?_
    simp only [List.setIfInBounds_toArray, List.set_cons_zero, List.set_cons_succ]
    refine wpAnyH_take_at (i := 2) (v := .agg #[.pointer (some ⟨g, 0, none⟩), LV]) rfl rfl (by kernel_rfl) (by kernel_rfl) (by kernel_rfl) (fun _ _ _ h => h) (Or.inl ⟨by rfl, fun w hS => by have c := hS.2.1; have d := hS.2.2; go_simp⟩) S0 ?_
    simp only [List.setIfInBounds_toArray, List.set_cons_zero, List.set_cons_succ]
    refine wpAnyH_take_at (i := 3) (v := .func (.func 89) #[.agg #[.pointer (some ⟨g, 0, none⟩), LV]] #[]) rfl rfl (by kernel_rfl) (by kernel_rfl) (by kernel_rfl) (fun _ _ _ h => h) (Or.inl ⟨by rfl, fun w hS => by go_simp⟩) S0 ?_
    simp only [List.setIfInBounds_toArray, List.set_cons_zero, List.set_cons_succ]
    refine wpAnyH_take_at (i := 4) (v := .pointer (some ⟨gw, 0, none⟩)) rfl rfl (by kernel_rfl) (by kernel_rfl) (by kernel_rfl) (fun _ _ _ h => h) (Or.inl ⟨by rfl, fun w hS => by go_simp⟩) S0 ?_
    simp only [List.setIfInBounds_toArray, List.set_cons_zero, List.set_cons_succ]
    refine wpAnyH_take_at (i := 5) (v := .pointer (some ⟨gw, 0, none⟩)) rfl rfl (by kernel_rfl) (by kernel_rfl) (by kernel_rfl) (fun _ _ _ h => h) (Or.inl ⟨by rfl, fun w hS => by go_simp⟩) S0 ?_
    simp only [List.setIfInBounds_toArray, List.set_cons_zero, List.set_cons_succ]
    refine wpAnyH_take_at (i := 6) (v := .pointer (some ⟨gw, 0, none⟩)) rfl rfl (by kernel_rfl) (by kernel_rfl) (by kernel_rfl) (fun _ _ _ h => h) (Or.inl ⟨by rfl, fun w hS => by go_simp⟩) S0 ?_
    simp only [List.setIfInBounds_toArray, List.set_cons_zero, List.set_cons_succ]
    refine wpAnyH_take_at (i := 7) (v := .pointer (some ⟨g, 0, none⟩)) rfl rfl (by kernel_rfl) (by kernel_rfl) (by kernel_rfl) (fun _ _ _ h => h) (Or.inl ⟨by rfl, fun w hS => by have c := hS.1; go_simp⟩) S0 ?_
    simp only [List.setIfInBounds_toArray, List.set_cons_zero, List.set_cons_succ]
    refine wpAnyH_take_at (i := 8) (v := .func (.func 72) #[.pointer (some ⟨g, 0, none⟩)] #[]) rfl rfl (by kernel_rfl) (by kernel_rfl) (by kernel_rfl) (fun _ _ _ h => h) (Or.inl ⟨by rfl, fun w hS => by go_simp⟩) S0 ?_
    simp only [List.setIfInBounds_toArray, List.set_cons_zero, List.set_cons_succ]
    refine wpAnyH_take_at (i := 9) (v := .agg #[.pointer (some ⟨g, 0, none⟩), LV]) rfl rfl (by kernel_rfl) (by kernel_rfl) (by kernel_rfl) (fun _ _ _ h => h) (Or.inl ⟨by rfl, fun w hS => by have c := hS.2.1; have d := hS.2.2; go_simp⟩) S0 ?_
    simp only [List.setIfInBounds_toArray, List.set_cons_zero, List.set_cons_succ]
    refine wpAnyH_take_at (i := 10) (v := .func (.func 90) #[.agg #[.pointer (some ⟨g, 0, none⟩), LV]] #[]) rfl rfl (by kernel_rfl) (by kernel_rfl) (by kernel_rfl) (fun _ _ _ h => h) (Or.inl ⟨by rfl, fun w hS => by go_simp⟩) S0 ?_
    simp only [List.setIfInBounds_toArray, List.set_cons_zero, List.set_cons_succ]
    refine wpAnyH_take_at (i := 11) (v := .pointer (some ⟨gw, 0, none⟩)) rfl rfl (by kernel_rfl) (by kernel_rfl) (by kernel_rfl) (fun _ _ _ h => h) (Or.inl ⟨by rfl, fun w hS => by go_simp⟩) S0 ?_
    simp only [List.setIfInBounds_toArray, List.set_cons_zero, List.set_cons_succ]
    refine wpAnyH_take_at (i := 12) (v := .pointer (some ⟨gw, 0, none⟩)) rfl rfl (by kernel_rfl) (by kernel_rfl) (by kernel_rfl) (fun _ _ _ h => h) (Or.inl ⟨by rfl, fun w hS => by go_simp⟩) S0 ?_
    simp only [List.setIfInBounds_toArray, List.set_cons_zero, List.set_cons_succ]
    refine wpAnyH_take_at (i := 13) (v := .pointer (some ⟨gw, 0, none⟩)) rfl rfl (by kernel_rfl) (by kernel_rfl) (by kernel_rfl) (fun _ _ _ h => h) (Or.inl ⟨by rfl, fun w hS => by go_simp⟩) S0 ?_
    simp only [List.setIfInBounds_toArray, List.set_cons_zero, List.set_cons_succ]
    refine wpAnyH_take_at (i := 14) (v := .pointer (some ⟨g, 0, none⟩)) rfl rfl (by kernel_rfl) (by kernel_rfl) (by kernel_rfl) (fun _ _ _ h => h) (Or.inl ⟨by rfl, fun w hS => by have c := hS.1; go_simp⟩) S0 ?_
    simp only [List.setIfInBounds_toArray, List.set_cons_zero, List.set_cons_succ]
    refine wpAnyH_take_at (i := 15) (v := .func (.func 72) #[.pointer (some ⟨g, 0, none⟩)] #[]) rfl rfl (by kernel_rfl) (by kernel_rfl) (by kernel_rfl) (fun _ _ _ h => h) (Or.inl ⟨by rfl, fun w hS => by go_simp⟩) S0 ?_
    simp only [List.setIfInBounds_toArray, List.set_cons_zero, List.set_cons_succ]
    refine wpAnyH_take_at (i := 16) (v := .agg #[.pointer (some ⟨g, 0, none⟩), LV]) rfl rfl (by kernel_rfl) (by kernel_rfl) (by kernel_rfl) (fun _ _ _ h => h) (Or.inl ⟨by rfl, fun w hS => by have c := hS.2.1; have d := hS.2.2; go_simp⟩) S0 ?_
    simp only [List.setIfInBounds_toArray, List.set_cons_zero, List.set_cons_succ]
    refine wpAnyH_take_at (i := 17) (v := .func (.func 77) #[.agg #[.pointer (some ⟨g, 0, none⟩), LV]] #[]) rfl rfl (by kernel_rfl) (by kernel_rfl) (by kernel_rfl) (fun _ _ _ h => h) (Or.inl ⟨by rfl, fun w hS => by go_simp⟩) S0 ?_
    simp only [List.setIfInBounds_toArray, List.set_cons_zero, List.set_cons_succ]
    refine wpAnyH_take_at (i := 18) (v := .pointer (some ⟨gw, 0, none⟩)) rfl rfl (by kernel_rfl) (by kernel_rfl) (by kernel_rfl) (fun _ _ _ h => h) (Or.inl ⟨by rfl, fun w hS => by go_simp⟩) S0 ?_
    simp only [List.setIfInBounds_toArray, List.set_cons_zero, List.set_cons_succ]
    refine wpAnyH_take_at (i := 19) (v := .pointer (some ⟨gw, 0, none⟩)) rfl rfl (by kernel_rfl) (by kernel_rfl) (by kernel_rfl) (fun _ _ _ h => h) (Or.inl ⟨by rfl, fun w hS => by go_simp⟩) S0 ?_
    simp only [List.setIfInBounds_toArray, List.set_cons_zero, List.set_cons_succ]
    refine wpAnyH_take_at (i := 20) (v := .pointer (some ⟨gw, 0, none⟩)) rfl rfl (by kernel_rfl) (by kernel_rfl) (by kernel_rfl) (fun _ _ _ h => h) (Or.inl ⟨by rfl, fun w hS => by go_simp⟩) S0 ?_
    simp only [List.setIfInBounds_toArray, List.set_cons_zero, List.set_cons_succ]
    refine wpAnyH_take_at (i := 21) (v := .pointer (some ⟨g, 0, none⟩)) rfl rfl (by kernel_rfl) (by kernel_rfl) (by kernel_rfl) (fun _ _ _ h => h) (Or.inl ⟨by rfl, fun w hS => by have c := hS.1; go_simp⟩) S0 ?_
    simp only [List.setIfInBounds_toArray, List.set_cons_zero, List.set_cons_succ]
    refine wpAnyH_take_at (i := 22) (v := .func (.func 72) #[.pointer (some ⟨g, 0, none⟩)] #[]) rfl rfl (by kernel_rfl) (by kernel_rfl) (by kernel_rfl) (fun _ _ _ h => h) (Or.inl ⟨by rfl, fun w hS => by go_simp⟩) S0 ?_
    simp only [List.setIfInBounds_toArray, List.set_cons_zero, List.set_cons_succ]
    refine wpAnyH_take_at (i := 23) (v := .agg #[.pointer (some ⟨g, 0, none⟩), LV]) rfl rfl (by kernel_rfl) (by kernel_rfl) (by kernel_rfl) (fun _ _ _ h => h) (Or.inl ⟨by rfl, fun w hS => by have c := hS.2.1; have d := hS.2.2; go_simp⟩) S0 ?_
    simp only [List.setIfInBounds_toArray, List.set_cons_zero, List.set_cons_succ]
    refine wpAnyH_take_at (i := 24) (v := .func (.func 78) #[.agg #[.pointer (some ⟨g, 0, none⟩), LV]] #[]) rfl rfl (by kernel_rfl) (by kernel_rfl) (by kernel_rfl) (fun _ _ _ h => h) (Or.inl ⟨by rfl, fun w hS => by go_simp⟩) S0 ?_
    simp only [List.setIfInBounds_toArray, List.set_cons_zero, List.set_cons_succ]
    refine wpAnyH_take_at (i := 25) (v := .pointer (some ⟨gw, 0, none⟩)) rfl rfl (by kernel_rfl) (by kernel_rfl) (by kernel_rfl) (fun _ _ _ h => h) (Or.inl ⟨by rfl, fun w hS => by go_simp⟩) S0 ?_
    simp only [List.setIfInBounds_toArray, List.set_cons_zero, List.set_cons_succ]
    refine wpAnyH_take_at (i := 26) (v := .pointer (some ⟨gw, 0, none⟩)) rfl rfl (by kernel_rfl) (by kernel_rfl) (by kernel_rfl) (fun _ _ _ h => h) (Or.inl ⟨by rfl, fun w hS => by go_simp⟩) S0 ?_
    simp only [List.setIfInBounds_toArray, List.set_cons_zero, List.set_cons_succ]
    refine wpAnyH_take_at (i := 27) (v := .pointer (some ⟨gw, 0, none⟩)) rfl rfl (by kernel_rfl) (by kernel_rfl) (by kernel_rfl) (fun _ _ _ h => h) (Or.inl ⟨by rfl, fun w hS => by go_simp⟩) S0 ?_
    simp only [List.setIfInBounds_toArray, List.set_cons_zero, List.set_cons_succ]
    refine wpAnyH_take_at (i := 28) (v := .pointer (some ⟨g, 0, none⟩)) rfl rfl (by kernel_rfl) (by kernel_rfl) (by kernel_rfl) (fun _ _ _ h => h) (Or.inl ⟨by rfl, fun w hS => by have c := hS.1; go_simp⟩) S0 ?_
    simp only [List.setIfInBounds_toArray, List.set_cons_zero, List.set_cons_succ]
    refine wpAnyH_take_at (i := 29) (v := .func (.func 72) #[.pointer (some ⟨g, 0, none⟩)] #[]) rfl rfl (by kernel_rfl) (by kernel_rfl) (by kernel_rfl) (fun _ _ _ h => h) (Or.inl ⟨by rfl, fun w hS => by go_simp⟩) S0 ?_
    simp only [List.setIfInBounds_toArray, List.set_cons_zero, List.set_cons_succ]
    refine wpAnyH_ready (rs := [30]) (by kernel_rfl) (by simp) ?_
    refine AllReadyH.cons rfl (fun K hK => ?_) AllReadyH.nil
    go_simp
    obtain ⟨W8, hW8⟩ : ∃ y, Hid (y = (W.alloc (.cells #[.func (.func 47) #[.pointer (some ⟨gw, 0, none⟩)] #[], .func (.func 89) #[.agg #[.pointer (some ⟨g, 0, none⟩), LV]] #[], .func (.func 72) #[.pointer (some ⟨g, 0, none⟩)] #[], .func (.func 90) #[.agg #[.pointer (some ⟨g, 0, none⟩), LV]] #[], .func (.func 72) #[.pointer (some ⟨g, 0, none⟩)] #[], .func (.func 77) #[.agg #[.pointer (some ⟨g, 0, none⟩), LV]] #[], .func (.func 72) #[.pointer (some ⟨g, 0, none⟩)] #[], .func (.func 78) #[.agg #[.pointer (some ⟨g, 0, none⟩), LV]] #[], .func (.func 72) #[.pointer (some ⟨g, 0, none⟩)] #[]] 54)).drew) := ⟨_, rfl⟩
    obtain ⟨zb, hzb⟩ : ∃ y, Hid (y = W.heap.size) := ⟨_, rfl⟩
    rw [← hW8.out, ← hzb.out]
    have k8 : Below W.heap.size W W8 := by rw [hW8.out]; exact ((Below.refl _ _).alloc (Nat.le_refl _) _).drew
    have BZ : Blk W8 zb 54 [.func (.func 47) #[.pointer (some ⟨gw, 0, none⟩)] #[], .func (.func 89) #[.agg #[.pointer (some ⟨g, 0, none⟩), LV]] #[], .func (.func 72) #[.pointer (some ⟨g, 0, none⟩)] #[], .func (.func 90) #[.agg #[.pointer (some ⟨g, 0, none⟩), LV]] #[], .func (.func 72) #[.pointer (some ⟨g, 0, none⟩)] #[], .func (.func 77) #[.agg #[.pointer (some ⟨g, 0, none⟩), LV]] #[], .func (.func 72) #[.pointer (some ⟨g, 0, none⟩)] #[], .func (.func 78) #[.agg #[.pointer (some ⟨g, 0, none⟩), LV]] #[], .func (.func 72) #[.pointer (some ⟨g, 0, none⟩)] #[]] := by
      rw [hW8.out]
      exact Blk.newAt _ _ _ _ _ hzb.out rfl
    have KN8 := KN.out.gain DW.out.there k8 (Gains.blk (K := fun z => (WalIs z gw g ∧ Laid z) ∧ Blk z yb 129 [.pointer (some ⟨g, 0, none⟩), LV] ∧ IsCL z LV l xs) BZ (by rw [hzb.out]; exact Nat.le_refl _))
    have CI := Lib.hid (inOrder_any _ g n [(47, #[.pointer (some ⟨gw, 0, none⟩)]), (89, #[.agg #[.pointer (some ⟨g, 0, none⟩), LV]]), (72, #[.pointer (some ⟨g, 0, none⟩)]), (90, #[.agg #[.pointer (some ⟨g, 0, none⟩), LV]]), (72, #[.pointer (some ⟨g, 0, none⟩)]), (77, #[.agg #[.pointer (some ⟨g, 0, none⟩), LV]]), (72, #[.pointer (some ⟨g, 0, none⟩)]), (78, #[.agg #[.pointer (some ⟨g, 0, none⟩), LV]]), (72, #[.pointer (some ⟨g, 0, none⟩)])]
          [M.settle M.decJ, M.writes (M.bytesAt l 1), M.Dsk.doSync, M.writes [(0, M.headOf l)], M.Dsk.doSync, M.lays l, M.Dsk.doSync, M.forgets, M.Dsk.doSync] rfl (by show 9 ≤ 100; decide) (some ⟨zb, 0, none⟩) 9 (fun z hz => ⟨zb, 0, rfl, fun i hi => by
            rw [Nat.zero_add]
            match i, hi with
            | 0, _ => exact hz.2.cell 0
            | 1, _ => exact hz.2.cell 1
            | 2, _ => exact hz.2.cell 2
            | 3, _ => exact hz.2.cell 3
            | 4, _ => exact hz.2.cell 4
            | 5, _ => exact hz.2.cell 5
            | 6, _ => exact hz.2.cell 6
            | 7, _ => exact hz.2.cell 7
            | 8, _ => exact hz.2.cell 8⟩) (fun i hi => by
            match i, hi with
            | 0, _ => exact enters_of Tryz.func47 (by kernel_rfl) rfl
            | 1, _ => exact enters_of Tryz.func89 (by kernel_rfl) rfl
            | 2, _ => exact enters_of Tryz.func72 (by kernel_rfl) rfl
            | 3, _ => exact enters_of Tryz.func90 (by kernel_rfl) rfl
            | 4, _ => exact enters_of Tryz.func72 (by kernel_rfl) rfl
            | 5, _ => exact enters_of Tryz.func77 (by kernel_rfl) rfl
            | 6, _ => exact enters_of Tryz.func72 (by kernel_rfl) rfl
            | 7, _ => exact enters_of Tryz.func78 (by kernel_rfl) rfl
            | 8, _ => exact enters_of Tryz.func72 (by kernel_rfl) rfl) (fun i hi => by
            match i, hi with
            | 0, _ => exact fun T' y m' d' hs' hw' k' => does_settle whole_ok (fun s _ => M.dec_may s) _ gw g n H42.out HNF.out (fun z hz => hz.1.1) T' y m' d' hs' hw' k'
            | 1, _ => exact does_log _ g n LV l xs (fun z hz => hz.1.2.2) HM.out.1
            | 2, _ => exact does_sync _ g n
            | 3, _ => exact does_tell _ g n LV l xs (fun z hz => ⟨hz.1.2.2, hz.1.1.2⟩) HM.out.1 (fun c hc => by have h1 := HM.out.2 c hc; have := HNF.out; exact ⟨h1.1, by omega, h1.2.2⟩)
            | 4, _ => exact does_sync _ g n
            | 5, _ => exact does_lay _ g n LV l xs (fun z hz => hz.1.2.2) HM.out.1 (fun i hi => by have := ((M.may_iff _ l).1 HM.out).2 i hi; exact ⟨this.1, by have := this.2.1; have := HNF.out; omega⟩)
            | 6, _ => exact does_sync _ g n
            | 7, _ => exact does_forget _ g n LV hlv
            | 8, _ => exact does_sync _ g n) (fun p hp => by
            intro m'
            rcases List.mem_cons.1 hp with rfl | hp
            · exact M.grow_settle M.dec_le m'
            rcases List.mem_cons.1 hp with rfl | hp
            · have h1 := M.grow_writes (M.bytesAt l 1) m'; rw [M.bytesAt_len] at h1; have h2 := HM.out.1; exact ⟨by omega, h1.2⟩
            rcases List.mem_cons.1 hp with rfl | hp
            · have h1 := M.grow_sync m'; exact ⟨by omega, h1.2⟩
            rcases List.mem_cons.1 hp with rfl | hp
            · have h1 := M.grow_writes [(0, M.headOf l)] m'; exact ⟨Nat.le_trans h1.1 (Nat.add_le_add_left (by show 1 ≤ 100; decide) _), h1.2⟩
            rcases List.mem_cons.1 hp with rfl | hp
            · have h1 := M.grow_sync m'; exact ⟨by omega, h1.2⟩
            rcases List.mem_cons.1 hp with rfl | hp
            · have h1 := M.wait_lays l m'; have h2 := HM.out.1; exact ⟨by omega, M.lays_len l m'⟩
            rcases List.mem_cons.1 hp with rfl | hp
            · have h1 := M.grow_sync m'; exact ⟨by omega, h1.2⟩
            rcases List.mem_cons.1 hp with rfl | hp
            · have h1 := M.wait_write m' 0 M.zero256; exact ⟨by show (m'.doWrite 0 M.zero256).1.wait.length ≤ _; omega, M.write_len m' 0 M.zero256⟩
            rcases List.mem_cons.1 hp with rfl | hp
            · have h1 := M.grow_sync m'; exact ⟨by omega, h1.2⟩
            cases hp) T W8 m (DW.out.below k8) HN.out (by have := HWT.out; omega) KN8)
    have C8 : Hid (Chg T w W8) := (Chg.of_below KWW.out : Chg T w W).trans (Chg.of_below k8 : Chg T W W8) fun _ _ h => h
    have S8 : Hid (w.heap.size ≤ W8.heap.size) := Nat.le_trans KWW.out.size k8.size
    have KN9 := Lib.hid KN8
    refine hK.out _ _ ⟨KN8.now.1.1.1.cell 0, KN8.now.1.2.1.cell 0, KN8.now.1.2.1.cell 1⟩ (fun _ => ?_)
    clear hK K S0 k8 BZ KN8 hW8 hzb KN BB CG
    refine wpAnyH_ready (rs := [31]) (by kernel_rfl) (by simp) ?_
    refine AllReadyH.cons rfl (fun K hK => ?_) AllReadyH.nil
    go_simp
    refine CI.out.mono ?_
    rintro e x9 ⟨rfl, c9, T9, d9, t9⟩
    have KX := (KN9.out.next c9 t9).now
    have S9 := (⟨KX.1.1.1.cell 0, KX.1.2.1.cell 0, KX.1.2.1.cell 1⟩ : x9.cell? ⟨gw, 0, none⟩ = some (.pointer (some ⟨g, 0, none⟩)) ∧ x9.cell? ⟨yb, 0, none⟩ = some (.pointer (some ⟨g, 0, none⟩)) ∧ x9.cell? ⟨yb, 1, none⟩ = some LV)
    rw [← HR.out] at d9 ⊢
    have C9 : Hid (Chg T w x9) := C8.out.trans c9 fun k hk h => h
    have D9 := Lib.hid d9
    have T9' : Hid (∀ k, T9 k → T k ∨ w.heap.size ≤ k) := fun k h => (t9 k h).imp_right fun h => Nat.le_trans S8.out h
    refine hK.out _ _ S9 (fun _ => ?_)
    clear hK K KX c9 t9 d9 CI
    refine wpAnyH_take_at (i := 32) (v := .int .i64 R.2) rfl rfl (by kernel_rfl) (by kernel_rfl) (by kernel_rfl) (fun _ _ _ h => h) (Or.inl ⟨by rfl, fun w hS => by go_simp⟩) S9 ?_
    simp only [List.setIfInBounds_toArray, List.set_cons_zero, List.set_cons_succ]
    refine wpAnyH_done (by kernel_rfl) ?_ _
    clear S9
    go_wp2
    go_ret
    exact ⟨rfl, C9.out, T9, D9.out, T9'.out⟩

set_option maxHeartbeats 8000000 in
theorem wcommit_no {T : Nat → Prop} {w : World} {gw g : Nat} {m : M.Dsk} (d : CodeDk T w g m) (hW : WalIs w gw g) (h42 : 42 < m.safe.length) (lv : Value) (l : M.CL) (xs : List Value) (hl : IsCL w lv l xs) (hm : ¬ M.May (m.safe.length - 42) l) :
    Calls Tryz.prog 62 #[.pointer (some ⟨gw, 0, none⟩), lv] w fun e w' => e = .returned (.int .i64 1) ∧ Below w.heap.size w w' := by
  obtain ⟨va, vc, rfl⟩ := hl.shape
  obtain ⟨N, hN⟩ : ∃ N, N = l.length := ⟨_, rfl⟩
  have CM := Lib.hid (wmay_any d h42 hW _ l xs hl false (by rw [decide_eq_false hm]))
  rw [← hN] at CM ⊢
  clear d hW h42 hl hm hN
  go_enter Tryz.func62, Tryz.ntmps62
  go_wp2_with fail
  refine CM.out.mono ?_
  rintro e w1 ⟨rfl, k1⟩
  have K1 := Lib.hid k1
  clear k1
  go_wp2
  go_ret
  exact ⟨rfl, K1.out⟩

end Go.Proofs.YtphcbpfpelonaaaGreatDoor
