/-
  CONTRACT OF orlopref04.Xor: the document's own stream, byte by byte. Conditions: a key of 32 bytes, a nonce of 12; texts of up to 2^40 bytes.
-/
import Derived.Test.YtogklpeehfoijaaDoorChaRef
import Derived.Test.YtogklpeehfoijaaDoorChaXor
import Derived.Maps.AppendAt
namespace Go.Proofs.YtogklpeehfoijaaDoor
open Go.RowKit
set_option linter.unusedVariables false

/-- 'append(bs, x)' as one step of a region that draws, and where the row lies behind it. -/
theorem step_appB_at {w : World} {ops : Array Oper} {o : Oper} {a : Act} {K : Act → World → Prop} {Q : Exit → Act → World → Prop} {E : Prop} (hg : o.guard = none) (s x : Operand)
    (ho : o.op = .call { callee := .builtin .append, args := #[s, x], argTypes := #[22, 22] })
    (B : Nat) (v : Value) (bs : List UInt8) (hs : a.eval s = v) (hown : Own w B v bs) (g1 : Nat) (u : UInt8) (hx : a.eval x = .slice (some ⟨g1, 0, none⟩) 1 1) (hc : w.cell? ⟨g1, 0, none⟩ = some (.int .u8 (u.toNat : Int)))
    (hlen : bs.length ≤ 140737488355000) (hB : B ≤ w.heap.size)
    (h : ∀ v' w', Own w' B v' (bs ++ [u]) → w.grownBy w' v.ownBlock → (v'.ownBlock = v.ownBlock ∨ v'.ownBlock = some w.heap.size) → K (a.put o.dst v') w') : if Region.wanted o (yielded ops a.tmps) = true then Oper.wp Tryd.prog o a w K Q else E := by
  obtain ⟨i0, h0, hz0, hz1, hz2⟩ := info_parts Tryd.info5
  rw [if_pos (by simp [Region.wanted, hg])]
  obtain ⟨v', w', hr, h2, h3, h4, h5⟩ := run_append_own_at (P := Tryd.prog) w B 22 o.type 5 i0 (.int .u8 0) 1 1 Tryd.underlying22 h0 hz0 hz1 hz2 rfl (by decide) v bs.length _ hown.row ⟨g1, 0, none⟩ 1 1 [.int .u8 u.toNat] rfl (fun j y hj => by
    match j, hj with
    | 0, hj =>
      simp at hj
      subst hj
      simpa [Addr.add] using hc) (fun y hy => by simp at hy; subst hy; rfl) (by unfold maxLen; omega) (by omega) hB
  unfold Oper.wp execOp
  simp only [ho, resolve, invoke, builtin, Sem.run_bind, Sem.run_pure, Result.andThen_ok, List.map_toArray, List.map_cons, List.map_nil, hs, hx, hr]
  refine h v' w' ?_ h3 h5
  rw [Own, List.length_append, byteCells_append]
  exact h2

set_option maxHeartbeats 20000000 in
theorem rxor_any (kv nv tv : Value) (key nonce text : List UInt8) (ctr : UInt32) (w : World) (hk : IsB w kv key) (hn : IsB w nv nonce) (ht : IsB w tv text) (hkl : key.length = 32) (hnl : nonce.length = 12) (hlen : text.length ≤ 4096) :
    Calls Tryd.prog 16 #[kv, nv, .int .u32 ctr.toNat, tv] w fun e w' => ∃ r, e = .returned (.tuple #[r, .int .i64 0]) ∧ Own w' w.heap.size r (M.xo (M.strm key nonce ctr) text text.length) ∧ Below w.heap.size w w' := by
  have HK := Lib.hid hk
  have HN := Lib.hid hn
  have HT := Lib.hid ht
  have HKL0 := Lib.hid hkl
  have HNL0 := Lib.hid hnl
  obtain ⟨a1, c1, rfl, _, _, _⟩ := hk
  obtain ⟨a2, c2, rfl, _, _, _⟩ := hn
  obtain ⟨a3, c3, rfl, ht1, ht2, hat⟩ := ht
  rw [hkl] at HK ⊢
  rw [hnl] at HN ⊢
  obtain ⟨L, hLn⟩ : ∃ L, L = text.length := ⟨_, rfl⟩
  have HLN := Lib.hid hLn
  rw [← hLn] at HT ht1 hlen ⊢
  have HAT : Hid (∀ W', Below w.heap.size w W' → ∀ j, j < L → ∃ b2 o2, a3 = some ⟨b2, o2, none⟩ ∧ W'.cell? ⟨b2, o2 + j, none⟩ = some (.int .u8 ((text.getD j 0).toNat : Int))) := by
    intro W' kw j hj
    rcases hat with h | ⟨b2, o2, h, hc⟩
    · rw [h] at hLn; simp at hLn; omega
    · refine ⟨b2, o2, h, ?_⟩
      have h0 := hc j (by omega)
      rw [kw.cell (by exact World.block_lt_of_cell? w _ h0), h0]
  clear hat hLn hkl hnl
  go_enter Tryd.func16, Tryd.ntmps16
  go_wp2
  go_loopw [10, 11, 12] (fun x s i wr => ∃ k : Nat, k ≤ L ∧ i = .int .i64 k ∧ Hid (Own wr w.heap.size x (M.xo (M.strm key nonce ctr) text k)) ∧ Hid (k % 64 = 0 ∨ (Own wr w.heap.size s (M.cblk key nonce (ctr + UInt32.ofNat (k / 64))) ∧ ∀ q, x.ownBlock = some q → ∀ g n c, s = .slice (some ⟨g, 0, none⟩) n c → q ≠ g)) ∧ Hid (Below w.heap.size w wr))
    (fun _ _ i _ => L - (intOf i).toNat)
  case atStart => exact ⟨0, by omega, rfl, World.ownsRow_nil _ _ _ _, .inl rfl, Below.refl _ _⟩
  case round =>
    obtain ⟨wz, rfl⟩ : ∃ x, x = wr := ⟨_, rfl⟩
    obtain ⟨k, hk, rfl, oo, pp, hK⟩ := hrel
    by_cases hlt : k < L
    · obtain ⟨vx, rfl⟩ : ∃ z, z = u10 := ⟨_, rfl⟩
      obtain ⟨q, hq⟩ : ∃ q, q = k / 64 := ⟨_, rfl⟩
      obtain ⟨j, hj⟩ : ∃ j, j = k % 64 := ⟨_, rfl⟩
      have HJ := Lib.hid hj
      have hj64 : j < 64 := by omega
      have hjr : (k : Int) % 64 = (j : Int) := by omega
      have hqr : (k : Int) / 64 = (q : Int) := by omega
      have HQ := Lib.hid hq
      by_cases h64 : j = 0
      · have t1 : ((j : Int) == 0) = true := by simp; omega
        obtain ⟨d, hd⟩ : ∃ d, Hid (d = ctr + UInt32.ofNat q) := ⟨_, rfl⟩
        have hqs : q < 4294967296 := by omega
        have hdn : d.toNat = (ctr.toNat + q) % 4294967296 := by rw [hd.out, UInt32.toNat_add, UInt32.toNat_ofNat', Nat.mod_eq_of_lt (show q < 2 ^ 32 by omega)]
        have s1 : ((ctr.toNat : Int) + (q : Int)) % 4294967296 = (d.toNat : Int) := by omega
        have s2 : IntKind.u32.wrap ((ctr.toNat : Int) + (q : Int)) = (d.toNat : Int) := s1
        have w1b : IntKind.i64.wrap (q : Int) = (q : Int) := IntWalk.i64_in _ (by omega)
        have w2b : IntKind.u32.wrap (q : Int) = (q : Int) := by rw [show IntKind.u32.wrap (q : Int) = (q : Int) % 4294967296 from rfl]; omega
        have H64 := Lib.hid h64
        clear hq hdn hj h64
        go_wp2_with fail
        refine (rblock_any _ _ key nonce d wz (HK.out.below hK.out) (HN.out.below hK.out) HKL0.out HNL0.out).mono ?_
        rintro e w2 ⟨rs, rfl, os, k2⟩
        have KW : Hid (Below w.heap.size w w2) := hK.out.trans (k2.mono hK.out.size)
        have OX : Hid (Own w2 w.heap.size vx (M.xo (M.strm key nonce ctr) text k)) := oo.out.below k2
        obtain ⟨KB, hKB⟩ : ∃ K, K = M.cblk key nonce d := ⟨_, rfl⟩
        have HKL : Hid (KB.length = 64) := by rw [Hid, hKB]; exact M.cblk_length _ _ _
        have HKB : Hid (KB = M.cblk key nonce (ctr + UInt32.ofNat (k / 64))) := by rw [Hid, hKB, hd.out, HQ.out]
        rw [← hKB] at os
        obtain ⟨gs, cs, rfl, hgs⟩ := os.shape (by rw [HKL.out]; decide)
        rw [HKL.out] at os ⊢
        have OS : Hid (Own w2 w.heap.size (.slice (some ⟨gs, 0, none⟩) 64 cs) KB) := os.mono hK.out.size
        have AP : Hid (∀ q, vx.ownBlock = some q → q ≠ gs) := fun q e e2 => by have := (oo.out.row.lt q e).2; omega
        clear os k2 hKB s1 s2 w1b w2b t1
        have HSZ : Hid (w.heap.size ≤ w2.heap.size) := KW.out.size
        have OXA : Hid (∀ o, Own (w2.drew.alloc o) w.heap.size vx (M.xo (M.strm key nonce ctr) text k)) := fun o => Own.below (w := w2) OX.out ((below_draws w2 1).alloc (Nat.le_refl _) o)
        obtain ⟨b2, o2, rfl, hc2⟩ := HAT.out w2 KW.out k hlt
        have hb2 : b2 < w.heap.size := by
          obtain ⟨b3, o3, e3, h3⟩ := HAT.out w (Below.refl _ _) k hlt
          cases e3
          exact World.block_lt_of_cell? w _ h3
        obtain ⟨c, hc⟩ : ∃ c, Hid (c = text.getD k 0) := ⟨_, rfl⟩
        obtain ⟨kb, hkb⟩ : ∃ c, Hid (c = KB.getD j 0) := ⟨_, rfl⟩
        rw [← hc.out] at hc2
        have HBT : Hid (b2 < w2.heap.size) := Nat.lt_of_lt_of_le hb2 HSZ.out
        have SC : Hid (∀ w', Below w2.heap.size w2 w' → w'.cell? ⟨b2, o2 + k, none⟩ = some (.int .u8 (c.toNat : Int)) ∧ w'.cell? ⟨gs, j, none⟩ = some (.int .u8 (kb.toNat : Int))) := fun w' kw => by
          refine ⟨by rw [kw.cell HBT.out]; exact hc2, ?_⟩
          have hrow := (OS.out.below kw).row
          rw [HKL.out] at hrow
          rw [hrow.cellAt j (by omega), byteCells_getElem? KB j (by rw [HKL.out]; exact hj64), hkb.out]
        have NE1 : Hid (some b2 ≠ vx.ownBlock) := fun e => by have := (OX.out.row.lt b2 e.symm).1; omega
        have NE2 : Hid (some gs ≠ vx.ownBlock) := fun e => AP.out gs e.symm rfl
        have HNX : Hid (M.xo (M.strm key nonce ctr) text k ++ [c ^^^ kb] = M.xo (M.strm key nonce ctr) text (k + 1)) := by
          rw [Hid, M.xo, hc.out, hkb.out, HKB.out, HJ.out]
          rfl
        have HLX : Hid ((M.xo (M.strm key nonce ctr) text k).length ≤ 140737488355000) := by rw [Hid, M.xo_length]; omega
        have hxor := b_xor' c kb
        clear hc2
        have x0 : (0 : Int) ≤ (j : Int) := by omega
        have x1 : (j : Int) < 64 := by omega
        have x2 : (k : Int) < (L : Int) := by omega
        have x3 : (k : Int).tmod 64 = (j : Int) := by rw [Int.tmod_eq_emod_of_nonneg (by omega)]; omega
        go_wp2
        go_region_held3 (fun w' => w'.cell? ⟨b2, o2 + k, none⟩ = some (.int .u8 (c.toNat : Int)) ∧ w'.cell? ⟨gs, j, none⟩ = some (.int .u8 (kb.toNat : Int)))
          (first | exact SC.out _ (below_draws _ 1) | exact SC.out _ ((below_draws _ 1).alloc (Nat.le_refl _) _) | exact SC.out _ (drewN_below ((Below.refl _ _).alloc (Nat.le_refl _) _) 1) | exact ⟨g9.cell (SC.out _ ((below_draws _ 1).alloc (Nat.le_refl _) _)).1 NE1.out, g9.cell (SC.out _ ((below_draws _ 1).alloc (Nat.le_refl _) _)).2 NE2.out⟩)
          (first
            | (refine step_appB_at rfl (.tmp 38) (.tmp 49) rfl w.heap.size vx _ rfl (OXA.out _) w2.heap.size (c ^^^ kb) rfl (by simp) HLX.out (by simp; exact Nat.le_trans HSZ.out (Nat.le_succ _)) ?_; intro v' w9 o9 g9 hat9))
        rw [HNX.out] at o9
        have O9 : Hid (Own w9 w.heap.size v' (M.xo (M.strm key nonce ctr) text (k + 1))) := o9
        have K9 : Hid (Below w.heap.size w w9) := KW.out.trans (((below_draws w2 1).alloc (Nat.le_refl _) _).mono HSZ.out |>.trans ((Below.refl _ _).grown g9 (by rw [World.size_alloc]; exact Nat.le_trans HSZ.out (Nat.le_succ _)) fun q e => (OX.out.row.lt q e).1))
        have P9 : Hid ((k + 1) % 64 = 0 ∨ (Own w9 w.heap.size (.slice (some ⟨gs, 0, none⟩) 64 cs) (M.cblk key nonce (ctr + UInt32.ofNat ((k + 1) / 64))) ∧ ∀ q, v'.ownBlock = some q → ∀ g n c, Value.slice (some ⟨gs, 0, none⟩) 64 cs = .slice (some ⟨g, 0, none⟩) n c → q ≠ g)) := by
          by_cases h1 : (k + 1) % 64 = 0
          · exact .inl h1
          · refine .inr ⟨?_, fun q e g n c e0 => ?_⟩
            · rw [show (k + 1) / 64 = k / 64 by omega, ← HKB.out]
              exact (Own.below (w := w2) OS.out ((below_draws w2 1).alloc (Nat.le_refl _) _)).lasts g9 fun q hq e => by
                simp [Value.ownBlock] at hq
                subst hq
                exact NE2.out e.symm
            · obtain rfl : gs = g := by injection e0 with e0; injection e0 with e0; injection e0
              rcases hat9 with h2 | h2
              · exact AP.out q (h2 ▸ e)
              · rw [h2] at e
                injection e with e
                have := (OS.out.row.lt gs rfl).2
                have h3 : (w2.drew.alloc (.cells #[.int .u8 0] 0)).heap.size = w2.heap.size + 1 := by rw [World.size_alloc]; rfl
                intro e4
                subst e4
                simp [World.size_alloc] at e
                omega
        clear o9 g9 hat9 hxor x0 x1 x2 x3
        go_wp2
        go_roundw
        case rel => exact ⟨k + 1, by omega, by go_num, O9, P9, K9⟩
        case measure => simp [intOf]; omega
      · have t1 : ((j : Int) == 0) = false := by simp; omega
        obtain ⟨os, ap⟩ : Own wz w.heap.size u11 (M.cblk key nonce (ctr + UInt32.ofNat (k / 64))) ∧ ∀ q, vx.ownBlock = some q → ∀ g n c, u11 = .slice (some ⟨g, 0, none⟩) n c → q ≠ g := by
          rcases pp.out with h | h
          · omega
          · exact h
        obtain ⟨w2, hw2⟩ : ∃ x, x = wz := ⟨_, rfl⟩
        subst hw2
        have KW : Hid (Below w.heap.size w w2) := hK
        have OX : Hid (Own w2 w.heap.size vx (M.xo (M.strm key nonce ctr) text k)) := oo
        obtain ⟨KB, hKB⟩ : ∃ K, K = M.cblk key nonce (ctr + UInt32.ofNat (k / 64)) := ⟨_, rfl⟩
        have HKL : Hid (KB.length = 64) := by rw [Hid, hKB]; exact M.cblk_length _ _ _
        have HKB := Lib.hid hKB
        rw [← hKB] at os
        obtain ⟨gs, cs, hu11, hgs⟩ := os.shape (by rw [HKL.out]; decide)
        rw [HKL.out] at hu11
        subst hu11
        have OS : Hid (Own w2 w.heap.size (.slice (some ⟨gs, 0, none⟩) 64 cs) KB) := os
        have AP : Hid (∀ q, vx.ownBlock = some q → q ≠ gs) := fun q e => ap q e gs 64 cs rfl
        clear os ap hKB hq pp hj h64
        have HSZ : Hid (w.heap.size ≤ w2.heap.size) := KW.out.size
        have OXA : Hid (∀ o, Own (w2.drew.alloc o) w.heap.size vx (M.xo (M.strm key nonce ctr) text k)) := fun o => Own.below (w := w2) OX.out ((below_draws w2 1).alloc (Nat.le_refl _) o)
        obtain ⟨b2, o2, rfl, hc2⟩ := HAT.out w2 KW.out k hlt
        have hb2 : b2 < w.heap.size := by
          obtain ⟨b3, o3, e3, h3⟩ := HAT.out w (Below.refl _ _) k hlt
          cases e3
          exact World.block_lt_of_cell? w _ h3
        obtain ⟨c, hc⟩ : ∃ c, Hid (c = text.getD k 0) := ⟨_, rfl⟩
        obtain ⟨kb, hkb⟩ : ∃ c, Hid (c = KB.getD j 0) := ⟨_, rfl⟩
        rw [← hc.out] at hc2
        have HBT : Hid (b2 < w2.heap.size) := Nat.lt_of_lt_of_le hb2 HSZ.out
        have SC : Hid (∀ w', Below w2.heap.size w2 w' → w'.cell? ⟨b2, o2 + k, none⟩ = some (.int .u8 (c.toNat : Int)) ∧ w'.cell? ⟨gs, j, none⟩ = some (.int .u8 (kb.toNat : Int))) := fun w' kw => by
          refine ⟨by rw [kw.cell HBT.out]; exact hc2, ?_⟩
          have hrow := (OS.out.below kw).row
          rw [HKL.out] at hrow
          rw [hrow.cellAt j (by omega), byteCells_getElem? KB j (by rw [HKL.out]; exact hj64), hkb.out]
        have NE1 : Hid (some b2 ≠ vx.ownBlock) := fun e => by have := (OX.out.row.lt b2 e.symm).1; omega
        have NE2 : Hid (some gs ≠ vx.ownBlock) := fun e => AP.out gs e.symm rfl
        have HNX : Hid (M.xo (M.strm key nonce ctr) text k ++ [c ^^^ kb] = M.xo (M.strm key nonce ctr) text (k + 1)) := by
          rw [Hid, M.xo, hc.out, hkb.out, HKB.out, HJ.out]
          rfl
        have HLX : Hid ((M.xo (M.strm key nonce ctr) text k).length ≤ 140737488355000) := by rw [Hid, M.xo_length]; omega
        have hxor := b_xor' c kb
        clear hc2
        have x0 : (0 : Int) ≤ (j : Int) := by omega
        have x1 : (j : Int) < 64 := by omega
        have x2 : (k : Int) < (L : Int) := by omega
        have x3 : (k : Int).tmod 64 = (j : Int) := by rw [Int.tmod_eq_emod_of_nonneg (by omega)]; omega
        go_wp2
        go_region_held3 (fun w' => w'.cell? ⟨b2, o2 + k, none⟩ = some (.int .u8 (c.toNat : Int)) ∧ w'.cell? ⟨gs, j, none⟩ = some (.int .u8 (kb.toNat : Int)))
          (first | exact SC.out _ (below_draws _ 1) | exact SC.out _ ((below_draws _ 1).alloc (Nat.le_refl _) _) | exact SC.out _ (drewN_below ((Below.refl _ _).alloc (Nat.le_refl _) _) 1) | exact ⟨g9.cell (SC.out _ ((below_draws _ 1).alloc (Nat.le_refl _) _)).1 NE1.out, g9.cell (SC.out _ ((below_draws _ 1).alloc (Nat.le_refl _) _)).2 NE2.out⟩)
          (first
            | (refine step_appB_at rfl (.tmp 38) (.tmp 49) rfl w.heap.size vx _ rfl (OXA.out _) w2.heap.size (c ^^^ kb) rfl (by simp) HLX.out (by simp; exact Nat.le_trans HSZ.out (Nat.le_succ _)) ?_; intro v' w9 o9 g9 hat9))
        rw [HNX.out] at o9
        have O9 : Hid (Own w9 w.heap.size v' (M.xo (M.strm key nonce ctr) text (k + 1))) := o9
        have K9 : Hid (Below w.heap.size w w9) := KW.out.trans (((below_draws w2 1).alloc (Nat.le_refl _) _).mono HSZ.out |>.trans ((Below.refl _ _).grown g9 (by rw [World.size_alloc]; exact Nat.le_trans HSZ.out (Nat.le_succ _)) fun q e => (OX.out.row.lt q e).1))
        have P9 : Hid ((k + 1) % 64 = 0 ∨ (Own w9 w.heap.size (.slice (some ⟨gs, 0, none⟩) 64 cs) (M.cblk key nonce (ctr + UInt32.ofNat ((k + 1) / 64))) ∧ ∀ q, v'.ownBlock = some q → ∀ g n c, Value.slice (some ⟨gs, 0, none⟩) 64 cs = .slice (some ⟨g, 0, none⟩) n c → q ≠ g)) := by
          by_cases h1 : (k + 1) % 64 = 0
          · exact .inl h1
          · refine .inr ⟨?_, fun q e g n c e0 => ?_⟩
            · rw [show (k + 1) / 64 = k / 64 by omega, ← HKB.out]
              exact (Own.below (w := w2) OS.out ((below_draws w2 1).alloc (Nat.le_refl _) _)).lasts g9 fun q hq e => by
                simp [Value.ownBlock] at hq
                subst hq
                exact NE2.out e.symm
            · obtain rfl : gs = g := by injection e0 with e0; injection e0 with e0; injection e0
              rcases hat9 with h2 | h2
              · exact AP.out q (h2 ▸ e)
              · rw [h2] at e
                injection e with e
                have := (OS.out.row.lt gs rfl).2
                have h3 : (w2.drew.alloc (.cells #[.int .u8 0] 0)).heap.size = w2.heap.size + 1 := by rw [World.size_alloc]; rfl
                intro e4
                subst e4
                simp [World.size_alloc] at e
                omega
        clear o9 g9 hat9 hxor x0 x1 x2 x3
        go_wp2
        go_roundw
        case rel => exact ⟨k + 1, by omega, by go_num, O9, P9, K9⟩
        case measure => simp [intOf]; omega
    · obtain rfl : k = L := by omega
      go_wp2
      go_ret2
      exact ⟨_, rfl, oo.out, hK.out⟩

end Go.Proofs.YtogklpeehfoijaaDoor
