/-
  CONTRACT OF orlopref04.Block: the document's own block. Conditions: a key of 32 bytes, a nonce of 12.
-/
import Derived.Test.YtogklpeehfoijaaDoorRefW
import Derived.Test.YtogklpeehfoijaaDoorRefA
import Derived.Test.YtogklpeehfoijaaDoorChaBeg
import Derived.Deep.RegionHeld3
import Derived.Test.YtogklpeehfoijaaDoorRegionD
namespace Go.Proofs.YtogklpeehfoijaaDoor
open Go.RowKit
set_option linter.unusedVariables false

theorem OwnW.set_ {w : World} {B g n cap : Nat} {ws : List UInt32} (h : OwnW w B (.slice (some ⟨g, 0, none⟩) n cap) ws) (hn : n = ws.length) (i : Nat) (x : UInt32) : OwnW (w.setCell ⟨g, i, none⟩ (.int .u32 (x.toNat : Int))) B (.slice (some ⟨g, 0, none⟩) n cap) (ws.set i x) := by
  subst hn
  have h' : w.ownsRow B 33 1 (.slice (some ⟨g, 0, none⟩) ws.length cap) ws.length (wc ws) := h
  have := (World.ownsRow.stored h' i (c32 x)).1
  rw [OwnW, List.length_set, ← wc_set]
  exact this

theorem OwnW.cell {w : World} {B g n cap : Nat} {ws : List UInt32} (h : OwnW w B (.slice (some ⟨g, 0, none⟩) n cap) ws) (hn : n = ws.length) (i : Nat) (hi : i < ws.length) : w.cell? ⟨g, i, none⟩ = some (.int .u32 ((ws.getD i 0).toNat : Int)) := by
  subst hn
  have h' : w.ownsRow B 33 1 (.slice (some ⟨g, 0, none⟩) ws.length cap) ws.length (wc ws) := h
  rw [World.ownsRow.cellAt h' i (by omega), wc_get ws i hi]

theorem OwnW.frozen {w : World} {B g n cap : Nat} {ws : List UInt32} (h : OwnW w B (.slice (some ⟨g, 0, none⟩) n cap) ws) (hn : n = ws.length) (i : Nat) : w.frozen? ⟨g, i, none⟩ = false := by
  subst hn
  have h' : w.ownsRow B 33 1 (.slice (some ⟨g, 0, none⟩) ws.length cap) ws.length (wc ws) := h
  exact World.ownsRow.frozenAt h' i

theorem OwnW.shape {w : World} {B : Nat} {v : Value} {ws : List UInt32} (h : OwnW w B v ws) (hne : 0 < ws.length) : ∃ g cap, v = .slice (some ⟨g, 0, none⟩) ws.length cap ∧ B ≤ g ∧ g < w.heap.size := by
  rcases h.2 with ⟨_, hn⟩ | ⟨g, cap, cur, rfl, hb, hg, _⟩
  · omega
  · exact ⟨g, cap, rfl, hb, (Array.getElem?_eq_some_iff.1 hg).1⟩

theorem own_emptyW (w : World) : OwnW (w.alloc (.cells #[] 33)) w.heap.size (.slice (some ⟨w.heap.size, 0, none⟩) 0 0) [] :=
  World.ownsRow_made w #[] 0 (Nat.le_refl _) (Nat.zero_le _) rfl

/-- 'append(ws, ys...)' of words. -/
theorem wpList_appWs (w : World) {ops : Array Oper} {rest : List Oper} {o : Oper} {a : Act} {Q : Exit → Act → World → Prop} (hg : o.guard = none) (s x : Operand)
    (ho : o.op = .call { callee := .builtin .append, args := #[s, x], argTypes := #[53, 53] })
    (B : Nat) (v : Value) (ws : List UInt32) (hs : a.eval s = v) (hown : OwnW w B v ws) (ad : Addr) (n cap : Nat) (ys : List UInt32) (hx : a.eval x = .slice (some ad) n cap) (hn : n = ys.length) (hc : ∀ j u, (wc ys)[j]? = some u → w.cell? (ad.add j) = some u)
    (hlen : ws.length + ys.length ≤ 1000000) (hB : B ≤ w.heap.size)
    (h : ∀ v' w', OwnW w' B v' (ws ++ ys) → Below B w w' → wpList Tryd.prog ops Q rest (a.put o.dst v') w') : wpList Tryd.prog ops Q (o :: rest) a w := by
  obtain ⟨i0, h0, hz0, hz1, hz2⟩ := info_parts Tryd.info39
  refine wpList_append_own w hg s x _ ho B 33 i0 (.int .u32 0) 1 4 Tryd.underlying53 h0 hz0 hz1 hz2 rfl (by decide) v ws.length _ hs hown ad n cap (wc ys) hx (by rw [wc_length, Nat.mul_one, hn]) hc (fun y hy => wc_oneCell ys y (by simpa using hy)) (by unfold maxLen; omega) (by omega) hB ?_
  intro v' w' hown' hgrow _
  refine h v' w' ?_ ((Below.refl B w).grown hgrow hB fun k hk => (World.ownsRow.lt hown k hk).1)
  rw [OwnW, List.length_append, wc_append, ← hn]
  exact hown'

/-- 'append(bs, ys...)' as one step of a region that draws. -/
theorem step_appBs {w : World} {ops : Array Oper} {o : Oper} {a : Act} {K : Act → World → Prop} {Q : Exit → Act → World → Prop} {E : Prop} (hg : o.guard = none) (s x : Operand)
    (ho : o.op = .call { callee := .builtin .append, args := #[s, x], argTypes := #[22, 22] })
    (B : Nat) (v : Value) (bs : List UInt8) (hs : a.eval s = v) (hown : Own w B v bs) (ad : Addr) (n cap : Nat) (ys : List UInt8) (hx : a.eval x = .slice (some ad) n cap) (hn : n = ys.length) (hc : ∀ j u, (Lib.byteCells ys)[j]? = some u → w.cell? (ad.add j) = some u)
    (hlen : bs.length + ys.length ≤ 140737488355000) (hB : B ≤ w.heap.size)
    (h : ∀ v' w', Own w' B v' (bs ++ ys) → Below B w w' → K (a.put o.dst v') w') : if Region.wanted o (yielded ops a.tmps) = true then Oper.wp Tryd.prog o a w K Q else E := by
  obtain ⟨i0, h0, hz0, hz1, hz2⟩ := info_parts Tryd.info5
  have hw : Region.wanted o (yielded ops a.tmps) = true := by simp [Region.wanted, hg]
  rw [if_pos hw]
  refine wp_append_own w s x _ ho B 5 i0 (.int .u8 0) 1 1 Tryd.underlying22 h0 hz0 hz1 hz2 rfl (by decide) v bs.length _ hs hown.row ad n cap (Lib.byteCells ys) hx (by rw [byteCells_length, Nat.mul_one, hn]) hc (byteCells_oneCell _) (by unfold maxLen; omega) (by omega) hB ?_
  intro v' w' hown' hgrow _
  refine h v' w' ?_ ((Below.refl B w).grown hgrow hB fun k hk => (hown.row.lt k hk).1)
  rw [Own, List.length_append, byteCells_append, ← hn]
  exact hown'

set_option maxRecDepth 100000 in
set_option maxHeartbeats 40000000 in
theorem rblock_any (kv nv : Value) (key nonce : List UInt8) (ctr : UInt32) (w : World) (hk : IsB w kv key) (hn : IsB w nv nonce) (hkl : key.length = 32) (hnl : nonce.length = 12) :
    Calls Tryd.prog 20 #[kv, nv, .int .u32 ctr.toNat] w (Makes w (M.cblk key nonce ctr)) := by
  obtain ⟨b1, o1, p1, rfl, hp1, hq1, hc1⟩ := hk.lies (by omega)
  obtain ⟨b2, o2, p2, rfl, hp2, hq2, hc2⟩ := hn.lies (by omega)
  have hb1 : b1 < w.heap.size := by exact World.block_lt_of_cell? w _ (hc1 0 (by omega))
  have hb2 : b2 < w.heap.size := by exact World.block_lt_of_cell? w _ (hc2 0 (by omega))
  have C1 : Hid (∀ w', Below w.heap.size w w' → ∀ i, i < key.length → w'.cell? ⟨b1, o1 + i, none⟩ = some (.int .u8 ((key.getD i 0).toNat : Int))) := fun w' k i hi => by
    rw [k.cell hb1]; exact hc1 i hi
  have C2 : Hid (∀ w', Below w.heap.size w w' → ∀ i, i < nonce.length → w'.cell? ⟨b2, o2 + i, none⟩ = some (.int .u8 ((nonce.getD i 0).toNat : Int))) := fun w' k i hi => by
    rw [k.cell hb2]; exact hc2 i hi
  rw [hkl] at hp1 ⊢
  rw [hnl] at hp2 ⊢
  have HK := Lib.hid hkl
  have HN := Lib.hid hnl
  have HM1 := Lib.hid hq1
  have HM2 := Lib.hid hq2
  unfold maxLen at hq1 hq2
  obtain ⟨RES, hRES⟩ : ∃ R, Hid (R = M.cblk key nonce ctr) := ⟨_, rfl⟩
  rw [← hRES.out]
  clear hk hn hc1 hc2 hkl hnl
  go_enter Tryd.func20, Tryd.ntmps20
  go_wp2
  go_loopw [7, 8] (fun x i wr => ∃ k : Nat, k ≤ 8 ∧ i = .int .i64 k ∧ Hid (OwnW wr w.heap.size x (M.sigma ++ M.wds key k)) ∧ Below w.heap.size w wr)
    (fun _ i _ => 8 - (intOf i).toNat)
  case atStart => exact ⟨0, by omega, rfl, ownW_lit _ _ _ M.sigma (Nat.le_refl _) rfl (show 4 ≤ maxLen by decide), (Below.refl _ _).alloc (Nat.le_refl _) _⟩
  case round =>
    rename_i wr
    obtain ⟨k, hk, rfl, oo, kk⟩ := hrel
    by_cases hlt : k < 8
    · as_aux_lemma =>
      have hne : ¬ p1 = 4 * k := by omega
      have HS : Hid (IsB wr (.slice (some ⟨b1, o1 + 4 * k, none⟩) (32 - 4 * k) (p1 - 4 * k)) (key.drop (4 * k))) := isB_drop (C1.out wr kk) (4 * k) _ _ (by rw [HK.out]) (by omega) (Nat.le_trans (Nat.sub_le _ _) HM1.out)
      obtain ⟨u, hu⟩ : ∃ u : UInt32, u = UInt32.ofNat (M.gl (key.drop (4 * k)) 4) := ⟨_, rfl⟩
      have hub : u.toNat < 4294967296 := w_lt u
      have HU : Hid (u = UInt32.ofNat (M.gl (key.drop (4 * k)) 4)) := hu
      have HU2 : Hid (M.gl (key.drop (4 * k)) 4 = u.toNat) := by rw [Hid, hu, UInt32.toNat_ofNat', Nat.mod_eq_of_lt (M.gl_lt _ 4)]
      have HWL : Hid ((M.sigma ++ M.wds key k).length ≤ 20) := by rw [Hid, List.length_append, M.wds_length]; show 4 + k ≤ 20; omega
      have hsz : w.heap.size ≤ wr.heap.size := kk.size
      clear hu
      go_wp2_with fail
      refine (rget_any _ _ 4 _ (by omega) HS.out).mono ?_
      rintro e w1 ⟨rfl, rfl⟩
      rw [HU2.out]
      go_wp2_with (at_builtin; go_must (refine wpList_appW _ rfl _ _ rfl w.heap.size _ (M.sigma ++ M.wds key k) rfl ?c1 wr.heap.size u rfl ?c2 (by have := HWL.out; omega) (by simp; omega) ?_))
      case c1 => exact oo.out.below ((Below.refl _ _).alloc (Nat.le_refl _) _)
      case c2 => simp
      intro x4 w4 o4 k4
      have O4 : Hid (OwnW w4 w.heap.size x4 (M.sigma ++ M.wds key (k + 1))) := by
        rw [Hid, show M.wds key (k + 1) = M.wds key k ++ [UInt32.ofNat (M.gl (key.drop (4 * k)) 4)] from rfl, ← List.append_assoc, ← HU.out]
        exact o4
      have kk4 : Below w.heap.size w w4 := (kk.alloc hsz _).trans k4
      clear o4
      go_wp2
      go_roundw
      case rel => exact ⟨k + 1, by omega, by go_num, O4, kk4⟩
      case measure => simp [intOf]; omega
    · obtain rfl : k = 8 := by omega
      obtain ⟨wA, rfl⟩ : ∃ x, x = wr := ⟨_, rfl⟩
      obtain ⟨Y, hY⟩ : ∃ Y, Hid (Y = M.sigma ++ M.wds key 8) := ⟨_, rfl⟩
      have HYL : Hid (Y.length = 12) := by rw [Hid, hY.out, List.length_append, M.wds_length]; rfl
      rw [← hY.out] at oo
      rw [show ((8 : Nat) : Int) = 8 from rfl]
      have hsz : w.heap.size ≤ wA.heap.size := kk.size
      go_wp2_with (at_builtin; go_must (refine wpList_appW _ rfl _ _ rfl w.heap.size _ (Y) rfl ?c1 wA.heap.size ctr rfl ?c2 (by have := HYL.out; omega) (by simp; omega) ?_))
      case c1 => exact oo.out.below ((Below.refl _ _).alloc (Nat.le_refl _) _)
      case c2 => simp
      intro x4 w4 o4 k4
      have O4 : Hid (OwnW w4 w.heap.size x4 (Y ++ [ctr] ++ M.wds nonce 0)) := by
        rw [Hid, show M.wds nonce 0 = [] from rfl, List.append_nil]
        exact o4
      have kk4 : Below w.heap.size w w4 := (kk.alloc hsz _).trans k4
      clear o4 oo kk
      go_wp2
      go_loopw [7, 9] (fun x i wz => ∃ k : Nat, k ≤ 3 ∧ i = .int .i64 k ∧ Hid (OwnW wz w.heap.size x (Y ++ [ctr] ++ M.wds nonce k)) ∧ Below w.heap.size w wz)
        (fun _ i _ => 3 - (intOf i).toNat)
      case atStart => exact ⟨0, by omega, rfl, O4, kk4⟩
      case round =>
        clear O4 kk4
        obtain ⟨wz, rfl⟩ : ∃ x, x = wr := ⟨_, rfl⟩
        obtain ⟨k, hk, rfl, oo, kk⟩ := hrel
        by_cases hlt2 : k < 3
        · as_aux_lemma =>
          have hne : ¬ p2 = 4 * k := by omega
          have HS : Hid (IsB wz (.slice (some ⟨b2, o2 + 4 * k, none⟩) (12 - 4 * k) (p2 - 4 * k)) (nonce.drop (4 * k))) := isB_drop (C2.out wz kk) (4 * k) _ _ (by rw [HN.out]) (by omega) (Nat.le_trans (Nat.sub_le _ _) HM2.out)
          obtain ⟨u, hu⟩ : ∃ u : UInt32, u = UInt32.ofNat (M.gl (nonce.drop (4 * k)) 4) := ⟨_, rfl⟩
          have hub : u.toNat < 4294967296 := w_lt u
          have HU : Hid (u = UInt32.ofNat (M.gl (nonce.drop (4 * k)) 4)) := hu
          have HU2 : Hid (M.gl (nonce.drop (4 * k)) 4 = u.toNat) := by rw [Hid, hu, UInt32.toNat_ofNat', Nat.mod_eq_of_lt (M.gl_lt _ 4)]
          have HWL : Hid ((Y ++ [ctr] ++ M.wds nonce k).length ≤ 20) := by have := HYL.out; simp [Hid, M.wds_length]; omega
          have hsz : w.heap.size ≤ wz.heap.size := kk.size
          clear hu
          go_wp2_with fail
          refine (rget_any _ _ 4 _ (by omega) HS.out).mono ?_
          rintro e w1 ⟨rfl, rfl⟩
          rw [HU2.out]
          go_wp2_with (at_builtin; go_must (refine wpList_appW _ rfl _ _ rfl w.heap.size _ (Y ++ [ctr] ++ M.wds nonce k) rfl ?c1 wz.heap.size u rfl ?c2 (by have := HWL.out; omega) (by simp; omega) ?_))
          case c1 => exact oo.out.below ((Below.refl _ _).alloc (Nat.le_refl _) _)
          case c2 => simp
          intro x4 w4 o4 k4
          have O4 : Hid (OwnW w4 w.heap.size x4 (Y ++ [ctr] ++ M.wds nonce (k + 1))) := by
            rw [Hid, show M.wds nonce (k + 1) = M.wds nonce k ++ [UInt32.ofNat (M.gl (nonce.drop (4 * k)) 4)] from rfl, ← List.append_assoc, ← HU.out]
            simpa using o4
          have kk4 : Below w.heap.size w w4 := (kk.alloc hsz _).trans k4
          clear o4
          go_wp2
          go_roundw
          case rel => exact ⟨k + 1, by omega, by go_num, O4, kk4⟩
          case measure => simp [intOf]; omega
        · obtain rfl : k = 3 := by omega
          rw [show ((3 : Nat) : Int) = 3 from rfl]
          obtain ⟨X, hX0⟩ : ∃ X, Hid (X = Y ++ [ctr] ++ M.wds nonce 3) := ⟨_, rfl⟩
          have hX : Hid (X = M.first key nonce ctr) := by rw [Hid, hX0.out, hY.out, M.first]
          have HXL : Hid (X.length = 16) := by rw [Hid, hX.out]; exact M.first_length key nonce ctr
          rw [← hX0.out] at oo
          have o1 := oo.out
          obtain ⟨gx, cx, rfl, hgx1, hgx2⟩ := o1.shape (by rw [HXL.out]; decide)
          rw [HXL.out] at o1 ⊢
          have HO1 := Lib.hid o1
          have hsz : w.heap.size ≤ wz.heap.size := kk.size
          clear o1 oo
          go_wp2_with (at_builtin; go_must (refine wpList_appWs _ rfl _ _ rfl wz.heap.size _ [] rfl (own_emptyW wz) ⟨gx, 0, none⟩ 16 cx X rfl HXL.out.symm ?c1 (by rw [HXL.out]; decide) (by simp) ?_))
          case c1 =>
            intro j y hj
            have hlt : j < X.length := by
              have := (List.getElem?_eq_some_iff.1 hj).1
              rwa [wc_length] at this
            rw [Addr.add_lit, Nat.zero_add, (HO1.out.below ((Below.refl _ _).alloc (Nat.le_refl _) _)).cell HXL.out.symm j hlt, ← hj, wc_get X j hlt]
          intro s0 w6 os k6
          have os' : OwnW w6 wz.heap.size s0 X := os
          have kz6 : Below wz.heap.size wz w6 := ((Below.refl _ _).alloc (Nat.le_refl _) (.cells #[] 33)).trans k6
          obtain ⟨gs, cs, rfl, hgs1, hgs2⟩ := os'.shape (by rw [HXL.out]; decide)
          rw [HXL.out] at os' ⊢
          have S0 : Hid (OwnW w6 wz.heap.size (.slice (some ⟨gs, 0, none⟩) 16 cs) (M.ten X 0)) := os'
          have KZ : Hid (Below wz.heap.size wz w6) := kz6
          clear os os' k6 kz6
          go_wp2
          go_loopw [11] (fun i w7 => ∃ n : Nat, n ≤ 10 ∧ i = .int .i64 n ∧ Hid (OwnW w7 wz.heap.size (.slice (some ⟨gs, 0, none⟩) 16 cs) (M.ten X n)) ∧ Hid (Below wz.heap.size wz w7))
            (fun i _ => 10 - (intOf i).toNat)
          case atStart => exact ⟨0, by omega, rfl, S0, KZ⟩
          case round =>
            clear S0 KZ
            obtain ⟨wB, rfl⟩ : ∃ x, x = wr := ⟨_, rfl⟩
            obtain ⟨n, hn, rfl, hS, hK⟩ := hrel
            by_cases hlt3 : n < 10
            · obtain ⟨T, hT⟩ : ∃ T, Hid (T = M.ten X n) := ⟨_, rfl⟩
              have HTL : Hid (T.length = 16) := by rw [Hid, hT.out, M.ten_length, HXL.out]
              rw [← hT.out] at hS
              have S0 : Hid (OwnW wB wz.heap.size (.slice (some ⟨gs, 0, none⟩) 16 cs) (M.part T 0)) := hS
              go_wp2
              rw [show decide ((n : Int) < 10) = true from decide_eq_true (by omega)]
              go_loopw [12] (fun i w7 => ∃ k : Nat, k ≤ 4 ∧ i = .int .i64 k ∧ Hid (OwnW w7 wz.heap.size (.slice (some ⟨gs, 0, none⟩) 16 cs) (M.part T k)) ∧ Hid (Below wz.heap.size wz w7))
                (fun i _ => 4 - (intOf i).toNat)
              case atStart => exact ⟨0, by omega, rfl, S0, hK⟩
              case round =>
                clear S0 hS hK
                obtain ⟨wC, rfl⟩ : ∃ x, x = wr := ⟨_, rfl⟩
                obtain ⟨k, hk, rfl, hS, hK⟩ := hrel
                by_cases hlt4 : k < 4
                · as_aux_lemma =>
                  obtain ⟨S, hSS⟩ : ∃ S, Hid (S = M.part T k) := ⟨_, rfl⟩
                  have HSL : Hid (S.length = 16) := by rw [Hid, hSS.out, M.part_length, HTL.out]
                  rw [← hSS.out] at hS
                  obtain ⟨a, ha⟩ : ∃ x, Hid (x = S.getD k 0) := ⟨_, rfl⟩
                  obtain ⟨b, hb⟩ : ∃ x, Hid (x = S.getD (4 + k) 0) := ⟨_, rfl⟩
                  obtain ⟨c, hc⟩ : ∃ x, Hid (x = S.getD (8 + k) 0) := ⟨_, rfl⟩
                  obtain ⟨d, hd⟩ : ∃ x, Hid (x = S.getD (12 + k) 0) := ⟨_, rfl⟩
                  have ca : wC.cell? ⟨gs, k, none⟩ = some (.int .u32 (a.toNat : Int)) := by rw [hS.out.cell HSL.out.symm k (by rw [HSL.out]; omega), ha.out]
                  have cb : wC.cell? ⟨gs, 4 + k, none⟩ = some (.int .u32 (b.toNat : Int)) := by rw [hS.out.cell HSL.out.symm (4 + k) (by rw [HSL.out]; omega), hb.out]
                  have cc : wC.cell? ⟨gs, 8 + k, none⟩ = some (.int .u32 (c.toNat : Int)) := by rw [hS.out.cell HSL.out.symm (8 + k) (by rw [HSL.out]; omega), hc.out]
                  have cd : wC.cell? ⟨gs, 12 + k, none⟩ = some (.int .u32 (d.toNat : Int)) := by rw [hS.out.cell HSL.out.symm (12 + k) (by rw [HSL.out]; omega), hd.out]
                  have fa := hS.out.frozen HSL.out.symm k
                  have fb := hS.out.frozen HSL.out.symm (4 + k)
                  have fc := hS.out.frozen HSL.out.symm (8 + k)
                  have fd := hS.out.frozen HSL.out.symm (12 + k)
                  obtain ⟨W4, HW4⟩ : ∃ W, Hid (W = ((((wC.setCell ⟨gs, k, none⟩ (.int .u32 ((M.qr a b c d).1.toNat : Int))).setCell ⟨gs, 4 + k, none⟩ (.int .u32 ((M.qr a b c d).2.1.toNat : Int))).setCell ⟨gs, 8 + k, none⟩ (.int .u32 ((M.qr a b c d).2.2.1.toNat : Int))).setCell ⟨gs, 12 + k, none⟩ (.int .u32 ((M.qr a b c d).2.2.2.toNat : Int))).drew) := ⟨_, rfl⟩
                  have HNW : Hid (OwnW W4 wz.heap.size (.slice (some ⟨gs, 0, none⟩) 16 cs) (M.part T (k + 1))) := by
                    have e : M.part T (k + 1) = (((S.set k (M.qr a b c d).1).set (4 + k) (M.qr a b c d).2.1).set (8 + k) (M.qr a b c d).2.2.1).set (12 + k) (M.qr a b c d).2.2.2 := by
                      rw [M.part, ← hSS.out, M.qAt, show M.pl k 0 = k by unfold M.pl; split <;> omega, show M.pl k 1 = 4 + k by unfold M.pl; split <;> omega, show M.pl k 2 = 8 + k by unfold M.pl; split <;> omega, show M.pl k 3 = 12 + k by unfold M.pl; split <;> omega, ← ha.out, ← hb.out, ← hc.out, ← hd.out]
                    rw [Hid, HW4.out, e]
                    exact (((hS.out.set_ HSL.out.symm k _).set_ (by rw [List.length_set, HSL.out]) (4 + k) _).set_ (by rw [List.length_set, List.length_set, HSL.out]) (8 + k) _).set_ (by rw [List.length_set, List.length_set, List.length_set, HSL.out]) (12 + k) _
                  have HKW : Hid (Below wz.heap.size wz W4) := by
                    rw [Hid, HW4.out]
                    exact drewN_below ((((hK.out.setCell hgs1 _).setCell hgs1 _).setCell hgs1 _).setCell hgs1 _) 1
                  go_wp2
                  have v4 : IntKind.i64.wrap (4 + (k : Int)) = 4 + (k : Int) := IntWalk.i64_in _ (by omega)
                  have v8 : IntKind.i64.wrap (8 + (k : Int)) = 8 + (k : Int) := IntWalk.i64_in _ (by omega)
                  have v12 : IntKind.i64.wrap (12 + (k : Int)) = 12 + (k : Int) := IntWalk.i64_in _ (by omega)
                  have q0 : (k : Int) < 16 := by omega
                  have p4 : (0 : Int) ≤ 4 + (k : Int) := by omega
                  have q4 : 4 + (k : Int) < 16 := by omega
                  have t4 : (4 + (k : Int)).toNat = 4 + k := by omega
                  have p8 : (0 : Int) ≤ 8 + (k : Int) := by omega
                  have q8 : 8 + (k : Int) < 16 := by omega
                  have t8 : (8 + (k : Int)).toNat = 8 + k := by omega
                  have p12 : (0 : Int) ≤ 12 + (k : Int) := by omega
                  have q12 : 12 + (k : Int) < 16 := by omega
                  have t12 : (12 + (k : Int)).toNat = 12 + k := by omega
                  --R18
                  refine wp_region_any (by kernel_rfl) ?_
                  change wpAny _ _ _ _ _ _ _ (World.drew _)
                  refine wpAny_take_at (i := 0) (v := .slice (some ⟨gs, 0, none⟩) 16 cs) rfl rfl (by kernel_rfl) (by kernel_rfl) (by kernel_rfl) (fun _ _ _ h => h) (Or.inl ⟨by rfl, ?y18_0⟩) ?r18_0
                  case y18_0 =>
                    intro w
                    go_simp
                  simp only [List.setIfInBounds_toArray, List.set_cons_zero, List.set_cons_succ]
                  refine wpAny_take_at (i := 1) (v := .int .i64 (k : Int)) rfl rfl (by kernel_rfl) (by kernel_rfl) (by kernel_rfl) (fun _ _ _ h => h) (Or.inl ⟨by rfl, ?y18_1⟩) ?r18_1
                  case y18_1 =>
                    intro w
                    go_simp
                  simp only [List.setIfInBounds_toArray, List.set_cons_zero, List.set_cons_succ]
                  refine wpAny_take_at (i := 2) (v := .slice (some ⟨gs, 0, none⟩) 16 cs) rfl rfl (by kernel_rfl) (by kernel_rfl) (by kernel_rfl) (fun _ _ _ h => h) (Or.inl ⟨by rfl, ?y18_2⟩) ?r18_2
                  case y18_2 =>
                    intro w
                    go_simp
                  simp only [List.setIfInBounds_toArray, List.set_cons_zero, List.set_cons_succ]
                  refine wpAny_take_at (i := 3) (v := .int .i64 (k : Int)) rfl rfl (by kernel_rfl) (by kernel_rfl) (by kernel_rfl) (fun _ _ _ h => h) (Or.inl ⟨by rfl, ?y18_3⟩) ?r18_3
                  case y18_3 =>
                    intro w
                    go_simp
                  simp only [List.setIfInBounds_toArray, List.set_cons_zero, List.set_cons_succ]
                  refine wpAny_take_at (i := 4) (v := .int .i64 (4 + (k : Int))) rfl rfl (by kernel_rfl) (by kernel_rfl) (by kernel_rfl) (fun _ _ _ h => h) (Or.inl ⟨by rfl, ?y18_4⟩) ?r18_4
                  case y18_4 =>
                    intro w
                    go_simp
                  simp only [List.setIfInBounds_toArray, List.set_cons_zero, List.set_cons_succ]
                  refine wpAny_take_at (i := 5) (v := .slice (some ⟨gs, 0, none⟩) 16 cs) rfl rfl (by kernel_rfl) (by kernel_rfl) (by kernel_rfl) (fun _ _ _ h => h) (Or.inl ⟨by rfl, ?y18_5⟩) ?r18_5
                  case y18_5 =>
                    intro w
                    go_simp
                  simp only [List.setIfInBounds_toArray, List.set_cons_zero, List.set_cons_succ]
                  refine wpAny_take_at (i := 6) (v := .int .i64 (k : Int)) rfl rfl (by kernel_rfl) (by kernel_rfl) (by kernel_rfl) (fun _ _ _ h => h) (Or.inl ⟨by rfl, ?y18_6⟩) ?r18_6
                  case y18_6 =>
                    intro w
                    go_simp
                  simp only [List.setIfInBounds_toArray, List.set_cons_zero, List.set_cons_succ]
                  refine wpAny_take_at (i := 7) (v := .int .i64 (8 + (k : Int))) rfl rfl (by kernel_rfl) (by kernel_rfl) (by kernel_rfl) (fun _ _ _ h => h) (Or.inl ⟨by rfl, ?y18_7⟩) ?r18_7
                  case y18_7 =>
                    intro w
                    go_simp
                  simp only [List.setIfInBounds_toArray, List.set_cons_zero, List.set_cons_succ]
                  refine wpAny_take_at (i := 8) (v := .slice (some ⟨gs, 0, none⟩) 16 cs) rfl rfl (by kernel_rfl) (by kernel_rfl) (by kernel_rfl) (fun _ _ _ h => h) (Or.inl ⟨by rfl, ?y18_8⟩) ?r18_8
                  case y18_8 =>
                    intro w
                    go_simp
                  simp only [List.setIfInBounds_toArray, List.set_cons_zero, List.set_cons_succ]
                  refine wpAny_take_at (i := 9) (v := .int .i64 (k : Int)) rfl rfl (by kernel_rfl) (by kernel_rfl) (by kernel_rfl) (fun _ _ _ h => h) (Or.inl ⟨by rfl, ?y18_9⟩) ?r18_9
                  case y18_9 =>
                    intro w
                    go_simp
                  simp only [List.setIfInBounds_toArray, List.set_cons_zero, List.set_cons_succ]
                  refine wpAny_take_at (i := 10) (v := .int .i64 (12 + (k : Int))) rfl rfl (by kernel_rfl) (by kernel_rfl) (by kernel_rfl) (fun _ _ _ h => h) (Or.inl ⟨by rfl, ?y18_10⟩) ?r18_10
                  case y18_10 =>
                    intro w
                    go_simp
                  simp only [List.setIfInBounds_toArray, List.set_cons_zero, List.set_cons_succ]
                  refine wpAny_take_at (i := 11) (v := .slice (some ⟨gs, 0, none⟩) 16 cs) rfl rfl (by kernel_rfl) (by kernel_rfl) (by kernel_rfl) (fun _ _ _ h => h) (Or.inl ⟨by rfl, ?y18_11⟩) ?r18_11
                  case y18_11 =>
                    intro w
                    go_simp
                  simp only [List.setIfInBounds_toArray, List.set_cons_zero, List.set_cons_succ]
                  refine wpAny_take_at (i := 12) (v := .int .i64 (k : Int)) rfl rfl (by kernel_rfl) (by kernel_rfl) (by kernel_rfl) (fun _ _ _ h => h) (Or.inl ⟨by rfl, ?y18_12⟩) ?r18_12
                  case y18_12 =>
                    intro w
                    go_simp
                  simp only [List.setIfInBounds_toArray, List.set_cons_zero, List.set_cons_succ]
                  refine wpAny_take_at (i := 13) (v := .pointer (some ⟨gs, k, none⟩)) rfl rfl (by kernel_rfl) (by kernel_rfl) (by kernel_rfl) (fun _ _ _ h => h) (Or.inl ⟨by rfl, ?y18_13⟩) ?r18_13
                  case y18_13 =>
                    intro w
                    go_simp
                  simp only [List.setIfInBounds_toArray, List.set_cons_zero, List.set_cons_succ]
                  refine wpAny_take_at (i := 15) (v := .slice (some ⟨gs, 0, none⟩) 16 cs) rfl rfl (by kernel_rfl) (by kernel_rfl) (by kernel_rfl) (fun _ _ _ h => h) (Or.inl ⟨by rfl, ?y18_15⟩) ?r18_15
                  case y18_15 =>
                    intro w
                    go_simp
                  simp only [List.setIfInBounds_toArray, List.set_cons_zero, List.set_cons_succ]
                  refine wpAny_take_at (i := 16) (v := .int .i64 (k : Int)) rfl rfl (by kernel_rfl) (by kernel_rfl) (by kernel_rfl) (fun _ _ _ h => h) (Or.inl ⟨by rfl, ?y18_16⟩) ?r18_16
                  case y18_16 =>
                    intro w
                    go_simp
                  simp only [List.setIfInBounds_toArray, List.set_cons_zero, List.set_cons_succ]
                  refine wpAny_take_at (i := 17) (v := .int .i64 (4 + (k : Int))) rfl rfl (by kernel_rfl) (by kernel_rfl) (by kernel_rfl) (fun _ _ _ h => h) (Or.inl ⟨by rfl, ?y18_17⟩) ?r18_17
                  case y18_17 =>
                    intro w
                    go_simp
                  simp only [List.setIfInBounds_toArray, List.set_cons_zero, List.set_cons_succ]
                  refine wpAny_take_at (i := 18) (v := .pointer (some ⟨gs, 4 + k, none⟩)) rfl rfl (by kernel_rfl) (by kernel_rfl) (by kernel_rfl) (fun _ _ _ h => h) (Or.inl ⟨by rfl, ?y18_18⟩) ?r18_18
                  case y18_18 =>
                    intro w
                    go_simp
                  simp only [List.setIfInBounds_toArray, List.set_cons_zero, List.set_cons_succ]
                  refine wpAny_take_at (i := 20) (v := .slice (some ⟨gs, 0, none⟩) 16 cs) rfl rfl (by kernel_rfl) (by kernel_rfl) (by kernel_rfl) (fun _ _ _ h => h) (Or.inl ⟨by rfl, ?y18_20⟩) ?r18_20
                  case y18_20 =>
                    intro w
                    go_simp
                  simp only [List.setIfInBounds_toArray, List.set_cons_zero, List.set_cons_succ]
                  refine wpAny_take_at (i := 21) (v := .int .i64 (k : Int)) rfl rfl (by kernel_rfl) (by kernel_rfl) (by kernel_rfl) (fun _ _ _ h => h) (Or.inl ⟨by rfl, ?y18_21⟩) ?r18_21
                  case y18_21 =>
                    intro w
                    go_simp
                  simp only [List.setIfInBounds_toArray, List.set_cons_zero, List.set_cons_succ]
                  refine wpAny_take_at (i := 22) (v := .int .i64 (8 + (k : Int))) rfl rfl (by kernel_rfl) (by kernel_rfl) (by kernel_rfl) (fun _ _ _ h => h) (Or.inl ⟨by rfl, ?y18_22⟩) ?r18_22
                  case y18_22 =>
                    intro w
                    go_simp
                  simp only [List.setIfInBounds_toArray, List.set_cons_zero, List.set_cons_succ]
                  refine wpAny_take_at (i := 23) (v := .pointer (some ⟨gs, 8 + k, none⟩)) rfl rfl (by kernel_rfl) (by kernel_rfl) (by kernel_rfl) (fun _ _ _ h => h) (Or.inl ⟨by rfl, ?y18_23⟩) ?r18_23
                  case y18_23 =>
                    intro w
                    go_simp
                  simp only [List.setIfInBounds_toArray, List.set_cons_zero, List.set_cons_succ]
                  refine wpAny_take_at (i := 25) (v := .slice (some ⟨gs, 0, none⟩) 16 cs) rfl rfl (by kernel_rfl) (by kernel_rfl) (by kernel_rfl) (fun _ _ _ h => h) (Or.inl ⟨by rfl, ?y18_25⟩) ?r18_25
                  case y18_25 =>
                    intro w
                    go_simp
                  simp only [List.setIfInBounds_toArray, List.set_cons_zero, List.set_cons_succ]
                  refine wpAny_take_at (i := 26) (v := .int .i64 (k : Int)) rfl rfl (by kernel_rfl) (by kernel_rfl) (by kernel_rfl) (fun _ _ _ h => h) (Or.inl ⟨by rfl, ?y18_26⟩) ?r18_26
                  case y18_26 =>
                    intro w
                    go_simp
                  simp only [List.setIfInBounds_toArray, List.set_cons_zero, List.set_cons_succ]
                  refine wpAny_take_at (i := 27) (v := .int .i64 (12 + (k : Int))) rfl rfl (by kernel_rfl) (by kernel_rfl) (by kernel_rfl) (fun _ _ _ h => h) (Or.inl ⟨by rfl, ?y18_27⟩) ?r18_27
                  case y18_27 =>
                    intro w
                    go_simp
                  simp only [List.setIfInBounds_toArray, List.set_cons_zero, List.set_cons_succ]
                  refine wpAny_take_at (i := 28) (v := .pointer (some ⟨gs, 12 + k, none⟩)) rfl rfl (by kernel_rfl) (by kernel_rfl) (by kernel_rfl) (fun _ _ _ h => h) (Or.inl ⟨by rfl, ?y18_28⟩) ?r18_28
                  case y18_28 =>
                    intro w
                    go_simp
                  simp only [List.setIfInBounds_toArray, List.set_cons_zero, List.set_cons_succ]
                  refine wpAny_reads 4 14 ?_
                  refine wpAnyL_take_at (i := 14) (v := .int .u32 (a.toNat : Int)) rfl rfl (by kernel_rfl) (by kernel_rfl) (by kernel_rfl) (by kernel_rfl) (Or.inl ⟨by rfl, Or.inl ?y18_14⟩) ?r18_14
                  case y18_14 => go_simp
                  simp only [List.setIfInBounds_toArray, List.set_cons_zero, List.set_cons_succ]
                  refine wpAnyL_take_at (i := 19) (v := .int .u32 (b.toNat : Int)) rfl rfl (by kernel_rfl) (by kernel_rfl) (by kernel_rfl) (by kernel_rfl) (Or.inl ⟨by rfl, Or.inl ?y18_19⟩) ?r18_19
                  case y18_19 => go_simp
                  simp only [List.setIfInBounds_toArray, List.set_cons_zero, List.set_cons_succ]
                  refine wpAnyL_take_at (i := 24) (v := .int .u32 (c.toNat : Int)) rfl rfl (by kernel_rfl) (by kernel_rfl) (by kernel_rfl) (by kernel_rfl) (Or.inl ⟨by rfl, Or.inl ?y18_24⟩) ?r18_24
                  case y18_24 => go_simp
                  simp only [List.setIfInBounds_toArray, List.set_cons_zero, List.set_cons_succ]
                  refine wpAnyL_take_at (i := 29) (v := .int .u32 (d.toNat : Int)) rfl rfl (by kernel_rfl) (by kernel_rfl) (by kernel_rfl) (by kernel_rfl) (Or.inl ⟨by rfl, Or.inl ?y18_29⟩) ?r18_29
                  case y18_29 => go_simp
                  simp only [List.setIfInBounds_toArray, List.set_cons_zero, List.set_cons_succ]
                  change wpAny _ _ _ _ _ _ _ _
                  refine wpAny_ready (rs := [30]) (by kernel_rfl) (by simp) ?_
                  refine AllReady.cons rfl (fun K hK => ?_) AllReady.nil
                  go_simp
                  refine (rquarter_any a b c d _).mono ?_
                  rintro e w8 ⟨rfl, rfl⟩
                  refine hK _ _ ?_
                  clear hK K
                  refine wpAny_take_at (i := 31) (v := .tuple #[.int .u32 ((M.qr a b c d).1.toNat : Int), .int .u32 ((M.qr a b c d).2.1.toNat : Int), .int .u32 ((M.qr a b c d).2.2.1.toNat : Int), .int .u32 ((M.qr a b c d).2.2.2.toNat : Int)]) rfl rfl (by kernel_rfl) (by kernel_rfl) (by kernel_rfl) (fun _ _ _ h => h) (Or.inl ⟨by rfl, ?y18_31⟩) ?r18_31
                  case y18_31 =>
                    intro w
                    go_simp
                  simp only [List.setIfInBounds_toArray, List.set_cons_zero, List.set_cons_succ]
                  refine wpAny_take_at (i := 32) (v := .int .u32 ((M.qr a b c d).1.toNat : Int)) rfl rfl (by kernel_rfl) (by kernel_rfl) (by kernel_rfl) (fun _ _ _ h => h) (Or.inl ⟨by rfl, ?y18_32⟩) ?r18_32
                  case y18_32 =>
                    intro w
                    go_simp
                  simp only [List.setIfInBounds_toArray, List.set_cons_zero, List.set_cons_succ]
                  refine wpAny_take_at (i := 33) (v := .int .u32 ((M.qr a b c d).2.1.toNat : Int)) rfl rfl (by kernel_rfl) (by kernel_rfl) (by kernel_rfl) (fun _ _ _ h => h) (Or.inl ⟨by rfl, ?y18_33⟩) ?r18_33
                  case y18_33 =>
                    intro w
                    go_simp
                  simp only [List.setIfInBounds_toArray, List.set_cons_zero, List.set_cons_succ]
                  refine wpAny_take_at (i := 34) (v := .int .u32 ((M.qr a b c d).2.2.1.toNat : Int)) rfl rfl (by kernel_rfl) (by kernel_rfl) (by kernel_rfl) (fun _ _ _ h => h) (Or.inl ⟨by rfl, ?y18_34⟩) ?r18_34
                  case y18_34 =>
                    intro w
                    go_simp
                  simp only [List.setIfInBounds_toArray, List.set_cons_zero, List.set_cons_succ]
                  refine wpAny_take_at (i := 35) (v := .int .u32 ((M.qr a b c d).2.2.2.toNat : Int)) rfl rfl (by kernel_rfl) (by kernel_rfl) (by kernel_rfl) (fun _ _ _ h => h) (Or.inl ⟨by rfl, ?y18_35⟩) ?r18_35
                  case y18_35 =>
                    intro w
                    go_simp
                  simp only [List.setIfInBounds_toArray, List.set_cons_zero, List.set_cons_succ]
                  refine wpAny_take_at (i := 36) (v := .pointer (some ⟨gs, k, none⟩)) rfl rfl (by kernel_rfl) (by kernel_rfl) (by kernel_rfl) (fun _ _ _ h => h) (Or.inl ⟨by rfl, ?y18_36⟩) ?r18_36
                  case y18_36 =>
                    intro w
                    go_simp
                  simp only [List.setIfInBounds_toArray, List.set_cons_zero, List.set_cons_succ]
                  refine wpAny_ready (rs := [37]) (by kernel_rfl) (by simp) ?_
                  refine AllReady.cons rfl (fun K hK => ?_) AllReady.nil
                  go_simp
                  refine hK _ _ ?_
                  clear hK K
                  refine wpAny_take_at (i := 38) (v := .pointer (some ⟨gs, 4 + k, none⟩)) rfl rfl (by kernel_rfl) (by kernel_rfl) (by kernel_rfl) (fun _ _ _ h => h) (Or.inl ⟨by rfl, ?y18_38⟩) ?r18_38
                  case y18_38 =>
                    intro w
                    go_simp
                  simp only [List.setIfInBounds_toArray, List.set_cons_zero, List.set_cons_succ]
                  refine wpAny_ready (rs := [39]) (by kernel_rfl) (by simp) ?_
                  refine AllReady.cons rfl (fun K hK => ?_) AllReady.nil
                  go_simp
                  refine hK _ _ ?_
                  clear hK K
                  refine wpAny_take_at (i := 40) (v := .pointer (some ⟨gs, 8 + k, none⟩)) rfl rfl (by kernel_rfl) (by kernel_rfl) (by kernel_rfl) (fun _ _ _ h => h) (Or.inl ⟨by rfl, ?y18_40⟩) ?r18_40
                  case y18_40 =>
                    intro w
                    go_simp
                  simp only [List.setIfInBounds_toArray, List.set_cons_zero, List.set_cons_succ]
                  refine wpAny_ready (rs := [41]) (by kernel_rfl) (by simp) ?_
                  refine AllReady.cons rfl (fun K hK => ?_) AllReady.nil
                  go_simp
                  refine hK _ _ ?_
                  clear hK K
                  refine wpAny_take_at (i := 42) (v := .pointer (some ⟨gs, 12 + k, none⟩)) rfl rfl (by kernel_rfl) (by kernel_rfl) (by kernel_rfl) (fun _ _ _ h => h) (Or.inl ⟨by rfl, ?y18_42⟩) ?r18_42
                  case y18_42 =>
                    intro w
                    go_simp
                  simp only [List.setIfInBounds_toArray, List.set_cons_zero, List.set_cons_succ]
                  refine wpAny_ready (rs := [43]) (by kernel_rfl) (by simp) ?_
                  refine AllReady.cons rfl (fun K hK => ?_) AllReady.nil
                  go_simp
                  refine hK _ _ ?_
                  clear hK K
                  refine wpAny_done (by kernel_rfl) ?_ _
                  --E18
                  rw [← HW4.out]
                  clear ca cb cc cd fa fb fc fd v4 v8 v12 q0 p4 q4 t4 p8 q8 t8 p12 q12 t12
                  go_wp2
                  go_roundw
                  case rel =>
                    exact ⟨k + 1, by omega, by go_num, HNW, HKW⟩
                  case measure => simp [intOf]; omega
                · obtain rfl : k = 4 := by omega
                  rw [show ((4 : Nat) : Int) = 4 from rfl]
                  go_wp2
                  go_loopw [13] (fun i w7 => ∃ k : Nat, k ≤ 4 ∧ i = .int .i64 k ∧ Hid (OwnW w7 wz.heap.size (.slice (some ⟨gs, 0, none⟩) 16 cs) (M.part T (4 + k))) ∧ Hid (Below wz.heap.size wz w7))
                    (fun i _ => 4 - (intOf i).toNat)
                  case atStart => exact ⟨0, by omega, rfl, hS, hK⟩
                  case round =>
                    clear hS hK
                    obtain ⟨wD, rfl⟩ : ∃ x, x = wr := ⟨_, rfl⟩
                    obtain ⟨k, hk, rfl, hS, hK⟩ := hrel
                    by_cases hlt5 : k < 4
                    · as_aux_lemma =>
                      obtain ⟨S, hSS⟩ : ∃ S, Hid (S = M.part T (4 + k)) := ⟨_, rfl⟩
                      have HSL : Hid (S.length = 16) := by rw [Hid, hSS.out, M.part_length, HTL.out]
                      rw [← hSS.out] at hS
                      obtain ⟨z1, hz1⟩ : ∃ z, z = 4 + (k + 1) % 4 := ⟨_, rfl⟩
                      obtain ⟨z2, hz2⟩ : ∃ z, z = 8 + (k + 2) % 4 := ⟨_, rfl⟩
                      obtain ⟨z3, hz3⟩ : ∃ z, z = 12 + (k + 3) % 4 := ⟨_, rfl⟩
                      have e1 : 4 + ((k : Int) + 1) % 4 = (z1 : Int) := by omega
                      have e2 : 8 + ((k : Int) + 2) % 4 = (z2 : Int) := by omega
                      have e3 : 12 + ((k : Int) + 3) % 4 = (z3 : Int) := by omega
                      obtain ⟨a, ha⟩ : ∃ x, Hid (x = S.getD k 0) := ⟨_, rfl⟩
                      obtain ⟨b, hb⟩ : ∃ x, Hid (x = S.getD z1 0) := ⟨_, rfl⟩
                      obtain ⟨c, hc⟩ : ∃ x, Hid (x = S.getD z2 0) := ⟨_, rfl⟩
                      obtain ⟨d, hd⟩ : ∃ x, Hid (x = S.getD z3 0) := ⟨_, rfl⟩
                      have b1 : z1 < 16 := by omega
                      have b2 : z2 < 16 := by omega
                      have b3 : z3 < 16 := by omega
                      have ca : wD.cell? ⟨gs, k, none⟩ = some (.int .u32 (a.toNat : Int)) := by rw [hS.out.cell HSL.out.symm k (by rw [HSL.out]; omega), ha.out]
                      have cb : wD.cell? ⟨gs, z1, none⟩ = some (.int .u32 (b.toNat : Int)) := by rw [hS.out.cell HSL.out.symm z1 (by rw [HSL.out]; omega), hb.out]
                      have cc : wD.cell? ⟨gs, z2, none⟩ = some (.int .u32 (c.toNat : Int)) := by rw [hS.out.cell HSL.out.symm z2 (by rw [HSL.out]; omega), hc.out]
                      have cd : wD.cell? ⟨gs, z3, none⟩ = some (.int .u32 (d.toNat : Int)) := by rw [hS.out.cell HSL.out.symm z3 (by rw [HSL.out]; omega), hd.out]
                      have fa := hS.out.frozen HSL.out.symm k
                      have fb := hS.out.frozen HSL.out.symm z1
                      have fc := hS.out.frozen HSL.out.symm z2
                      have fd := hS.out.frozen HSL.out.symm z3
                      obtain ⟨W4, HW4⟩ : ∃ W, Hid (W = ((((wD.setCell ⟨gs, k, none⟩ (.int .u32 ((M.qr a b c d).1.toNat : Int))).setCell ⟨gs, z1, none⟩ (.int .u32 ((M.qr a b c d).2.1.toNat : Int))).setCell ⟨gs, z2, none⟩ (.int .u32 ((M.qr a b c d).2.2.1.toNat : Int))).setCell ⟨gs, z3, none⟩ (.int .u32 ((M.qr a b c d).2.2.2.toNat : Int))).drew) := ⟨_, rfl⟩
                      have HNW : Hid (OwnW W4 wz.heap.size (.slice (some ⟨gs, 0, none⟩) 16 cs) (M.part T (4 + (k + 1)))) := by
                        have e : M.part T (4 + (k + 1)) = (((S.set k (M.qr a b c d).1).set z1 (M.qr a b c d).2.1).set z2 (M.qr a b c d).2.2.1).set z3 (M.qr a b c d).2.2.2 := by
                          rw [show 4 + (k + 1) = (4 + k) + 1 by omega, M.part, ← hSS.out, M.qAt, show M.pl (4 + k) 0 = k by unfold M.pl; split <;> omega, show M.pl (4 + k) 1 = z1 by unfold M.pl; split <;> omega, show M.pl (4 + k) 2 = z2 by unfold M.pl; split <;> omega, show M.pl (4 + k) 3 = z3 by unfold M.pl; split <;> omega, ← ha.out, ← hb.out, ← hc.out, ← hd.out]
                        rw [Hid, HW4.out, e]
                        exact (((hS.out.set_ HSL.out.symm k _).set_ (by rw [List.length_set, HSL.out]) z1 _).set_ (by rw [List.length_set, List.length_set, HSL.out]) z2 _).set_ (by rw [List.length_set, List.length_set, List.length_set, HSL.out]) z3 _
                      have HKW : Hid (Below wz.heap.size wz W4) := by
                        rw [Hid, HW4.out]
                        exact drewN_below ((((hK.out.setCell hgs1 _).setCell hgs1 _).setCell hgs1 _).setCell hgs1 _) 1
                      have n1 : k ≠ z1 := by omega
                      have n2 : k ≠ z2 := by omega
                      have n3 : k ≠ z3 := by omega
                      have n4 : z1 ≠ z2 := by omega
                      have n5 : z1 ≠ z3 := by omega
                      have n6 : z2 ≠ z3 := by omega
                      have m1 := n1.symm
                      have m2 := n2.symm
                      have m3 := n3.symm
                      have m4 := n4.symm
                      have m5 := n5.symm
                      have m6 := n6.symm
                      have y0 : (k : Int) < 16 := by omega
                      have y1 : (z1 : Int) < 16 := by omega
                      have y2 : (z2 : Int) < 16 := by omega
                      have y3 : (z3 : Int) < 16 := by omega
                      clear hz1 hz2 hz3
                      go_wp2
                      --R25
                      refine wp_region_any (by kernel_rfl) ?_
                      change wpAny _ _ _ _ _ _ _ (World.drew _)
                      refine wpAny_take_at (i := 0) (v := .slice (some ⟨gs, 0, none⟩) 16 cs) rfl rfl (by kernel_rfl) (by kernel_rfl) (by kernel_rfl) (fun _ _ _ h => h) (Or.inl ⟨by rfl, ?y25_0⟩) ?r25_0
                      case y25_0 =>
                        intro w
                        go_simp
                      simp only [List.setIfInBounds_toArray, List.set_cons_zero, List.set_cons_succ]
                      refine wpAny_take_at (i := 1) (v := .int .i64 (k : Int)) rfl rfl (by kernel_rfl) (by kernel_rfl) (by kernel_rfl) (fun _ _ _ h => h) (Or.inl ⟨by rfl, ?y25_1⟩) ?r25_1
                      case y25_1 =>
                        intro w
                        go_simp
                      simp only [List.setIfInBounds_toArray, List.set_cons_zero, List.set_cons_succ]
                      refine wpAny_take_at (i := 2) (v := .slice (some ⟨gs, 0, none⟩) 16 cs) rfl rfl (by kernel_rfl) (by kernel_rfl) (by kernel_rfl) (fun _ _ _ h => h) (Or.inl ⟨by rfl, ?y25_2⟩) ?r25_2
                      case y25_2 =>
                        intro w
                        go_simp
                      simp only [List.setIfInBounds_toArray, List.set_cons_zero, List.set_cons_succ]
                      refine wpAny_take_at (i := 3) (v := .int .i64 (z1 : Int)) rfl rfl (by kernel_rfl) (by kernel_rfl) (by kernel_rfl) (fun _ _ _ h => h) (Or.inl ⟨by rfl, ?y25_3⟩) ?r25_3
                      case y25_3 =>
                        intro w
                        go_simp
                      simp only [List.setIfInBounds_toArray, List.set_cons_zero, List.set_cons_succ]
                      refine wpAny_take_at (i := 4) (v := .slice (some ⟨gs, 0, none⟩) 16 cs) rfl rfl (by kernel_rfl) (by kernel_rfl) (by kernel_rfl) (fun _ _ _ h => h) (Or.inl ⟨by rfl, ?y25_4⟩) ?r25_4
                      case y25_4 =>
                        intro w
                        go_simp
                      simp only [List.setIfInBounds_toArray, List.set_cons_zero, List.set_cons_succ]
                      refine wpAny_take_at (i := 5) (v := .int .i64 (z2 : Int)) rfl rfl (by kernel_rfl) (by kernel_rfl) (by kernel_rfl) (fun _ _ _ h => h) (Or.inl ⟨by rfl, ?y25_5⟩) ?r25_5
                      case y25_5 =>
                        intro w
                        go_simp
                      simp only [List.setIfInBounds_toArray, List.set_cons_zero, List.set_cons_succ]
                      refine wpAny_take_at (i := 6) (v := .slice (some ⟨gs, 0, none⟩) 16 cs) rfl rfl (by kernel_rfl) (by kernel_rfl) (by kernel_rfl) (fun _ _ _ h => h) (Or.inl ⟨by rfl, ?y25_6⟩) ?r25_6
                      case y25_6 =>
                        intro w
                        go_simp
                      simp only [List.setIfInBounds_toArray, List.set_cons_zero, List.set_cons_succ]
                      refine wpAny_take_at (i := 7) (v := .int .i64 (z3 : Int)) rfl rfl (by kernel_rfl) (by kernel_rfl) (by kernel_rfl) (fun _ _ _ h => h) (Or.inl ⟨by rfl, ?y25_7⟩) ?r25_7
                      case y25_7 =>
                        intro w
                        go_simp
                      simp only [List.setIfInBounds_toArray, List.set_cons_zero, List.set_cons_succ]
                      refine wpAny_take_at (i := 8) (v := .slice (some ⟨gs, 0, none⟩) 16 cs) rfl rfl (by kernel_rfl) (by kernel_rfl) (by kernel_rfl) (fun _ _ _ h => h) (Or.inl ⟨by rfl, ?y25_8⟩) ?r25_8
                      case y25_8 =>
                        intro w
                        go_simp
                      simp only [List.setIfInBounds_toArray, List.set_cons_zero, List.set_cons_succ]
                      refine wpAny_take_at (i := 9) (v := .int .i64 (k : Int)) rfl rfl (by kernel_rfl) (by kernel_rfl) (by kernel_rfl) (fun _ _ _ h => h) (Or.inl ⟨by rfl, ?y25_9⟩) ?r25_9
                      case y25_9 =>
                        intro w
                        go_simp
                      simp only [List.setIfInBounds_toArray, List.set_cons_zero, List.set_cons_succ]
                      refine wpAny_take_at (i := 10) (v := .pointer (some ⟨gs, k, none⟩)) rfl rfl (by kernel_rfl) (by kernel_rfl) (by kernel_rfl) (fun _ _ _ h => h) (Or.inl ⟨by rfl, ?y25_10⟩) ?r25_10
                      case y25_10 =>
                        intro w
                        go_simp
                      simp only [List.setIfInBounds_toArray, List.set_cons_zero, List.set_cons_succ]
                      refine wpAny_take_at (i := 12) (v := .slice (some ⟨gs, 0, none⟩) 16 cs) rfl rfl (by kernel_rfl) (by kernel_rfl) (by kernel_rfl) (fun _ _ _ h => h) (Or.inl ⟨by rfl, ?y25_12⟩) ?r25_12
                      case y25_12 =>
                        intro w
                        go_simp
                      simp only [List.setIfInBounds_toArray, List.set_cons_zero, List.set_cons_succ]
                      refine wpAny_take_at (i := 13) (v := .int .i64 (z1 : Int)) rfl rfl (by kernel_rfl) (by kernel_rfl) (by kernel_rfl) (fun _ _ _ h => h) (Or.inl ⟨by rfl, ?y25_13⟩) ?r25_13
                      case y25_13 =>
                        intro w
                        go_simp
                      simp only [List.setIfInBounds_toArray, List.set_cons_zero, List.set_cons_succ]
                      refine wpAny_take_at (i := 14) (v := .pointer (some ⟨gs, z1, none⟩)) rfl rfl (by kernel_rfl) (by kernel_rfl) (by kernel_rfl) (fun _ _ _ h => h) (Or.inl ⟨by rfl, ?y25_14⟩) ?r25_14
                      case y25_14 =>
                        intro w
                        go_simp
                      simp only [List.setIfInBounds_toArray, List.set_cons_zero, List.set_cons_succ]
                      refine wpAny_take_at (i := 16) (v := .slice (some ⟨gs, 0, none⟩) 16 cs) rfl rfl (by kernel_rfl) (by kernel_rfl) (by kernel_rfl) (fun _ _ _ h => h) (Or.inl ⟨by rfl, ?y25_16⟩) ?r25_16
                      case y25_16 =>
                        intro w
                        go_simp
                      simp only [List.setIfInBounds_toArray, List.set_cons_zero, List.set_cons_succ]
                      refine wpAny_take_at (i := 17) (v := .int .i64 (z2 : Int)) rfl rfl (by kernel_rfl) (by kernel_rfl) (by kernel_rfl) (fun _ _ _ h => h) (Or.inl ⟨by rfl, ?y25_17⟩) ?r25_17
                      case y25_17 =>
                        intro w
                        go_simp
                      simp only [List.setIfInBounds_toArray, List.set_cons_zero, List.set_cons_succ]
                      refine wpAny_take_at (i := 18) (v := .pointer (some ⟨gs, z2, none⟩)) rfl rfl (by kernel_rfl) (by kernel_rfl) (by kernel_rfl) (fun _ _ _ h => h) (Or.inl ⟨by rfl, ?y25_18⟩) ?r25_18
                      case y25_18 =>
                        intro w
                        go_simp
                      simp only [List.setIfInBounds_toArray, List.set_cons_zero, List.set_cons_succ]
                      refine wpAny_take_at (i := 20) (v := .slice (some ⟨gs, 0, none⟩) 16 cs) rfl rfl (by kernel_rfl) (by kernel_rfl) (by kernel_rfl) (fun _ _ _ h => h) (Or.inl ⟨by rfl, ?y25_20⟩) ?r25_20
                      case y25_20 =>
                        intro w
                        go_simp
                      simp only [List.setIfInBounds_toArray, List.set_cons_zero, List.set_cons_succ]
                      refine wpAny_take_at (i := 21) (v := .int .i64 (z3 : Int)) rfl rfl (by kernel_rfl) (by kernel_rfl) (by kernel_rfl) (fun _ _ _ h => h) (Or.inl ⟨by rfl, ?y25_21⟩) ?r25_21
                      case y25_21 =>
                        intro w
                        go_simp
                      simp only [List.setIfInBounds_toArray, List.set_cons_zero, List.set_cons_succ]
                      refine wpAny_take_at (i := 22) (v := .pointer (some ⟨gs, z3, none⟩)) rfl rfl (by kernel_rfl) (by kernel_rfl) (by kernel_rfl) (fun _ _ _ h => h) (Or.inl ⟨by rfl, ?y25_22⟩) ?r25_22
                      case y25_22 =>
                        intro w
                        go_simp
                      simp only [List.setIfInBounds_toArray, List.set_cons_zero, List.set_cons_succ]
                      refine wpAny_reads 4 14 ?_
                      refine wpAnyL_take_at (i := 11) (v := .int .u32 (a.toNat : Int)) rfl rfl (by kernel_rfl) (by kernel_rfl) (by kernel_rfl) (by kernel_rfl) (Or.inl ⟨by rfl, Or.inl ?y25_11⟩) ?r25_11
                      case y25_11 => go_simp
                      simp only [List.setIfInBounds_toArray, List.set_cons_zero, List.set_cons_succ]
                      refine wpAnyL_take_at (i := 15) (v := .int .u32 (b.toNat : Int)) rfl rfl (by kernel_rfl) (by kernel_rfl) (by kernel_rfl) (by kernel_rfl) (Or.inl ⟨by rfl, Or.inl ?y25_15⟩) ?r25_15
                      case y25_15 => go_simp
                      simp only [List.setIfInBounds_toArray, List.set_cons_zero, List.set_cons_succ]
                      refine wpAnyL_take_at (i := 19) (v := .int .u32 (c.toNat : Int)) rfl rfl (by kernel_rfl) (by kernel_rfl) (by kernel_rfl) (by kernel_rfl) (Or.inl ⟨by rfl, Or.inl ?y25_19⟩) ?r25_19
                      case y25_19 => go_simp
                      simp only [List.setIfInBounds_toArray, List.set_cons_zero, List.set_cons_succ]
                      refine wpAnyL_take_at (i := 23) (v := .int .u32 (d.toNat : Int)) rfl rfl (by kernel_rfl) (by kernel_rfl) (by kernel_rfl) (by kernel_rfl) (Or.inl ⟨by rfl, Or.inl ?y25_23⟩) ?r25_23
                      case y25_23 => go_simp
                      simp only [List.setIfInBounds_toArray, List.set_cons_zero, List.set_cons_succ]
                      change wpAny _ _ _ _ _ _ _ _
                      refine wpAny_ready (rs := [24]) (by kernel_rfl) (by simp) ?_
                      refine AllReady.cons rfl (fun K hK => ?_) AllReady.nil
                      go_simp
                      refine (rquarter_any a b c d _).mono ?_
                      rintro e w8 ⟨rfl, rfl⟩
                      refine hK _ _ ?_
                      clear hK K
                      refine wpAny_take_at (i := 25) (v := .tuple #[.int .u32 ((M.qr a b c d).1.toNat : Int), .int .u32 ((M.qr a b c d).2.1.toNat : Int), .int .u32 ((M.qr a b c d).2.2.1.toNat : Int), .int .u32 ((M.qr a b c d).2.2.2.toNat : Int)]) rfl rfl (by kernel_rfl) (by kernel_rfl) (by kernel_rfl) (fun _ _ _ h => h) (Or.inl ⟨by rfl, ?y25_25⟩) ?r25_25
                      case y25_25 =>
                        intro w
                        go_simp
                      simp only [List.setIfInBounds_toArray, List.set_cons_zero, List.set_cons_succ]
                      refine wpAny_take_at (i := 26) (v := .int .u32 ((M.qr a b c d).1.toNat : Int)) rfl rfl (by kernel_rfl) (by kernel_rfl) (by kernel_rfl) (fun _ _ _ h => h) (Or.inl ⟨by rfl, ?y25_26⟩) ?r25_26
                      case y25_26 =>
                        intro w
                        go_simp
                      simp only [List.setIfInBounds_toArray, List.set_cons_zero, List.set_cons_succ]
                      refine wpAny_take_at (i := 27) (v := .int .u32 ((M.qr a b c d).2.1.toNat : Int)) rfl rfl (by kernel_rfl) (by kernel_rfl) (by kernel_rfl) (fun _ _ _ h => h) (Or.inl ⟨by rfl, ?y25_27⟩) ?r25_27
                      case y25_27 =>
                        intro w
                        go_simp
                      simp only [List.setIfInBounds_toArray, List.set_cons_zero, List.set_cons_succ]
                      refine wpAny_take_at (i := 28) (v := .int .u32 ((M.qr a b c d).2.2.1.toNat : Int)) rfl rfl (by kernel_rfl) (by kernel_rfl) (by kernel_rfl) (fun _ _ _ h => h) (Or.inl ⟨by rfl, ?y25_28⟩) ?r25_28
                      case y25_28 =>
                        intro w
                        go_simp
                      simp only [List.setIfInBounds_toArray, List.set_cons_zero, List.set_cons_succ]
                      refine wpAny_take_at (i := 29) (v := .int .u32 ((M.qr a b c d).2.2.2.toNat : Int)) rfl rfl (by kernel_rfl) (by kernel_rfl) (by kernel_rfl) (fun _ _ _ h => h) (Or.inl ⟨by rfl, ?y25_29⟩) ?r25_29
                      case y25_29 =>
                        intro w
                        go_simp
                      simp only [List.setIfInBounds_toArray, List.set_cons_zero, List.set_cons_succ]
                      refine wpAny_take_at (i := 30) (v := .pointer (some ⟨gs, k, none⟩)) rfl rfl (by kernel_rfl) (by kernel_rfl) (by kernel_rfl) (fun _ _ _ h => h) (Or.inl ⟨by rfl, ?y25_30⟩) ?r25_30
                      case y25_30 =>
                        intro w
                        go_simp
                      simp only [List.setIfInBounds_toArray, List.set_cons_zero, List.set_cons_succ]
                      refine wpAny_ready (rs := [31]) (by kernel_rfl) (by simp) ?_
                      refine AllReady.cons rfl (fun K hK => ?_) AllReady.nil
                      go_simp
                      refine hK _ _ ?_
                      clear hK K
                      refine wpAny_take_at (i := 32) (v := .pointer (some ⟨gs, z1, none⟩)) rfl rfl (by kernel_rfl) (by kernel_rfl) (by kernel_rfl) (fun _ _ _ h => h) (Or.inl ⟨by rfl, ?y25_32⟩) ?r25_32
                      case y25_32 =>
                        intro w
                        go_simp
                      simp only [List.setIfInBounds_toArray, List.set_cons_zero, List.set_cons_succ]
                      refine wpAny_ready (rs := [33]) (by kernel_rfl) (by simp) ?_
                      refine AllReady.cons rfl (fun K hK => ?_) AllReady.nil
                      go_simp
                      refine hK _ _ ?_
                      clear hK K
                      refine wpAny_take_at (i := 34) (v := .pointer (some ⟨gs, z2, none⟩)) rfl rfl (by kernel_rfl) (by kernel_rfl) (by kernel_rfl) (fun _ _ _ h => h) (Or.inl ⟨by rfl, ?y25_34⟩) ?r25_34
                      case y25_34 =>
                        intro w
                        go_simp
                      simp only [List.setIfInBounds_toArray, List.set_cons_zero, List.set_cons_succ]
                      refine wpAny_ready (rs := [35]) (by kernel_rfl) (by simp) ?_
                      refine AllReady.cons rfl (fun K hK => ?_) AllReady.nil
                      go_simp
                      refine hK _ _ ?_
                      clear hK K
                      refine wpAny_take_at (i := 36) (v := .pointer (some ⟨gs, z3, none⟩)) rfl rfl (by kernel_rfl) (by kernel_rfl) (by kernel_rfl) (fun _ _ _ h => h) (Or.inl ⟨by rfl, ?y25_36⟩) ?r25_36
                      case y25_36 =>
                        intro w
                        go_simp
                      simp only [List.setIfInBounds_toArray, List.set_cons_zero, List.set_cons_succ]
                      refine wpAny_ready (rs := [37]) (by kernel_rfl) (by simp) ?_
                      refine AllReady.cons rfl (fun K hK => ?_) AllReady.nil
                      go_simp
                      refine hK _ _ ?_
                      clear hK K
                      refine wpAny_done (by kernel_rfl) ?_ _
                      --E25
                      rw [← HW4.out]
                      clear ca cb cc cd fa fb fc fd e1 e2 e3 n1 n2 n3 n4 n5 n6 m1 m2 m3 m4 m5 m6
                      go_wp2
                      go_roundw
                      case rel =>
                        exact ⟨k + 1, by omega, by go_num, HNW, HKW⟩
                      case measure => simp [intOf]; omega
                    · obtain rfl : k = 4 := by omega
                      have HNW : Hid (OwnW wD wz.heap.size (.slice (some ⟨gs, 0, none⟩) 16 cs) (M.ten X (n + 1))) := by
                        rw [Hid, M.ten, ← hT.out]
                        exact hS.out
                      clear hS
                      go_wp2
                      go_roundw
                      case rel => exact ⟨n + 1, by omega, by go_num, HNW, hK⟩
                      case measure => simp [intOf]; omega
            · obtain rfl : n = 10 := by omega
              rw [show ((10 : Nat) : Int) = 10 from rfl]
              obtain ⟨T, hT⟩ : ∃ T, Hid (T = M.ten X 10) := ⟨_, rfl⟩
              have HTL : Hid (T.length = 16) := by rw [Hid, hT.out, M.ten_length, HXL.out]
              rw [← hT.out] at hS
              have HOX : Hid (OwnW wB w.heap.size (.slice (some ⟨gx, 0, none⟩) 16 cx) X) := HO1.out.below hK.out
              have KWB : Hid (Below w.heap.size w wB) := kk.trans (hK.out.mono kk.size)
              go_wp2
              go_loopw [17, 18] (fun x i w7 => ∃ k : Nat, k ≤ 16 ∧ i = .int .i64 k ∧ Hid (Own w7 wB.heap.size x (M.outs X T k)) ∧ Hid (Below wB.heap.size wB w7))
                (fun _ i _ => 16 - (intOf i).toNat)
              case atStart => exact ⟨0, by omega, rfl, World.ownsRow_nil _ _ _ _, Below.refl _ _⟩
              case round =>
                obtain ⟨wD, rfl⟩ : ∃ x, x = wr := ⟨_, rfl⟩
                obtain ⟨k, hk, rfl, oo, hKD⟩ := hrel
                by_cases hlt6 : k < 16
                · as_aux_lemma =>
                  obtain ⟨x, hx⟩ : ∃ x, Hid (x = X.getD k 0) := ⟨_, rfl⟩
                  obtain ⟨y, hy⟩ : ∃ y, Hid (y = T.getD k 0) := ⟨_, rfl⟩
                  obtain ⟨u, hu⟩ : ∃ u, Hid (u = y + x) := ⟨_, rfl⟩
                  have s1 : IntKind.u32.wrap ((y.toNat : Int) + (x.toNat : Int)) = (u.toNat : Int) := by rw [hu.out]; exact w_wrap y x
                  have s2 : ((y.toNat : Int) + (x.toNat : Int)) % 4294967296 = (u.toNat : Int) := by rw [hu.out]; exact w_add y x
                  have hub := w_lt u
                  have s3 : IntKind.u64.wrap (u.toNat : Int) = (u.toNat : Int) := by rw [show IntKind.u64.wrap (u.toNat : Int) = (u.toNat : Int) % 18446744073709551616 from rfl]; omega
                  have SC : Hid (∀ w', Below wB.heap.size wB w' → w'.cell? ⟨gs, k, none⟩ = some (.int .u32 (y.toNat : Int)) ∧ w'.cell? ⟨gx, k, none⟩ = some (.int .u32 (x.toNat : Int))) := fun w' kw => by
                    refine ⟨?_, ?_⟩
                    · rw [(hS.out.below kw).cell HTL.out.symm k (by rw [HTL.out]; omega), hy.out]
                    · rw [(HOX.out.below kw).cell HXL.out.symm k (by rw [HXL.out]; omega), hx.out]
                  have HNX : Hid (M.outs X T k ++ M.le u.toNat 4 = M.outs X T (k + 1)) := by rw [Hid, M.outs, ← hx.out, ← hy.out, ← hu.out]
                  have HLX : Hid ((M.outs X T k).length + (M.le u.toNat 4).length ≤ 1000) := by rw [Hid, M.outs_length, M.le_length]; omega
                  have KD : Hid (Below wB.heap.size wB wD.drew) := drewN_below hKD.out 1
                  have OD : Hid (∀ w', Below wD.drew.heap.size wD.drew w' → Own w' wB.heap.size u17 (M.outs X T k)) := fun w' kw => Own.below (w := wD) oo.out ((below_draws wD 1).trans kw)
                  go_wp2
                  go_region_held3 (fun w' => w'.cell? ⟨gs, k, none⟩ = some (.int .u32 (y.toNat : Int)) ∧ w'.cell? ⟨gx, k, none⟩ = some (.int .u32 (x.toNat : Int)))
                    (first | exact SC.out _ KD.out | exact SC.out _ (KD.out.trans (k3.mono KD.out.size)) | exact SC.out _ ((KD.out.trans (k3.mono KD.out.size)).trans k9))
                    (first
                      | (go_at_call 18; refine (little_any u.toNat 4 _ (by omega) (by omega)).mono ?_; rintro e w3 ⟨r3, rfl, o3, k3⟩; obtain ⟨g3, c3, rfl, hg3⟩ := o3.shape (by rw [M.le_length]; omega))
                      | (refine step_appBs rfl (.tmp 155) (.tmp 166) rfl wB.heap.size _ (M.outs X T k) rfl (OD.out _ k3) ⟨g3, 0, none⟩ _ c3 (M.le u.toNat 4) rfl rfl o3.cells (by have := HLX.out; omega) (Nat.le_trans KD.out.size k3.size) ?_; intro v' w9 o9 k9))
                  rw [HNX.out] at o9
                  have O9 : Hid (Own w9 wB.heap.size v' (M.outs X T (k + 1))) := o9
                  have K9 : Hid (Below wB.heap.size wB w9) := (KD.out.trans (k3.mono KD.out.size)).trans k9
                  clear o9 k9 k3 o3 oo hKD s1 s2 s3
                  go_wp2
                  go_roundw
                  case rel => exact ⟨k + 1, by omega, by go_num, O9, K9⟩
                  case measure => simp [intOf]; omega
                · obtain rfl : k = 16 := by omega
                  have e : M.outs X T 16 = RES := by rw [hRES.out, M.cblk, M.blk, ← hX.out, ← hT.out]
                  have ho := oo.out
                  rw [e] at ho
                  have HO := Lib.hid ho
                  clear ho oo e
                  go_wp2
                  go_ret
                  exact ⟨_, rfl, HO.out.mono KWB.out.size, KWB.out.trans (hKD.out.mono KWB.out.size)⟩

end Go.Proofs.YtogklpeehfoijaaDoor
