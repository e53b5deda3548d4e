/-
  CONTRACT OF seal.Open WITH A BOOK. Conditions: up to 2^24 bytes, 300000 pieces.
-/
import Derived.Test.YtdojalhaklkegaaDoorSealD
namespace Go.Proofs.YtdojalhaklkegaaDoor
open Go.RowKit Go.Maps
set_option linter.unusedVariables false
set_option maxRecDepth 100000

/-- What stands between two boxes, while they are opened. -/
structure OInv (w1 : World) (gs : Nat) (L : M.Bk) (key ctx s : List UInt8) (i : Nat) (W : World) : Prop where
  chg : Chg (fun b => b = gs) w1 W
  row : ∃ lv t, M.orun L key ctx s i = some t ∧ t.length ≤ i * 65536 ∧ Blk W gs 24 [lv] ∧ Own W w1.heap.size lv t

theorem OInv.below {w1 : World} {gs : Nat} {L : M.Bk} {key ctx s : List UInt8} {i : Nat} {W W' : World} (h : OInv w1 gs L key ctx s i W) (k : Below W.heap.size W W') : OInv w1 gs L key ctx s i W' := by
  obtain ⟨hc, lv, t, h1, h2, h3, h4⟩ := h
  exact ⟨hc.trans (Chg.of_below (F := fun _ => False) k) (fun _ _ h => h.elim), lv, t, h1, h2, h3.below k h3.lt, own_chg h4 (Chg.of_below (F := fun _ => False) k) (fun _ _ h => h)⟩

set_option maxHeartbeats 8000000 in
theorem openOne_any (T0 : Nat → Prop) (w1 : World) (gb m1 m2 gs gc gk gd : Nat) (L : M.Bk) (key ctx s : List UInt8) (i k : Nat) (kv dv : Value)
    (hgs1 : gs < w1.heap.size) (hbk : ∀ W, Chg (fun b => b = gs) w1 W → BkIs T0 W gb m1 m2 L)
    (bc : Blk w1 gc 38 [.iface 72 (.pointer (some ⟨gb, 0, none⟩))]) (bk : Blk w1 gk 24 [kv]) (bd : Blk w1 gd 84 [dv])
    (nc : gc ≠ gs) (nk : gk ≠ gs) (nd : gd ≠ gs)
    (hk : ∀ W, Chg (fun b => b = gs) w1 W → IsB W kv key) (hd : ∀ W, Chg (fun b => b = gs) w1 W → IsB W dv (s.take 12 ++ ctx))
    (hk32 : key.length = 32) (h12 : 12 ≤ s.length) (hcl : ctx.length ≤ 16777216) (hsl : s.length ≤ 16777216) (hik : i < k) (hkn : k ≤ 300000) (hko : k = M.onp s) (hbt : ∀ sl t, M.bget L sl = some t → t.length ≤ 65536) (h16 : 16 ≤ (M.opc s i).length)
    (W : World) (nv pv : Value) (h : OInv w1 gs L key ctx s i W) (hn : IsB W nv (M.nonce ((s.drop 1).take 7) i (decide (i + 1 = k)))) (hp : IsB W pv (M.opc s i)) :
    Calls Tryd.prog 47 #[nv, pv, .pointer (some ⟨gc, 0, none⟩), .pointer (some ⟨gk, 0, none⟩), .pointer (some ⟨gd, 0, none⟩), .pointer (some ⟨gs, 0, none⟩)] W fun e W' =>
      ∃ code : Nat, e = .returned (.int .i64 (code : Int)) ∧ (code = 0 → OInv w1 gs L key ctx s (i + 1) W') ∧ (code ≠ 0 → M.orun L key ctx s k = none ∧ Chg (fun b => b = gs) w1 W') := by
  obtain ⟨hc, lv, t, s0, s1, s2, s3⟩ := h
  have c0 : W.cell? ⟨gc, 0, none⟩ = some (.iface 72 (.pointer (some ⟨gb, 0, none⟩))) := (bc.chg hc nc).cell 0
  have c1 : W.cell? ⟨gk, 0, none⟩ = some kv := (bk.chg hc nk).cell 0
  have c2 : W.cell? ⟨gd, 0, none⟩ = some dv := (bd.chg hc nd).cell 0
  have hm := meth_open W ⟨gb, 0, none⟩
  have hpre : ((s.drop 1).take 7).length = 7 := by rw [List.length_take, List.length_drop]; omega
  have hbl : (s.take 12 ++ ctx).length ≤ 1099511627776 := by rw [List.length_append, List.length_take]; omega
  have hxl : (M.opc s i).length ≤ 1099511627776 := by
    unfold M.opc; rw [M.pc_len, List.length_drop]; omega
  have HC := Lib.hid (bkOpen_any (hbk W hc) kv nv dv pv key _ _ _ (hk W hc) hn (hd W hc) hp hk32 (M.nonce_len hpre _ _) hbl hxl h16)
  rw [hko] at HC
  change Hid (Calls _ _ _ _ fun e w' => Below W.heap.size W w' ∧ match M.bget L (M.okey key ctx s i) with | none => _ | some t => _) at HC
  obtain ⟨og, hog⟩ : ∃ o, o = M.bget L (M.okey key ctx s i) := ⟨_, rfl⟩
  rw [← hog] at HC
  have HW := Lib.hid (⟨hc, s0, s1, s2, s3⟩ : _ ∧ _ ∧ _ ∧ _ ∧ _)
  have HG : Hid (gs < w1.heap.size ∧ i < k ∧ k ≤ 300000) := ⟨hgs1, hik, hkn⟩
  have HOG := Lib.hid hog
  have HBT := Lib.hid hbt
  clear hc s0 s1 s2 s3 hn hp hk hd bc bk bd hbk hpre hbl hxl h16 hog hbt
  cases og with
  | none =>
    go_enter Tryd.func47, Tryd.ntmps47
    go_wp2_with fail
    refine HC.out.mono ?_
    rintro e w3 ⟨k3, he⟩
    subst he
    obtain ⟨hc, s0, s1, s2, s3⟩ := HW.out
    have B3 := Lib.hid (s2.below k3 s2.lt)
    have S3 : Hid (Own w3 w1.heap.size lv t) := own_chg s3 (Chg.of_below (F := fun _ => False) k3) (fun _ _ h => h)
    have HN : Hid (IsB w3 (.slice none 0 0) []) := ⟨none, 0, rfl, Nat.le_refl _, Nat.zero_le _, .inl rfl⟩
    have HZ := Lib.hid (Nat.le_trans hc.size k3.size)
    have HL : Hid (t.length + ([] : List UInt8).length ≤ 140737488355328) := by have := HG.out; rw [Hid, List.length_nil]; omega
    have d0 : w3.cell? ⟨gs, 0, none⟩ = some lv := B3.out.cell 0
    have HC3 : Hid (Chg (fun b => b = gs) w1 w3) := hc.trans (Chg.of_below (F := fun _ => False) k3) (fun _ _ h => h.elim)
    clear hc s0 s1 s2 s3 k3 HC c0 c1 c2 hm
    go_upto_region 2 with fail
    go_wp2_with (at_builtin; go_must (refine wpList_app3 _ rfl _ _ rfl w1.heap.size _ _ rfl S3.out _ _ rfl HN.out (fun n c e => by injection e with _ _ e; exact e.symm) HL.out HZ.out ?_))
    intro v4 w4 o4 g4 a4
    obtain ⟨v4a, v4c, hv4⟩ := o4.shape'
    obtain ⟨v4n, hv4n⟩ : ∃ n, n = (t ++ []).length := ⟨_, rfl⟩
    first | rw [← hv4n] at hv4 | skip
    have hneg : lv.ownBlock ≠ some gs := fun e => by have := (S3.out.block_lt gs e).1; have := HG.out.1; omega
    have B4 := Lib.hid (B3.out.grown g4 hneg.symm)
    have z0 : w4.frozen? ⟨gs, 0, none⟩ = false := B4.out.frozen 0
    have d0 : w4.cell? ⟨gs, 0, none⟩ = some lv := B4.out.cell 0
    have cg : Chg (fun b => lv.ownBlock = some b) w3 w4 := Chg.of_grown g4 fun k hk => hk
    have HF : Hid (M.orun L key ctx s k = none ∧ Chg (fun b => b = gs) w1 (w4.setCell ⟨gs, 0, none⟩ v4)) := by
      refine ⟨M.orun_none HOG.out.symm HG.out.2.1, Chg.setCell ?_ _ _ (.inl rfl)⟩
      refine HC3.out.trans cg fun j hj h => ?_
      have := (S3.out.block_lt j h).1
      omega
    clear hneg cg o4 g4 a4 hv4n
    subst hv4
    go_wp2
    go_ret
    exact ⟨7, rfl, fun h => absurd h (by decide), fun _ => HF.out⟩
  | some u =>
    go_enter Tryd.func47, Tryd.ntmps47
    go_wp2_with fail
    refine HC.out.mono ?_
    rintro e w3 ⟨k3, he⟩
    obtain ⟨r, rfl, o3⟩ := he
    obtain ⟨hc, s0, s1, s2, s3⟩ := HW.out
    have hul := HBT.out _ u HOG.out.symm
    have B3 := Lib.hid (s2.below k3 s2.lt)
    have S3 : Hid (Own w3 w1.heap.size lv t) := own_chg s3 (Chg.of_below (F := fun _ => False) k3) (fun _ _ h => h)
    have HN := Lib.hid o3.isB
    have HNN := Lib.hid o3.nil0
    have HZ := Lib.hid (Nat.le_trans hc.size k3.size)
    have HL : Hid (t.length + u.length ≤ 140737488355328) := by have := HG.out; rw [Hid]; omega
    have HL2 : Hid ((t ++ u).length ≤ (i + 1) * 65536) := by rw [Hid, List.length_append]; omega
    have HR : Hid (M.orun L key ctx s (i + 1) = some (t ++ u)) := by
      rw [Hid, M.orun, s0, Option.bind_some, ← HOG.out, Option.map_some]
    have d0 : w3.cell? ⟨gs, 0, none⟩ = some lv := B3.out.cell 0
    have HC3 : Hid (Chg (fun b => b = gs) w1 w3) := hc.trans (Chg.of_below (F := fun _ => False) k3) (fun _ _ h => h.elim)
    clear hc s0 s1 s2 s3 k3 HC c0 c1 c2 hm o3 hul
    go_upto_region 2 with fail
    go_wp2_with (at_builtin; go_must (refine wpList_app3 _ rfl _ _ rfl w1.heap.size _ _ rfl S3.out _ _ rfl HN.out HNN.out HL.out HZ.out ?_))
    intro v4 w4 o4 g4 a4
    obtain ⟨v4a, v4c, hv4⟩ := o4.shape'
    obtain ⟨v4n, hv4n⟩ : ∃ n, n = (t ++ u).length := ⟨_, rfl⟩
    rw [← hv4n] at hv4
    have hneg : lv.ownBlock ≠ some gs := fun e => by have := (S3.out.block_lt gs e).1; have := HG.out.1; omega
    have B4 := Lib.hid (B3.out.grown g4 hneg.symm)
    have z0 : w4.frozen? ⟨gs, 0, none⟩ = false := B4.out.frozen 0
    have d0 : w4.cell? ⟨gs, 0, none⟩ = some lv := B4.out.cell 0
    have cg : Chg (fun b => lv.ownBlock = some b) w3 w4 := Chg.of_grown g4 fun k hk => hk
    have HF : Hid (OInv w1 gs L key ctx s (i + 1) (w4.setCell ⟨gs, 0, none⟩ v4)) := by
      refine ⟨Chg.setCell ?_ _ _ (.inl rfl), v4, t ++ u, HR.out, HL2.out, B4.out.set_ 0 v4, own_chg o4 ((Chg.refl (fun b => b = gs) w4).cell 0 v4) fun k hk e => ?_⟩
      · refine HC3.out.trans cg fun j hj h => ?_
        have := (S3.out.block_lt j h).1
        omega
      · have h1 := (o4.block_lt k hk).1
        have := HG.out.1
        omega
    clear hneg cg o4 g4 a4 hv4n
    subst hv4
    go_wp2
    go_ret
    exact ⟨0, rfl, fun _ => HF.out, fun h => absurd rfl h⟩

theorem M.opc_16 {s : List UInt8} (h : M.oOk s) {i : Nat} (hi : i < M.onp s) : 16 ≤ (M.opc s i).length := by
  obtain ⟨h1, h2, h3, h4, h5⟩ := h
  unfold M.opc
  rw [M.pc_len, List.length_drop]
  by_cases e : i + 1 = M.onp s
  · have : M.onp s - 1 = i := by omega
    rw [this] at h5
    omega
  · have h6 : (i + 1) * (M.osz s + 16) ≤ (M.onp s - 1) * (M.osz s + 16) := Nat.mul_le_mul_right _ (by omega)
    rw [Nat.succ_mul] at h6
    omega

theorem take7 (s : List UInt8) : ((s.take 12).drop 1).take 7 = (s.drop 1).take 7 := by
  rw [List.drop_take, List.take_take]
  congr 1

theorem onp_few {s : List UInt8} (hs : s.length ≤ 290000) : M.onp s ≤ 300000 := by
  have h := M.np_le (s.length - 12) (M.osz s + 16) (by omega)
  unfold M.onp
  omega

/-- How Open ends. -/
def OpenEnds (w : World) (L : M.Bk) (key ctx s : List UInt8) (e : Ending) (w' : World) : Prop :=
  Below w.heap.size w w' ∧ ((M.oOk s ∧ ∃ r z, M.orun L key ctx s (M.onp s) = some z ∧ e = .returned (.tuple #[r, .int .i64 0]) ∧ Own w' w.heap.size r z) ∨
    (M.oOk s ∧ M.orun L key ctx s (M.onp s) = none ∧ e = .returned (.tuple #[.slice none 0 0, .int .i64 7])) ∨ (¬ M.oOk s ∧ e = .returned (.tuple #[.slice none 0 0, .int .i64 8])))

set_option maxHeartbeats 16000000 in
theorem sopen_any {T0 : Nat → Prop} {w : World} {gb m1 m2 : Nat} {L : M.Bk} (hb : BkIs T0 w gb m1 m2 L) (kv xv sv : Value) (key ctx s : List UInt8)
    (hk : IsB w kv key) (hx : IsB w xv ctx) (hs : IsB w sv s) (hxn : ∀ n c, xv = .slice none n c → c = 0) (hk32 : key.length = 32) (hcl : ctx.length ≤ 16777216) (hsl : s.length ≤ 290000) (hbt : ∀ sl t, M.bget L sl = some t → t.length ≤ 65536) :
    Calls Tryd.prog 20 #[.iface 72 (.pointer (some ⟨gb, 0, none⟩)), kv, xv, sv] w (OpenEnds w L key ctx s) := by
  obtain ⟨WA, hWA⟩ : ∃ x, x = w.alloc (.cells #[.iface 72 (.pointer (some ⟨gb, 0, none⟩))] 38) := ⟨_, rfl⟩
  obtain ⟨W1, hW1⟩ : ∃ x, x = WA.alloc (.cells #[kv] 24) := ⟨_, rfl⟩
  have kA : Below w.heap.size w WA := by rw [hWA]; exact (Below.refl _ _).alloc (Nat.le_refl _) _
  have k1 : Below WA.heap.size WA W1 := by rw [hW1]; exact (Below.refl _ _).alloc (Nat.le_refl _) _
  have zA : WA.heap.size = w.heap.size + 1 := by rw [hWA]; simp
  have z1 : W1.heap.size = w.heap.size + 1 + 1 := by rw [hW1]; simp [zA]
  have BC : Hid (Blk W1 w.heap.size 38 [.iface 72 (.pointer (some ⟨gb, 0, none⟩))]) := by
    have : Blk WA w.heap.size 38 [.iface 72 (.pointer (some ⟨gb, 0, none⟩))] := by rw [hWA]; exact Blk.newAt _ _ _ _ _ rfl rfl
    exact this.below k1 this.lt
  have BK : Hid (Blk W1 (w.heap.size + 1) 24 [kv]) := by rw [Hid, hW1]; exact Blk.newAt _ _ _ _ _ zA.symm rfl
  have k01 : Below w.heap.size w W1 := kA.trans (k1.mono (by omega))
  have E1 : Hid (W1 = (w.alloc (.cells #[.iface 72 (.pointer (some ⟨gb, 0, none⟩))] 38)).alloc (.cells #[kv] 24)) := by rw [Hid, hW1, hWA]
  have Z1 := Lib.hid z1
  have K01 := Lib.hid k01
  have HBK := Lib.hid hb
  have HK := Lib.hid hk
  have HX := Lib.hid hx
  have HXN := Lib.hid hxn
  have HBT := Lib.hid hbt
  have HLEN : Hid (key.length = 32 ∧ ctx.length ≤ 16777216 ∧ s.length ≤ 290000) := ⟨hk32, hcl, hsl⟩
  have CP := Lib.hid (parts_any sv s W1 (hs.below k01) (by omega))
  obtain ⟨sa, sc, rfl⟩ := hs.shape
  obtain ⟨ka, kc, rfl⟩ := hk.shape
  obtain ⟨xa, xc, rfl⟩ := hx.shape
  obtain ⟨xn, hxm⟩ : ∃ n, n = ctx.length := ⟨_, rfl⟩
  rw [← hxm] at HX HXN ⊢
  obtain ⟨sn, hsn⟩ : ∃ n, n = s.length := ⟨_, rfl⟩
  rw [← hsn] at CP ⊢
  have ck : W1.cell? ⟨w.heap.size + 1, 0, none⟩ = some (.slice ka key.length kc) := BK.out.cell 0
  rw [hk32] at ck BK HK E1 ⊢
  clear hWA hW1 kA k1 zA z1 k01 hb hk hx hs hxn hk32 hcl hsl hbt hxm hsn
  go_enter Tryd.func20, Tryd.ntmps20
  go_upto_region 1 with fail
  rw [← E1.out]
  go_upto_region 3 with fail
  go_wp2_with fail
  refine CP.out.mono ?_
  rintro e w2 ⟨a, b, r, rfl, hr, hab, k2⟩
  have K12 := Lib.hid k2
  have K2 := Lib.hid (K01.out.trans (k2.mono K01.out.size))
  have HR := Lib.hid hr
  clear k2 CP ck
  cases r with
  | false =>
    have HNO : Hid (¬ M.oOk s) := fun h => by have := HR.out.2 h; cases this
    clear hab hr
    go_wp2
    go_ret2
    exact ⟨K2.out, .inr (.inr ⟨HNO.out, rfl⟩)⟩
  | true =>
    obtain ⟨ha, hbx⟩ := hab rfl
    have HOK : Hid (M.oOk s) := HR.out.1 rfl
    have h12 : 12 ≤ s.length := HOK.out.1
    have hl12 : (s.take 12).length = 12 := by rw [List.length_take]; omega
    obtain ⟨hb_, ho_, hc_, rfl⟩ := ha.some_ (by intro e; rw [e] at hl12; cases hl12)
    rw [hl12] at ha ⊢
    obtain ⟨ba, bc, rfl⟩ := hbx.shape
    obtain ⟨m, hm⟩ : ∃ m, m = (s.drop 12).length := ⟨_, rfl⟩
    rw [← hm] at hbx ⊢
    have HM : Hid (m = s.length - 12 ∧ 12 ≤ s.length) := ⟨by rw [hm, List.length_drop], h12⟩
    have HH := Lib.hid ha
    have HB := Lib.hid hbx
    have H12 := Lib.hid hl12
    have R := Lib.hid (rowsN_two (t := 84) (fr := (0, 0)) HH.out (HX.out.below K2.out) (fun n c e => by cases e) HXN.out)
    have k3 : Below w.heap.size w (w2.alloc (.cells #[.slice (some ⟨hb_, ho_, none⟩) 12 hc_, .slice xa xn xc] 84)) := K2.out.alloc K2.out.size _
    have HCC := Lib.hid (concatH_any _ _ _ R.out (by have h1 := H12.out; have h2 := HLEN.out; simp; omega))
    rw [show [s.take 12, ctx].flatten = s.take 12 ++ ctx by simp] at HCC
    have K3 := Lib.hid k3
    clear R k3 hl12 h12 hm ha hbx hab hr
    go_upto_region 6 with fail
    go_wp2_with fail
    refine HCC.out.mono ?_
    rintro e w3 ⟨dv, rfl, o3, k3⟩
    obtain ⟨da, dc, rfl⟩ := o3.shape'
    obtain ⟨dn, hdn⟩ : ∃ n, n = (s.take 12 ++ ctx).length := ⟨_, rfl⟩
    have O3 := Lib.hid o3
    rw [← hdn] at O3 ⊢
    have K23 : Hid (Below w2.heap.size w2 w3) := ((Below.refl _ w2).alloc (Nat.le_refl _) _).trans (k3.mono (by simp))
    clear o3 k3 HCC hdn
    obtain ⟨W4, hW4⟩ : ∃ W, W = w3.alloc (.cells #[.slice da dn dc] 84) := ⟨_, rfl⟩
    have BD : Hid (Blk W4 w3.heap.size 84 [.slice da dn dc]) := by rw [Hid, hW4]; exact Blk.newAt _ _ _ _ _ rfl rfl
    have k34 : Below w3.heap.size w3 W4 := by rw [hW4]; exact (Below.refl _ _).alloc (Nat.le_refl _) _
    have z4 : W4.heap.size = w3.heap.size + 1 := by rw [hW4]; simp
    obtain ⟨W5, hW5⟩ : ∃ W, W = W4.alloc (.cells #[.slice none 0 0] 24) := ⟨_, rfl⟩
    have BS : Hid (Blk W5 W4.heap.size 24 [.slice none 0 0]) := by rw [Hid, hW5]; exact Blk.newAt _ _ _ _ _ rfl rfl
    have k45 : Below W4.heap.size W4 W5 := by rw [hW5]; exact (Below.refl _ _).alloc (Nat.le_refl _) _
    have z5 : W5.heap.size = W4.heap.size + 1 := by rw [hW5]; simp
    have K04 : Hid (Below w.heap.size w W4) := (K2.out.trans (K23.out.mono K2.out.size)).trans (k34.mono (Nat.le_trans K2.out.size K23.out.size))
    have E4 := Lib.hid hW4
    have E5 := Lib.hid hW5
    go_upto_region 8 with fail
    rw [← E4.out, ← E5.out]
    have hgb : M.gb ((s.take 12).drop 8) 4 = M.osz s := by
      apply M.gb_congr
      intro j hj
      rw [List.getD_eq_getElem?_getD, List.getD_eq_getElem?_getD, List.getElem?_drop, List.getElem?_drop, List.getElem?_take_of_lt (by omega)]
    have hz1 := Z1.out
    have hz12 := K12.out.size
    have hz23 := K23.out.size
    have k25 : Below w2.heap.size w2 W5 := K23.out.trans ((k34.trans (k45.mono (by omega))).mono K23.out.size)
    have k35 : Below w3.heap.size w3 W5 := k34.trans (k45.mono (by omega))
    have k15 : Below W1.heap.size W1 W5 := K12.out.trans (k25.mono K12.out.size)
    have k05 : Below w.heap.size w W5 := K04.out.trans (k45.mono K04.out.size)
    have HZ := Lib.hid (hsize_same (.slice (some ⟨hb_, ho_, none⟩) 12 hc_) (s.take 12) W5 (HH.out.below k25) H12.out)
    rw [hgb] at HZ
    obtain ⟨z, hz⟩ : ∃ z, z = M.osz s := ⟨_, rfl⟩
    rw [← hz] at HZ
    have hok := HOK.out
    have hzr : 1 ≤ z ∧ z ≤ 65536 := by rw [hz]; exact ⟨hok.2.2.1, hok.2.2.2.1⟩
    obtain ⟨bl, hbl⟩ : ∃ b, b = z + 16 := ⟨_, rfl⟩
    have q2 : (z : Int) + 16 = (bl : Int) := by omega
    have q2a : wrap64 (bl : Int) = (bl : Int) := by unfold wrap64; omega
    have hup := HBK.out.up
    have hHl := HH.out
    obtain ⟨k, hk⟩ : ∃ k, k = M.onp s := ⟨_, rfl⟩
    have hkm : k = M.np (s.drop 12).length bl := by rw [hk, M.onp, hbl, hz, List.length_drop]
    have hmm := HM.out
    have hle := HLEN.out
    have hk4 : k ≤ 300000 := by rw [hk]; exact onp_few HLEN.out.2.2
    have hb1 : 1 ≤ bl ∧ bl ≤ 70000 := by rw [hbl]; exact ⟨Nat.le_add_left _ _, Nat.le_trans (Nat.add_le_add_right hzr.2 16) (by decide)⟩
    have hi4 : ∀ i, i < k → 16 ≤ (M.opc s i).length := fun i hi => M.opc_16 hok (by rw [← hk]; exact hi)
    have hpe : ∀ i, M.pc (s.drop 12) bl i = M.opc s i := fun i => by rw [M.opc, hbl, hz]
    have hdl : (s.drop 12).length ≤ 4294967000 := by rw [List.length_drop]; exact Nat.le_trans (Nat.sub_le _ _) (Nat.le_trans HLEN.out.2.2 (by decide))
    have Q2 := Lib.hid (And.intro q2 q2a)
    have HKM := Lib.hid hkm
    have HKK := Lib.hid hk
    clear q2 q2a hkm hk hok hz hbl
    -- the head lies in what was handed in, or is new; the box of what is opened is new
    have HF : Hid (∀ W, Chg (fun b => b = W4.heap.size) W5 W → Below w.heap.size w W ∧ IsB W (.slice (some ⟨hb_, ho_, none⟩) 12 hc_) (s.take 12) ∧ IsB W (.slice da dn dc) (s.take 12 ++ ctx) ∧ IsB W (.slice ka 32 kc) key ∧ IsB W (.slice ba m bc) (s.drop 12)) := by
      intro W hc
      have hb5 : Below W4.heap.size W4 W := k45.trans (hc.below (by omega) (fun j hj => by omega))
      have kw : Below w.heap.size w W := K04.out.trans (hb5.mono K04.out.size)
      have k2W : Below w2.heap.size w2 W := (K23.out.trans (k34.mono K23.out.size)).trans (hb5.mono (by omega))
      have k3W : Below w3.heap.size w3 W := k34.trans (hb5.mono (by omega))
      exact ⟨kw, HH.out.below k2W, O3.out.isB.below k3W, HK.out.below kw, HB.out.below k2W⟩
    have HI0 : Hid (OInv W5 W4.heap.size L key ctx s 0 W5) := ⟨Chg.refl _ _, .slice none 0 0, [], rfl, by simp, BS.out, World.ownsRow_nil _ _ _ _⟩
    have HE := Lib.hid (eachO_any (.pointer (some ⟨w.heap.size, 0, none⟩)) (.pointer (some ⟨w.heap.size + 1, 0, none⟩)) (.pointer (some ⟨w3.heap.size, 0, none⟩)) (.pointer (some ⟨W4.heap.size, 0, none⟩)) (.slice ba m bc) (.slice (some ⟨hb_, ho_, none⟩) 12 hc_) (s.drop 12) (s.take 12) bl k
      (OInv W5 W4.heap.size L key ctx s) (fun _ W => M.orun L key ctx s k = none ∧ Chg (fun b => b = W4.heap.size) W5 W) W5 HKM.out hb1.1 (by omega) hdl H12.out
      (fun i W h => ⟨(HF.out W h.chg).2.2.2.2, (HF.out W h.chg).2.1⟩) (fun i W W' h k => h.below k) HI0.out (by
        rw [take7]
        intro i hi W nv pv h hn hp
        rw [hpe i] at hp
        exact openOne_any T0 W5 gb m1 m2 W4.heap.size w.heap.size (w.heap.size + 1) w3.heap.size L key ctx s i k (.slice ka 32 kc) (.slice da dn dc) (by omega)
          (fun W hc => (HBK.out.below (HF.out W hc).1)) (BC.out.below k15 (by omega)) (BK.out.below k15 (by omega)) (BD.out.below k45 (by omega)) (by omega) (by omega) (by omega)
          (fun W hc => (HF.out W hc).2.2.2.1) (fun W hc => (HF.out W hc).2.2.1) hle.1 hmm.2 hle.2.1 (by omega) hi hk4 HKK.out HBT.out (hi4 i hi) W nv pv h hn hp))
    rw [z4] at HE
    have HK5 := Lib.hid k05
    have Z4 := Lib.hid z4
    have HNUM : Hid (W5.heap.size = W4.heap.size + 1 ∧ w.heap.size ≤ W4.heap.size) := ⟨z5, K04.out.size⟩
    clear hW4 hW5 k34 z4 k45 z5 hgb hz1 hz12 hz23 k25 k35 k15 k05 hzr hup hHl hmm hle hk4 hb1 hi4 hpe hdl
    have HKEEP5 : Hid (∀ W, Below W5.heap.size W5 W → OInv W5 W4.heap.size L key ctx s 0 W) := fun W k => HI0.out.below k
    go_wp2_with fail
    refine HZ.out.mono ?_
    rintro e w6 ⟨rfl, hq6⟩
    rw [hq6]
    clear hq6 w6
    obtain ⟨q2, q2a⟩ := Q2.out
    go_wp2_with fail
    refine HE.out.mono ?_
    rintro e w8 ⟨code, rfl, hi, hf⟩
    clear q2 q2a HE
    by_cases hz : code = 0
    · subst hz
      obtain ⟨hc, lv, t, h1, h2, h3, h4⟩ := hi rfl
      have d0 : w8.cell? ⟨w3.heap.size + 1, 0, none⟩ = some lv := h3.cell 0
      rw [← Z4.out] at hc
      have R1 : Hid (OpenEnds w L key ctx s (.returned (.tuple #[lv, .int .i64 0])) w8) := by
        refine ⟨(HF.out w8 hc).1, .inl ⟨HOK.out, lv, t, by rw [← HKK.out]; exact h1, rfl, h4.mono HK5.out.size⟩⟩
      clear hi hf hc h1 h2 h3 h4 HF HI0
      go_wp2
      go_ret2
      exact R1.out
    · obtain ⟨h1, hc⟩ := hf hz
      rw [← Z4.out] at hc
      have q0 : ((code : Int) == 0) = false := beq_false_of_ne (by clear hc; omega)
      have R1 : Hid (OpenEnds w L key ctx s (.returned (.tuple #[.slice none 0 0, .int .i64 7])) w8) :=
        ⟨(HF.out w8 hc).1, .inr (.inl ⟨HOK.out, by rw [← HKK.out]; exact h1, rfl⟩)⟩
      clear hi hf hc h1 hz HF HI0
      go_wp2
      go_ret2
      exact R1.out

end Go.Proofs.YtdojalhaklkegaaDoor
