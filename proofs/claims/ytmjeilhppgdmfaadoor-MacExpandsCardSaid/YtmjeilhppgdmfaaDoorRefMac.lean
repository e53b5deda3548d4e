/-
  CONTRACTS OF orlopref03.Mac AND Extract: the document's own code. Conditions: none but that what is nil has no spare room.
-/
import Derived.Test.YtmjeilhppgdmfaaDoorMacMac
import Derived.Test.YtmjeilhppgdmfaaDoorRefSha
import Derived.Maps.AppendAt
namespace Go.Proofs.YtmjeilhppgdmfaaDoor
open Go.RowKit
set_option linter.unusedVariables false

/-- As wpList_app2; and where the new row lies. -/
theorem wpList_app3 (w : World) {ops : Array Oper} {rest : List Oper} {o : Oper} {a : Act} {Q : Exit → Act → World → Prop} (hg : o.guard = none) (s x : Operand)
    (ho : o.op = .call { callee := .builtin .append, args := #[s, x], argTypes := #[22, 22] })
    (B : Nat) (v : Value) (bs : List UInt8) (hs : a.eval s = v) (hown : Own w B v bs) (sv : Value) (ys : List UInt8) (hx : a.eval x = sv) (hi : IsB w sv ys) (hnil : ∀ n c, sv = .slice none n c → c = 0)
    (hlen : bs.length + ys.length ≤ 140737488355328) (hB : B ≤ w.heap.size)
    (h : ∀ v' w', Own w' B v' (bs ++ ys) → w.grownBy w' v.ownBlock → (v'.ownBlock = v.ownBlock ∨ v'.ownBlock = some w.heap.size) → wpList Tryd.prog ops Q rest (a.put o.dst v') w') : wpList Tryd.prog ops Q (o :: rest) a w := by
  obtain ⟨i0, h0, hz0, hz1, hz2⟩ := info_parts Tryd.info5
  obtain ⟨ao, cap, rfl⟩ : ∃ ao cap, sv = .slice ao ys.length cap := by
    obtain ⟨ao, cap, e, _⟩ := hi
    exact ⟨ao, cap, e⟩
  obtain ⟨_, hn, hc⟩ := hi.cells
  cases ao with
  | none =>
    obtain rfl := hn rfl
    obtain rfl := hnil _ _ rfl
    exact wpList_append_own_none hg s x _ ho B 5 i0 1 Tryd.underlying22 h0 v bs.length _ hs hown.row hx (h _ _ (by rw [List.append_nil]; exact hown) (World.grownBy.refl _ _) (.inl rfl))
  | some ad =>
    refine wpList_append_own_at w hg s x _ ho B 5 i0 (.int .u8 0) 1 1 Tryd.underlying22 h0 hz0 hz1 hz2 rfl (by decide) v bs.length _ hs hown.row ad ys.length cap (Lib.byteCells ys) hx (by rw [byteCells_length, Nat.mul_one]) (hc ad rfl) (byteCells_oneCell _) (by unfold maxLen; omega) (by omega) hB ?_
    intro v' w' hown' hgrow hz hat
    refine h v' w' ?_ hgrow hat
    rw [Own, List.length_append, byteCells_append]
    exact hown'

theorem Own.kept {w w' : World} {B : Nat} {v : Value} {bs : List UInt8} {row : Option Nat} (h : Own w B v bs) (g : w.grownBy w' row) (hne : ∀ k, v.ownBlock = some k → row ≠ some k) : Own w' B v bs := by
  refine h.row.kept g ?_
  cases hv : v.ownBlock with
  | none => exact .inl rfl
  | some k => exact .inr fun e => hne k hv e.symm

/-- Two rows of the call's own don't lie in one block. -/
def Apart (x y : Value) : Prop := ∀ k, x.ownBlock = some k → y.ownBlock ≠ some k

theorem Apart.symm {x y : Value} (h : Apart x y) : Apart y x := fun k e1 e2 => h k e2 e1

theorem Apart.next {w : World} {B : Nat} {x x' y : Value} {bs : List UInt8} (h : Apart x y) (hy : Own w B y bs) (n : Nat) (hn : w.heap.size ≤ n) (hat : x'.ownBlock = x.ownBlock ∨ x'.ownBlock = some n) : Apart x' y := by
  intro k e1 e2
  rcases hat with hat | hat
  · exact h k (hat ▸ e1) e2
  · rw [hat] at e1
    injection e1 with e1
    have := (hy.block_lt k e2).2
    omega

theorem mask_next (c : UInt8) (b : List UInt8) (k : Nat) (h : k < b.length) : M.mask c (b.take (k + 1)) = M.mask c (b.take k) ++ [b.getD k 0 ^^^ c] := by
  rw [List.take_succ_eq_append_getElem h, show b.getD k 0 = b[k] by simp [h]]
  exact List.map_append

set_option maxHeartbeats 1000000 in
theorem rmac_any (kv mv : Value) (key m : List UInt8) (w : World) (hk : IsB w kv key) (hkn : ∀ n c, kv = .slice none n c → c = 0) (hm : IsB w mv m) (hmn : ∀ n c, mv = .slice none n c → c = 0) (hlen : key.length ≤ 549755813888) (hlen2 : m.length ≤ 549755813888) :
    Calls Tryd.prog 10 #[kv, mv] w (Makes w (M.mac key m)) := by
  obtain ⟨aok, capk, rfl⟩ := hk.shape
  obtain ⟨aom, capm, rfl⟩ := hm.shape
  obtain ⟨H, hH⟩ : ∃ H, H = M.keyHead key := ⟨_, rfl⟩
  have HH : Hid (H = M.keyHead key) := hH
  have hHl : H.length ≤ 64 := by rw [hH]; exact M.keyHead_le key
  have HK := Lib.hid hk
  have HKN := Lib.hid hkn
  have HM := Lib.hid hm
  have HMN := Lib.hid hmn
  clear hH hk hkn hm hmn
  by_cases h64 : 64 < key.length
  have h64' : (64 : Int) < (key.length : Int) := by omega
  go_enter Tryd.func10, Tryd.ntmps10
  go_wp2_with (at_builtin; go_must (refine wpList_app _ rfl _ _ rfl w.heap.size _ [] rfl ?c1 _ key rfl ?c2 HKN.out (by simp; omega) (by simp) ?_))
  case c1 => exact own_empty w
  case c2 => exact HK.out.below ((Below.refl _ _).alloc (Nat.le_refl _) _)
  intro r1 w1 o1 b1 _
  have k1 : Below w.heap.size w w1 := ((Below.refl _ _).alloc (Nat.le_refl _) (.cells #[] 5)).trans b1
  clear o1 b1
  go_wp2_with fail
  refine (rof_any _ key w1 (HK.out.below k1) HKN.out (by omega)).mono ?_
  rintro e w2 ⟨r2, rfl, o2, k12⟩
  have k2 : Below w.heap.size w w2 := k1.trans (k12.mono k1.size)
  have O2 : Hid (Own w2 w.heap.size r2 (H ++ List.replicate 0 0)) := by
    rw [Hid, HH.out, M.keyHead, if_pos h64]
    simpa using o2.mono k1.size
  clear o2 k12 k1
  rotate_left
  have h64' : ¬ (64 : Int) < (key.length : Int) := by omega
  go_enter Tryd.func10, Tryd.ntmps10
  go_wp2_with (at_builtin; go_must (refine wpList_app _ rfl _ _ rfl w.heap.size _ [] rfl ?d1 _ key rfl ?d2 HKN.out (by simp; omega) (by simp) ?_))
  case d1 => exact own_empty w
  case d2 => exact HK.out.below ((Below.refl _ _).alloc (Nat.le_refl _) _)
  intro r2 w2 o2 b1 _
  have k2 : Below w.heap.size w w2 := ((Below.refl _ _).alloc (Nat.le_refl _) (.cells #[] 5)).trans b1
  have O2 : Hid (Own w2 w.heap.size r2 (H ++ List.replicate 0 0)) := by
    rw [Hid, HH.out, M.keyHead, if_neg h64]
    simpa using o2
  clear o2 b1
  all_goals
    go_wp2
    go_loopw [5] (fun x wr => ∃ k : Nat, H.length + k ≤ 64 ∧ Hid (Own wr w.heap.size x (H ++ List.replicate k 0)) ∧ Below w.heap.size w wr)
      (fun x _ => 64 - lenOf x)
    case atStart => exact ⟨0, by omega, O2, k2⟩
    case round =>
      clear O2 k2
      rename_i wr
      obtain ⟨k, hk, oo, kk⟩ := hrel
      obtain ⟨ao1, c1, rfl⟩ := oo.out.shape'
      obtain ⟨X, hX⟩ : ∃ X, X = H ++ List.replicate k 0 := ⟨_, rfl⟩
      obtain ⟨L, hL⟩ : ∃ L, L = X.length := ⟨_, rfl⟩
      have hL2 : L = H.length + k := by rw [hL, hX]; simp
      rw [← hX] at oo ⊢
      rw [← hL] at oo ⊢
      have HLL := Lib.hid hL
      have HXX := Lib.hid hX
      clear hL hX
      by_cases hlt : L < 64
      · have hlt' : (L : Int) < 64 := by omega
        have HL2 := Lib.hid hL2
        clear hL2
        go_wp2_with (at_builtin; go_must (refine wpList_app _ rfl _ _ rfl w.heap.size _ X rfl ?e1 _ [0] rfl ?e2 (fun _ _ e => by cases e) (by rw [← HLL.out]; simp; omega) (by have := kk.size; simp; omega) ?_))
        case e1 => exact oo.out.below ((Below.refl _ _).alloc (Nat.le_refl _) _)
        case e2 => exact isB_one _ _ 0 _ rfl
        intro r3 w3 o3 b3 _
        have O3 : Hid (Own w3 w.heap.size r3 (H ++ List.replicate (k + 1) 0)) := by
          rw [Hid, List.replicate_succ', ← List.append_assoc, ← HXX.out]
          exact o3
        have k3 : Below w.heap.size w w3 := (kk.alloc kk.size (.cells #[.int .u8 0] 5)).trans b3
        have HX : Hid (lenOf r3 = L + 1) := by
          obtain ⟨a6, c6, rfl⟩ := o3.shape'
          rw [HLL.out]
          exact List.length_append
        clear o3 b3
        go_wp2
        go_roundw
        case rel => exact ⟨k + 1, by have := HL2.out; omega, O3, k3⟩
        case measure =>
          have e1 := HX.out
          show _ - lenOf r3 < _ - lenOf (.slice ao1 L c1)
          rw [e1]
          show 64 - (L + 1) < 64 - L
          omega
      · obtain rfl : L = 64 := by omega
        have HB : Hid (X = M.block key) := by
          rw [Hid, HXX.out, M.block, ← HH.out]
          congr 2
          omega
        have HBL : Hid (X.length = 64) := HLL.out.symm
        obtain ⟨gb, cb, e, hgb⟩ := oo.out.address (fun e => by injection e; omega)
        injection e with e1 e2 e3
        subst e1
        obtain ⟨wA, rfl⟩ : ∃ x, x = wr := ⟨_, rfl⟩
        have hcells : ∀ j, j < 64 → wA.cell? ⟨gb, j, none⟩ = some (.int .u8 ((X.getD j 0).toNat : Int)) := fun j hj => by
          have o' : Own wA w.heap.size (.slice (some ⟨gb, 0, none⟩) X.length c1) X := by
            rw [← HLL.out]
            exact oo.out
          have := o'.cells j _ (byteCells_getElem? X j (by rw [← HLL.out]; exact hj))
          rwa [Addr.add_lit, Nat.zero_add] at this
        have HCELL := Lib.hid hcells
        clear hcells hL2 hlt hk oo e2 e3 HLL
        go_wp2
        go_loopw [6, 7, 8] (fun x y i wz => ∃ q : Nat, q ≤ 64 ∧ i = .int .i64 q ∧ Hid (Own wz wA.heap.size x (M.mask 54 (X.take q))) ∧ Hid (Own wz wA.heap.size y (M.mask 92 (X.take q))) ∧ Hid (Apart x y) ∧ Below wA.heap.size wA wz)
          (fun _ _ i _ => 64 - (intOf i).toNat)
        case atStart => exact ⟨0, by omega, rfl, World.ownsRow_nil _ _ _ _, World.ownsRow_nil _ _ _ _, fun _ e => by simp [Value.ownBlock] at e, Below.refl _ _⟩
        case round =>
          obtain ⟨wz, rfl⟩ : ∃ x, x = wr := ⟨_, rfl⟩
          obtain ⟨q, hq, rfl, ox, oy, ap, kz⟩ := hrel
          obtain ⟨vx, rfl⟩ : ∃ z, z = u6 := ⟨_, rfl⟩
          obtain ⟨vy, rfl⟩ : ∃ z, z = u7 := ⟨_, rfl⟩
          by_cases hlt2 : q < 64
          · obtain ⟨x, hx⟩ : ∃ x, x = X.getD q 0 := ⟨_, rfl⟩
            have c0 := HCELL.out q hlt2
            rw [← hx] at c0
            have hgbl : gb < wA.heap.size := by exact World.block_lt_of_cell? wA _ c0
            have cz : wz.cell? ⟨gb, q, none⟩ = some (.int .u8 (x.toNat : Int)) := by rw [kz.cell (by exact hgbl), c0]
            obtain ⟨xs, hxs⟩ : ∃ xs, xs = M.mask 54 (X.take q) := ⟨_, rfl⟩
            obtain ⟨ys, hys⟩ : ∃ ys, ys = M.mask 92 (X.take q) := ⟨_, rfl⟩
            have hxl : xs.length ≤ 64 := by rw [hxs, M.mask_length, List.length_take]; omega
            have hyl : ys.length ≤ 64 := by rw [hys, M.mask_length, List.length_take]; omega
            have HX1 : Hid (M.mask 54 (X.take (q + 1)) = xs ++ [x ^^^ 54]) := by rw [Hid, hxs, hx]; exact mask_next 54 X q (by rw [HBL.out]; exact hlt2)
            have HY1 : Hid (M.mask 92 (X.take (q + 1)) = ys ++ [x ^^^ 92]) := by rw [Hid, hys, hx]; exact mask_next 92 X q (by rw [HBL.out]; exact hlt2)
            rw [← hxs] at ox
            rw [← hys] at oy
            have hsz : wA.heap.size ≤ wz.heap.size := kz.size
            have C0 := Lib.hid c0
            clear hx c0 hxs hys
            go_wp2_with (at_builtin; go_must (refine wpList_app3 _ rfl _ _ rfl wA.heap.size _ xs rfl ?f1 _ [x ^^^ 54] rfl ?f2 (fun _ _ e => by cases e) (by simp; omega) (by simp; omega) ?_))
            case f1 => exact ox.out.below ((Below.refl _ _).alloc (Nat.le_refl _) _)
            case f2 => exact isB_one _ _ (x ^^^ 54) _ (b_xor x 54)
            intro r5 w5 o5 g5 hat5
            have b15 : Below wz.heap.size wz (wz.alloc (.cells #[.int .u8 (bits BinOp.xor .u8 (x.toNat : Int) 54)] 5)) := (Below.refl _ _).alloc (Nat.le_refl _) _
            have k5 : Below wA.heap.size wA w5 := (kz.alloc hsz _).grown g5 (by simp; omega) fun k hk => (ox.out.block_lt k hk).1
            have oy5 : Own w5 wA.heap.size vy ys := (oy.out.below b15).kept g5 fun k e1 e2 => ap.out k e2 e1
            have ap5 : Apart r5 vy := ap.out.next oy.out _ (by simp) hat5
            have c5 : w5.cell? ⟨gb, q, none⟩ = some (.int .u8 (x.toNat : Int)) := by rw [k5.cell (by exact hgbl)]; exact C0.out
            have O5 := Lib.hid o5
            have OY5 := Lib.hid oy5
            have AP5 := Lib.hid ap5
            have hs5 : wA.heap.size ≤ w5.heap.size := k5.size
            clear o5 oy5 ap5 g5 hat5 b15 ox oy ap
            go_wp2_with (at_builtin; go_must (refine wpList_app3 _ rfl _ _ rfl wA.heap.size _ ys rfl ?g1 _ [x ^^^ 92] rfl ?g2 (fun _ _ e => by cases e) (by simp; omega) (by simp; omega) ?_))
            case g1 => exact OY5.out.below ((Below.refl _ _).alloc (Nat.le_refl _) _)
            case g2 => exact isB_one _ _ (x ^^^ 92) _ (b_xor x 92)
            intro r6 w6 o6 g6 hat6
            have b56 : Below w5.heap.size w5 (w5.alloc (.cells #[.int .u8 (bits BinOp.xor .u8 (x.toNat : Int) 92)] 5)) := (Below.refl _ _).alloc (Nat.le_refl _) _
            have k6 : Below wA.heap.size wA w6 := (k5.alloc hs5 _).grown g6 (by simp; omega) fun k hk => (OY5.out.block_lt k hk).1
            have O6 : Hid (Own w6 wA.heap.size r5 (M.mask 54 (X.take (q + 1)))) := by
              rw [HX1.out]
              exact (O5.out.below b56).kept g6 fun k e1 e2 => AP5.out k e1 e2
            have OY6 : Hid (Own w6 wA.heap.size r6 (M.mask 92 (X.take (q + 1)))) := by
              rw [HY1.out]
              exact o6
            have AP6 : Hid (Apart r5 r6) := (AP5.out.symm.next O5.out _ (by simp) hat6).symm
            clear o6 g6 hat6 b56 O5 OY5 AP5
            go_wp2
            go_roundw
            case rel => exact ⟨q + 1, by omega, by go_num, O6, OY6, AP6, k6⟩
            case measure => simp [intOf]; omega
          · obtain rfl : q = 64 := by omega
            have ox1 : Own wz wA.heap.size vx (M.mask 54 X) := by
              have := ox.out
              rwa [List.take_of_length_le (by rw [HBL.out]; exact Nat.le_refl _)] at this
            have oy1 : Own wz wA.heap.size vy (M.mask 92 X) := by
              have := oy.out
              rwa [List.take_of_length_le (by rw [HBL.out]; exact Nat.le_refl _)] at this
            obtain ⟨xs, hxs⟩ : ∃ xs, xs = M.mask 54 X := ⟨_, rfl⟩
            obtain ⟨ys, hys⟩ : ∃ ys, ys = M.mask 92 X := ⟨_, rfl⟩
            have hxl : xs.length = 64 := by rw [hxs, M.mask_length]; exact HBL.out
            have hyl : ys.length = 64 := by rw [hys, M.mask_length]; exact HBL.out
            have HMAC : Hid (M.sha (ys ++ M.sha (xs ++ m)) = M.mac key m) := by rw [Hid, hxs, hys, HB.out]; rfl
            rw [← hxs] at ox1
            rw [← hys] at oy1
            have OX := Lib.hid ox1
            have OY := Lib.hid oy1
            have HXL := Lib.hid hxl
            have HYL := Lib.hid hyl
            have kwz : Below w.heap.size w wz := kk.trans (kz.mono kk.size)
            have hsz : wA.heap.size ≤ wz.heap.size := kz.size
            have hsA : w.heap.size ≤ wA.heap.size := kk.size
            clear ox1 oy1 hxs hys hxl hyl ox oy kk
            go_wp2_with (at_builtin; go_must (refine wpList_app3 _ rfl _ _ rfl wA.heap.size _ xs rfl OX.out _ m rfl (HM.out.below kwz) HMN.out (by rw [HXL.out]; omega) hsz ?_))
            intro r5 w5 o5 g5 _
            have k5 : Below wA.heap.size wz w5 := (Below.refl _ _).grown g5 hsz fun k hk => (OX.out.block_lt k hk).1
            have OY5 : Hid (Own w5 wA.heap.size vy ys) := OY.out.kept g5 fun k e1 e2 => ap.out k e2 e1
            have O5 := Lib.hid o5
            have kw5 : Below w.heap.size w w5 := kwz.trans (k5.mono hsA)
            clear g5 o5 OX OY ap
            go_wp2_with fail
            refine (rof_any _ (xs ++ m) w5 O5.out.isB O5.out.nil0 (by rw [List.length_append, HXL.out]; omega)).mono ?_
            rintro e w6 ⟨r6, rfl, o6, k6⟩
            have OY6 : Hid (Own w6 wA.heap.size vy ys) := OY5.out.below k6
            have O6 := Lib.hid o6
            have kw6 : Below w.heap.size w w6 := kw5.trans (k6.mono kw5.size)
            have hs6 : wA.heap.size ≤ w6.heap.size := Nat.le_trans (Nat.le_trans hsz k5.size) k6.size
            clear o6 k6 OY5 O5 kw5 k5
            go_wp2_with (at_builtin; go_must (refine wpList_app _ rfl _ _ rfl wA.heap.size _ ys rfl OY6.out _ _ rfl O6.out.isB O6.out.nil0 (by rw [HYL.out, M.sha_length]; decide) hs6 ?_))
            intro r7 w7 o7 k7 _
            have O7 := Lib.hid o7
            have kw7 : Below w.heap.size w w7 := kw6.trans (k7.mono hsA)
            clear o7 k7 OY6 O6 kw6
            go_wp2_with fail
            refine (rof_any _ (ys ++ M.sha (xs ++ m)) w7 O7.out.isB O7.out.nil0 (by rw [List.length_append, HYL.out, M.sha_length]; decide)).mono ?_
            rintro e w8 ⟨r8, rfl, o8, k8⟩
            rw [HMAC.out] at o8
            have O8 := Lib.hid (o8.mono kw7.size)
            have kw8 : Below w.heap.size w w8 := kw7.trans (k8.mono kw7.size)
            clear o8 k8
            go_wp2
            go_ret
            exact ⟨r8, rfl, O8.out, kw8⟩

end Go.Proofs.YtmjeilhppgdmfaaDoor
