/-
  CONTRACT OF orlopref02.Work: a block's work on a state, by definition. Conditions: a state of eight words, a block of 64 bytes.
-/
import Derived.Test.YtmjeilhppgdmfaaDoorRefTab
import Derived.Test.YtmjeilhppgdmfaaDoorRefA
import Derived.Test.YtmjeilhppgdmfaaDoorShaHash
namespace Go.Proofs.YtmjeilhppgdmfaaDoor
open Go.RowKit
set_option linter.unusedVariables false

theorem w_signed : (if IntKind.u32.signed = true then (-1 : Int) else IntKind.u32.max) = IntKind.u32.max := rfl

theorem cell_sum (wr : World) (x16 s0 x7 s1 : UInt32) :
    (wr.alloc (.cells #[.int .u32 (IntKind.u32.wrap (IntKind.u32.wrap (IntKind.u32.wrap ((x16.toNat : Int) + (s0.toNat : Int)) + (x7.toNat : Int)) + (s1.toNat : Int)))] 52)).cell? ⟨wr.heap.size, 0, none⟩ = some (.int .u32 ((x16 + s0 + x7 + s1).toNat : Int)) := by
  rw [w_wrap, w_wrap, w_wrap]
  simp

set_option maxRecDepth 100000 in
set_option maxHeartbeats 4000000 in
theorem rwork_any (st : M.St) (blk : List UInt8) (v1 v2 v3 : Value) (w : World) (h1 : IsW w v1 st.l) (h2 : IsW w v2 M.tK) (h3 : IsB w v3 blk) (hl : blk.length = 64) :
    Calls Tryd.prog 29 #[v1, v2, v3] w (MakesW w (M.work st blk).l) := by
  obtain ⟨b1, o1, p1, rfl, c1⟩ := h1.at_ (show 0 < 8 by decide)
  obtain ⟨b2, o2, p2, rfl, c2⟩ := h2.at_ (show 0 < 64 by decide)
  obtain ⟨ao, p3, hv3, hl1, hl2, hat⟩ := h3
  rw [hl] at hl1 hv3
  obtain ⟨b3, o3, rfl, c3⟩ : ∃ b off, ao = some ⟨b, off, none⟩ ∧ ∀ i, i < blk.length → w.cell? ⟨b, off + i, none⟩ = some (.int .u8 ((blk.getD i 0).toNat : Int)) := by
    rcases hat with h0 | h0
    · rw [h0] at hl; simp at hl
    · exact h0
  subst hv3
  have C1 : Hid (∀ i, i < st.l.length → w.cell? ⟨b1, o1 + i, none⟩ = some (.int .u32 ((st.l.getD i 0).toNat : Int))) := c1
  have C2 : Hid (∀ i, i < M.tK.length → w.cell? ⟨b2, o2 + i, none⟩ = some (.int .u32 ((M.tK.getD i 0).toNat : Int))) := c2
  have C3 : Hid (∀ i, i < blk.length → w.cell? ⟨b3, o3 + i, none⟩ = some (.int .u8 ((blk.getD i 0).toNat : Int))) := c3
  have HL : Hid (blk.length = 64) := hl
  have HM : Hid (p3 ≤ maxLen) := hl2
  clear c1 c2 c3 hl hl2 hat
  rw [show st.l.length = 8 from rfl, show M.tK.length = 64 from rfl]
  go_enter Tryd.func29, Tryd.ntmps29
  go_wp2
  go_loopw [7, 8] (fun x i wr => ∃ k : Nat, k ≤ 16 ∧ i = .int .i64 k ∧ Hid (OwnW wr w.heap.size x (M.ws blk k)) ∧ Below w.heap.size w wr)
    (fun _ i _ => 16 - (intOf i).toNat)
  case atStart => exact ⟨0, by omega, rfl, ownW_nil _ _, Below.refl _ _⟩
  case round =>
    rename_i wr
    obtain ⟨k, hk, rfl, oo, kk⟩ := hrel
    by_cases hlt : k < 16
    · have hne : ¬ p3 = 4 * k := by omega
      have hsrc : IsB wr (.slice (some ⟨b3, o3 + 4 * k, none⟩) (64 - 4 * k) (p3 - 4 * k)) (blk.drop (4 * k)) := by
        have hcell : ∀ i, i < blk.length → wr.cell? ⟨b3, o3 + i, none⟩ = some (.int .u8 ((blk.getD i 0).toNat : Int)) := fun i hi => by
          have h := C3.out i hi
          rw [kk.cell (by exact World.block_lt_of_cell? w _ h)]
          exact h
        have h := isB_rest (bs := blk) (k := 0) (N := 64) (g := b3 + 1) (c := 4 * k) hcell rfl HL.out.symm (by omega) hl1 HM.out (Only.refl _ wr) (by omega)
        rw [Nat.zero_add] at h
        exact h
      obtain ⟨u, hu⟩ : ∃ u : UInt32, u = UInt32.ofNat (M.gb (blk.drop (4 * k)) 4) := ⟨_, rfl⟩
      have hub : u.toNat < 4294967296 := w_lt u
      have HU : Hid (u = UInt32.ofNat (M.gb (blk.drop (4 * k)) 4)) := hu
      have HU2 : Hid (M.gb (blk.drop (4 * k)) 4 = u.toNat) := by
        rw [Hid, hu, UInt32.toNat_ofNat', Nat.mod_eq_of_lt (M.gb_lt _ 4)]
      have HS : Hid (IsB wr (.slice (some ⟨b3, o3 + 4 * k, none⟩) (64 - 4 * k) (p3 - 4 * k)) (blk.drop (4 * k))) := hsrc
      have HWL : Hid ((M.ws blk k).length = k) := M.ws_length blk k
      have hsz : w.heap.size ≤ wr.heap.size := kk.size
      clear hu hsrc
      go_wp2_with fail
      refine (rgetBig_any _ _ 4 _ (by omega) HS.out).mono ?_
      rintro e w1 ⟨rfl, rfl⟩
      rw [HU2.out]
      go_wp2_with (at_builtin; go_must (refine wpList_appW _ rfl _ _ rfl w.heap.size _ (M.ws blk k) rfl ?c1 wr.heap.size u rfl ?c2 (by rw [HWL.out]; omega) (by simp; omega) ?_))
      case c1 => exact oo.out.below ((Below.refl _ _).alloc (Nat.le_refl _) _)
      case c2 => simp
      intro x4 w4 o4 k4
      have O4 : Hid (OwnW w4 w.heap.size x4 (M.ws blk (k + 1))) := by
        rw [Hid, M.ws, if_pos hlt, ← HU.out]
        exact o4
      have kk4 : Below w.heap.size w w4 := (kk.alloc hsz _).trans k4
      clear o4
      go_wp2
      go_roundw
      case rel => exact ⟨k + 1, by omega, by go_num, O4, kk4⟩
      case measure => simp [intOf]; omega
    · obtain rfl : k = 16 := by omega
      go_wp2
      rw [show ((16 : Nat) : Int) = 16 from rfl]
      go_loopw [7, 9] (fun x i wr => ∃ k : Nat, 16 ≤ k ∧ k ≤ 64 ∧ i = .int .i64 k ∧ Hid (OwnW wr w.heap.size x (M.ws blk k)) ∧ Below w.heap.size w wr)
        (fun _ i _ => 64 - (intOf i).toNat)
      case atStart => exact ⟨16, by omega, by omega, rfl, oo, kk⟩
      case round =>
        clear oo kk
        rename_i wr
        obtain ⟨k, hk16, hk, rfl, oo, kk⟩ := hrel
        by_cases hlt : k < 64
        · obtain ⟨bw, ow, pw, rfl, cw⟩ := oo.out.isW.at_ (by rw [M.ws_length]; omega)
          have hx : ∀ j, j < k → ∃ x : UInt32, Hid (x = (M.ws blk k).getD j 0) ∧ wr.cell? ⟨bw, ow + j, none⟩ = some (.int .u32 x.toNat) := fun j hj =>
            ⟨_, rfl, cw j (by rw [M.ws_length]; exact hj)⟩
          obtain ⟨x16, e16, c16⟩ := hx (k - 16) (by omega)
          obtain ⟨x15, e15, c15⟩ := hx (k - 15) (by omega)
          obtain ⟨x7, e7, c7⟩ := hx (k - 7) (by omega)
          obtain ⟨x2, e2, c2⟩ := hx (k - 2) (by omega)
          clear hx cw
          rw [M.ws_length] at oo ⊢
          have hsz : w.heap.size ≤ wr.heap.size := kk.size
          go_wp2
          have v15 : IntKind.i64.wrap ((k : Int) - 15) = (k : Int) - 15 := IntWalk.i64_in _ (by omega)
          have r15 : (15 : Int) ≤ (k : Int) := by omega
          have p15 : (0 : Int) ≤ (k : Int) - 15 := by omega
          have q15 : (k : Int) - 15 < (k : Int) := by omega
          have t15 : ((k : Int) - 15).toNat = k - 15 := by omega
          have v2 : IntKind.i64.wrap ((k : Int) - 2) = (k : Int) - 2 := IntWalk.i64_in _ (by omega)
          have r2 : (2 : Int) ≤ (k : Int) := by omega
          have p2 : (0 : Int) ≤ (k : Int) - 2 := by omega
          have q2 : (k : Int) - 2 < (k : Int) := by omega
          have t2 : ((k : Int) - 2).toNat = k - 2 := by omega
          have v16 : IntKind.i64.wrap ((k : Int) - 16) = (k : Int) - 16 := IntWalk.i64_in _ (by omega)
          have r16 : (16 : Int) ≤ (k : Int) := by omega
          have p16 : (0 : Int) ≤ (k : Int) - 16 := by omega
          have q16 : (k : Int) - 16 < (k : Int) := by omega
          have t16 : ((k : Int) - 16).toNat = k - 16 := by omega
          have v7 : IntKind.i64.wrap ((k : Int) - 7) = (k : Int) - 7 := IntWalk.i64_in _ (by omega)
          have r7 : (7 : Int) ≤ (k : Int) := by omega
          have p7 : (0 : Int) ≤ (k : Int) - 7 := by omega
          have q7 : (k : Int) - 7 < (k : Int) := by omega
          have t7 : ((k : Int) - 7).toNat = k - 7 := by omega
          refine wp_region_still 20 (by kernel_rfl) (by kernel_rfl) ?_
          simp only [List.take_succ_cons, List.take_zero, List.drop_succ_cons, List.drop_zero]
          repeat (first | still_step | still_call (rror_lit _ _ _ (by decide) (by decide)))
          refine wpStill_nil ?_
          go_wp2
          refine wp_region_still 20 (by kernel_rfl) (by kernel_rfl) ?_
          simp only [List.take_succ_cons, List.take_zero, List.drop_succ_cons, List.drop_zero]
          repeat (first | still_step | still_call (rror_lit _ _ _ (by decide) (by decide)))
          refine wpStill_nil ?_
          go_wp2
          simp only [w_xor, w_shr3, w_shr10]
          rw [show M.ror x15 7 ^^^ M.ror x15 18 ^^^ x15 >>> 3 = M.s0 x15 from rfl, show M.ror x2 17 ^^^ M.ror x2 19 ^^^ x2 >>> 10 = M.s1 x2 from rfl]
          obtain ⟨s0, hs0⟩ : ∃ s, s = M.s0 x15 := ⟨_, rfl⟩
          obtain ⟨s1, hs1⟩ : ∃ s, s = M.s1 x2 := ⟨_, rfl⟩
          rw [← hs0, ← hs1]
          have E0 : Hid (s0 = M.s0 x15) := hs0
          have E1 : Hid (s1 = M.s1 x2) := hs1
          clear hs0 hs1
          go_region_law (refine step_appW rfl (.tmp 80) (.tmp 96) rfl w.heap.size _ (M.ws blk k) rfl (OwnW.below (w := wr) oo.out ((Below.refl _ _).alloc (Nat.le_refl _) _).drew.drew.drew) wr.heap.size (x16 + s0 + x7 + s1) rfl (cell_sum wr x16 s0 x7 s1) (by rw [M.ws_length]; omega) (by simp; omega) ?_; intro x4 w4 o4 k4)
          all_goals
            clear v15 r15 p15 q15 t15 v2 r2 p2 q2 t2 v16 r16 p16 q16 t16 v7 r7 p7 q7 t7
            have O4 : Hid (OwnW w4 w.heap.size x4 (M.ws blk (k + 1))) := by
              rw [Hid, M.ws, if_neg (by omega), ← e16.out, ← e15.out, ← e7.out, ← e2.out, ← E0.out, ← E1.out]
              exact o4
            have kk4 : Below w.heap.size w w4 := ((kk.alloc hsz _).drew.drew.drew).trans k4
            clear o4 k4
            go_wp2
            go_roundw
            case rel => exact ⟨k + 1, by omega, by omega, by go_num, O4, kk4⟩
            case measure => simp [intOf]; omega
        · obtain rfl : k = 64 := by omega
          go_wp2
          rw [show ((64 : Nat) : Int) = 64 from rfl]
          obtain ⟨W, hW⟩ : ∃ W, W = M.ws blk 64 := ⟨_, rfl⟩
          have hWL : W.length = 64 := by rw [hW]; exact M.ws_length blk 64
          rw [← hW] at oo
          have HWW : Hid (W = M.ws blk 64) := hW
          clear hW
          obtain ⟨bw, ow, pw, rfl, cw⟩ := oo.out.isW.at_ (by omega)
          rw [hWL] at cw ⊢
          have CW : Hid (∀ i, i < 64 → wr.cell? ⟨bw, ow + i, none⟩ = some (.int .u32 ((W.getD i 0).toNat : Int))) := cw
          have CK : Hid (∀ i, i < 64 → wr.cell? ⟨b2, o2 + i, none⟩ = some (.int .u32 ((M.tK.getD i 0).toNat : Int))) := fun i hi => by
            have h := C2.out i hi
            rw [kk.cell (by exact World.block_lt_of_cell? w _ h)]
            exact h
          have CS : ∀ i, i < 8 → wr.cell? ⟨b1, o1 + i, none⟩ = some (.int .u32 ((st.l.getD i 0).toNat : Int)) := fun i hi => by
            have h := C1.out i hi
            rw [kk.cell (by exact World.block_lt_of_cell? w _ h)]
            exact h
          obtain ⟨a, b, c, d, e, f, g7, h8⟩ := st
          have s0 : wr.cell? ⟨b1, o1, none⟩ = some (.int .u32 a.toNat) := CS 0 (by decide)
          have s1 : wr.cell? ⟨b1, o1 + 1, none⟩ = some (.int .u32 b.toNat) := CS 1 (by decide)
          have s2 : wr.cell? ⟨b1, o1 + 2, none⟩ = some (.int .u32 c.toNat) := CS 2 (by decide)
          have s3 : wr.cell? ⟨b1, o1 + 3, none⟩ = some (.int .u32 d.toNat) := CS 3 (by decide)
          have s4 : wr.cell? ⟨b1, o1 + 4, none⟩ = some (.int .u32 e.toNat) := CS 4 (by decide)
          have s5 : wr.cell? ⟨b1, o1 + 5, none⟩ = some (.int .u32 f.toNat) := CS 5 (by decide)
          have s6 : wr.cell? ⟨b1, o1 + 6, none⟩ = some (.int .u32 g7.toNat) := CS 6 (by decide)
          have s7 : wr.cell? ⟨b1, o1 + 7, none⟩ = some (.int .u32 h8.toNat) := CS 7 (by decide)
          have hsz : w.heap.size ≤ wr.heap.size := kk.size
          clear CS cw hWL oo
          go_quiet (fail)
          go_wp2
          go_loopw [12, 13, 14, 15, 16, 17, 18, 19, 20] (fun ya yb yc yd ye yf yg yh i w' => ∃ (k : Nat) (r : M.St), k ≤ 64 ∧ i = .int .i64 k ∧ Hid (r = M.rounds ⟨a, b, c, d, e, f, g7, h8⟩ W k) ∧ ya = .int .u32 r.a.toNat ∧ yb = .int .u32 r.b.toNat ∧ yc = .int .u32 r.c.toNat ∧ yd = .int .u32 r.d.toNat ∧ ye = .int .u32 r.e.toNat ∧ yf = .int .u32 r.f.toNat ∧ yg = .int .u32 r.g.toNat ∧ yh = .int .u32 r.h.toNat ∧ ∃ n, w' = wr.drewN n)
            (fun _ _ _ _ _ _ _ _ i _ => 64 - (intOf i).toNat)
          case atStart => exact ⟨0, ⟨a, b, c, d, e, f, g7, h8⟩, by omega, rfl, rfl, rfl, rfl, rfl, rfl, rfl, rfl, rfl, rfl, nq, rfl⟩
          case round =>
            obtain ⟨k, ⟨ra, rb, rc, rd, re, rf, rg, rh⟩, hk, rfl, hr, rfl, rfl, rfl, rfl, rfl, rfl, rfl, rfl, n3, rfl⟩ := hrel
            by_cases hlt : k < 64
            · obtain ⟨K, hK⟩ : ∃ K, K = M.tK.getD k 0 := ⟨_, rfl⟩
              obtain ⟨x, hx⟩ : ∃ x, x = W.getD k 0 := ⟨_, rfl⟩
              have cK : wr.cell? ⟨b2, o2 + k, none⟩ = some (.int .u32 K.toNat) := by rw [hK]; exact CK.out k hlt
              have cW : wr.cell? ⟨bw, ow + k, none⟩ = some (.int .u32 x.toNat) := by rw [hx]; exact CW.out k hlt
              have HK : Hid (K = M.tK.getD k 0) := hK
              have HX : Hid (x = W.getD k 0) := hx
              clear hK hx
              have i1 : (k : Int) < 64 := by omega
              go_wp2
              refine wp_region_still 29 (by kernel_rfl) (by kernel_rfl) ?_
              simp only [List.take_succ_cons, List.take_zero, List.drop_succ_cons, List.drop_zero]
              repeat (first | still_step | still_call (rror_lit _ _ _ (by decide) (by decide)))
              refine wpStill_nil ?_
              go_upto_region 18 with (go_at_call 36; go_must (refine (rror_lit _ _ _ (by decide) (by decide)).mono ?_); rintro e4 w4 ⟨rfl, rfl⟩)
              simp only [w_signed, w_wrap, w_xor, w_and, w_not, w_add]
              obtain ⟨t, ht⟩ : ∃ t, t = M.t1 ⟨ra, rb, rc, rd, re, rf, rg, rh⟩ K x := ⟨_, rfl⟩
              obtain ⟨u, hu⟩ : ∃ u, u = M.t2 ⟨ra, rb, rc, rd, re, rf, rg, rh⟩ := ⟨_, rfl⟩
              rw [show rh + (M.ror re 6 ^^^ M.ror re 11 ^^^ M.ror re 25) + ((re &&& rf) ^^^ (~~~ re &&& rg)) + K + x = t from ht.symm, show (M.ror ra 2 ^^^ M.ror ra 13 ^^^ M.ror ra 22) + ((ra &&& rb) ^^^ (ra &&& rc) ^^^ (rb &&& rc)) = u from hu.symm]
              have HT : Hid (t = M.t1 ⟨ra, rb, rc, rd, re, rf, rg, rh⟩ K x) := ht
              have HU : Hid (u = M.t2 ⟨ra, rb, rc, rd, re, rf, rg, rh⟩) := hu
              clear ht hu
              go_wp2
              go_roundw
              case rel =>
                rw [w_add, w_add]
                refine ⟨k + 1, ⟨t + u, ra, rb, rc, rd + t, re, rf, rg⟩, by omega, by go_num, ?_, rfl, rfl, rfl, rfl, rfl, rfl, rfl, rfl, _, rfl⟩
                rw [Hid, M.rounds, ← hr.out, ← HK.out, ← HX.out, M.rnd, ← HT.out, ← HU.out]
              case measure => simp [intOf]; omega
            · obtain rfl : k = 64 := by omega
              go_wp2
              refine wp_region_still 40 (by kernel_rfl) (by kernel_rfl) ?_
              simp only [List.take_succ_cons, List.take_zero, List.drop_succ_cons, List.drop_zero]
              repeat still_step
              refine wpStill_nil ?_
              simp only [w_wrap]
              go_wp2
              go_ret
              refine ⟨_, rfl, ownW_lit _ _ _ (M.work ⟨a, b, c, d, e, f, g7, h8⟩ blk).l hsz ?_ (show 8 ≤ maxLen by decide), ?_⟩
              · rw [M.work, ← HWW.out, ← hr.out]
                rfl
              · exact (drewN_below kk _).alloc hsz _

end Go.Proofs.YtmjeilhppgdmfaaDoor
