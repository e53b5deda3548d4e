/-
  Get, of a map's member that is there. Conditions: at most 100000 values within it.
-/
import Derived.Test.YtbgadfaiehkanaaGreatDoorJsH3
namespace Go.Proofs.YtbgadfaiehkanaaGreatDoor
open Go.RowKit Go.Proofs Go.Shelf
set_option linter.unusedVariables false
set_option maxRecDepth 100000

set_option maxHeartbeats 16000000 in
theorem get_yes (S : Nat → Prop) (d : Nat) (cs : List Value) (x : M.GV) (name : List UInt8) (w : World) (iv : IsV S w (d + 1) cs x) (hk : x.k = 5) (i : Nat) (hi : i < x.m.length) (hn : (x.m.getD i ([], M.vNull)).1 = name) (hf : ∀ k, k < i → (x.m.getD k ([], M.vNull)).1 ≠ name) (hw : M.wt d (x.m.getD i ([], M.vNull)).2 ≤ 100000) (y : M.GV) (hy : y = (x.m.getD i ([], M.vNull)).2) :
    Calls Tryz.prog 36 #[.agg cs.toArray, .string ⟨name.toArray⟩] w fun e w' => (∃ a1 c1 a2 c2, e = .returned (.tuple #[.agg (vcs y.k y.b y.n y.t (.slice a1 y.l.length c1) (.slice a2 y.m.length c2)).toArray, .bool true])) ∧ Below w.heap.size w w' := by
  have hmf : ∀ (fn : Fn) (first cap : Array Value) (w : World), (Instr.makeFunc fn first cap).run Tryz.prog w = .ok (.func fn first cap) w := fun _ _ _ _ => rfl
  obtain ⟨lv, mv, ls, ms, rfl, hl1, hl2, hl3, hm1, hm2, hm3⟩ := iv
  obtain ⟨a1, e1, rfl, hz1⟩ := id hl2
  obtain ⟨a2, e2, rfl, hz2⟩ := id hm2
  have MR : MemRow S w d (.slice a2 x.m.length e2) x.m ms := ⟨hm1, hm2, hm3⟩
  obtain ⟨W1, hW1⟩ : ∃ W, W = w.alloc (.cells (bx x.k x.b x.n x.t a1 x.l.length e1 a2 x.m.length e2) 27) := ⟨_, rfl⟩
  obtain ⟨gX, hgX⟩ : ∃ y, y = w.heap.size := ⟨_, rfl⟩
  obtain ⟨W2, hW2⟩ : ∃ W, W = W1.alloc (.cells #[.string ⟨name.toArray⟩] 9) := ⟨_, rfl⟩
  obtain ⟨gN, hgN⟩ : ∃ y, y = W1.heap.size := ⟨_, rfl⟩
  obtain ⟨W3, hW3⟩ : ∃ W, W = W2.alloc (.cells #[.int .i64 0, .bool false, .int .i64 0, .string ⟨#[]⟩, .slice none 0 0, .slice none 0 0] 27) := ⟨_, rfl⟩
  obtain ⟨gR, hgR⟩ : ∃ y, y = W2.heap.size := ⟨_, rfl⟩
  have s1 : W1.heap.size = w.heap.size + 1 := by rw [hW1]; simp
  have s2 : W2.heap.size = W1.heap.size + 1 := by rw [hW2]; simp
  have s3 : W3.heap.size = W2.heap.size + 1 := by rw [hW3]; simp
  have b1 : Blk W1 gX 27 (bx x.k x.b x.n x.t a1 x.l.length e1 a2 x.m.length e2).toList := by rw [hW1]; exact Blk.newAt _ _ _ _ _ hgX rfl
  have b2 : Blk W2 gN 9 [.string ⟨name.toArray⟩] := by rw [hW2]; exact Blk.newAt _ _ _ _ _ hgN rfl
  have b3 : Blk W3 gR 27 z6 := by rw [hW3]; exact Blk.newAt _ _ _ _ _ hgR rfl
  have k1 : Below w.heap.size w W1 := by rw [hW1]; exact (Below.refl _ _).alloc (Nat.le_refl _) _
  have k2 : Below W1.heap.size W1 W2 := by rw [hW2]; exact (Below.refl _ _).alloc (Nat.le_refl _) _
  have k3 : Below W2.heap.size W2 W3 := by rw [hW3]; exact (Below.refl _ _).alloc (Nat.le_refl _) _
  have b13 := (b1.below k2 b1.lt).below k3 (by omega)
  have b23 := b2.below k3 b2.lt
  have k03 : Below w.heap.size w W3 := (k1.trans (k2.mono (by omega))).trans (k3.mono (by omega))
  have EX := Lib.hid hgX
  have EN : Hid (gN = w.heap.size + 1) := by rw [Hid]; omega
  have ER : Hid (gR = w.heap.size + 1 + 1) := by rw [Hid]; omega
  have E3 : Hid (W3 = ((w.alloc (.cells #[.int .i64 x.k, .bool x.b, .int .i64 x.n, .string ⟨x.t.toArray⟩, .slice a1 x.l.length e1, .slice a2 x.m.length e2] 27)).alloc (.cells #[.string ⟨name.toArray⟩] 9)).alloc (.cells #[.int .i64 0, .bool false, .int .i64 0, .string ⟨#[]⟩, .slice none 0 0, .slice none 0 0] 27)) := by rw [Hid, hW3, hW2, hW1]
  have HK := Lib.hid k03
  have HBX := Lib.hid b13
  have HBR := Lib.hid b3
  have HMR := Lib.hid (MR.below k03)
  have HIX := Lib.hid (idx_any S d _ x.m ms gN name W3 (MR.below k03) b23)
  have HLO : Hid (w.heap.size ≤ gR) := by rw [Hid]; omega
  obtain ⟨ml, hml⟩ : ∃ n, n = x.m.length := ⟨_, rfl⟩
  have HML := Lib.hid hml
  have HW := Lib.hid hw
  have HY := Lib.hid hy
  have HII : Hid (i < ml) := by rw [hml]; exact hi
  have HNA := Lib.hid hn
  have HF := Lib.hid hf
  have hmlb : (ml : Int) ≤ 9223372036854775807 := by obtain ⟨_, _, e, h1, h2, _⟩ := hm2; unfold maxLen at h2; omega
  rw [show (vcs x.k x.b x.n x.t (.slice a1 x.l.length e1) (.slice a2 x.m.length e2)).toArray = #[.int .i64 x.k, .bool x.b, .int .i64 x.n, .string ⟨x.t.toArray⟩, .slice a1 x.l.length e1, .slice a2 x.m.length e2] from rfl]
  rw [hk] at E3 ⊢
  rw [← hml] at HIX E3 HMR ⊢
  have cX0 : W3.cell? ⟨gX, 0, none⟩ = some (.int .i64 5) := by have := HBX.out.cell 0; rw [hk] at this; exact this
  have cX5 : W3.cell? ⟨gX, 5, none⟩ = some (.slice a2 ml e2) := by have := HBX.out.cell 5; rw [← hml] at this; exact this
  clear hW1 hgX hW2 hgN hW3 hgR s1 s2 s3 b1 b2 b3 k1 k2 k3 b13 b23 k03 hl1 hl2 hl3 hm1 hm2 hm3 hz1 hz2 MR hw hy hi hn hf hml
  go_enter Tryz.func36, Tryz.ntmps36
  go_upto_region 1 with fail
  rw [← E3.out, ← ER.out, ← EN.out, ← EX.out]
  clear E3 ER EN
  go_wp2_with fail
  refine HIX.out.mono ?_
  rintro e w4 ⟨hix, k4⟩
  have hres : e = .returned (.int .i64 (i : Int)) := by
    rcases hix with ⟨j, h1, h2, h3, h4⟩ | ⟨h1, _⟩
    · have : j = i := by
        rcases Nat.lt_trichotomy j i with h | h | h
        · exact absurd h2 (HF.out j h)
        · exact h
        · exact absurd HNA.out (h3 i h)
      rw [h4, this]
    · exact absurd HNA.out (h1 i (by rw [← HML.out]; exact HII.out))
  subst hres
  have cX5 : w4.cell? ⟨gX, 5, none⟩ = some (.slice a2 ml e2) := by rw [k4.cell HBX.out.lt]; exact cX5
  have HK4 := Lib.hid (HK.out.trans (k4.mono HK.out.size))
  have HB4 := Lib.hid (HBR.out.below k4 HBR.out.lt)
  obtain ⟨g1, o1, el, ha1, hnn1, hst1, hel1, hiv1⟩ := (HMR.out.below k4).some HII.out
  subst ha1
  rw [← HY.out] at hiv1
  have HEL := Lib.hid hel1
  have HE6 : Hid (el.length = 6) := hiv1.len
  have HCP := Lib.hid (copied_any S d el y w4 hiv1 (by rw [HY.out]; exact HW.out))
  have q1 : (i : Int) < (ml : Int) := by have := HII.out; omega
  have hi0 : (0 : Int) ≤ (i : Int) := Int.natCast_nonneg i
  have q3 : decide ((i : Int) < 0) = false := decide_eq_false (by omega)
  clear hix k4 HIX HBR HK hnn1 hst1 hel1 hiv1 HMR cX0
  go_wp2_with (refine wpList_load_mid rfl _ (.tmp 22) rfl g1 (o1 + i * 7 + 1) rfl el _ HEL.out Tryz.underlying27 rfl (by rw [Tryz.sizeV]; exact congrArg some HE6.out.symm) ?_)
  refine HCP.out.mono ?_
  rintro e w5 ⟨⟨r1, c1, r2, c2, rfl⟩, k5⟩
  have HB5 := Lib.hid (HB4.out.below k5 HB4.out.lt)
  have HK5 := Lib.hid (HK4.out.trans (k5.mono HK4.out.size))
  clear k5 HCP HB4 HK4 cX5
  obtain ⟨L, hL⟩ : ∃ L, L = vcs y.k y.b y.n y.t (.slice r1 y.l.length c1) (.slice r2 y.m.length c2) := ⟨_, rfl⟩
  have HL6 : Hid (L.length = 6) := by rw [hL]; rfl
  have HL1 : Hid (∀ v ∈ L, v.oneCell' = true) := by rw [hL]; exact vcs_one _ _ _ _ _ _ _ _ _ _
  have HLE := Lib.hid hL
  rw [← hL]
  clear hL
  go_wp2_with (refine wpList_store_blk rfl 27 (.tmp 4) (.tmp 24) rfl gR _ rfl rfl 27 _ HB5.out (by rw [Tryz.sizeV]; exact congrArg some HL6.out.symm) HL6.out.symm HL1.out ?_; intro w9 hb9 ho9)
  exact bodyPost_ret (results_cell2 rfl _ _ gR _ _ _ _ rfl hb9 Tryz.underlying27 rfl (by rw [Tryz.sizeV]; exact congrArg some HL6.out.symm)) rfl ⟨⟨r1, c1, r2, c2, by rw [← HLE.out]; rfl⟩, HK5.out.trans (ho9.below HK5.out.size HLO.out)⟩

end Go.Proofs.YtbgadfaiehkanaaGreatDoor
