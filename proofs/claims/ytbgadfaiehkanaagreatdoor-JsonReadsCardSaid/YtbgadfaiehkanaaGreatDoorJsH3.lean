/-
  copied: what it hands back is of the same kind, its list as long. Conditions: at most 100000 values within.
-/
import Derived.Test.YtbgadfaiehkanaaGreatDoorPj30
import Derived.Deep.LoopGhost
namespace Go.Proofs.YtbgadfaiehkanaaGreatDoor
open Go.RowKit Go.Proofs Go.Shelf
set_option linter.unusedVariables false
set_option maxRecDepth 100000

/-- How many values. -/
def M.wt : Nat → M.GV → Nat
  | 0, _ => 1
  | d + 1, g => 1 + (g.l.map (M.wt d)).sum + (g.m.map fun p => M.wt d p.2).sum

theorem M.wt_pos (d : Nat) (g : M.GV) : 1 ≤ M.wt d g := by
  cases d with
  | zero => exact Nat.le_refl _
  | succ d => unfold M.wt; omega

theorem sum_range {α : Type} (z : α → Nat) (x : α) (l : List α) : ((List.range l.length).map fun i => z (l.getD i x)).sum = (l.map z).sum := by
  congr 1
  refine List.ext_getElem (by simp) fun i h1 h2 => ?_
  have h3 : i < l.length := by simpa using h1
  simp [List.getD_eq_getElem?_getD, List.getElem?_eq_getElem h3]

theorem rowsP : RowTy 168 156 1 8 (.pointer none) := ⟨Tryz.underlying168, by kernel_rfl, rfl, by decide⟩

def sumW (its : List It) : Nat := (its.map fun t => M.wt t.d t.x).sum
theorem sumW_app (a b : List It) : sumW (a ++ b) = sumW a + sumW b := by unfold sumW; rw [List.map_append, List.sum_append]

def CSt (w : World) (gX gR : Nat) (x : M.GV) (gk : Nat) (v : Value) (wr : World) : Prop :=
  ∃ its, CW w gX gR x wr v its ∧ sumW its < gk ∧ sumW its ≤ 100000 ∧ ((∀ t ∈ its, t.g ≠ gX) ∨ ∃ t, its = [t] ∧ t.g = gX ∧ t.off = 0 ∧ t.x = x)

theorem len_sumW (its : List It) : its.length ≤ sumW its := by
  induction its with
  | nil => exact Nat.zero_le _
  | cons t r ih =>
    rw [show t :: r = [t] ++ r from rfl, sumW_app, List.length_append]
    have := M.wt_pos t.d t.x
    have e : sumW [t] = M.wt t.d t.x := by simp [sumW]
    rw [e, List.length_singleton]
    omega

theorem flat_one {ls : List (List Value)} {n : Nat} (hn : ls.length = n) (h : ∀ i, i < n → ∀ v ∈ ls.getD i [], v.oneCell' = true) : ∀ v ∈ ls.flatten, v.oneCell' = true := by
  intro v hv
  obtain ⟨l, hl, hv⟩ := List.mem_flatten.1 hv
  obtain ⟨i, hi, e⟩ := List.mem_iff_getElem.1 hl
  have := h i (by omega)
  rw [List.getD_eq_getElem?_getD, List.getElem?_eq_getElem hi] at this
  rw [← e] at hv
  exact this v hv

theorem sum_ge {α : Type} (z : α → Nat) (h : ∀ x, 1 ≤ z x) (l : List α) : l.length ≤ (l.map z).sum := by
  induction l with
  | nil => exact Nat.zero_le _
  | cons x r ih => rw [List.map_cons, List.sum_cons, List.length_cons]; have := h x; omega

theorem wt_list {its : List It} {t : It} {e : Nat} (he : t.d = e + 1) (h : sumW its + M.wt t.d t.x ≤ 100000) : t.x.l.length ≤ 100000 ∧ t.x.m.length ≤ 100000 := by
  rw [he] at h
  unfold M.wt at h
  have h1 := sum_ge (M.wt e) (M.wt_pos e) t.x.l
  have h2 := sum_ge (fun p : List UInt8 × M.GV => M.wt e p.2) (fun p => M.wt_pos e p.2) t.x.m
  omega

theorem cell_place {lo : Nat} {wz w2 : World} {t : It} (h : ItOk lo wz t) (k : Below wz.heap.size wz w2) (i : Nat) (hi : i < 6) : (∃ u, w2.cell? ⟨t.g, t.off + i, none⟩ = some u) ∧ w2.frozen? ⟨t.g, t.off + i, none⟩ = false := by
  have := (h.chg (Chg.of_below (F := fun _ => False) k) (fun e => e) (fun _ _ e => e)).thr i hi
  exact ⟨Option.isSome_iff_exists.1 this.1, this.2⟩

theorem there_below {w3 w4 : World} {g o : Nat} (h : w3.there g o 6) (hl : g < w3.heap.size) (k : Below w3.heap.size w3 w4) (i : Nat) (hi : i < 6) : (∃ u, w4.cell? ⟨g, o + i, none⟩ = some u) ∧ w4.frozen? ⟨g, o + i, none⟩ = false := by
  have := h i hi
  rw [← k.cell (p := ⟨g, o + i, none⟩) hl, ← k.frozen (p := ⟨g, o + i, none⟩) hl] at this
  exact ⟨Option.isSome_iff_exists.1 this.1, this.2⟩

theorem one_cell (w : World) (v : Value) : ∀ (j : Nat) u, [v][j]? = some u → (w.alloc (.cells #[v] 156)).cell? ((⟨w.heap.size, 0, none⟩ : Addr).add j) = some u := by
  intro j u hu
  have hb : Blk (w.alloc (.cells #[v] 156)) w.heap.size 156 [v] := Blk.newAt _ _ _ _ _ rfl rfl
  rw [add_plainJ, Nat.zero_add, hb.cell]
  exact hu

theorem sumW_kids5 (g d : Nat) (f : Nat → List Value) (l : List M.GV) : sumW (kids g 6 0 d f (fun i => l.getD i M.vNull) l.length) = (l.map (M.wt d)).sum := by
  unfold sumW
  rw [kids_sum _ _ _ _ _ _ _ (M.wt d) (fun i => rfl)]
  exact sum_range (M.wt d) M.vNull l
theorem sumW_kids6 (g d : Nat) (f : Nat → List Value) (m : List (List UInt8 × M.GV)) : sumW (kids g 7 1 d f (fun i => (m.getD i ([], M.vNull)).2) m.length) = (m.map fun p => M.wt d p.2).sum := by
  unfold sumW
  rw [kids_sum _ _ _ _ _ _ _ (M.wt d) (fun i => rfl)]
  exact sum_range (fun p : List UInt8 × M.GV => M.wt d p.2) ([], M.vNull) m

theorem vcs_one (k : Int) (b : Bool) (n : Int) (t : List UInt8) (a1 : Option Addr) (n1 c1 : Nat) (a2 : Option Addr) (n2 c2 : Nat) : ∀ v ∈ vcs k b n t (.slice a1 n1 c1) (.slice a2 n2 c2), v.oneCell' = true := by
  intro v hv
  simp only [vcs, List.mem_cons, List.not_mem_nil, or_false] at hv
  rcases hv with rfl | rfl | rfl | rfl | rfl | rfl <;> rfl

set_option maxHeartbeats 16000000 in
theorem copied_any (S : Nat → Prop) (d : Nat) (cs : List Value) (x : M.GV) (w : World) (iv : IsV S w d cs x) (hw : M.wt d x ≤ 100000) :
    Calls Tryz.prog 87 #[.agg cs.toArray] w fun e w' => (∃ a1 c1 a2 c2, e = .returned (.agg (vcs x.k x.b x.n x.t (.slice a1 x.l.length c1) (.slice a2 x.m.length c2)).toArray)) ∧ Below w.heap.size w w' := by
  have iv0 : IsV (fun b => b < w.heap.size) w d cs x := IsV.mono (fun b hb _ => hb) d iv
  obtain ⟨d, rfl⟩ : ∃ e, d = e + 1 := by cases d with | zero => exact iv.elim | succ d => exact ⟨d, rfl⟩
  obtain ⟨lv, mv, ls, ms, hc, hl1, hl2, hl3, hm1, hm2, hm3⟩ := id iv0
  obtain ⟨a1, e1, rfl, _⟩ := id hl2
  obtain ⟨a2, e2, rfl, _⟩ := id hm2
  obtain ⟨W1, hW1⟩ : ∃ W, W = w.alloc (.cells (bx x.k x.b x.n x.t a1 x.l.length e1 a2 x.m.length e2) 27) := ⟨_, rfl⟩
  obtain ⟨gX, hgX⟩ : ∃ y, y = w.heap.size := ⟨_, rfl⟩
  obtain ⟨W2, hW2⟩ : ∃ W, W = W1.alloc (.cells #[.int .i64 0, .bool false, .int .i64 0, .string ⟨#[]⟩, .slice none 0 0, .slice none 0 0] 27) := ⟨_, rfl⟩
  obtain ⟨gR, hgR⟩ : ∃ y, y = W1.heap.size := ⟨_, rfl⟩
  obtain ⟨W3, hW3⟩ : ∃ W, W = W2.alloc (.cells #[.pointer (some ⟨gX, 0, none⟩)] 156) := ⟨_, rfl⟩
  obtain ⟨gW, hgW⟩ : ∃ y, y = W2.heap.size := ⟨_, rfl⟩
  have s1 : W1.heap.size = w.heap.size + 1 := by rw [hW1]; simp
  have s2 : W2.heap.size = W1.heap.size + 1 := by rw [hW2]; simp
  have s3 : W3.heap.size = W2.heap.size + 1 := by rw [hW3]; simp
  have EX := Lib.hid hgX
  have ER : Hid (gR = w.heap.size + 1) := by rw [Hid]; omega
  have EW : Hid (gW = w.heap.size + 1 + 1) := by rw [Hid]; omega
  have E3 : Hid (W3 = ((w.alloc (.cells #[.int .i64 x.k, .bool x.b, .int .i64 x.n, .string ⟨x.t.toArray⟩, .slice a1 x.l.length e1, .slice a2 x.m.length e2] 27)).alloc (.cells #[.int .i64 0, .bool false, .int .i64 0, .string ⟨#[]⟩, .slice none 0 0, .slice none 0 0] 27)).alloc (.cells #[.pointer (some ⟨w.heap.size, 0, none⟩)] 156)) := by rw [Hid, hW3, hW2, hW1, hgX]
  have b1 : Blk W1 gX 27 cs := by rw [hW1, hc]; exact Blk.newAt _ _ _ _ _ hgX rfl
  have b2 : Blk W2 gR 27 z6 := by rw [hW2]; exact Blk.newAt _ _ _ _ _ hgR rfl
  have b3 : Blk W3 gW 156 [.pointer (some ⟨gX, 0, none⟩)] := by rw [hW3]; exact Blk.newAt _ _ _ _ _ hgW rfl
  have k1 : Below w.heap.size w W1 := by rw [hW1]; exact (Below.refl _ _).alloc (Nat.le_refl _) _
  have k2 : Below W1.heap.size W1 W2 := by rw [hW2]; exact (Below.refl _ _).alloc (Nat.le_refl _) _
  have k3 : Below W2.heap.size W2 W3 := by rw [hW3]; exact (Below.refl _ _).alloc (Nat.le_refl _) _
  have b13 : Blk W3 gX 27 cs := (b1.below k2 b1.lt).below k3 (by omega)
  have b23 : Blk W3 gR 27 z6 := b2.below k3 b2.lt
  have k03 : Below w.heap.size w W3 := (k1.trans (k2.mono (by omega))).trans (k3.mono (by omega))
  have hcl : cs.length = 6 := iv.len
  have HST : Hid (CSt w gX gR x 100001 (.slice (some ⟨gW, 0, none⟩) 1 1) W3) := by
    refine ⟨[⟨gX, 0, d + 1, cs, x⟩], ⟨k03, ?_, fun t ht => ?_, fun t ht => ?_, List.pairwise_singleton _ _, ⟨a1, e1, a2, e2, by rw [hc] at b13; exact b13⟩, fun e => by injection e with e; have e : gW = gX := e; omega, by omega, b23, fun e => by injection e with e; have e : gW = gR := e; omega, fun t ht => ?_, by omega⟩, ?_, ?_, .inr ⟨_, rfl, rfl, rfl, rfl⟩⟩
    · refine ⟨rfl, .inr ⟨gW, 1, #[.pointer (some ⟨gX, 0, none⟩)], rfl, by omega, b3, Nat.le_refl _, by decide, rfl, rfl⟩⟩
    · rw [List.mem_singleton.1 ht]
      refine ⟨b13.range 0 cs [] (by simp), b13.there 0 6 (by omega), IsV.below k03 iv0, by show w.heap.size ≤ gX; omega, b13.lt⟩
    · rw [List.mem_singleton.1 ht]
      intro e
      injection e with e
      have e : gW = gX := e
      omega
    · rw [List.mem_singleton.1 ht]
      show gX ≠ gR
      omega
    · show sumW _ < 100001
      simp [sumW]
      omega
    · simp [sumW]
      exact hw
  have HC : Hid (cs.toArray = #[.int .i64 x.k, .bool x.b, .int .i64 x.n, .string ⟨x.t.toArray⟩, .slice a1 x.l.length e1, .slice a2 x.m.length e2]) := by rw [Hid, hc]; rfl
  rw [HC.out]
  clear hW1 hgX hW2 hgR hW3 hgW s1 s2 s3 iv iv0 hc hw b1 b2 b3 k1 k2 k3 b13 b23 k03 hcl hl1 hl2 hl3 hm1 hm2 hm3
  go_enter Tryz.func87, Tryz.ntmps87
  go_upto_region 2 with fail
  rw [← E3.out, ← EW.out, ← ER.out, ← EX.out]
  clear E3 EW ER
  go_loopg [3] 100001 (fun gk v wr => CSt w gX gR x gk v wr)
  case atStart => exact HST.out
  case round =>
    obtain ⟨wz, rfl⟩ : ∃ x, x = wr := ⟨_, rfl⟩
    obtain ⟨its0, cw0, hgk, hle, hro⟩ := hrel
    rcases List.eq_nil_or_concat its0 with rfl | ⟨its, t, rfl⟩
    · obtain ⟨⟨va, vc, hv⟩, _⟩ := own_n0 cw0.row
      rw [hv]
      obtain ⟨r1, c1, r2, c2, hb⟩ := cw0.root
      have HB := Lib.hid hb
      have HO := Lib.hid cw0.out
      have HK := Lib.hid cw0.bel
      have HN := Lib.hid cw0.onew
      obtain ⟨L, hL⟩ : ∃ L, L = vcs x.k x.b x.n x.t (.slice r1 x.l.length c1) (.slice r2 x.m.length c2) := ⟨_, rfl⟩
      have HL6 : Hid (L.length = 6) := by rw [hL]; rfl
      have HLE := Lib.hid hL
      have HL1 : Hid (∀ v ∈ L, v.oneCell' = true) := by rw [hL]; exact vcs_one _ _ _ _ _ _ _ _ _ _
      rw [← hL] at HB
      clear hb hv cw0 hgk hle hro hL
      go_wp2_with (first
        | (refine wpList_load_mid rfl _ (.tmp 1) rfl gX 0 rfl L _ (HB.out.range 0 _ [] (by simp)) Tryz.underlying27 rfl (by rw [Tryz.sizeV]; exact congrArg some HL6.out.symm) ?_)
        | (refine wpList_store_blk rfl 27 (.tmp 2) (.tmp 75) rfl gR _ rfl rfl 27 _ HO.out (by rw [Tryz.sizeV]; exact congrArg some HL6.out.symm) HL6.out.symm HL1.out ?_; intro w9 hb9 ho9))
      exact bodyPost_ret (results_cell1 rfl _ _ gR _ _ _ _ rfl hb9 Tryz.underlying27 rfl (by rw [Tryz.sizeV]; exact congrArg some HL6.out.symm)) rfl ⟨⟨r1, c1, r2, c2, by rw [← HLE.out]⟩, HK.out.trans (ho9.below HK.out.size HN.out)⟩
    · rw [List.concat_eq_append] at cw0 hgk hle hro
      obtain ⟨b, cap, hv, cw, okt, apt, hbt, cP, hcap⟩ := cw0.pop
      have hro2 : RootOr gX x its t := by
        rcases hro with h | ⟨t2, h1, h2, h3, h4⟩
        · exact .inl ⟨h t (List.mem_append_right _ (List.mem_singleton.2 rfl)), fun s hs => h s (List.mem_append_left _ hs)⟩
        · have hl := congrArg List.length h1
          rw [List.length_append] at hl
          have hn : its = [] := by simp at hl; exact hl
          rw [hn] at h1
          injection h1 with h1 _
          rw [h1]
          exact .inr ⟨hn, h2, h3, h4⟩
      have htr : t.g ≠ gR := cw0.oit t (List.mem_append_right _ (List.mem_singleton.2 rfl))
      rw [sumW_app, show sumW [t] = M.wt t.d t.x from by simp [sumW]] at hgk hle
      obtain ⟨e, he⟩ : ∃ e, t.d = e + 1 := by
        have := okt.val
        cases h : t.d with
        | zero => rw [h] at this; exact this.elim
        | succ e => exact ⟨e, rfl⟩
      have ivt := okt.val
      rw [he] at ivt
      obtain ⟨lv, mv, ls2, ms2, hcs, hl1, hl2, hl3, hm1, hm2, hm3⟩ := ivt
      have LR : LisRow (fun b => b < w.heap.size) wz e lv t.x.l ls2 := ⟨hl1, hl2, hl3⟩
      have MR : MemRow (fun b => b < w.heap.size) wz e mv t.x.m ms2 := ⟨hm1, hm2, hm3⟩
      have c4 : wz.cell? ⟨t.g, t.off + 4, none⟩ = some lv := okt.rng 4 lv (by rw [hcs]; rfl)
      have c5 : wz.cell? ⟨t.g, t.off + 5, none⟩ = some mv := okt.rng 5 mv (by rw [hcs]; rfl)
      obtain ⟨p1, q1, rfl, _⟩ := id hl2
      obtain ⟨p2, q2, rfl, _⟩ := id hm2
      rw [hv]
      obtain ⟨n, hn⟩ : ∃ n, n = its.length := ⟨_, rfl⟩
      rw [← hn] at cP hcap ⊢
      have hnb : (n : Int) ≤ 100000 := by have := len_sumW its; omega
      have HN := Lib.hid hn
      have HCW := Lib.hid cw
      have HOK := Lib.hid okt
      have HAP := Lib.hid apt
      have HBT := Lib.hid hbt
      have HRO := Lib.hid hro2
      have HTR := Lib.hid htr
      have HGK := Lib.hid hgk
      have HLE := Lib.hid hle
      have HLR := Lib.hid LR
      have HMR := Lib.hid MR
      have HE := Lib.hid he
      have HC5 := Lib.hid c5
      unfold It.ptr at cP
      have d1 : (0 : Int) < (n : Int) + 1 := by omega
      clear hgk hle hro hro2 cw0 cw okt apt hbt htr he LR MR hl1 hl2 hl3 hm1 hm2 hm3 hcs hv hn c5
      go_upto_region 5 with fail
      go_upto_region 6 with (refine wpList_copy rowsV wz rfl (.const (.slice none 0 0)) (.tmp 26) rfl rfl _ _ _ _ rfl HLR.out.2.1 (flat_one HLR.out.1 fun i hi => (HLR.out.2.2 i hi).one) (by have := wt_list HE.out HLE.out; omega) ?_; intro v5 w2 o5 k2; obtain ⟨v5a, v5c, hv5⟩ := (own_n0 o5).1; subst hv5; obtain ⟨⟨u4, g4a⟩, g4b⟩ := cell_place HOK.out k2 4 (by omega))
      obtain ⟨w3, hw3⟩ : ∃ w3, w3 = w2.setCell ⟨t.g, t.off + 4, none⟩ (.slice v5a t.x.l.length v5c) := ⟨_, rfl⟩
      rw [← hw3]
      have c5 : w3.cell? ⟨t.g, t.off + 5, none⟩ = some (.slice p2 t.x.m.length q2) := by
        rw [hw3, World.cell?_setCell_other _ _ _ _ (fun e => by injection e with _ e _; omega)]
        exact cell_below k2 HC5.out
      have hm3 : MemRow (fun b => b < w.heap.size) w3 e (.slice p2 t.x.m.length q2) t.x.m ms2 := by
        have h2 := HMR.out.below k2
        have q3 : Chg (fun b => b = t.g) w2 w3 := by rw [hw3]; exact (Chg.refl _ _).cell _ _
        have hn := HOK.out.new
        refine ⟨h2.1, h2.2.1.chg q3 (fun b hb e => by omega), fun i hi => ?_⟩
        obtain ⟨c, ec, iv⟩ := h2.2.2 i hi
        exact ⟨c, ec, IsV.chg q3 (fun b hb e => by omega) _ iv⟩
      have HM3 := Lib.hid hm3
      have HO5 := Lib.hid o5
      have HK2 := Lib.hid k2
      have HW3 := Lib.hid hw3
      have HT3 : Hid (w3.there t.g t.off 6) := by
        rw [Hid, hw3]
        exact World.there_setCells (HOK.out.chg (Chg.of_below (F := fun _ => False) k2) (fun e => e) (fun _ _ e => e)).thr t.g (t.off + 4) [_]
      have HL3 : Hid (t.g < w3.heap.size) := by have := HOK.out.lt; have := k2.size; rw [Hid, hw3, World.size_setCell]; omega
      have HQ5 := Lib.hid (own_n0 o5).2
      clear hw3 hm3 o5 k2 g4a g4b c4
      go_upto_region 7 with (refine wpList_copy rowsM7 w3 rfl (.const (.slice none 0 0)) (.tmp 34) rfl rfl _ _ _ _ rfl HM3.out.2.1 (flat_one HM3.out.1 fun i hi => (by obtain ⟨c, ec, iv⟩ := HM3.out.2.2 i hi; rw [ec]; intro v hv; rcases List.mem_cons.1 hv with hv | hv; rw [hv]; rfl; exact iv.one v hv)) (by have := wt_list HE.out HLE.out; omega) ?_; intro v6 w4 o6 k4; obtain ⟨v6a, v6c, hv6⟩ := (own_n0 o6).1; subst hv6; obtain ⟨⟨u5, g5a⟩, g5b⟩ := there_below HT3.out HL3.out k4 5 (by omega))
      obtain ⟨w5, hw5⟩ : ∃ w5, w5 = w4.setCell ⟨t.g, t.off + 5, none⟩ (.slice v6a t.x.m.length v6c) := ⟨_, rfl⟩
      rw [← hw5]
      have HCX := Lib.hid (HCW.out.opened HOK.out HAP.out (fun e => HBT.out (by injection e)) HTR.out HRO.out HLR.out HMR.out HK2.out HO5.out HW3.out k4 o6 hw5)
      have HQ6 := Lib.hid (own_n0 o6).2
      rw [← HN.out] at HCX
      clear hw5 o6 k4 g5a g5b c5 HM3 HO5 HK2 HW3 HT3 HL3 HC5 HLR HMR HCW HOK HAP HRO cP
      obtain ⟨v5, hv5⟩ : ∃ v, v = Value.slice v5a t.x.l.length v5c := ⟨_, rfl⟩
      obtain ⟨v6, hv6⟩ : ∃ v, v = Value.slice v6a t.x.m.length v6c := ⟨_, rfl⟩
      obtain ⟨nl, hnl⟩ : ∃ n, n = t.x.l.length := ⟨_, rfl⟩
      obtain ⟨nm, hnm⟩ : ∃ n, n = t.x.m.length := ⟨_, rfl⟩
      rw [← hv5, ← hv6, ← hnl, ← hnm] at HCX
      rw [← hnl] at hv5 ⊢
      rw [← hnm] at hv6 ⊢
      have hbl := wt_list HE.out HLE.out
      have HNL : Hid (nl ≤ 100000 ∧ nm ≤ 100000 ∧ its.length ≤ 100000 ∧ nl = t.x.l.length ∧ nm = t.x.m.length) := ⟨by omega, by omega, by have := len_sumW its; have := HLE.out; omega, hnl, hnm⟩
      have hnlb : (nl : Int) ≤ 100000 := by omega
      have hnmb : (nm : Int) ≤ 100000 := by omega
      obtain ⟨g5, hg5⟩ : ∃ g, g = blkOf v5 := ⟨_, rfl⟩
      obtain ⟨g6, hg6⟩ : ∃ g, g = blkOf v6 := ⟨_, rfl⟩
      rw [← hg5, ← hg6] at HCX
      have HA5 : Hid (nl ≠ 0 → v5a = some ⟨g5, 0, none⟩) := by
        intro h
        obtain ⟨c, e⟩ := HQ5.out (by rw [← hnl]; exact h)
        injection e with e _ _
        rw [hg5, hv5, hnl]
        exact e
      have HA6 : Hid (nm ≠ 0 → v6a = some ⟨g6, 0, none⟩) := by
        intro h
        obtain ⟨c, e⟩ := HQ6.out (by rw [← hnm]; exact h)
        injection e with e _ _
        rw [hg6, hv6, hnm]
        exact e
      have HV5 := Lib.hid hv5
      have HV6 := Lib.hid hv6
      obtain ⟨f5, hf5⟩ : ∃ f : Nat → List Value, f = fun i => ls2.getD i [] := ⟨_, rfl⟩
      obtain ⟨y5, hy5⟩ : ∃ f : Nat → M.GV, f = fun i => t.x.l.getD i M.vNull := ⟨_, rfl⟩
      obtain ⟨f6, hf6⟩ : ∃ f : Nat → List Value, f = fun i => (ms2.getD i []).tail := ⟨_, rfl⟩
      obtain ⟨y6, hy6⟩ : ∃ f : Nat → M.GV, f = fun i => (t.x.m.getD i ([], M.vNull)).2 := ⟨_, rfl⟩
      rw [← hf5, ← hy5, ← hf6, ← hy6] at HCX
      obtain ⟨K5, hK5⟩ : ∃ K, K = kids g5 6 0 e f5 y5 nl := ⟨_, rfl⟩
      obtain ⟨K6, hK6⟩ : ∃ K, K = kids g6 7 1 e f6 y6 nm := ⟨_, rfl⟩
      have HD5 : Hid (∀ j, j < nl → K5.drop j = ⟨g5, j * 6 + 0, e, f5 j, y5 j⟩ :: K5.drop (j + 1) ∧ K5.take (j + 1) = K5.take j ++ [⟨g5, j * 6 + 0, e, f5 j, y5 j⟩]) := fun j hj => by rw [hK5]; exact ⟨kids_drop _ _ _ _ _ _ _ _ hj, kids_take _ _ _ _ _ _ _ _ hj⟩
      have HD6 : Hid (∀ j, j < nm → K6.drop j = ⟨g6, j * 7 + 1, e, f6 j, y6 j⟩ :: K6.drop (j + 1) ∧ K6.take (j + 1) = K6.take j ++ [⟨g6, j * 7 + 1, e, f6 j, y6 j⟩]) := fun j hj => by rw [hK6]; exact ⟨kids_drop _ _ _ _ _ _ _ _ hj, kids_take _ _ _ _ _ _ _ _ hj⟩
      have HLK : Hid (K5.length = nl ∧ K6.length = nm) := ⟨by rw [hK5, kids_len], by rw [hK6, kids_len]⟩
      have HSW : Hid (sumW (its ++ K5 ++ K6) + 1 = sumW its + M.wt t.d t.x) := by
        rw [Hid, sumW_app, sumW_app, hK5, hK6, hy5, hy6, hnl, hnm, sumW_kids5, sumW_kids6, HE.out]
        rw [show M.wt (e + 1) t.x = 1 + (t.x.l.map (M.wt e)).sum + (t.x.m.map fun p => M.wt e p.2).sum from rfl]
        omega
      rw [← hK5, ← hK6] at HCX
      clear hK5 hK6 hf5 hy5 hf6 hy6 hg5 hg6 hv5 hv6 hnl hnm hbl hnb hcap
      have c4 : w5.cell? ⟨t.g, t.off + 4, none⟩ = some (.slice v5a nl v5c) := by have := (HCX.out.keep _ List.mem_cons_self).1; rw [HV5.out] at this; exact this
      obtain ⟨cl, hcl⟩ : ∃ c : List (Addr × Value), c = [(⟨t.g, t.off + 4, none⟩, v5), (⟨t.g, t.off + 5, none⟩, v6)] := ⟨_, rfl⟩
      rw [← hcl] at HCX
      have HCL := Lib.hid hcl
      clear hcl
      go_wp2_with fail
      clear c4
      go_loopw [3, 43] (fun v i wr => ∃ j : Nat, i = .int .i64 (j : Int) ∧ Hid (j ≤ nl) ∧ Hid (CX w gX gR x wr v (its ++ K5.take j) (K5.drop j ++ K6) cl)) (fun _ i _ => nl - (intOf i).toNat)
      case atStart => exact ⟨0, rfl, Nat.zero_le _, by rw [List.take_zero, List.append_nil, List.drop_zero]; exact HCX⟩
      case round =>
        obtain ⟨wy, rfl⟩ : ∃ x, x = wr := ⟨_, rfl⟩
        obtain ⟨j, rfl, hj, CZ⟩ := hrel
        by_cases hlt : j < nl
        · have q1 : (j : Int) < (nl : Int) := by omega
          have hj0 : (0 : Int) ≤ (j : Int) := Int.natCast_nonneg j
          have HLT := Lib.hid hlt
          have ha5 := HA5.out (by omega)
          have c4 : wy.cell? ⟨t.g, t.off + 4, none⟩ = some (.slice (some ⟨g5, 0, none⟩) nl v5c) := by have := (CZ.out.keep (⟨t.g, t.off + 4, none⟩, v5) (by rw [HCL.out]; exact List.mem_cons_self)).1; rw [HV5.out, ha5] at this; exact this
          have hcx := CZ.out
          rw [(HD5.out j hlt).1, List.cons_append] at hcx
          have hcb := hcx.below ((Below.refl wy.heap.size wy).alloc (Nat.le_refl _) (.cells #[.pointer (some ⟨g5, j * 6, none⟩)] 156))
          have HCB := Lib.hid hcb
          have HPL : Hid ((its ++ K5.take j).length ≤ 200000) := by rw [Hid, List.length_append, List.length_take]; have := HNL.out; omega
          clear hcx hcb hlt hj ha5 CZ
          go_wp2_with (refine wpList_app_row rowsP (wy.alloc (.cells #[.pointer (some ⟨g5, j * 6, none⟩)] 156)) rfl (.tmp 46) (.tmp 53) rfl w.heap.size _ _ _ rfl HCB.out.cw.row ⟨wy.heap.size, 0, none⟩ 1 1 [.pointer (some ⟨g5, j * 6, none⟩)] rfl rfl (one_cell wy _) (by intro u hu; rw [List.mem_singleton.1 hu]; rfl) (by have := HPL.out; unfold maxLen; omega) (by have := HPL.out; omega) HCB.out.cw.bel.size ?_; intro v7 w7 o7 g7 a7)
          have HCN := Lib.hid (HCB.out.push o7 g7 a7)
          clear HCB o7 g7 a7 c4
          go_wp2
          go_roundw
          case rel => exact ⟨j + 1, by go_num, HLT.out, by have := HCN.out; rw [List.append_assoc, ← (HD5.out j HLT.out).2] at this; exact this⟩
          case measure => have := HLT.out; simp [intOf]; omega
        · have q1 : ¬ (j : Int) < (nl : Int) := by omega
          have c5 : wy.cell? ⟨t.g, t.off + 5, none⟩ = some (.slice v6a nm v6c) := by have := (CZ.out.keep (⟨t.g, t.off + 5, none⟩, v6) (by rw [HCL.out]; exact List.mem_cons_of_mem _ List.mem_cons_self)).1; rw [HV6.out] at this; exact this
          have hc2 := CZ.out
          rw [List.take_of_length_le (by rw [HLK.out.1]; omega), List.drop_eq_nil_of_le (by rw [HLK.out.1]; omega), List.nil_append] at hc2
          have HC2 := Lib.hid hc2
          clear hlt hj CZ hc2
          go_wp2_with fail
          clear c5
          go_loopw [3, 61] (fun v i wr => ∃ j : Nat, i = .int .i64 (j : Int) ∧ Hid (j ≤ nm) ∧ Hid (CX w gX gR x wr v (its ++ K5 ++ K6.take j) (K6.drop j) cl)) (fun _ i _ => nm - (intOf i).toNat)
          case atStart => exact ⟨0, rfl, Nat.zero_le _, by rw [List.take_zero, List.append_nil, List.drop_zero]; exact HC2⟩
          case round =>
            obtain ⟨wx, rfl⟩ : ∃ x, x = wr := ⟨_, rfl⟩
            obtain ⟨i, rfl, hi, CY⟩ := hrel
            by_cases hlt : i < nm
            · have q2 : (i : Int) < (nm : Int) := by omega
              have hi0 : (0 : Int) ≤ (i : Int) := Int.natCast_nonneg i
              have HLT := Lib.hid hlt
              have ha6 := HA6.out (by omega)
              have c5 : wx.cell? ⟨t.g, t.off + 5, none⟩ = some (.slice (some ⟨g6, 0, none⟩) nm v6c) := by have := (CY.out.keep (⟨t.g, t.off + 5, none⟩, v6) (by rw [HCL.out]; exact List.mem_cons_of_mem _ List.mem_cons_self)).1; rw [HV6.out, ha6] at this; exact this
              have hcx := CY.out
              rw [(HD6.out i hlt).1] at hcx
              have hcb := hcx.below ((Below.refl wx.heap.size wx).alloc (Nat.le_refl _) (.cells #[.pointer (some ⟨g6, i * 7 + 1, none⟩)] 156))
              have HCB := Lib.hid hcb
              have HPL : Hid ((its ++ K5 ++ K6.take i).length ≤ 300000) := by rw [Hid, List.length_append, List.length_append, List.length_take]; have := HNL.out; have := HLK.out; omega
              clear hcx hcb hlt hi ha6 CY
              go_wp2_with (refine wpList_app_row rowsP (wx.alloc (.cells #[.pointer (some ⟨g6, i * 7 + 1, none⟩)] 156)) rfl (.tmp 64) (.tmp 72) rfl w.heap.size _ _ _ rfl HCB.out.cw.row ⟨wx.heap.size, 0, none⟩ 1 1 [.pointer (some ⟨g6, i * 7 + 1, none⟩)] rfl rfl (one_cell wx _) (by intro u hu; rw [List.mem_singleton.1 hu]; rfl) (by have := HPL.out; unfold maxLen; omega) (by have := HPL.out; omega) HCB.out.cw.bel.size ?_; intro v7 w7 o7 g7 a7)
              have HCN := Lib.hid (HCB.out.push o7 g7 a7)
              clear HCB o7 g7 a7 c5
              go_wp2
              go_roundw
              case rel => exact ⟨i + 1, by go_num, HLT.out, by have := HCN.out; rw [List.append_assoc, ← (HD6.out i HLT.out).2] at this; exact this⟩
              case measure => have := HLT.out; simp [intOf]; omega
            · have q2 : ¬ (i : Int) < (nm : Int) := by omega
              have hc3 := CY.out
              rw [List.take_of_length_le (by rw [HLK.out.2]; omega), List.drop_eq_nil_of_le (by rw [HLK.out.2]; omega)] at hc3
              have HC3 := Lib.hid hc3
              clear hlt hi CY hc3
              go_wp2
              go_roundg (gk - 1)
              case measure => have := HGK.out; have := M.wt_pos t.d t.x; omega
              case rel => exact ⟨its ++ K5 ++ K6, HC3.out.cw, by have := HSW.out; have := HGK.out; omega, by have := HSW.out; have := HLE.out; omega, .inl HC3.out.root⟩

end Go.Proofs.YtbgadfaiehkanaaGreatDoor
