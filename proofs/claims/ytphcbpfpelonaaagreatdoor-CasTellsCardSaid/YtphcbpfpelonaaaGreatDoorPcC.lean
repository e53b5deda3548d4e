/-
  (*Batch).Set AND Put. Conditions: fewer than 100000 changes; the tables of package sha lie as laid.
  (*Batch).changes: what is to be done of each name, in a map of its own. Conditions: fewer than 10000 changes.
  ROWS OF FILES' CHANGES THAT GROW (OwnFL), AND (*Batch).Commit. Conditions: fewer than 10000 changes, of 2^40 bytes each; the tables of package sha lie as laid.
  (*Batch).Commit. Conditions: fewer than 5000 changes, of 2^40 bytes each; the tables of package sha lie as laid.
  slices.ContainsFunc AND IndexFunc AT Sweep's CLOSURE: whether a digest is among live ones. Conditions: at most 100000 of them.
  (*Cas).Sweep. Conditions: the tables of package sha lie as laid; at most 100000 live digests.
-/
import Derived.Test.YtphcbpfpelonaaaGreatDoorPcB

namespace Go.Proofs.YtphcbpfpelonaaaGreatDoor
open Go.RowKit Go.Maps
set_option linter.unusedVariables false
set_option maxRecDepth 100000

section
variable {S : Nat → Prop} {w0 w : World} {g gf gc gb bm fm N : Nat} {B : M.KL (List UInt8)} {L : M.Chs} {F : M.Fs} {Q : Nat → Prop} {c : M.Cr} {cv : Value}

set_option maxHeartbeats 4000000 in
/-- Set. -/
theorem set_any (h : BtAt S w gb gc bm fm B L) (nm : List UInt8) (hk : nm.length ≤ maxLen) (dv : Value) (d : List UInt8) (hd : IsB w dv d) (hdl : d.length ≤ 1099511627776) (hfew : L.length < 100000) :
    Calls Tryz.prog 35 #[.pointer (some ⟨gb, 0, none⟩), .string ⟨nm.toArray⟩, dv] w fun e w' => e = .returned (.tuple #[]) ∧ BtAt (fun b => S b ∨ (w.heap.size ≤ b ∧ b < w'.heap.size)) w' gb gc bm fm B (M.kput L nm (d, false)) ∧ Chg (fun b => b = fm) w w' := by
  have c2 : w.cell? ⟨gb, 2, none⟩ = some (.map (some fm)) := h.blk.cell 2
  have HH := Lib.hid h
  have HD := Lib.hid hd
  have HK := Lib.hid hk
  have HDL := Lib.hid hdl
  have HF := Lib.hid hfew
  have HC2 := Lib.hid c2
  obtain ⟨do_, dn, rfl⟩ := hd.shape
  obtain ⟨q, hq⟩ : ∃ q, q = d.length := ⟨_, rfl⟩
  rw [← hq] at HD ⊢
  obtain ⟨snm, hsnm⟩ : ∃ s : ByteArray, s = ⟨nm.toArray⟩ := ⟨_, rfl⟩
  rw [← hsnm]
  have HSN := Lib.hid hsnm
  clear h hd hk hdl hfew c2 hq hsnm
  go_enter Tryz.func35, Tryz.ntmps35
  go_upto_region 0 with fail
  refine wp_region_any (by kernel_rfl) ?_
  change wpAny _ _ _ _ _ _ _ (World.drew _)
  refine wpAny_of_held (S := fun w' => IsB w' (.slice do_ q dn) d ∧ w'.cell? ⟨gb, 2, none⟩ = some (.map (some fm))) _ _ _ _ ?_
  have K0 : Below w.heap.size w w.drew := (Below.refl _ _).drew
  have S0 : IsB w.drew (.slice do_ q dn) d ∧ w.drew.cell? ⟨gb, 2, none⟩ = some (.map (some fm)) := ⟨HD.out.below K0, HC2.out⟩
  refine wpAnyH_take_at (i := 0) (v := .pointer (some ⟨gb, 0, none⟩)) rfl rfl (by kernel_rfl) (by kernel_rfl) (by kernel_rfl) (fun _ _ _ h => h) (Or.inl ⟨by rfl, fun w hS => by go_simp⟩) S0 ?_
  try simp only [List.setIfInBounds_toArray, List.set_cons_zero, List.set_cons_succ]
  refine wpAnyH_take_at (i := 1) (v := .pointer (some ⟨gb, 0, none⟩)) rfl rfl (by kernel_rfl) (by kernel_rfl) (by kernel_rfl) (fun _ _ _ h => h) (Or.inl ⟨by rfl, fun w hS => by go_simp⟩) S0 ?_
  try simp only [List.setIfInBounds_toArray, List.set_cons_zero, List.set_cons_succ]
  refine wpAnyH_take_at (i := 2) (v := .pointer (some ⟨gb, 2, none⟩)) rfl rfl (by kernel_rfl) (by kernel_rfl) (by kernel_rfl) (fun _ _ _ h => h) (Or.inl ⟨by rfl, fun w hS => by go_simp⟩) S0 ?_
  try simp only [List.setIfInBounds_toArray, List.set_cons_zero, List.set_cons_succ]
  refine wpAnyH_take_at (i := 3) (v := .map (some fm)) rfl rfl (by kernel_rfl) (by kernel_rfl) (by kernel_rfl) (fun _ _ _ h => h) (Or.inl ⟨by rfl, fun w hS => by have c := hS.2; go_simp⟩) S0 ?_
  try simp only [List.setIfInBounds_toArray, List.set_cons_zero, List.set_cons_succ]
  refine wpAnyH_take_at (i := 4) (v := .string snm) rfl rfl (by kernel_rfl) (by kernel_rfl) (by kernel_rfl) (fun _ _ _ h => h) (Or.inl ⟨by rfl, fun w hS => by go_simp⟩) S0 ?_
  try simp only [List.setIfInBounds_toArray, List.set_cons_zero, List.set_cons_succ]
  refine wpAnyH_take_at (i := 5) (v := .string snm) rfl rfl (by kernel_rfl) (by kernel_rfl) (by kernel_rfl) (fun _ _ _ h => h) (Or.inl ⟨by rfl, fun w hS => by go_simp⟩) S0 ?_
  try simp only [List.setIfInBounds_toArray, List.set_cons_zero, List.set_cons_succ]
  refine wpAnyH_take_at (i := 6) (v := .slice do_ q dn) rfl rfl (by kernel_rfl) (by kernel_rfl) (by kernel_rfl) (fun _ _ _ h => h) (Or.inl ⟨by rfl, fun w hS => by go_simp⟩) S0 ?_
  try simp only [List.setIfInBounds_toArray, List.set_cons_zero, List.set_cons_succ]
  refine wpAnyH_ready (rs := [7]) (by kernel_rfl) (by simp) ?_
  refine AllReadyH.cons rfl (fun K hK => ?_) AllReadyH.nil
  go_simp
  refine (clone9_any _ d _ S0.1 (by have := HDL.out; omega)).mono ?_
  rintro e w2 ⟨r, rfl, o2, k2⟩
  obtain ⟨ra, rc, rfl⟩ := o2.shape'
  have K2 : Below w.heap.size w w2 := K0.trans (k2.mono K0.size)
  have c22 : w2.cell? ⟨gb, 2, none⟩ = some (.map (some fm)) := (K2.cell (p := ⟨gb, 2, none⟩) (World.block_lt_of_cell? _ _ HC2.out)).trans HC2.out
  have S2 : IsB w2 (.slice do_ q dn) d ∧ w2.cell? ⟨gb, 2, none⟩ = some (.map (some fm)) := ⟨HD.out.below K2, c22⟩
  refine hK.out _ _ S2 (fun _ => ?_)
  clear hK S0
  refine wpAnyH_take_at (i := 8) (v := .agg #[.string snm, .slice ra d.length rc, .bool false]) rfl rfl (by kernel_rfl) (by kernel_rfl) (by kernel_rfl) (fun _ _ _ h => h) (Or.inl ⟨by rfl, fun w hS => by go_simp⟩) S2 ?_
  try simp only [List.setIfInBounds_toArray, List.set_cons_zero, List.set_cons_succ]
  refine wpAnyH_ready (rs := [9]) (by kernel_rfl) (by simp) ?_
  refine AllReadyH.cons rfl (fun K hK => ?_) AllReadyH.nil
  obtain ⟨w3, hr, h3, hc3, hg3, hz3⟩ := (HH.out.below K2).mono (S' := fun b => S b ∨ (w.heap.size ≤ b ∧ b < w2.heap.size)) (fun _ h => .inl h) |>.storeF nm _ d false HK.out o2.isB (o2.lies fun k h1 h2 => .inr ⟨h1, h2⟩) o2.nil0 HF.out
  rw [← HSN.out] at hr
  go_simp
  have hi3 := (HH.out.below K2).fl
  refine hK.out _ _ ⟨?_, ?_⟩ (fun _ => ?_)
  · obtain ⟨ef, mf, _⟩ := hi3
    exact S2.1.turned mf.isMap hg3
  · exact hg3.cell S2.2 (by intro e; injection e with e; exact HH.out.n2 e)
  clear hK
  have H3 := Lib.hid (h3.mono (S' := fun b => S b ∨ (w.heap.size ≤ b ∧ b < w3.heap.size)) fun b hb => hb.imp_right fun h => ⟨h.1, by rw [hz3]; exact h.2⟩)
  have C3 : Hid (Chg (fun b => b = fm) w w3) := (Chg.of_below K2).trans hc3 fun _ _ h => h
  refine wpAnyH_done (by kernel_rfl) ?_ _
  clear S2 c22 hr h3 hc3 hg3 hz3 hi3 K2 k2 o2 K0
  go_wp2
  go_end0
  exact ⟨rfl, H3.out, C3.out⟩

/-- What a Put hands back. -/
def PutEnds (w0 w : World) (g gf gc gb bm fm N : Nat) (B : M.KL (List UInt8)) (L : M.Chs) (F : M.Fs) (c : M.Cr) (cv : Value) (S Q : Nat → Prop) (bs : List UInt8) (e : Ending) (w' : World) : Prop :=
  ∃ r, e = .returned r ∧ IsB w' r (M.csum c bs) ∧ Lies (fun k => w.heap.size ≤ k ∧ k < w'.heap.size) r ∧ CasSt w0 w' g gf gc N F (M.cnext c bs) cv (fun b => Q b ∨ (w.heap.size ≤ b ∧ b < w'.heap.size)) ∧ BtAt (fun b => S b ∨ (w.heap.size ≤ b ∧ b < w'.heap.size)) w' gb gc bm fm (M.kput B (98 :: M.csum c bs) bs) L ∧ Chg (fun k => k = bm ∨ (¬ Q k ∧ w0.heap.size ≤ k)) w w'

set_option maxHeartbeats 8000000 in
/-- Put. -/
theorem CasSt.put (s : CasSt w0 w g gf gc N F c cv Q) (hL : Laid w0) (hfew : c.few 90000) (h : BtAt S w gb gc bm fm B L) (hQ : Q gb ∧ Q bm ∧ Q fm) (hS : ∀ k, S k → Q k ∨ k < w0.heap.size) (bv : Value) (bs : List UInt8) (hbw : ∀ x, Far w0 Q w x → IsB x bv bs) (hlen : bs.length ≤ 1099511627776) (hB : B.length < 100000) :
    Calls Tryz.prog 22 #[.pointer (some ⟨gb, 0, none⟩), bv] w (PutEnds w0 w g gf gc gb bm fm N B L F c cv S Q bs) := by
  have c0 : w.cell? ⟨gb, 0, none⟩ = some (.pointer (some ⟨gc, 0, none⟩)) := h.blk.cell 0
  have cc1 := s.cells.2
  have HH := Lib.hid h
  have HS := Lib.hid hS
  have HQ := Lib.hid hQ
  have hb := hbw w (Chg.refl _ _)
  have HBW := Lib.hid hbw
  have HLN := Lib.hid hlen
  have HBN := Lib.hid hB
  have HSS := Lib.hid s
  have HSUM := s.sum hL hfew
  obtain ⟨bo, bn, hbs⟩ := hb.shape
  rcases HSUM with ⟨rfl, C⟩ | ⟨gb', rfl, C⟩
  focus
    have CS := Lib.hid (C bv bs hb (by omega))
  rotate_left
  focus
    have CS := Lib.hid (C bv bs hb (by unfold maxLen; omega))
  all_goals (
    rw [hbs] at CS HBW
    rw [hbs]
    obtain ⟨q, hq⟩ : ∃ q, q = bs.length := ⟨_, rfl⟩
    rw [← hq] at CS HBW ⊢
    clear C s hb hbs hbw hlen hB h hS hQ hq
    have hm1 := sum_real
    have hm2 := sum_book
    go_enter Tryz.func22, Tryz.ntmps22
    go_wp2_with fail
    refine CS.out.mono ?_
    rintro e w1 ⟨r, rfl, o1, s1, far1⟩
    have hz1 := far1.size
    have IB1 : IsB w1 (.slice bo q bn) bs := HBW.out w1 far1
    have BT1 : BtAt S w1 gb gc bm fm B L := HH.out.chg far1 (fun e => e.1 HQ.out.1) (fun e => e.1 HQ.out.2.1) (fun e => e.1 HQ.out.2.2) (fun j hj e => by rcases HS.out j hj with h | h; exact e.1 h; omega)
    have cb1 : w1.cell? ⟨gb, 1, none⟩ = some (.map (some bm)) := BT1.blk.cell 1
    obtain ⟨ra, rc, rfl⟩ := o1.shape'
    rw [M.csum_length] at *
    have O1 : Own w1 w.heap.size (.slice ra (M.csum c bs).length rc) (M.csum c bs) := by rw [M.csum_length]; exact o1
    have HO1 := Lib.hid O1
    have S1 := Lib.hid s1
    have FAR1 := Lib.hid far1
    have HBT := Lib.hid BT1
    have HI1 := Lib.hid IB1
    have HC1 := Lib.hid cb1
    have HDG : Hid ((M.csum c bs).length = 32) := M.csum_length c bs
    obtain ⟨dg, hdg⟩ : ∃ d, d = M.csum c bs := ⟨_, rfl⟩
    have HDE := Lib.hid hdg
    rw [← hdg] at HO1 HDG
    have IR1 : Hid (IsB w1 (.slice ra 32 rc) dg) := by
      have := HO1.out.isB
      rwa [HDG.out] at this
    have LR1 : Hid (Lies (fun k => w.heap.size ≤ k ∧ k < w1.heap.size) (.slice ra 32 rc)) := by
      have := HO1.out.lies (S := fun k => w.heap.size ≤ k ∧ k < w1.heap.size) fun k h1 h2 => ⟨h1, h2⟩
      rwa [HDG.out] at this
    obtain ⟨nm, hnm⟩ : ∃ s : ByteArray, s = ⟨(98 :: dg).toArray⟩ := ⟨_, rfl⟩
    have HNM := Lib.hid hnm
    clear CS o1 s1 far1 hz1 IB1 BT1 cb1 O1 HO1 hdg hnm HBW HH HSS c0 cc1
    go_upto_region 2 with fail
    go_upto_region 2 with fail
    refine wp_region_any (by kernel_rfl) ?_
    change wpAny _ _ _ _ _ _ _ (World.drew _)
    refine wpAny_of_held (S := fun w' => IsB w' (.slice bo q bn) bs ∧ IsB w' (.slice ra 32 rc) dg ∧ w'.cell? ⟨gb, 1, none⟩ = some (.map (some bm))) _ _ _ _ ?_
    have K0 : Below w1.heap.size w1 w1.drew := (Below.refl _ _).drew
    have S0 : IsB w1.drew (.slice bo q bn) bs ∧ IsB w1.drew (.slice ra 32 rc) dg ∧ w1.drew.cell? ⟨gb, 1, none⟩ = some (.map (some bm)) := ⟨HI1.out.below K0, IR1.out.below K0, HC1.out⟩
    refine wpAnyH_take_at (i := 0) (v := .pointer (some ⟨gb, 0, none⟩)) rfl rfl (by kernel_rfl) (by kernel_rfl) (by kernel_rfl) (fun _ _ _ h => h) (Or.inl ⟨by rfl, fun w hS => by go_simp⟩) S0 ?_
    try simp only [List.setIfInBounds_toArray, List.set_cons_zero, List.set_cons_succ]
    refine wpAnyH_take_at (i := 1) (v := .pointer (some ⟨gb, 0, none⟩)) rfl rfl (by kernel_rfl) (by kernel_rfl) (by kernel_rfl) (fun _ _ _ h => h) (Or.inl ⟨by rfl, fun w hS => by go_simp⟩) S0 ?_
    try simp only [List.setIfInBounds_toArray, List.set_cons_zero, List.set_cons_succ]
    refine wpAnyH_take_at (i := 2) (v := .pointer (some ⟨gb, 1, none⟩)) rfl rfl (by kernel_rfl) (by kernel_rfl) (by kernel_rfl) (fun _ _ _ h => h) (Or.inl ⟨by rfl, fun w hS => by go_simp⟩) S0 ?_
    try simp only [List.setIfInBounds_toArray, List.set_cons_zero, List.set_cons_succ]
    refine wpAnyH_take_at (i := 3) (v := .map (some bm)) rfl rfl (by kernel_rfl) (by kernel_rfl) (by kernel_rfl) (fun _ _ _ h => h) (Or.inl ⟨by rfl, fun w hS => by have c := hS.2.2; go_simp⟩) S0 ?_
    try simp only [List.setIfInBounds_toArray, List.set_cons_zero, List.set_cons_succ]
    refine wpAnyH_take_at (i := 4) (v := .slice ra 32 rc) rfl rfl (by kernel_rfl) (by kernel_rfl) (by kernel_rfl) (fun _ _ _ h => h) (Or.inl ⟨by rfl, fun w hS => by go_simp⟩) S0 ?_
    try simp only [List.setIfInBounds_toArray, List.set_cons_zero, List.set_cons_succ]
    refine wpAnyH_take_at (i := 6) (v := .slice bo q bn) rfl rfl (by kernel_rfl) (by kernel_rfl) (by kernel_rfl) (fun _ _ _ h => h) (Or.inl ⟨by rfl, fun w hS => by go_simp⟩) S0 ?_
    try simp only [List.setIfInBounds_toArray, List.set_cons_zero, List.set_cons_succ]
    refine wpAnyH_ready (rs := [5]) (by kernel_rfl) (by simp) ?_
    refine AllReadyH.cons rfl (fun K hK => ?_) AllReadyH.nil
    go_simp
    have CN := name_any _ dg _ S0.2.1 (by have := HDG.out; omega)
    rw [← HNM.out] at CN
    refine CN.mono ?_
    rintro e w2 ⟨rfl, rfl⟩
    refine hK.out _ _ S0 (fun _ => ?_)
    clear hK CN
    refine wpAnyH_ready (rs := [7]) (by kernel_rfl) (by simp) ?_
    refine AllReadyH.cons rfl (fun K hK => ?_) AllReadyH.nil
    go_simp
    refine (clone9_any _ bs _ S0.1 (by have := HLN.out; omega)).mono ?_
    rintro e w2 ⟨rb, rfl, o2, k2⟩
    obtain ⟨ba, bc, rfl⟩ := o2.shape'
    have K2 : Below w1.heap.size w1 w2 := K0.trans (k2.mono K0.size)
    have S2 : IsB w2 (.slice bo q bn) bs ∧ IsB w2 (.slice ra 32 rc) dg ∧ w2.cell? ⟨gb, 1, none⟩ = some (.map (some bm)) := ⟨HI1.out.below K2, IR1.out.below K2, (K2.cell (p := ⟨gb, 1, none⟩) (World.block_lt_of_cell? _ _ HC1.out)).trans HC1.out⟩
    refine hK.out _ _ S2 (fun _ => ?_)
    clear hK S0
    refine wpAnyH_ready (rs := [8]) (by kernel_rfl) (by simp) ?_
    refine AllReadyH.cons rfl (fun K hK => ?_) AllReadyH.nil
    have hz1 := FAR1.out.size
    have hz2 := K2.size
    obtain ⟨w3, hr, h3, hc3, hg3, hz3, hi3⟩ := (HBT.out.below K2).mono (S' := fun b => S b ∨ (w.heap.size ≤ b ∧ b < w2.heap.size)) (fun _ h => .inl h) |>.storeB (98 :: dg) _ bs (by rw [List.length_cons, HDG.out]; unfold maxLen; omega) o2.isB (o2.lies fun k h1 h2 => .inr ⟨Nat.le_trans hz1 h1, h2⟩) o2.nil0 HBN.out
    rw [← HNM.out] at hr
    go_simp
    refine hK.out _ _ ⟨hi3 _ _ S2.1, hi3 _ _ S2.2.1, hg3.cell S2.2.2 (by intro e; injection e with e; exact HBT.out.n1 e)⟩ (fun _ => ?_)
    clear hK
    have H3 := Lib.hid (h3.mono (S' := fun b => S b ∨ (w.heap.size ≤ b ∧ b < w3.heap.size)) fun b hb => hb.imp_right fun h => ⟨h.1, by rw [hz3]; exact h.2⟩)
    have IR3 := Lib.hid (hi3 _ _ S2.2.1)
    have ST2 := (S1.out.below K2).ref (P := fun b => b = bm) (fun k e => .inl (.inl (e ▸ HQ.out.2.1))) hc3
    have ST3 : Hid (CasSt w0 w3 g gf gc N F (M.cnext c bs) _ (fun b => Q b ∨ (w.heap.size ≤ b ∧ b < w3.heap.size))) := ST2.less fun k hk => by
      rcases hk with hk | hk
      · exact .inl (.inl (.inl hk))
      · by_cases h1 : k < w1.heap.size
        · exact .inl (.inl (.inr ⟨hk.1, h1⟩))
        · exact .inl (.inr ⟨by omega, by omega⟩)
    have C3 : Hid (Chg (fun k => k = bm ∨ (¬ Q k ∧ w0.heap.size ≤ k)) w w3) := ((FAR1.out.mono fun k _ h => .inr h).trans (Chg.of_below (F := fun k => k = bm) K2) fun k _ h => .inl h).trans hc3 fun k _ h => .inl h
    have L3 : Hid (Lies (fun k => w.heap.size ≤ k ∧ k < w3.heap.size) (.slice ra 32 rc)) := LR1.out.mono fun k hk => ⟨hk.1, by omega⟩
    refine wpAnyH_done (by kernel_rfl) ?_ _
    clear S2 hr h3 hc3 hg3 hz3 hi3 K2 k2 o2 K0 ST2 hz1 hz2
    go_wp2
    go_ret
    rw [HDE.out] at H3 IR3
    exact ⟨_, rfl, IR3.out, L3.out, ST3.out, H3.out, C3.out⟩)

end

end Go.Proofs.YtphcbpfpelonaaaGreatDoor

namespace Go.Proofs.YtphcbpfpelonaaaGreatDoor
open Go.RowKit Go.Maps
set_option linter.unusedVariables false
set_option maxRecDepth 100000

theorem ranges_chg {F : Nat → Prop} {w w' : World} {b r n : Nat} {D : DataW Value} {left : Lit → Bool} {cnt : Nat} (h : w.ranges Tryz.prog 9 asR b r n D left cnt) (k : Chg F w w') (hb : ¬ F b) (hr : ¬ F r) : w'.ranges Tryz.prog 9 asR b r n D left cnt := by
  have h1 := h.owns.lt
  have h2 := h.lt
  obtain ⟨es, clock, since, seen, c0, hb', F', hs, hD, hr', rest⟩ := h
  exact ⟨es, clock, since, seen, c0, (k.block b h1 hb).trans hb', F', hs, hD, (k.block r h2 hr).trans hr', rest⟩

/-- What lies in cells stays while a range goes on. -/
theorem IsB.iter {w w' : World} {b : Nat} {v : Value} {bs : List UInt8} (h : IsB w v bs) (hb : ∃ x y z u, w.heap[b]? = some (.mapIter x y z u)) (g : w.grownBy w' (some b)) : IsB w' v bs := by
  obtain ⟨ao, cap, rfl, h1, h2, h3⟩ := h
  refine ⟨ao, cap, rfl, h1, h2, ?_⟩
  rcases h3 with h | ⟨k, off, rfl, h⟩
  · exact .inl h
  · refine .inr ⟨k, off, rfl, fun i hi => ?_⟩
    have hc := h i hi
    have hne : some k ≠ some b := by
      intro e
      injection e with e
      subst e
      obtain ⟨x, y, z, u, hb⟩ := hb
      simp [World.cell?, hb] at hc
    exact g.cell (a := ⟨k, off + i, none⟩) hc hne

/-- maps.Clone of a map of changes. -/
theorem chClone_any {w : World} {b : Nat} {es : M.KL Value} (h : IsMp w b es) : Calls Tryz.prog 67 #[.map (some b)] w fun e w' => e = .returned (.map (some w.heap.size)) ∧ IsMp w' w.heap.size es ∧ Below w.heap.size w w' := by
  have C := AnyW.maps_Clone_owns lay_mcloneB 9 asR b es.length (.map (mpL es)) w h
  change Calls Tryz.prog 67 _ _ _ at C
  refine C.mono ?_
  rintro e w' ⟨he, h1, _, h2⟩
  exact ⟨he, h1, h2⟩

namespace M
/-- What is to be done, some blobs being still to come. -/
def chLeft (F : Fs) (B : KL (List UInt8)) (L : Chs) (left : Lit → Bool) (k : List UInt8) : Option (List UInt8 × Bool) := if left (.string k) = true then kget L k else chAt F B L k

theorem chLeft_step {F : Fs} {B : KL (List UInt8)} {L acc : Chs} {left : Lit → Bool} (hr : KRise acc) (ha : ∀ k, kget acc k = chLeft F B L left k) {x d : List UInt8} (hx : kget B x = some d) (hl : left (.string x) = true) (k : List UInt8) :
    kget (chStep F acc (x, d)) k = chLeft F B L (fun z => left z && !z.sameKey (.string x)) k := by
  have e1 : chStep F acc (x, d) = if look F x = some d then acc else kput acc x (d, false) := rfl
  by_cases e : k = x
  · subst e
    have h1 : (left (Lit.string k) && !(Lit.string k).sameKey (Lit.string k)) = false := by simp [Lit.sameKey]
    have h2 : chLeft F B L (fun z => left z && !z.sameKey (.string k)) k = chAt F B L k := by
      show (if (left (Lit.string k) && !(Lit.string k).sameKey (Lit.string k)) = true then kget L k else chAt F B L k) = _
      rw [h1]
      rfl
    have h3 : chAt F B L k = if look F k = some d then kget L k else some (d, false) := by rw [chAt, hx]
    rw [h2, h3, e1]
    by_cases hf : look F k = some d
    · rw [if_pos hf, if_pos hf, ha, chLeft, if_pos hl]
    · rw [if_neg hf, if_neg hf, kget_kput hr, if_pos rfl]
  · have h1 : (left (Lit.string k) && !(Lit.string k).sameKey (Lit.string x)) = left (Lit.string k) := by
      have : (Lit.string k).sameKey (Lit.string x) = false := by simpa [Lit.sameKey] using e
      rw [this]; simp
    have h2 : chLeft F B L (fun z => left z && !z.sameKey (.string x)) k = chLeft F B L left k := by
      show (if (left (Lit.string k) && !(Lit.string k).sameKey (Lit.string x)) = true then kget L k else chAt F B L k) = _
      rw [h1]
      rfl
    rw [h2, ← ha k, e1]
    by_cases hf : look F x = some d
    · rw [if_pos hf]
    · rw [if_neg hf, kget_kput hr, if_neg e]
end M

/-- What changes hands back. -/
def ChgEnds (S : Nat → Prop) (w : World) (F : M.Fs) (B : M.KL (List UInt8)) (L : M.Chs) (e : Ending) (w' : World) : Prop :=
  ∃ cm, e = .returned (.map (some cm)) ∧ (∃ ef, IsMp w' cm ef ∧ M.KRel (ChQ S w') ef (M.changes F B L)) ∧ Below w.heap.size w w' ∧ w.heap.size ≤ cm

section
variable {S : Nat → Prop} {w0 w : World} {g gf gc gb bm fm N : Nat} {B : M.KL (List UInt8)} {L : M.Chs} {F : M.Fs} {Q : Nat → Prop} {c : M.Cr} {cv : Value}


set_option maxHeartbeats 8000000 in
theorem CasSt.changes (s : CasSt w0 w g gf gc N F c cv Q) (h : BtAt S w gb gc bm fm B L) (hB : B.length + L.length < 10000) :
    Calls Tryz.prog 42 #[.pointer (some ⟨gb, 0, none⟩)] w (ChgEnds S w F B L) := by
  have c0 : w.cell? ⟨gb, 0, none⟩ = some (.pointer (some ⟨gc, 0, none⟩)) := h.blk.cell 0
  have c1 : w.cell? ⟨gb, 1, none⟩ = some (.map (some bm)) := h.blk.cell 1
  have c2 : w.cell? ⟨gb, 2, none⟩ = some (.map (some fm)) := h.blk.cell 2
  have cc := s.cells.1
  have hlt := h.lt
  have HRB := Lib.hid h.riseB
  have HRL := Lib.hid h.riseL
  obtain ⟨eb, mb, rb⟩ := h.bl
  obtain ⟨ef, mf, rf⟩ := h.fl
  have CC := Lib.hid (chClone_any mf)
  have SS := Lib.hid s
  have MB := Lib.hid mb
  have RB := Lib.hid rb
  have RF := Lib.hid rf
  have HBL := Lib.hid hB
  have HLT := Lib.hid hlt
  have K0 := Lib.hid (fun (x : World) (k : Below w.heap.size w x) => (⟨(k.cell (p := ⟨gb, 0, none⟩) (World.block_lt_of_cell? _ _ c0)).trans c0, (k.cell (p := ⟨gc, 0, none⟩) (World.block_lt_of_cell? _ _ cc)).trans cc⟩ : x.cell? ⟨gb, 0, none⟩ = some (.pointer (some ⟨gc, 0, none⟩)) ∧ x.cell? ⟨gc, 0, none⟩ = some (.pointer (some ⟨gf, 0, none⟩))))
  clear s h mb rb mf hB hlt cc c0
  go_enter Tryz.func42, Tryz.ntmps42
  go_wp2_with fail
  refine CC.out.mono ?_
  rintro e w1 ⟨rfl, mc, k1⟩
  obtain ⟨cm, hcm⟩ : ∃ x, Hid (x = w.heap.size) := ⟨_, rfl⟩
  rw [← hcm.out] at mc ⊢
  have c11 : w1.cell? ⟨gb, 1, none⟩ = some (.map (some bm)) := (k1.cell (p := ⟨gb, 1, none⟩) (World.block_lt_of_cell? _ _ c1)).trans c1
  have MC := Lib.hid mc
  have K1 := Lib.hid k1
  have OW : Hid (w1.ownsMap Tryz.prog 9 asR bm eb.length (.map (mpL eb))) := MB.out.below k1
  have RF1 : Hid (M.KRel (ChQ S w1) ef L) := RF.out.mono fun kk v x q => by
    obtain ⟨y, e, q1, q2⟩ := q
    exact ⟨y, e, q1.below k1, q2⟩
  clear CC c1 c2 mc k1
  go_wp2_with (at_range; refine wpList_range_own _ rfl _ 87 rfl 9 38 keyed Tryz.underlying87 asR bm eb.length (.map (mpL eb)) rfl OW.out ?_; intro w2 hrg2 hg2 hs2; go_frame)
  obtain ⟨ri, hri⟩ : ∃ x, Hid (x = w1.heap.size) := ⟨_, rfl⟩
  rw [← hri.out] at hrg2 ⊢
  have RG2 := Lib.hid hrg2
  have K2 : Hid (Below w.heap.size w w2) := K1.out.grown hg2 K1.out.size fun j hj => by cases hj
  have c12 : Chg (fun _ => False) w1 w2 := Chg.of_grown hg2 fun k hk => by cases hk
  have MC2 : Hid (IsMp w2 cm ef) := MC.out.chg c12 fun h => h
  have RF2 : Hid (M.KRel (ChQ S w2) ef L) := RF1.out.mono fun kk v x q => by
    obtain ⟨y, e, q1, q2⟩ := q
    exact ⟨y, e, q1.chg c12 (q2.1.mono fun _ _ h => h), q2⟩
  have HR : Hid (w.heap.size ≤ cm ∧ w.heap.size ≤ ri ∧ cm ≠ ri ∧ bm < w.heap.size) := by
    have h1 := hcm.out
    have h2 := hri.out
    have h3 := MC.out.lt
    have h4 := K1.out.size
    have h5 := HLT.out.2.1
    exact ⟨by omega, by omega, by omega, h5⟩
  clear hrg2 hg2 hs2 c11 MC OW RF1 hri c12 hcm K1 RF rf
  go_loopw [4] (fun _ wr => ∃ (left : Lit → Bool) (cnt : Nat) (er : M.KL Value) (acc : M.Chs), Hid (wr.ranges Tryz.prog 9 asR bm ri eb.length (.map (mpL eb)) left cnt) ∧ Hid (IsMp wr cm er) ∧ Hid (M.KRel (ChQ S wr) er acc) ∧ Hid (acc.length ≤ L.length + (eb.length - cnt) ∧ cnt ≤ eb.length) ∧ Hid (∀ k, M.kget acc k = M.chLeft F B L left k) ∧ Hid (Below w.heap.size w wr))
    (fun _ wr => wr.rangeLeft bm ri)
  case atStart =>
    refine ⟨_, _, ef, L, RG2.out, MC2.out, RF2.out, ⟨by omega, by rw [Maps.size_eq, mpL_length]; exact Nat.le_refl _⟩, fun k => ?_, K2.out⟩
    rw [M.chLeft, has_mp]
    rcases RB.out.get k with ⟨h1, h2⟩ | ⟨x, y, h1, h2, _⟩
    · rw [h1, M.chAt, h2]
      rfl
    · rw [h1]
      rfl
  case round =>
    obtain ⟨wz, rfl⟩ : ∃ x, x = wr := ⟨_, rfl⟩
    obtain ⟨left, cnt, er, acc, hrg, mc, rc, hl, hk, kk⟩ := hrel
    clear RG2 MC2 RF2
    go_wp2_with (at_next; refine wpList_next_ranges _ rfl _ rfl 9 keyed asR encStr (fun v : Value => v) (fun key kl hk => by obtain ⟨x, hx, _⟩ := Maps.keyOf_str Tryz.underlying9 hk; exact ⟨x, hx⟩) (fun v y hv => ⟨v, rfl⟩) bm ri eb.length _ _ _ rfl hrg.out ?_ ?_)
    · intro hc0 hl0
      have HA : Hid (acc = M.changes F B L) := M.kext (rc.out.rise mc.out.rise) (M.rise_changes B HRL.out) fun k => by
        rw [hk.out, M.chLeft, hl0, if_neg (by decide), M.get_changes B HRB.out HRL.out]
      clear hc0 hl0
      go_wp2
      go_ret
      exact ⟨cm, rfl, ⟨er, mc.out, by rw [← HA.out]; exact rc.out⟩, kk.out, HR.out.1⟩
    · intro x v kl yd yp w3 cnt2 hkey hlk hv hat hrg2 hlt2 hg2 hs2 hen
      obtain ⟨x', ex, rfl, hxl⟩ := Maps.keyOf_str Tryz.underlying9 hkey
      obtain rfl : x = x' := by
        injection ex with ex
        injection ex with ex
        simpa using ex
      have hgt := mp_who (y := (yd, yp)) hat hv
      obtain ⟨d, hgd, bq⟩ : ∃ d, M.kget B x = some d ∧ BlQ S w x v d := by
        rcases RB.out.get x with ⟨h1, h2⟩ | ⟨v', d, h1, h2, q⟩
        · rw [hgt] at h1; cases h1
        · rw [hgt] at h1
          injection h1 with h1
          subst h1
          exact ⟨d, h2, q⟩
      have c3 : Chg (fun b => b = ri) wz w3 := Chg.of_grown hg2 fun k hk => by injection hk with hk; exact hk.symm
      have K3 : Hid (Below w.heap.size w w3) := kk.out.grown hg2 kk.out.size fun j hj => by injection hj with hj; rw [← hj]; exact HR.out.2.1
      have MC3 : Hid (IsMp w3 cm er) := mc.out.chg c3 HR.out.2.2.1
      have hit : ∃ x y z u, wz.heap[ri]? = some (.mapIter x y z u) := by
        obtain ⟨es, clock, since, seen, c0, _, _, _, _, hr, _⟩ := hrg.out
        exact ⟨_, _, _, _, hr⟩
      have hnr : ∀ u bs, IsB wz u bs → IsB w3 u bs := fun u bs h => h.iter hit hg2
      have RC3 : Hid (M.KRel (ChQ S w3) er acc) := rc.out.mono fun kk v x q => by
        obtain ⟨y, e, q1, q2⟩ := q
        exact ⟨y, e, hnr _ _ q1, q2⟩
      have RG3 := Lib.hid hrg2
      have HLT3 := Lib.hid hlt2
      have HRG := Lib.hid hrg.out.left_eq
      have HXL := Lib.hid hxl
      have BQ : Hid (IsB w v d ∧ Lies S v ∧ (∀ n c, v = .slice none n c → c = 0)) := ⟨bq.1, bq.2.1, bq.2.2.1⟩
      have HST : Hid (∀ k, M.kget (M.chStep F acc (x, d)) k = M.chLeft F B L (fun z => left z && !z.sameKey (.string x)) k) := M.chLeft_step (rc.out.rise mc.out.rise) hk.out hgd hlk
      obtain ⟨va, vc, rfl⟩ := bq.1.shape
      have HEN := hen
      have cc := (K0.out w3 K3.out)
      have cc0 := cc.1
      have cc1 := cc.2
      have HAC : Hid (acc.length ≤ L.length + (eb.length - cnt) ∧ cnt ≤ eb.length) := hl.out
      clear hkey hlk hv hat hrg2 hlt2 hg2 hs2 hgt hgd bq hxl c3 hnr hit hl hk kk rc mc hrg cc hen ex
      obtain ⟨snm, hsnm⟩ : ∃ s : ByteArray, s = ⟨x.toArray⟩ := ⟨_, rfl⟩
      have HSN := Lib.hid hsnm
      have hen2 : (Instr.entry (.pointer (some ⟨ri, 0, none⟩))).run Tryz.prog w3 = .ok (.tuple #[.string snm, .slice va d.length vc]) w3 := by rw [hsnm]; exact HEN
      rw [show encStr x = Value.string snm from (congrArg Value.string hsnm).symm]
      obtain ⟨dn, hdn⟩ : ∃ n, n = d.length := ⟨_, rfl⟩
      rw [← hdn] at hen2 BQ ⊢
      have HDN := Lib.hid hdn
      clear HEN hdn hsnm
      cases hlk : M.look F x with
      | none =>
        have HST2 : Hid (∀ k, M.kget (M.kput acc x (d, false)) k = M.chLeft F B L (fun z => left z && !z.sameKey (.string x)) k) := fun k => by
          have := HST.out k
          rwa [M.chStep, if_neg (by rw [hlk]; intro e; cases e)] at this
        have CR := Lib.hid ((SS.out.see K3.out).fread_no x HXL.out hlk)
        rw [← HSN.out] at CR
        clear hlk HST
        go_wp2_with fail
        refine CR.out.mono ?_
        rintro e w4 ⟨rfl, k4⟩
        have mc4 := MC3.out.below k4
        have rg4 : w4.ranges Tryz.prog 9 asR bm ri eb.length (.map (mpL eb)) (fun z => left z && !z.sameKey (.string x)) cnt2 := ranges_chg RG3.out (Chg.of_below (F := fun _ => False) k4) (fun h => h) (fun h => h)
        have iv4 : IsB w4 (.slice va dn vc) d := BQ.out.1.below (K3.out.trans (k4.mono K3.out.size))
        obtain ⟨w6, hr, m6, hg6, hz6⟩ := mc4.store Tryz.underlying88 x (.agg #[.string ⟨x.toArray⟩, .slice va dn vc, .bool false]) HXL.out (by rw [RC3.out.len]; have h1 := HAC.out; have h2 := HBL.out; have h3 := RB.out.len; omega)
        have c6 : Chg (fun b => b = cm) w4 w6 := Chg.of_grown hg6 fun k hk => by injection hk with hk; exact hk.symm
        have hi : ∀ v bs, IsB w4 v bs → IsB w6 v bs := fun v bs h => h.turned mc4.isMap hg6
        have RC6 : Hid (M.KRel (ChQ S w6) (M.kput er x (.agg #[.string ⟨x.toArray⟩, .slice va dn vc, .bool false])) (M.kput acc x (d, false))) := (RC3.out.mono (Q' := ChQ S w6) fun kk v x q => by
          obtain ⟨y, e, q1, q2⟩ := q
          exact ⟨y, e, hi _ _ (q1.below k4), q2⟩).put x _ _ ⟨_, rfl, hi _ _ iv4, BQ.out.2.1, BQ.out.2.2, HXL.out⟩
        have RG6 : Hid (w6.ranges Tryz.prog 9 asR bm ri eb.length (.map (mpL eb)) (fun z => left z && !z.sameKey (.string x)) cnt2) := ranges_chg rg4 c6 (fun e => by have := HR.out; omega) (fun e => HR.out.2.2.1 e.symm)
        have K6 : Hid (Below w.heap.size w w6) := (K3.out.trans (k4.mono K3.out.size)).trans (c6.below (Nat.le_trans K3.out.size k4.size) fun k e => by subst e; exact HR.out.1)
        have M6 := Lib.hid m6
        rw [← HSN.out] at hr
        clear mc4 rg4 iv4 c6 hi k4 m6 hg6 hz6
        go_wp2
        go_roundw
        case rel => exact ⟨_, cnt2, _, _, RG6.out, M6.out, RC6.out, ⟨by have h1 := HAC.out; have h2 := HLT3.out; have h3 := M.kput_le acc x (d, false); omega, by have h1 := HAC.out; have h2 := HLT3.out; omega⟩, HST2.out, K6.out⟩
        case measure => rw [RG6.out.left_eq, HRG.out]; exact HLT3.out
      | some fd =>
        have CR := Lib.hid ((SS.out.see K3.out).fread x fd hlk)
        rw [← HSN.out] at CR
        by_cases hfd : fd = d
        · have HST2 : Hid (∀ k, M.kget acc k = M.chLeft F B L (fun z => left z && !z.sameKey (.string x)) k) := fun k => by
            have := HST.out k
            rwa [M.chStep, if_pos (by rw [hlk, hfd])] at this
          have HFD : Hid (decide (fd = d) = true) := decide_eq_true hfd
          clear hlk HST hfd
          go_wp2_with fail
          refine CR.out.mono ?_
          rintro e w4 ⟨r, rfl, o4, k4⟩
          have CE := Lib.hid (bytesEqual_all r _ fd d w4 o4.isB (BQ.out.1.below (K3.out.trans (k4.mono K3.out.size))))
          rw [HFD.out] at CE
          have K4 := Lib.hid k4
          clear CR o4 k4 cc0 cc1 hen2
          go_wp2_with fail
          refine CE.out.mono ?_
          rintro e w5 ⟨rfl, rfl⟩
          clear CE
          go_wp2
          go_roundw
          case rel => exact ⟨_, cnt2, er, acc, ranges_chg RG3.out (Chg.of_below (F := fun _ => False) K4.out) (fun h => h) (fun h => h), MC3.out.below K4.out, RC3.out.mono fun kk v x q => by
              obtain ⟨y, e, q1, q2⟩ := q
              exact ⟨y, e, q1.below K4.out, q2⟩, ⟨by have := HAC.out; have := HLT3.out; omega, by have := HAC.out; have := HLT3.out; omega⟩, HST2.out, K3.out.trans (K4.out.mono K3.out.size)⟩
          case measure => rw [(ranges_chg RG3.out (Chg.of_below (F := fun _ => False) K4.out) (fun h => h) (fun h => h)).left_eq, HRG.out]; exact HLT3.out
        · have HST2 : Hid (∀ k, M.kget (M.kput acc x (d, false)) k = M.chLeft F B L (fun z => left z && !z.sameKey (.string x)) k) := fun k => by
            have := HST.out k
            rwa [M.chStep, if_neg (by rw [hlk]; intro e; injection e with e; exact hfd e)] at this
          have HFD : Hid (decide (fd = d) = false) := decide_eq_false hfd
          clear hlk HST hfd
          go_wp2_with fail
          refine CR.out.mono ?_
          rintro e w4 ⟨r, rfl, o4, k4⟩
          have CE := Lib.hid (bytesEqual_all r _ fd d w4 o4.isB (BQ.out.1.below (K3.out.trans (k4.mono K3.out.size))))
          rw [HFD.out] at CE
          clear o4
          go_wp2_with fail
          refine CE.out.mono ?_
          rintro e w5 ⟨rfl, rfl⟩
          clear CE
          have mc4 := MC3.out.below k4
          have rg4 : w5.ranges Tryz.prog 9 asR bm ri eb.length (.map (mpL eb)) (fun z => left z && !z.sameKey (.string x)) cnt2 := ranges_chg RG3.out (Chg.of_below (F := fun _ => False) k4) (fun h => h) (fun h => h)
          have iv4 : IsB w5 (.slice va dn vc) d := BQ.out.1.below (K3.out.trans (k4.mono K3.out.size))
          obtain ⟨w6, hr, m6, hg6, hz6⟩ := mc4.store Tryz.underlying88 x (.agg #[.string ⟨x.toArray⟩, .slice va dn vc, .bool false]) HXL.out (by rw [RC3.out.len]; have h1 := HAC.out; have h2 := HBL.out; have h3 := RB.out.len; omega)
          have c6 : Chg (fun b => b = cm) w5 w6 := Chg.of_grown hg6 fun k hk => by injection hk with hk; exact hk.symm
          have hi : ∀ v bs, IsB w5 v bs → IsB w6 v bs := fun v bs h => h.turned mc4.isMap hg6
          have RC6 : Hid (M.KRel (ChQ S w6) (M.kput er x (.agg #[.string ⟨x.toArray⟩, .slice va dn vc, .bool false])) (M.kput acc x (d, false))) := (RC3.out.mono (Q' := ChQ S w6) fun kk v x q => by
            obtain ⟨y, e, q1, q2⟩ := q
            exact ⟨y, e, hi _ _ (q1.below k4), q2⟩).put x _ _ ⟨_, rfl, hi _ _ iv4, BQ.out.2.1, BQ.out.2.2, HXL.out⟩
          have RG6 : Hid (w6.ranges Tryz.prog 9 asR bm ri eb.length (.map (mpL eb)) (fun z => left z && !z.sameKey (.string x)) cnt2) := ranges_chg rg4 c6 (fun e => by have := HR.out; omega) (fun e => HR.out.2.2.1 e.symm)
          have K6 : Hid (Below w.heap.size w w6) := (K3.out.trans (k4.mono K3.out.size)).trans (c6.below (Nat.le_trans K3.out.size k4.size) fun k e => by subst e; exact HR.out.1)
          have M6 := Lib.hid m6
          rw [← HSN.out] at hr
          clear mc4 rg4 iv4 c6 hi k4 m6 hg6 hz6
          go_wp2
          go_roundw
          case rel => exact ⟨_, cnt2, _, _, RG6.out, M6.out, RC6.out, ⟨by have h1 := HAC.out; have h2 := HLT3.out; have h3 := M.kput_le acc x (d, false); omega, by have h1 := HAC.out; have h2 := HLT3.out; omega⟩, HST2.out, K6.out⟩
          case measure => rw [RG6.out.left_eq, HRG.out]; exact HLT3.out

end

end Go.Proofs.YtphcbpfpelonaaaGreatDoor

namespace Go.Proofs.YtphcbpfpelonaaaGreatDoor
open Go.RowKit Go.Maps
set_option linter.unusedVariables false
set_option maxRecDepth 100000

/-- The cells of changes. -/
def ccs : M.FL → List Value → List Value
  | f :: F, x :: xs => .string ⟨f.nm.toArray⟩ :: x :: .bool f.gone :: ccs F xs
  | _, _ => []

theorem ccs_append : ∀ {F G : M.FL} {xs ys : List Value}, xs.length = F.length → ccs (F ++ G) (xs ++ ys) = ccs F xs ++ ccs G ys
  | [], G, [], ys, _ => rfl
  | f :: F, G, x :: xs, ys, h => by
    have := ccs_append (F := F) (G := G) (xs := xs) (ys := ys) (by simpa using h)
    rw [List.cons_append, List.cons_append, ccs, this]
    rfl

theorem ccs_at : ∀ {F : M.FL} {xs : List Value} (i : Nat), xs.length = F.length → i < F.length → (ccs F xs)[i * 3]? = some (.string ⟨(F.getD i default).nm.toArray⟩) ∧ (ccs F xs)[i * 3 + 1]? = some (xs.getD i undef) ∧ (ccs F xs)[i * 3 + 2]? = some (.bool (F.getD i default).gone)
  | f :: F, x :: xs, 0, _, _ => ⟨rfl, rfl, rfl⟩
  | f :: F, x :: xs, i + 1, h, hi => by
    have ih := ccs_at (F := F) (xs := xs) i (by simpa using h) (by simpa using hi)
    rw [show (i + 1) * 3 = i * 3 + 3 by omega, ccs]
    exact ih

theorem rowsC : RowTy 22 58 3 48 (.agg #[.string ⟨#[]⟩, .slice none 0 0, .bool false]) := ⟨Tryz.underlying22, by kernel_rfl, rfl, by decide⟩

/-- A row of changes of the call's own, from block B on, whose bytes lie in S. -/
structure OwnFL (S : Nat → Prop) (w : World) (B : Nat) (v : Value) (l : M.FL) (xs : List Value) : Prop where
  row : w.ownsRow B 58 3 v l.length (ccs l xs)
  len : xs.length = l.length
  each : ∀ i, i < l.length → IsB w (xs.getD i undef) (l.getD i default).data ∧ (∀ n c, xs.getD i undef = .slice none n c → c = 0) ∧ Lies S (xs.getD i undef) ∧ (l.getD i default).nm.length ≤ maxLen

theorem OwnFL.nil (S : Nat → Prop) (w : World) (B : Nat) : OwnFL S w B (.slice none 0 0) [] [] := ⟨World.ownsRow_nil _ _ _ _, rfl, fun i hi => by cases hi⟩

theorem OwnFL.chg {S F : Nat → Prop} {w w' : World} {B : Nat} {v : Value} {l : M.FL} {xs : List Value} (h : OwnFL S w B v l xs) (c : Chg F w w') (h1 : ∀ b, v.ownBlock = some b → ¬ F b) (h2 : ∀ k, S k → ¬ F k) : OwnFL S w' B v l xs :=
  ⟨own_chg h.row c h1, h.len, fun i hi => ⟨(h.each i hi).1.chg c ((h.each i hi).2.2.1.mono h2), (h.each i hi).2⟩⟩

theorem OwnFL.below {S : Nat → Prop} {w w' : World} {B : Nat} {v : Value} {l : M.FL} {xs : List Value} (h : OwnFL S w B v l xs) (c : Below w.heap.size w w') : OwnFL S w' B v l xs :=
  h.chg (Chg.of_below (F := fun _ => False) c) (fun _ _ h => h) fun _ _ h => h

theorem OwnFL.isFL {S : Nat → Prop} {w : World} {B : Nat} {v : Value} {l : M.FL} {xs : List Value} (h : OwnFL S w B v l xs) : IsFL w v l xs := by
  have he := fun i hi => (⟨(h.each i hi).1, (h.each i hi).2.1, (h.each i hi).2.2.2⟩ : IsB w (xs.getD i undef) (l.getD i default).data ∧ (∀ n c, xs.getD i undef = .slice none n c → c = 0) ∧ (l.getD i default).nm.length ≤ maxLen)
  have hr := h.row
  obtain ⟨ao, cap, rfl⟩ := ownShape h.row
  rcases h.row.2 with ⟨e, hn⟩ | ⟨g, cap', cur, e, hb, hg, hn, hm, hs, ht⟩
  · injection e with e1 e2 e3
    refine ⟨ao, cap, rfl, by omega, by unfold maxLen; omega, h.len, he, .inl (by cases l; rfl; simp at hn)⟩
  · injection e with e1 e2 e3
    subst e1 e3
    refine ⟨_, cap, rfl, by omega, hm, h.len, he, ?_⟩
    by_cases h0 : l = []
    · exact .inl h0
    · refine .inr ⟨g, 0, rfl, fun i hi => ?_⟩
      obtain ⟨g2, e9, _, cs, _⟩ := ownCells hr (by cases l; exact absurd rfl h0; simp)
      injection e9 with e9
      injection e9 with e9
      subst e9
      have ha := ccs_at i h.len hi
      have hc : ∀ j u, (ccs l xs)[j]? = some u → w.cell? ⟨g, 0 + j, none⟩ = some u := fun j u hj => by
        rw [Nat.zero_add, cs j (List.getElem?_eq_some_iff.1 hj).1, hj]
      exact ⟨hc _ _ ha.1, by rw [Nat.add_assoc]; exact hc _ _ ha.2.1, by rw [Nat.add_assoc]; exact hc _ _ ha.2.2⟩

/-- One more, that was appended. -/
theorem OwnFL.add {S : Nat → Prop} {w w' : World} {B : Nat} {v v' x : Value} {l : M.FL} {xs : List Value} {c : M.FC} (h : OwnFL S w B v l xs) (hS : ∀ k, S k → k < B) (hx : IsB w x c.data) (h0 : ∀ n c, x = .slice none n c → c = 0) (hl : Lies S x) (hn : c.nm.length ≤ maxLen)
    (o : w'.ownsRow B 58 3 v' (l.length + 1) (ccs l xs ++ [.string ⟨c.nm.toArray⟩, x, .bool c.gone])) (g : w.grownBy w' v.ownBlock) : OwnFL S w' B v' (l ++ [c]) (xs ++ [x]) where
  row := by
    rw [ccs_append h.len, List.length_append]
    exact o
  len := by rw [List.length_append, List.length_append, h.len]; rfl
  each := fun i hi => by
    have c4 : Chg (fun b => v.ownBlock = some b) w w' := Chg.of_grown g fun k hk => hk
    have hv : ∀ b, v.ownBlock = some b → B ≤ b := fun b hb => (h.row.lt b hb).1
    have hi' : i < l.length + 1 := by simpa using hi
    by_cases hlt : i < l.length
    · have e1 : (xs ++ [x]).getD i undef = xs.getD i undef := by rw [List.getD_eq_getElem?_getD, List.getElem?_append_left (by rw [h.len]; exact hlt), ← List.getD_eq_getElem?_getD]
      have e2 : (l ++ [c]).getD i default = l.getD i default := by rw [List.getD_eq_getElem?_getD, List.getElem?_append_left hlt, ← List.getD_eq_getElem?_getD]
      rw [e1, e2]
      obtain ⟨h1, h2, h3, h4⟩ := h.each i hlt
      exact ⟨h1.chg c4 (h3.mono fun k hk e => by have := hv k e; have := hS k hk; omega), h2, h3, h4⟩
    · obtain rfl : i = l.length := by omega
      have e1 : (xs ++ [x]).getD l.length undef = x := by rw [← h.len]; simp [List.getD_eq_getElem?_getD]
      have e2 : (l ++ [c]).getD l.length default = c := by simp [List.getD_eq_getElem?_getD]
      rw [e1, e2]
      exact ⟨hx.chg c4 (hl.mono fun k hk e => by have := hv k e; have := hS k hk; omega), h0, hl, hn⟩

theorem M.todo_next {F : M.Fs} (C : M.Chs) (j : Nat) (hj : j < C.length) : ((C.take (j + 1)).filter (M.does F)).map M.toFC = ((C.take j).filter (M.does F)).map M.toFC ++ (if M.does F (C.getD j default) = true then [M.toFC (C.getD j default)] else []) := by
  rw [M.take_nextD C default j hj, List.filter_append, List.map_append]
  congr 1
  by_cases h : M.does F (C.getD j default) = true
  · rw [if_pos h, List.filter_cons_of_pos h]
    rfl
  · rw [if_neg h, List.filter_cons_of_neg h]
    rfl

theorem M.todo_data {F : M.Fs} {B : M.KL (List UInt8)} {L : M.Chs} (hB : M.KRise B) (hL : M.KRise L) {n : Nat} (h1 : ∀ p ∈ B, p.2.length ≤ n) (h2 : ∀ p ∈ L, p.2.1.length ≤ n) : ∀ c ∈ M.todo F B L, c.data.length ≤ n := by
  intro c hc
  have h := ((M.mem_todo hB hL c).1 hc).1
  rw [M.chAt] at h
  cases hk : M.kget B c.nm with
  | none =>
    rw [hk] at h
    exact h2 _ (M.kget_mem h)
  | some d =>
    rw [hk] at h
    have h' : (if M.look F c.nm = some d then M.kget L c.nm else some (d, false)) = some (c.data, c.gone) := h
    split at h'
    · exact h2 _ (M.kget_mem h')
    · injection h' with h'
      injection h' with h' _
      rw [← h']
      exact h1 _ (M.kget_mem hk)

theorem M.changes_le (F : M.Fs) : ∀ (B : M.KL (List UInt8)) (L : M.Chs), (M.changes F B L).length ≤ B.length + L.length
  | [], L => by rw [M.changes]; simp
  | p :: r, L => by
    have h := M.changes_le F r (M.chStep F L p)
    have h2 : (M.chStep F L p).length ≤ L.length + 1 := by
      rw [M.chStep]
      split
      · omega
      · exact M.kput_le _ _ _
    rw [M.changes, List.foldl_cons]
    rw [M.changes] at h
    rw [List.length_cons]
    omega

end Go.Proofs.YtphcbpfpelonaaaGreatDoor

namespace Go.Proofs.YtphcbpfpelonaaaGreatDoor
open Go.RowKit Go.Maps
set_option linter.unusedVariables false
set_option maxRecDepth 100000

theorem run_field_gone (w : World) (s v : Value) (b : Bool) (h1 : s.oneCell' = true) (h2 : v.oneCell' = true) : (Instr.field 58 (.agg #[s, v, .bool b]) 2).run Tryz.prog w = .ok (.bool b) w := by
  simp [Instr.field, run_underlying Tryz.underlying58]
  rfl

section
variable {S : Nat → Prop} {w0 w : World} {g gf gc gb bm fm N : Nat} {B : M.KL (List UInt8)} {L : M.Chs} {F : M.Fs} {Q : Nat → Prop} {c : M.Cr} {cv : Value}




set_option maxHeartbeats 16000000 in
theorem CasSt.commit (s : CasSt w0 w g gf gc N F c cv Q) (hL : Laid w0) (h : BtAt S w gb gc bm fm B L) (hS : ∀ k, S k → Q k ∨ k < w0.heap.size) (hB : B.length + L.length < 5000) (hd1 : ∀ p ∈ B, p.2.length ≤ 1099511627776) (hd2 : ∀ p ∈ L, p.2.1.length ≤ 1099511627776) (r : Int) (hr : r = M.fcode N F (M.todo F B L)) (G : M.Fs) (hG : G = if r = 0 then M.fapply F (M.todo F B L) else F) :
    Calls Tryz.prog 23 #[.pointer (some ⟨gb, 0, none⟩)] w fun e w' => e = .returned (.int .i64 r) ∧ Far w0 Q w w' ∧ CasSt w0 w' g gf gc N G c cv Q := by
  have hcells := fun (x : World) (k : Below w.heap.size w x) => (⟨(h.below k).blk.cell 0, (s.see k).cells.1⟩ : x.cell? ⟨gb, 0, none⟩ = some (.pointer (some ⟨gc, 0, none⟩)) ∧ x.cell? ⟨gc, 0, none⟩ = some (.pointer (some ⟨gf, 0, none⟩)))
  have HK0 := Lib.hid hcells
  have CC := Lib.hid (s.changes h (by omega))
  have SS := Lib.hid s
  have HDT := Lib.hid (M.todo_data (F := F) h.riseB h.riseL hd1 hd2)
  have HRC : Hid (M.KRise (M.changes F B L)) := M.rise_changes B h.riseL
  have HTD : Hid (M.todo F B L = ((M.changes F B L).filter (M.does F)).map M.toFC) := rfl
  obtain ⟨C, hC⟩ : ∃ C, C = M.changes F B L := ⟨_, rfl⟩
  have hCl : C.length < 5000 := by rw [hC]; have := M.changes_le F B L; omega
  rw [← hC] at HRC HTD
  have HC := Lib.hid hC
  have HL := Lib.hid hL
  have HSB0 : Hid (∀ k, S k → k < w.heap.size) := fun k hk => by
    have hu := s.under.size
    rcases hS k hk with h | h
    · exact (s.qlt k h).2
    · omega
  have HS := Lib.hid hS
  have HR := Lib.hid hr
  have HG := Lib.hid hG
  obtain ⟨n, hn⟩ : ∃ n, n = C.length := ⟨_, rfl⟩
  have HCL : Hid (C.length = n) := hn.symm
  have H64 : Hid (n < 5000) := by rw [Hid, hn]; exact hCl
  clear hcells s h hB hd1 hd2 hC hL hS hr hG hn hCl
  go_enter Tryz.func23, Tryz.ntmps23
  go_wp2_with fail
  refine CC.out.mono ?_
  rintro e w1 ⟨cm, rfl, ⟨ec, mc, rc⟩, k1, hcm⟩
  rw [← HC.out] at rc
  have MC := Lib.hid mc
  have RC := Lib.hid rc
  have K1 := Lib.hid k1
  have CS := Lib.hid (chSorted_any mc (by rw [rc.len, HCL.out]; have := H64.out; omega))
  have CK := Lib.hid (chKeys_any (some cm) w1)
  have HKE : Hid (ec.map (·.1) = C.map (·.1)) := rc.keys
  have HSB : Hid (∀ k, S k → k < w1.heap.size) := fun k hk => by have := HSB0.out k hk; have := K1.out.size; omega
  clear CC mc rc k1 hcm
  go_wp2_with fail
  refine CK.out.mono ?_
  rintro e w2 ⟨rfl, rfl⟩
  go_wp2_with fail
  refine CS.out.mono ?_
  rintro e w3 ⟨nv, rfl, on, k3⟩
  rw [HKE.out] at on
  obtain ⟨na, nc, hnv⟩ := ownShape on
  rw [List.length_map, HCL.out] at hnv
  subst hnv
  have ON := Lib.hid on
  have K3 := Lib.hid k3
  clear CS CK on k3 HKE
  go_wp2
  go_loopw [4, 15] (fun v i wr => ∃ (j : Nat) (xs : List Value), i = .int .i64 (j : Int) ∧ Hid (j ≤ n) ∧ Hid (Below w3.heap.size w3 wr) ∧ Hid (OwnFL S wr w3.heap.size v (((C.take j).filter (M.does F)).map M.toFC) xs))
    (fun v i _ => n - numOf i)
  case atStart => exact ⟨0, [], rfl, Nat.zero_le _, Below.refl _ _, by rw [List.take_zero]; exact OwnFL.nil _ _ _⟩
  case round =>
    obtain ⟨wz, rfl⟩ : ∃ x, x = wr := ⟨_, rfl⟩
    obtain ⟨v4, rfl⟩ : ∃ x, x = u4 := ⟨_, rfl⟩
    obtain ⟨j, xs, rfl, hj, kk2, oo⟩ := hrel
    have kk : Hid (Below w1.heap.size w1 wz) := K3.out.trans (kk2.out.mono K3.out.size)
    have KZ : Hid (Below w.heap.size w wz) := K1.out.trans (kk.out.mono K1.out.size)
    have hcc := HK0.out wz KZ.out
    have cc0 := hcc.1
    have cc1 := hcc.2
    clear hcc
    by_cases hlt : j < n
    · have b1 : (j : Int) < (n : Int) := by omega
      have onz := own_below ON.out kk2.out
      rw [List.length_map, HCL.out] at onz
      obtain ⟨nb0, hna, _, hcs, _⟩ := ownCells onz (by omega)
      have hjl : j < C.length := by rw [HCL.out]; exact hlt
      have HT := Lib.hid (M.todo_next (F := F) C j hjl)
      have hmem : C.getD j default ∈ C := by rw [List.getD_eq_getElem?_getD, List.getElem?_eq_getElem hjl]; exact List.getElem_mem _
      have hkg := M.kget_of_mem HRC.out hmem
      have hcell : wz.cell? ⟨nb0, j, none⟩ = some (.string ⟨(C.getD j default).1.toArray⟩) := by
        rw [hcs j (by rw [List.length_map, List.length_map]; exact hjl), List.getElem?_map, List.getElem?_map, List.getElem?_eq_getElem hjl, List.getD_eq_getElem?_getD, List.getElem?_eq_getElem hjl]
        rfl
      obtain ⟨nm, d, gone, hp⟩ : ∃ nm d gone, C.getD j default = (nm, d, gone) := ⟨_, _, _, rfl⟩
      rw [hp] at HT hkg hcell
      obtain ⟨xv, hxe, y, rfl, iy, ly, y0, hnl⟩ : ∃ xv, M.kget ec nm = some xv ∧ ChQ S w1 nm xv (d, gone) := by
        rcases RC.out.get nm with ⟨h1, h2⟩ | ⟨x, y, h1, h2, q⟩
        · rw [hkg] at h2; cases h2
        · rw [hkg] at h2
          injection h2 with h2
          rw [← h2] at q
          exact ⟨x, h1, q⟩
      obtain ⟨ya, yc, rfl⟩ := iy.shape
      obtain ⟨yn, hyn⟩ : ∃ q, q = d.length := ⟨_, rfl⟩
      have HGE : Hid (∀ z, (M.kget ec nm).getD z = .agg #[.string ⟨nm.toArray⟩, .slice ya yn yc, .bool gone]) := fun z => by rw [hxe, hyn]; rfl
      have iy' : IsB w1 (.slice ya d.length yc) d := iy
      rw [← hyn] at iy' ly y0
      have IY := Lib.hid iy'
      have LY := Lib.hid ly
      have Y0 := Lib.hid y0
      have HNL := Lib.hid hnl
      obtain ⟨snm, hsnm⟩ : ∃ s : ByteArray, s = ⟨nm.toArray⟩ := ⟨_, rfl⟩
      rw [← hsnm] at hcell
      have HSN := Lib.hid hsnm
      have HLT := Lib.hid hlt
      have g2 : (0 : Int) ≤ (j : Int) := by omega
      have g3 : ((j : Int)).toNat = j := by omega
      have G1 : Hid (wrap64 ((j : Int) + 1) = ((j + 1 : Nat) : Int)) := wrap_next (by have := H64.out; omega)
      subst hna
      clear onz hcs hjl hmem hkg hp hxe iy iy' ly y0 hnl hyn hsnm hlt
      cases hlk : M.look F nm with
      | none =>
        have CR := Lib.hid ((SS.out.see KZ.out).fread_no nm HNL.out hlk)
        rw [← HSN.out] at CR
        cases gone with
        | true =>
          have HDO : Hid (M.does F (nm, d, true) = false) := by rw [Hid, M.does, hlk]; rfl
          clear hlk
          go_wp2_with fail
          refine CR.out.mono ?_
          rintro e w4 ⟨rfl, k4⟩
          clear CR hcell
          have hno : ((C.take (j + 1)).filter (M.does F)).map M.toFC = ((C.take j).filter (M.does F)).map M.toFC := by rw [HT.out, if_neg (by rw [HDO.out]; decide), List.append_nil]
          have HNO := Lib.hid hno
          have K4 := Lib.hid k4
          have MC4 := Lib.hid (MC.out.below (kk.out.trans (k4.mono kk.out.size)))
          have hlook := fun (x : World) (k : Below w4.heap.size w4 x) => (MC4.out.below k).look Tryz.underlying88 (Tryz.zeroValue58 x) nm HNL.out
          rw [HGE.out, ← HSN.out] at hlook
          have hlook0 := hlook w4 (Below.refl _ _)
          have hfg := fun y => run_field_gone y (.string snm) (.slice ya yn yc) true rfl rfl
          clear hno k4 HT HDO hlook
          go_wp2
          go_roundw
          case rel => exact ⟨j + 1, xs, by first | rfl | rw [G1.out], HLT.out, kk2.out.trans (K4.out.mono kk2.out.size), by rw [HNO.out]; exact oo.out.below K4.out⟩
          case measure =>
            have := HLT.out
            try rw [G1.out]
            show n - (((j + 1 : Nat) : Int)).toNat < n - ((j : Int)).toNat
            omega
        | false =>
          have HDO : Hid (M.does F (nm, d, false) = true) := by rw [Hid, M.does, hlk]; rfl
          clear hlk
          go_wp2_with fail
          refine CR.out.mono ?_
          rintro e w4 ⟨rfl, k4⟩
          clear CR hcell
          have hyes : ((C.take (j + 1)).filter (M.does F)).map M.toFC = ((C.take j).filter (M.does F)).map M.toFC ++ [⟨nm, d, false⟩] := by rw [HT.out, if_pos HDO.out]; rfl
          have HYES := Lib.hid hyes
          obtain ⟨l, hl⟩ : ∃ l, l = ((C.take j).filter (M.does F)).map M.toFC := ⟨_, rfl⟩
          have hll : l.length ≤ 10000 := by
            rw [hl, List.length_map]
            have h1 : ((C.take j).filter (M.does F)).length ≤ (C.take j).length := List.length_filter_le _ _
            rw [List.length_take] at h1
            have h2 := HCL.out
            have h3 := H64.out
            omega
          have HLL := Lib.hid hll
          rw [← hl] at oo HYES
          have K4 := Lib.hid k4
          have MC4 := Lib.hid (MC.out.below (kk.out.trans (k4.mono kk.out.size)))
          have hlook := fun (x : World) (k : Below w4.heap.size w4 x) => (MC4.out.below k).look Tryz.underlying88 (Tryz.zeroValue58 x) nm HNL.out
          rw [HGE.out, ← HSN.out] at hlook
          have hlook0 := hlook w4 (Below.refl _ _)
          have hfg := fun y => run_field_gone y (.string snm) (.slice ya yn yc) false rfl rfl
          clear hyes hl hll k4 HT HDO
          go_upto_region 8 with fail
          clear hlook0 hfg
          have hlook1 := hlook w4 (Below.refl _ _)
          clear hlook
          obtain ⟨W8, hW8⟩ : ∃ x, Hid (x = w4.alloc (.cells #[.string snm, .slice ya yn yc, .bool false] 58)) := ⟨_, rfl⟩
          obtain ⟨p8, hp8⟩ : ∃ x, Hid (x = w4.heap.size) := ⟨_, rfl⟩
          have K8 : Hid (Below w4.heap.size w4 W8) := by rw [hW8.out]; exact (Below.refl _ _).alloc (Nat.le_refl _) _
          have B8 : Hid (Blk W8 p8 58 [.string ⟨nm.toArray⟩, .slice ya yn yc, .bool false]) := by rw [← HSN.out, hW8.out]; exact Blk.newAt _ _ _ _ _ hp8.out rfl
          have KZ8 : Hid (Below wz.heap.size wz W8) := K4.out.trans (K8.out.mono K4.out.size)
          have OO8 : Hid (OwnFL S W8 w3.heap.size v4 l xs) := oo.out.below KZ8.out
          have HS8 : Hid (w3.heap.size ≤ W8.heap.size) := Nat.le_trans kk2.out.size KZ8.out.size
          have HC1 : Hid (∀ u ∈ [.string ⟨nm.toArray⟩, .slice ya yn yc, .bool false], Value.oneCell' u = true) := by
            intro u hu
            simp only [List.mem_cons, List.not_mem_nil, or_false] at hu
            rcases hu with rfl | rfl | rfl <;> rfl
          go_wp2_with (rw [← hW8.out, ← hp8.out]; at_builtin; go_must (refine wpList_app_row rowsC _ rfl _ _ rfl w3.heap.size v4 l.length (ccs l xs) rfl OO8.out.row ⟨p8, 0, none⟩ 1 1 [.string ⟨nm.toArray⟩, .slice ya yn yc, .bool false] rfl rfl ?d1 HC1.out ?d2 ?d3 HS8.out ?_))
          case d1 => exact fun j u hj => by rw [Addr.add_lit, Nat.zero_add, B8.out.cell]; exact hj
          case d2 => have := HLL.out; unfold maxLen; omega
          case d3 => have := HLL.out; omega
          intro v5 w9 o9 g9 a9
          have O9 : Hid (OwnFL S w9 w3.heap.size v5 (l ++ [⟨nm, d, false⟩]) (xs ++ [.slice ya yn yc])) := OO8.out.add (c := ⟨nm, d, false⟩) (fun k hk => Nat.lt_of_lt_of_le (HSB.out k hk) K3.out.size) (IY.out.below (kk.out.trans (KZ8.out.mono kk.out.size))) Y0.out LY.out HNL.out o9 g9
          have K9 : Hid (Below w3.heap.size w3 w9) := (kk2.out.trans (KZ8.out.mono kk2.out.size)).grown g9 HS8.out fun b hb => (OO8.out.row.lt b hb).1
          rw [← HYES.out] at O9
          clear hlook1 B8 OO8 HS8 HC1 o9 g9 a9 K8 KZ8 hW8 hp8 oo kk
          go_wp2
          go_roundw
          case rel => exact ⟨j + 1, _, by first | rfl | rw [G1.out], HLT.out, K9.out, O9.out⟩
          case measure =>
            have := HLT.out
            try rw [G1.out]
            show n - (((j + 1 : Nat) : Int)).toNat < n - ((j : Int)).toNat
            omega
      | some fd =>
        have CR := Lib.hid ((SS.out.see KZ.out).fread nm fd hlk)
        rw [← HSN.out] at CR
        have HDO : Hid (M.does F (nm, d, gone) = true) := by rw [Hid, M.does, hlk]; rfl
        clear hlk
        go_wp2_with fail
        refine CR.out.mono ?_
        rintro e w4 ⟨r, rfl, o4, k4⟩
        clear CR o4 hcell
        have hyes : ((C.take (j + 1)).filter (M.does F)).map M.toFC = ((C.take j).filter (M.does F)).map M.toFC ++ [⟨nm, d, gone⟩] := by rw [HT.out, if_pos HDO.out]; rfl
        have HYES := Lib.hid hyes
        obtain ⟨l, hl⟩ : ∃ l, l = ((C.take j).filter (M.does F)).map M.toFC := ⟨_, rfl⟩
        have hll : l.length ≤ 10000 := by
          rw [hl, List.length_map]
          have h1 : ((C.take j).filter (M.does F)).length ≤ (C.take j).length := List.length_filter_le _ _
          rw [List.length_take] at h1
          have h2 := HCL.out
          have h3 := H64.out
          omega
        have HLL := Lib.hid hll
        rw [← hl] at oo HYES
        have K4 := Lib.hid k4
        have MC4 := Lib.hid (MC.out.below (kk.out.trans (k4.mono kk.out.size)))
        have hlook := fun (x : World) (k : Below w4.heap.size w4 x) => (MC4.out.below k).look Tryz.underlying88 (Tryz.zeroValue58 x) nm HNL.out
        rw [HGE.out, ← HSN.out] at hlook
        have hlook0 := hlook w4 (Below.refl _ _)
        have hfg := fun y => run_field_gone y (.string snm) (.slice ya yn yc) gone rfl rfl
        clear hyes hl hll k4 HT HDO
        go_upto_region 8 with fail
        clear hlook0 hfg
        have hlook1 := hlook w4 (Below.refl _ _)
        clear hlook
        obtain ⟨W8, hW8⟩ : ∃ x, Hid (x = w4.alloc (.cells #[.string snm, .slice ya yn yc, .bool gone] 58)) := ⟨_, rfl⟩
        obtain ⟨p8, hp8⟩ : ∃ x, Hid (x = w4.heap.size) := ⟨_, rfl⟩
        have K8 : Hid (Below w4.heap.size w4 W8) := by rw [hW8.out]; exact (Below.refl _ _).alloc (Nat.le_refl _) _
        have B8 : Hid (Blk W8 p8 58 [.string ⟨nm.toArray⟩, .slice ya yn yc, .bool gone]) := by rw [← HSN.out, hW8.out]; exact Blk.newAt _ _ _ _ _ hp8.out rfl
        have KZ8 : Hid (Below wz.heap.size wz W8) := K4.out.trans (K8.out.mono K4.out.size)
        have OO8 : Hid (OwnFL S W8 w3.heap.size v4 l xs) := oo.out.below KZ8.out
        have HS8 : Hid (w3.heap.size ≤ W8.heap.size) := Nat.le_trans kk2.out.size KZ8.out.size
        have HC1 : Hid (∀ u ∈ [.string ⟨nm.toArray⟩, .slice ya yn yc, .bool gone], Value.oneCell' u = true) := by
          intro u hu
          simp only [List.mem_cons, List.not_mem_nil, or_false] at hu
          rcases hu with rfl | rfl | rfl <;> rfl
        go_wp2_with (rw [← hW8.out, ← hp8.out]; at_builtin; go_must (refine wpList_app_row rowsC _ rfl _ _ rfl w3.heap.size v4 l.length (ccs l xs) rfl OO8.out.row ⟨p8, 0, none⟩ 1 1 [.string ⟨nm.toArray⟩, .slice ya yn yc, .bool gone] rfl rfl ?d1 HC1.out ?d2 ?d3 HS8.out ?_))
        case d1 => exact fun j u hj => by rw [Addr.add_lit, Nat.zero_add, B8.out.cell]; exact hj
        case d2 => have := HLL.out; unfold maxLen; omega
        case d3 => have := HLL.out; omega
        intro v5 w9 o9 g9 a9
        have O9 : Hid (OwnFL S w9 w3.heap.size v5 (l ++ [⟨nm, d, gone⟩]) (xs ++ [.slice ya yn yc])) := OO8.out.add (c := ⟨nm, d, gone⟩) (fun k hk => Nat.lt_of_lt_of_le (HSB.out k hk) K3.out.size) (IY.out.below (kk.out.trans (KZ8.out.mono kk.out.size))) Y0.out LY.out HNL.out o9 g9
        have K9 : Hid (Below w3.heap.size w3 w9) := (kk2.out.trans (KZ8.out.mono kk2.out.size)).grown g9 HS8.out fun b hb => (OO8.out.row.lt b hb).1
        rw [← HYES.out] at O9
        clear hlook1 B8 OO8 HS8 HC1 o9 g9 a9 K8 KZ8 hW8 hp8 oo kk
        go_wp2
        go_roundw
        case rel => exact ⟨j + 1, _, by first | rfl | rw [G1.out], HLT.out, K9.out, O9.out⟩
        case measure =>
          have := HLT.out
          try rw [G1.out]
          show n - (((j + 1 : Nat) : Int)).toNat < n - ((j : Int)).toNat
          omega
    · have b1 : ¬ (j : Int) < (n : Int) := by omega
      obtain rfl : j = n := by have := hj.out; omega
      have et : C.take j = C := by rw [← HCL.out, List.take_length]
      rw [et, ← HTD.out] at oo
      have S8 := Lib.hid (SS.out.below KZ.out)
      have hxs : Hid (∀ x, Chg (fun k => ¬ (Q k ∨ (w.heap.size ≤ k ∧ k < wz.heap.size)) ∧ k ≠ gc ∧ w0.heap.size ≤ k) wz x → IsFL x v4 (M.todo F B L) xs) := fun x cx => by
        refine (oo.out.chg cx (fun b hb e => ?_) fun k hk e => ?_).isFL
        · have h1 := oo.out.row.lt b hb
          have h2 := K1.out.size
          have h3 := K3.out.size
          exact e.1 (.inr ⟨by omega, h1.2⟩)
        · rcases HS.out k hk with h | h
          · exact e.1 (.inl h)
          · omega
      have CF := Lib.hid (S8.out.fcommit HL.out v4 (M.todo F B L) xs hxs.out (by rw [HTD.out, List.length_map]; have h1 : (C.filter (M.does F)).length ≤ C.length := List.length_filter_le _ _; have h2 := HCL.out; have h3 := H64.out; omega) HDT.out r HR.out G HG.out)
      clear et hlt hxs oo
      go_wp2_with fail
      refine CF.out.mono ?_
      rintro e w5 ⟨rfl, far, s5⟩
      have FAR := Lib.hid far
      have S5 := Lib.hid s5
      clear CF far s5
      go_wp2
      go_ret
      exact ⟨rfl, (Far.of_below KZ.out).trans (FAR.out.mono fun k _ h => ⟨fun hq => h.1 (.inl hq), h.2⟩), S5.out.less fun k hk => .inl hk⟩

end

end Go.Proofs.YtphcbpfpelonaaaGreatDoor

namespace Go.Proofs.YtphcbpfpelonaaaGreatDoor
open Go.RowKit Go.Maps
set_option linter.unusedVariables false
set_option maxRecDepth 100000

theorem IsLL.below {w w' : World} {v : Value} {L : List (List UInt8)} {xs : List Value} (h : IsLL w v L xs) (k : Below w.heap.size w w') : IsLL w' v L xs := by
  obtain ⟨ao, cap, rfl, h1, h2, h3, h4, h5⟩ := h
  refine ⟨ao, cap, rfl, h1, h2, h3, fun i hi => ⟨(h4 i hi).1.below k, (h4 i hi).2⟩, ?_⟩
  rcases h5 with h | ⟨b, off, rfl, h⟩
  · exact .inl h
  · exact .inr ⟨b, off, rfl, fun i hi => (k.cell (p := ⟨b, off + i, none⟩) (World.block_lt_of_cell? w _ (h i hi))).trans (h i hi)⟩

/-- One of them. -/
theorem IsLL.at_ {w : World} {ao : Option Addr} {n cap : Nat} {L : List (List UInt8)} {xs : List Value} (h : IsLL w (.slice ao n cap) L xs) (i : Nat) (hi : i < L.length) : ∃ b off, ao = some ⟨b, off, none⟩ ∧ w.cell? ⟨b, off + i, none⟩ = some (xs.getD i undef) ∧ IsB w (xs.getD i undef) (L.getD i []) ∧ ∀ n c, xs.getD i undef = .slice none n c → c = 0 := by
  obtain ⟨ao', cap', e, h1, h2, h3, h4, h5⟩ := h
  injection e with e1 e2 e3
  rcases h5 with h | ⟨b, off, e4, h⟩
  · rw [h] at hi; cases hi
  · exact ⟨b, off, e1.trans e4, h i hi, h4 i hi⟩

set_option maxHeartbeats 2000000 in
theorem sweep1_any {w : World} {ga : Nat} {dv : Value} {d x : List UInt8} {xv : Value} (hc : w.cell? ⟨ga, 0, none⟩ = some dv) (hd : IsB w dv d) (hx : IsB w xv x) :
    Calls Tryz.prog 38 #[xv, .pointer (some ⟨ga, 0, none⟩)] w fun e w' => e = .returned (.bool (decide (x = d))) ∧ w' = w := by
  have C := Lib.hid (bytesEqual_all xv dv x d w hx hd)
  obtain ⟨a1, c1, rfl⟩ := hx.shape
  obtain ⟨a2, c2, rfl⟩ := hd.shape
  clear hd hx
  go_enter Tryz.func38, Tryz.ntmps38
  go_wp2_with fail
  refine C.out.mono ?_
  rintro e w' ⟨rfl, rfl⟩
  clear C
  go_wp2
  go_ret
  exact ⟨rfl, rfl⟩

set_option maxHeartbeats 4000000 in
theorem liveIndex_any {w : World} {ga : Nat} {dv : Value} {d : List UInt8} (hc : w.cell? ⟨ga, 0, none⟩ = some dv) (hd : IsB w dv d) (lv : Value) (live : List (List UInt8)) (xs : List Value) (hl : IsLL w lv live xs) (hlen : live.length ≤ 100000) :
    Calls Tryz.prog 65 #[lv, .func (.func 38) #[] #[.pointer (some ⟨ga, 0, none⟩)]] w fun e w' => ∃ r : Int, e = .returned (.int .i64 r) ∧ Hid (0 ≤ r ↔ d ∈ live) ∧ w' = w := by
  obtain ⟨ao, cap, rfl⟩ := hl.shape
  obtain ⟨n, hn⟩ : ∃ n, n = live.length := ⟨_, rfl⟩
  rw [← hn] at hl hlen ⊢
  have HN : Hid (live.length = n) := hn.symm
  have HC := Lib.hid hc
  have HD := Lib.hid hd
  have HL := Lib.hid hl
  have HLN := Lib.hid hlen
  clear hc hd hl hlen hn
  go_enter Tryz.func65, Tryz.ntmps65
  go_wp2
  go_loopw [8] (fun i wr => ∃ (j : Nat), i = .int .i64 (j : Int) ∧ Hid (j ≤ n ∧ ∀ i, i < j → live.getD i [] ≠ d) ∧ Hid (wr = w))
    (fun i _ => n - numOf i)
  case atStart => exact ⟨0, rfl, ⟨Nat.zero_le _, fun i hi => by omega⟩, rfl⟩
  case round =>
    obtain ⟨wz, rfl⟩ : ∃ x, x = wr := ⟨_, rfl⟩
    obtain ⟨j, rfl, hj, hw⟩ := hrel
    obtain rfl : wz = w := hw.out
    clear hw
    by_cases hlt : j < n
    · have b1 : (j : Int) < (n : Int) := by omega
      have hjl : j < live.length := by rw [HN.out]; exact hlt
      obtain ⟨lb, lo, rfl, c0, ib, -⟩ := HL.out.at_ j hjl
      have CM := Lib.hid (sweep1_any HC.out HD.out ib)
      obtain ⟨x, hx⟩ : ∃ x, x = live.getD j [] := ⟨_, rfl⟩
      rw [← hx] at CM ib
      obtain ⟨xa, xc, hxv⟩ := ib.shape
      rw [hxv] at c0 CM
      obtain ⟨xn, hxn⟩ : ∃ q, q = x.length := ⟨_, rfl⟩
      rw [← hxn] at c0 CM
      have HX := Lib.hid hx
      have HJ := Lib.hid hlt
      have g2 : (0 : Int) ≤ (j : Int) := Int.natCast_nonneg j
      have g3 : ((j : Int)).toNat = j := Int.toNat_natCast j
      obtain ⟨eq, heq⟩ : ∃ b, b = decide (x = d) := ⟨_, rfl⟩
      rw [← heq] at CM
      have HEQ := Lib.hid heq
      clear hx hxv hxn ib hjl hlt heq
      go_wp2_with fail
      refine CM.out.mono ?_
      rintro e w1 ⟨rfl, rfl⟩
      clear CM
      cases eq with
      | true =>
        have hxd : x = d := by have := HEQ.out; simpa using this.symm
        have HY : Hid (d ∈ live) := by
          rw [Hid, ← hxd, HX.out, List.getD_eq_getElem?_getD, List.getElem?_eq_getElem (by rw [HN.out]; exact HJ.out)]
          exact List.getElem_mem _
        clear hxd
        go_wp2
        go_ret
        exact ⟨_, rfl, iff_of_true (Int.natCast_nonneg j) HY.out, rfl⟩
      | false =>
        have hxd : x ≠ d := by have := HEQ.out; simpa using this.symm
        have HXD := Lib.hid hxd
        have G1 : Hid (wrap64 ((j : Int) + 1) = ((j + 1 : Nat) : Int)) := wrap_next (by have := HLN.out; have := HJ.out; omega)
        clear hxd
        go_wp2
        go_roundw
        case rel => exact ⟨j + 1, by first | rfl | rw [G1.out], ⟨HJ.out, fun i hi => by
          by_cases h : i < j
          · exact hj.out.2 i h
          · obtain rfl : i = j := by omega
            rw [← HX.out]
            exact HXD.out⟩, by first | exact trivial | exact Lib.hid rfl⟩
        case measure =>
          have := HJ.out
          try rw [G1.out]
          show n - (((j + 1 : Nat) : Int)).toNat < n - ((j : Int)).toNat
          omega
    · have b1 : ¬ (j : Int) < (n : Int) := by omega
      obtain rfl : j = n := by have := hj.out; omega
      have HNO : Hid (d ∉ live) := fun h => by
        obtain ⟨i, hi, e⟩ := List.mem_iff_getElem.1 h
        have := hj.out.2 i (by rw [← HN.out]; exact hi)
        rw [List.getD_eq_getElem?_getD, List.getElem?_eq_getElem hi] at this
        exact this e
      clear hlt
      go_wp2
      go_ret
      exact ⟨_, rfl, iff_of_false (by decide) HNO.out, rfl⟩

set_option maxHeartbeats 2000000 in
theorem liveHas_any {w : World} {ga : Nat} {dv : Value} {d : List UInt8} (hc : w.cell? ⟨ga, 0, none⟩ = some dv) (hd : IsB w dv d) (lv : Value) (live : List (List UInt8)) (xs : List Value) (hl : IsLL w lv live xs) (hlen : live.length ≤ 100000) :
    Calls Tryz.prog 37 #[lv, .func (.func 38) #[] #[.pointer (some ⟨ga, 0, none⟩)]] w fun e w' => e = .returned (.bool (decide (d ∈ live))) ∧ w' = w := by
  have C := Lib.hid (liveIndex_any hc hd lv live xs hl hlen)
  obtain ⟨ao, cap, rfl⟩ := hl.shape
  clear hc hd hl hlen
  go_enter Tryz.func37, Tryz.ntmps37
  go_wp2_with fail
  refine C.out.mono ?_
  rintro e w' ⟨r, rfl, hr, rfl⟩
  clear C
  by_cases h0 : (0 : Int) ≤ r
  · have E : Hid (true = decide (d ∈ live)) := (decide_eq_true (hr.out.1 h0)).symm
    have h1 : r ≥ 0 := h0
    clear hr
    go_wp2
    go_ret
    exact ⟨by rw [← E.out]; first | rfl | simp [h0], rfl⟩
  · have E : Hid (false = decide (d ∈ live)) := (decide_eq_false fun h => h0 (hr.out.2 h)).symm
    clear hr
    go_wp2
    go_ret
    exact ⟨by rw [← E.out]; first | rfl | simp [h0], rfl⟩

end Go.Proofs.YtphcbpfpelonaaaGreatDoor

namespace Go.Proofs.YtphcbpfpelonaaaGreatDoor
open Go.RowKit Go.Maps
set_option linter.unusedVariables false
set_option maxRecDepth 100000

theorem M.marked_le (ch : UInt8) (F : M.Fs) : (M.marked ch F).length ≤ F.length := by
  rw [M.marked, M.markN, List.length_map]
  have := List.length_filter_le (M.markB ch) (F.map M.Fil.nm)
  rwa [List.length_map] at this

theorem M.fold_next {α β : Type} (f : β → α → β) (b : β) (l : List α) (z : α) (k : Nat) (h : k < l.length) : (l.take (k + 1)).foldl f b = f ((l.take k).foldl f b) (l.getD k z) := by
  rw [M.take_nextD l z k h, List.foldl_append]
  rfl

theorem M.swN_next (live : List (List UInt8)) (ds : List (List UInt8)) (k : Nat) (h : k < ds.length) : (M.swN live (ds.take (k + 1))).length = (M.swN live (ds.take k)).length + (if ds.getD k [] ∈ live then 0 else 1) := by
  rw [M.take_nextD ds [] k h, M.swN, M.swN, List.filter_append, List.length_append]
  congr 1
  generalize ds.getD k [] = x
  by_cases hm : x ∈ live
  · rw [if_pos hm, List.filter_cons_of_neg (by simp [hm])]
    rfl
  · rw [if_neg hm, List.filter_cons_of_pos (by simp [hm])]
    rfl

theorem M.swB_len (live : List (List UInt8)) : ∀ (ds : List (List UInt8)) (L : M.Chs), (ds.foldl (M.swB live) L).length ≤ L.length + ds.length
  | [], L => by simp
  | d :: r, L => by
    have h := M.swB_len live r (M.swB live L d)
    have h2 : (M.swB live L d).length ≤ L.length + 1 := by
      rw [M.swB]
      split
      · omega
      · exact M.kput_le _ _ _
    rw [List.foldl_cons, List.length_cons]
    omega

theorem M.swQ_len : ∀ (qs : List (List UInt8)) (L : M.Chs), (qs.foldl M.swQ L).length ≤ L.length + qs.length
  | [], L => by simp
  | d :: r, L => by
    have h := M.swQ_len r (M.swQ L d)
    have h2 : (M.swQ L d).length ≤ L.length + 1 := M.kput_le _ _ _
    rw [List.foldl_cons, List.length_cons]
    omega

theorem M.swL_none (live ds qs : List (List UInt8)) : ∀ p ∈ M.swL live ds qs, p.2.1 = [] := by
  intro p hp
  have h := M.kget_of_mem (M.rise_swL live ds qs) hp
  rw [M.sw_get] at h
  split at h
  · injection h with h
    rw [← h]
  · split at h
    · injection h with h
      rw [← h]
    · cases h

theorem OwnLL.at_ {w : World} {B : Nat} {ao : Option Addr} {n cap : Nat} {L : List (List UInt8)} {rows : List Value} (h : OwnLL w B (.slice ao n cap) L rows) (hn : L.length = n) (i : Nat) (hi : i < n) : ∃ b, ao = some ⟨b, 0, none⟩ ∧ b < w.heap.size ∧ w.cell? ⟨b, i, none⟩ = some (rows.getD i undef) := by
  subst hn
  obtain ⟨b, e, _, hc, _⟩ := ownCells h.row (by omega)
  have hl := h.len
  have h2 := hc i (by omega)
  rw [List.getElem?_eq_getElem (by omega)] at h2
  refine ⟨b, e, World.block_lt_of_cell? w ⟨b, i, none⟩ h2, ?_⟩
  rw [h2, List.getD_eq_getElem?_getD, List.getElem?_eq_getElem (by omega)]
  rfl

section
variable {w0 w : World} {g gf gc N : Nat} {F : M.Fs} {Q : Nat → Prop} {c : M.Cr} {cv : Value}

/-- What a Sweep hands back. -/
def SweepEnds (w0 w : World) (g gf gc N : Nat) (F : M.Fs) (c : M.Cr) (cv : Value) (Q : Nat → Prop) (live : List (List UInt8)) (e : Ending) (w' : World) : Prop :=
  e = .returned (.tuple #[.int .i64 (((M.swN live (M.marked 98 F)).length : Nat) : Int), .int .i64 0]) ∧ Far w0 Q w w' ∧ CasSt w0 w' g gf gc N (M.swept live F) c cv Q

set_option maxHeartbeats 16000000 in
theorem CasSt.sweep (s : CasSt w0 w g gf gc N F c cv Q) (hL : Laid w0) (lv : Value) (live : List (List UInt8)) (xs : List Value) (hl : IsLL w lv live xs) (hlen : live.length ≤ 100000) :
    Calls Tryz.prog 16 #[.pointer (some ⟨gc, 0, none⟩), lv] w (SweepEnds w0 w g gf gc N F c cv Q live) := by
  have SS := Lib.hid s
  have HL := Lib.hid hL
  have HLV := Lib.hid hl
  have HLN := Lib.hid hlen
  have HF64 := Lib.hid s.few
  have CB := Lib.hid (begin_any gc w)
  obtain ⟨ao, cap, rfl⟩ := hl.shape
  obtain ⟨ln, hln⟩ : ∃ n, n = live.length := ⟨_, rfl⟩
  rw [← hln] at HLV HLN ⊢
  have HLNE := Lib.hid hln
  clear s hL hl hlen hln
  go_enter Tryz.func16, Tryz.ntmps16
  go_wp2_with fail
  refine CB.out.mono ?_
  rintro e w1 ⟨gb, bm, fm, rfl, bt, k1, g1, g2, g3⟩
  have K1 := Lib.hid k1
  have BT := Lib.hid bt
  have HG : Hid (w.heap.size ≤ gb ∧ w.heap.size ≤ bm ∧ w.heap.size ≤ fm ∧ fm < w1.heap.size) := ⟨g1, g2, g3, bt.lt.2.2⟩
  have S1 := Lib.hid (SS.out.below k1)
  have CL := Lib.hid S1.out.list
  clear CB bt k1 g1 g2 g3
  go_wp2_with fail
  refine CL.out.mono ?_
  rintro e w2 ⟨dv, rows, rfl, od, k2⟩
  obtain ⟨ds, hds⟩ : ∃ d, d = M.marked 98 F := ⟨_, rfl⟩
  rw [← hds] at od
  obtain ⟨da, dc, hdv⟩ := ownShape od.row
  subst hdv
  obtain ⟨n, hn⟩ : ∃ n, n = ds.length := ⟨_, rfl⟩
  have HN : Hid (ds.length = n) := hn.symm
  have H64 : Hid (n ≤ 64) := by rw [Hid, hn, hds]; exact Nat.le_trans (M.marked_le 98 F) HF64.out
  have HDS := Lib.hid hds
  have H32 : Hid (∀ d ∈ ds, d.length = 32) := fun d hd => by
    rw [hds] at hd
    exact ((M.mem_marked 98 F d).1 hd).1
  rw [← hn] at od ⊢
  have OD := Lib.hid od
  have K2 := Lib.hid k2
  have BT2 := Lib.hid (BT.out.below k2)
  have S2 := Lib.hid (S1.out.below k2)
  clear CL od k2 hds hn BT S1
  go_wp2
  go_loopw [7, 18] (fun v i wr => ∃ (j : Nat), i = .int .i64 (j : Int) ∧ Hid (j ≤ n) ∧ v = .int .i64 (((M.swN live (ds.take j)).length : Nat) : Int) ∧ Hid (Chg (fun b => b = fm) w2 wr) ∧ Hid (BtAt (fun _ => False) wr gb gc bm fm [] ((ds.take j).foldl (M.swB live) [])))
    (fun v i _ => n - numOf i)
  case atStart => exact ⟨0, rfl, Nat.zero_le _, by rw [List.take_zero]; rfl, Chg.refl _ _, by rw [List.take_zero]; exact BT2.out⟩
  case round =>
    obtain ⟨wz, rfl⟩ : ∃ x, x = wr := ⟨_, rfl⟩
    obtain ⟨j, rfl, hj, rfl, ch, bt⟩ := hrel
    by_cases hlt : j < n
    · have b1 : (j : Int) < (n : Int) := by omega
      have hjl : j < ds.length := by rw [HN.out]; exact hlt
      have od := OD.out.chg ch.out fun k hk h1 h2 => by have := HG.out.2.2.2; omega
      obtain ⟨db, rfl, hdb2, hcell⟩ := od.at_ HN.out j hlt
      obtain ⟨id, d0, ld⟩ := od.each j hjl
      obtain ⟨d, hd⟩ : ∃ d, d = ds.getD j [] := ⟨_, rfl⟩
      have hd32 : d.length = 32 := H32.out d (by rw [hd, List.getD_eq_getElem?_getD, List.getElem?_eq_getElem hjl]; exact List.getElem_mem _)
      have HFN := Lib.hid (M.fold_next (M.swB live) [] ds [] j hjl)
      have HSN := Lib.hid (M.swN_next live ds j hjl)
      rw [← hd] at id HFN HSN
      obtain ⟨ra, rc, hrv⟩ := id.shape
      rw [hrv] at hcell id
      rw [hd32] at hcell id
      have ID := Lib.hid id
      have HLT := Lib.hid hlt
      have g2 : (0 : Int) ≤ (j : Int) := by omega
      have g3 : ((j : Int)).toNat = j := by omega
      have G1 : Hid (wrap64 ((j : Int) + 1) = ((j + 1 : Nat) : Int)) := wrap_next (by have := H64.out; omega)
      have HD32 := Lib.hid hd32
      have KZ : Hid (Below w.heap.size w wz) := ((K1.out.trans (K2.out.mono K1.out.size)).trans (ch.out.below (Nat.le_trans K1.out.size K2.out.size) fun k e => by subst e; exact HG.out.2.2.1))
      clear od hjl hd hd32 id d0 ld hrv hlt hdb2
      go_upto_region 5 with fail
      obtain ⟨W, hW⟩ : ∃ x, Hid (x = wz.alloc (.cells #[.slice ra 32 rc] 38)) := ⟨_, rfl⟩
      obtain ⟨ga, hga⟩ : ∃ x, Hid (x = wz.heap.size) := ⟨_, rfl⟩
      have KW : Hid (Below wz.heap.size wz W) := by rw [hW.out]; exact (Below.refl _ _).alloc (Nat.le_refl _) _
      have BW : Hid (Blk W ga 38 [.slice ra 32 rc]) := by rw [hW.out]; exact Blk.newAt _ _ _ _ _ hga.out rfl
      rw [← hW.out, ← hga.out]
      have hmf : ∀ (fn : Fn) (first cap : Array Value) (w : World), (Instr.makeFunc fn first cap).run Tryz.prog w = .ok (.func fn first cap) w := fun _ _ _ _ => rfl
      have IDW : Hid (IsB W (.slice ra 32 rc) d) := ID.out.below KW.out
      have CF := Lib.hid (liveHas_any (BW.out.cell 0) IDW.out (.slice ao ln cap) live xs (HLV.out.below (KZ.out.trans (KW.out.mono KZ.out.size))) (by rw [← HLNE.out]; exact HLN.out))
      have c9 : W.cell? ⟨ga, 0, none⟩ = some (.slice ra 32 rc) := BW.out.cell 0
      have BTW := Lib.hid (bt.out.below KW.out)
      have CHW : Hid (Chg (fun b => b = fm) w2 W) := ch.out.trans (Chg.of_below (F := fun _ => False) KW.out) fun _ _ h => h.elim
      clear hcell hga BW
      by_cases hm : d ∈ live
      · have e1 : decide (d ∈ live) = true := decide_eq_true hm
        rw [e1] at CF
        rw [if_pos hm, Nat.add_zero] at HSN
        have e2 : M.swB live ((ds.take j).foldl (M.swB live) []) d = (ds.take j).foldl (M.swB live) [] := by rw [M.swB, if_pos hm]
        rw [e2] at HFN
        clear e1 e2 hm
        go_wp2_with fail
        refine CF.out.mono ?_
        rintro e w3 ⟨rfl, rfl⟩
        clear CF
        go_wp2
        go_roundw
        case rel => exact ⟨j + 1, by first | rfl | rw [G1.out], HLT.out, by first | (rw [HSN.out]; done) | (rw [HSN.out]; rfl), CHW.out, by rw [HFN.out]; exact BTW.out⟩
        case measure =>
          have := HLT.out
          try rw [G1.out]
          show n - (((j + 1 : Nat) : Int)).toNat < n - ((j : Int)).toNat
          omega
      · have e1 : decide (d ∈ live) = false := decide_eq_false hm
        rw [e1] at CF
        rw [if_neg hm] at HSN
        have e2 : M.swB live ((ds.take j).foldl (M.swB live) []) d = M.kput ((ds.take j).foldl (M.swB live) []) (98 :: d) ([], true) := by rw [M.swB, if_neg hm]
        rw [e2] at HFN
        have CN := Lib.hid (name_any (.slice ra 32 rc) d W IDW.out (by have := HD32.out; omega))
        have hfew : ((ds.take j).foldl (M.swB live) []).length < 100000 := by
          have h1 := M.swB_len live (ds.take j) []
          rw [List.length_take, List.length_nil] at h1
          have h2 := H64.out
          have h3 := HLT.out
          omega
        have CD := Lib.hid (drop_any BTW.out (98 :: d) (by rw [List.length_cons, HD32.out]; unfold maxLen; omega) hfew)
        obtain ⟨snm, hsnm⟩ : ∃ s : ByteArray, s = ⟨(98 :: d).toArray⟩ := ⟨_, rfl⟩
        rw [← hsnm] at CN CD
        obtain ⟨q, hq⟩ : ∃ q, q = (M.swN live (ds.take j)).length := ⟨_, rfl⟩
        rw [← hq] at HSN ⊢
        have hqn : q ≤ 64 := by
          rw [hq, M.swN]
          have h1 : ((ds.take j).filter fun d => !decide (d ∈ live)).length ≤ (ds.take j).length := List.length_filter_le _ _
          rw [List.length_take] at h1
          have h2 := H64.out
          have h3 := HLT.out
          omega
        have G2 : Hid (wrap64 ((q : Int) + 1) = ((q + 1 : Nat) : Int)) := wrap_next (by omega)
        clear e1 e2 hm hfew hsnm hq hqn
        go_wp2_with fail
        refine CF.out.mono ?_
        rintro e w3 ⟨rfl, rfl⟩
        clear CF
        go_wp2_with fail
        refine CN.out.mono ?_
        rintro e w4 ⟨rfl, rfl⟩
        clear CN
        go_wp2_with fail
        refine CD.out.mono ?_
        rintro e w5 ⟨rfl, bt5, ch5⟩
        have BT5 := Lib.hid bt5
        have CH5 : Hid (Chg (fun b => b = fm) w2 w5) := CHW.out.trans ch5 fun _ _ h => h
        clear CD bt5 ch5 c9
        go_wp2
        go_roundw
        case rel => exact ⟨j + 1, by first | rfl | rw [G1.out], HLT.out, by rw [HSN.out]; first | rfl | rw [G2.out], CH5.out, by rw [HFN.out]; exact BT5.out⟩
        case measure =>
          have := HLT.out
          try rw [G1.out]
          show n - (((j + 1 : Nat) : Int)).toNat < n - ((j : Int)).toNat
          omega
    · have b1 : ¬ (j : Int) < (n : Int) := by omega
      obtain rfl : j = n := by have := hj.out; omega
      have et : ds.take j = ds := by rw [← HN.out, List.take_length]
      rw [et] at bt ⊢
      have SZ := S2.out.ref (P := fun b => b = fm) (fun k e => by subst e; exact .inl (.inr ⟨HG.out.2.2.1, HG.out.2.2.2⟩)) ch.out
      have hz1 := K1.out.size
      have hz2 := K2.out.size
      have hz3 := ch.out.size
      have SZ1 : Hid (CasSt w0 wz g gf gc N F c cv (fun b => Q b ∨ (w.heap.size ≤ b ∧ b < wz.heap.size))) := SZ.less fun k hk => by
        rcases hk with hk | hk
        · exact .inl (.inl (.inl hk))
        · by_cases h1 : k < w1.heap.size
          · exact .inl (.inl (.inr ⟨hk.1, h1⟩))
          · by_cases h2 : k < w2.heap.size
            · exact .inl (.inr ⟨by omega, h2⟩)
            · exact .inr ⟨by omega, hk.2⟩
      have KZ : Hid (Below w.heap.size w wz) := ((K1.out.trans (K2.out.mono K1.out.size)).trans (ch.out.below (Nat.le_trans K1.out.size K2.out.size) fun k e => by subst e; exact HG.out.2.2.1))
      have CM := Lib.hid (SZ1.out.marked 113)
      have HGZ : Hid (w.heap.size ≤ gb ∧ w.heap.size ≤ bm ∧ w.heap.size ≤ fm ∧ gb < wz.heap.size ∧ bm < wz.heap.size ∧ fm < wz.heap.size) := by
        have h1 := HG.out
        have h2 := bt.out.lt
        exact ⟨h1.1, h1.2.1, h1.2.2.1, h2.1, h2.2.1, h2.2.2⟩
      clear et hlt SZ hz1 hz2 hz3 S2 OD BT2
      go_wp2_with fail
      refine CM.out.mono ?_
      rintro e w3 ⟨qv, qrows, rfl, oq, k3⟩
      obtain ⟨qs, hqs⟩ : ∃ d, d = M.marked 113 F := ⟨_, rfl⟩
      rw [← hqs] at oq
      obtain ⟨qa, qc, hqv⟩ := ownShape oq.row
      subst hqv
      obtain ⟨m, hm⟩ : ∃ n, n = qs.length := ⟨_, rfl⟩
      have HM : Hid (qs.length = m) := hm.symm
      have M64 : Hid (m ≤ 64) := by rw [Hid, hm, hqs]; exact Nat.le_trans (M.marked_le 113 F) HF64.out
      have HQS := Lib.hid hqs
      have HQ32 : Hid (∀ d ∈ qs, d.length = 32) := fun d hd => by
        rw [hqs] at hd
        exact ((M.mem_marked 113 F d).1 hd).1
      rw [← hm] at oq ⊢
      obtain ⟨L1, hL1⟩ : ∃ L1, L1 = ds.foldl (M.swB live) [] := ⟨_, rfl⟩
      have HL1 := Lib.hid hL1
      have HL1L : Hid (L1.length ≤ 64) := by
        have h1 := M.swB_len live ds []
        rw [← hL1, List.length_nil] at h1
        have h2 := HN.out
        have h3 := H64.out
        show L1.length ≤ 64
        omega
      rw [← hL1] at bt
      have OQ := Lib.hid oq
      have K3 := Lib.hid k3
      have BT3 := Lib.hid (bt.out.below k3)
      have S3 := Lib.hid (SZ1.out.below k3)
      clear CM oq k3 hqs hm hL1 bt SZ1
      go_wp2
      go_loopw [35] (fun i wr => ∃ (k : Nat), i = .int .i64 (k : Int) ∧ Hid (k ≤ m) ∧ Hid (Chg (fun b => b = fm) w3 wr) ∧ Hid (BtAt (fun _ => False) wr gb gc bm fm [] ((qs.take k).foldl M.swQ L1)))
        (fun i _ => m - numOf i)
      case atStart => exact ⟨0, rfl, Nat.zero_le _, Chg.refl _ _, by rw [List.take_zero]; exact BT3.out⟩
      case round =>
        obtain ⟨wy, rfl⟩ : ∃ x, x = wr := ⟨_, rfl⟩
        obtain ⟨k, rfl, hk, cq, bt⟩ := hrel
        by_cases hlt : k < m
        · have b2 : (k : Int) < (m : Int) := by omega
          have hkl : k < qs.length := by rw [HM.out]; exact hlt
          have oq := OQ.out.chg cq.out fun x hx h1 h2 => by have := HGZ.out.2.2.2.2.2; omega
          obtain ⟨qb, rfl, hqb2, hcell⟩ := oq.at_ HM.out k hlt
          obtain ⟨id, d0, ld⟩ := oq.each k hkl
          obtain ⟨d, hd⟩ : ∃ d, d = qs.getD k [] := ⟨_, rfl⟩
          have hd32 : d.length = 32 := HQ32.out d (by rw [hd, List.getD_eq_getElem?_getD, List.getElem?_eq_getElem hkl]; exact List.getElem_mem _)
          have HFN := Lib.hid (M.fold_next M.swQ L1 qs [] k hkl)
          rw [← hd] at id HFN
          obtain ⟨ra, rc, hrv⟩ := id.shape
          rw [hrv] at hcell id
          rw [hd32] at hcell id
          have CN := Lib.hid (asideName_any (.slice ra 32 rc) d wy id (by omega))
          have hfew : ((qs.take k).foldl M.swQ L1).length < 100000 := by
            have h1 := M.swQ_len (qs.take k) L1
            rw [List.length_take] at h1
            have h2 := M64.out
            have h3 := HL1L.out
            omega
          have CD := Lib.hid (drop_any bt.out (113 :: d) (by rw [List.length_cons, hd32]; unfold maxLen; omega) hfew)
          obtain ⟨snm, hsnm⟩ : ∃ s : ByteArray, s = ⟨(113 :: d).toArray⟩ := ⟨_, rfl⟩
          rw [← hsnm] at CN CD
          have HLT := Lib.hid hlt
          have g2 : (0 : Int) ≤ (k : Int) := by omega
          have g3 : ((k : Int)).toNat = k := by omega
          have G1 : Hid (wrap64 ((k : Int) + 1) = ((k + 1 : Nat) : Int)) := wrap_next (by have := M64.out; omega)
          clear oq hkl hd hd32 id d0 ld hrv hlt hqb2 hfew hsnm
          go_wp2_with fail
          refine CN.out.mono ?_
          rintro e w4 ⟨rfl, rfl⟩
          clear CN
          go_wp2_with fail
          refine CD.out.mono ?_
          rintro e w5 ⟨rfl, bt5, ch5⟩
          have BT5 := Lib.hid bt5
          have CH5 : Hid (Chg (fun b => b = fm) w3 w5) := cq.out.trans ch5 fun _ _ h => h
          clear CD bt5 ch5 hcell
          go_wp2
          go_roundw
          case rel => exact ⟨k + 1, by first | rfl | rw [G1.out], HLT.out, CH5.out, by rw [HFN.out]; exact BT5.out⟩
          case measure =>
            have := HLT.out
            try rw [G1.out]
            show m - (((k + 1 : Nat) : Int)).toNat < m - ((k : Int)).toNat
            omega
        · have b2 : ¬ (k : Int) < (m : Int) := by omega
          obtain rfl : k = m := by have := hk.out; omega
          have et : qs.take k = qs := by rw [← HM.out, List.take_length]
          rw [et] at bt
          have HLL : Hid (qs.foldl M.swQ L1 = M.swL live (M.marked 98 F) (M.marked 113 F)) := by
            rw [Hid, HL1.out, HDS.out, HQS.out]
            rfl
          have hlen2 : (qs.foldl M.swQ L1).length < 4000 := by
            have h1 := M.swQ_len qs L1
            have h2 := M64.out
            have h3 := HL1L.out
            have h4 := HM.out
            omega
          have SY := S3.out.ref (P := fun b => b = fm) (fun k e => by subst e; exact .inl (.inr ⟨HGZ.out.2.2.1, HGZ.out.2.2.2.2.2⟩)) cq.out
          have KY : Hid (Below w.heap.size w wy) := (KZ.out.trans (K3.out.mono KZ.out.size)).trans (cq.out.below (Nat.le_trans KZ.out.size K3.out.size) fun k e => by subst e; exact HGZ.out.2.2.1)
          rw [HLL.out] at bt hlen2
          have hn0 := M.swL_none live (M.marked 98 F) (M.marked 113 F)
          have CC := Lib.hid (SY.commit HL.out bt.out (fun _ h => h.elim) (by rw [List.length_nil]; omega) (fun p hp => by cases hp) (fun p hp => by rw [hn0 p hp]; exact Nat.zero_le _) 0 (M.swept_code live HF64.out SY.free0).symm (M.swept live F) (by rw [if_pos rfl]; rfl))
          clear et hlt hlen2 SY hn0
          go_wp2_with fail
          refine CC.out.mono ?_
          rintro e w6 ⟨rfl, far, s6⟩
          have FAR := Lib.hid far
          have S6 := Lib.hid s6
          clear CC far s6
          go_wp2
          go_ret2
          exact ⟨by rw [← HDS.out]; rfl, (Far.of_below KY.out).trans (FAR.out.mono fun k _ h => ⟨fun hq => h.1 (.inl (.inl (.inl hq))), h.2⟩), S6.out.less fun k hk => .inl (.inl (.inl hk))⟩

end

end Go.Proofs.YtphcbpfpelonaaaGreatDoor
