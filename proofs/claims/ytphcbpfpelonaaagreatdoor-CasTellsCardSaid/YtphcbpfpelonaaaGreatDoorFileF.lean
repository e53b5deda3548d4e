/-
  THE CONTRACT OF table.changes: what tells of files as 32 changes of 256 bytes, of blocks 0 to 31. Conditions: the table's map lies so, and fits.
-/
import Derived.Test.YtphcbpfpelonaaaGreatDoorPf26
import Derived.Test.YtphcbpfpelonaaaGreatDoorPf22
import Derived.Test.YtphcbpfpelonaaaGreatDoorFileE
import Derived.Test.YtphcbpfpelonaaaGreatDoorPf15
namespace Go.Proofs.YtphcbpfpelonaaaGreatDoor
open Go.RowKit Go.Maps Go.Shelf
set_option linter.unusedVariables false
set_option maxRecDepth 100000

attribute [local go_sem] Oper.semAt_some

def M.chkB (bs : List UInt8) (c : Nat) : List UInt8 := (bs.drop (256 * c)).take 256

theorem isB_partB {w : World} {b off : Nat} {bs : List UInt8} (hc : ∀ i, i < bs.length → w.cell? ⟨b, off + i, none⟩ = some (.int .u8 ((bs.getD i 0).toNat : Int))) (m n cap : Nat) (hn : n ≤ bs.length - m) (hcap : n ≤ cap) (hmax : cap ≤ maxLen) :
    IsB w (.slice (some ⟨b, off + m, none⟩) n cap) ((bs.drop m).take n) := by
  have hl : ((bs.drop m).take n).length = n := by simp; omega
  refine ⟨_, cap, by rw [hl], by rw [hl]; exact hcap, hmax, .inr ⟨b, off + m, rfl, fun i hi => ?_⟩⟩
  rw [hl] at hi
  have := hc (m + i) (by omega)
  rw [Nat.add_assoc, this]
  simp [List.getD_eq_getElem?_getD, hi]

/-- A piece holds the bytes of its chunk. -/
theorem pieceOfB_isB {w : World} {v : Value} {bs : List UInt8} (h : IsB w v bs) (c : Nat) : IsB w (pieceOfB v c) (M.chkB bs c) := by
  obtain ⟨ao, cap, rfl, h1, h2, h3⟩ := h
  by_cases hz : bs = []
  · subst hz
    have e : M.chkB [] c = [] := by simp [M.chkB]
    rw [e]
    unfold pieceOfB
    split
    · rename_i b off len cap' hv
      injection hv with _ hl _
      subst hl
      exact ⟨some ⟨b, off + 256 * c, none⟩, 0, by simp [pieceB], Nat.le_refl _, Nat.zero_le _, .inl rfl⟩
    · exact IsB.nil w
  · rcases h3 with h | ⟨b, off, rfl, hc⟩
    · exact absurd h hz
    · show IsB w (pieceB b off bs.length c) _
      have hl : (M.chkB bs c).length = min 256 (bs.length - 256 * c) := by rw [M.chkB, List.length_take, List.length_drop]
      rw [pieceB]
      by_cases hm : 256 * c < bs.length
      · have := isB_partB hc (256 * c) (min 256 (bs.length - 256 * c)) (min 256 (bs.length - 256 * c)) (by omega) (Nat.le_refl _) (by unfold maxLen; omega)
        rwa [show (bs.drop (256 * c)).take (min 256 (bs.length - 256 * c)) = M.chkB bs c from by
          rw [M.chkB]
          by_cases h64 : 256 ≤ bs.length - 256 * c
          · rw [Nat.min_eq_left h64]
          · rw [Nat.min_eq_right (by omega), List.take_of_length_le (by simp), List.take_of_length_le (by simp; omega)]] at this
      · have e : M.chkB bs c = [] := List.eq_nil_of_length_eq_zero (by omega)
        rw [e, show min 256 (bs.length - 256 * c) = 0 by omega]
        exact ⟨some ⟨b, off + 256 * c, none⟩, 0, rfl, Nat.le_refl _, Nat.zero_le _, .inl rfl⟩

/-- The changes of the pieces so far. -/
def M.cls (bs : List UInt8) (pre : List Nat) : M.CL := pre.zipIdx.map fun p => ((p.2 : Int), M.chkB bs p.1)

theorem M.cls_length (bs : List UInt8) (pre : List Nat) : (M.cls bs pre).length = pre.length := by rw [M.cls, List.length_map, List.length_zipIdx]

theorem M.cls_snoc (bs : List UInt8) (pre : List Nat) (x : Nat) : M.cls bs (pre ++ [x]) = M.cls bs pre ++ [((pre.length : Int), M.chkB bs x)] := by
  rw [M.cls, List.zipIdx_append, List.map_append]
  simp [M.cls]

theorem M.cls_get (bs : List UInt8) (pre : List Nat) (i : Nat) (hi : i < pre.length) : (M.cls bs pre).getD i (0, []) = ((i : Int), M.chkB bs (pre.getD i 0)) := by
  rw [M.cls, List.getD_eq_getElem?_getD, List.getElem?_map, List.getElem?_zipIdx, List.getD_eq_getElem?_getD, List.getElem?_eq_getElem hi]
  simp

/-- What tells of files, as changes. -/
def M.metaCL (t : M.Tab) : M.CL := M.cls (M.tbytes t) (List.range 32)

theorem M.tbytes_length {t : M.Tab} (h : TabFits t) : (M.tbytes t).length = 8192 := by
  rw [M.tbytes]
  split
  · exact M.zeroMeta_length
  · have l1 := M.rows11_length t 0 M.zeroMeta M.zeroMeta_length (by have := h.few; omega) h.nm
    rw [M.lay11_length (by rw [M.sha_length, l1]; omega), l1]

theorem cls_lies {v : Value} (x : Nat) : Lies (fun k => v.ownBlock = some k) (pieceOfB v x) := by
  intro ad n c e
  unfold pieceOfB at e
  split at e
  · rename_i b off len cap hv
    rw [pieceB] at e
    injection e with e1 _ _
    injection e1 with e1
    rw [← e1]
    rfl
  · cases e

theorem pieceOfB_shape (v : Value) (x : Nat) : ∃ a n c, pieceOfB v x = .slice a n c := by
  unfold pieceOfB
  split
  · exact ⟨_, _, _, rfl⟩
  · exact ⟨_, _, _, rfl⟩

theorem pieceOfB_nil (v : Value) (x : Nat) : ∀ n c, pieceOfB v x = .slice none n c → c = 0 := by
  intro n c e
  unfold pieceOfB at e
  split at e
  · rw [pieceB] at e
    injection e with e1 _ _
    cases e1
  · injection e with _ _ e3
    exact e3.symm

theorem changes_own {w w4 w6 W : World} {bs : List UInt8} {mv v : Value} {x0 B1 : Nat} (ho : W.ownsRow w6.heap.size 146 2 v (List.range 32).length (chcs (M.cls bs (List.range 32)) ((List.range 32).map (pieceOfB mv)))) (hsame : Chg (fun k => k = x0 ∨ w6.heap.size ≤ k) w6 W)
    (O : Own w6 w4.heap.size mv bs) (MB : ∀ k, mv.ownBlock = some k → w4.heap.size ≤ k ∧ k < B1) (HX : x0 < w4.heap.size ∧ w.heap.size ≤ x0 ∧ w.heap.size ≤ w4.heap.size) (S14 : w4.heap.size ≤ B1) (S6 : w6.heap.size = B1 + 1 + 1) :
    OwnCL W w.heap.size v (M.cls bs (List.range 32)) ((List.range 32).map (pieceOfB mv)) where
  row := by
    rw [M.cls_length]
    exact own_mono ho (by omega)
  len := by rw [M.cls_length, List.length_map]
  each := by
    intro i hi
    rw [M.cls_length, List.length_range] at hi
    have e1 : ((List.range 32).map (pieceOfB mv)).getD i undef = pieceOfB mv i := by
      rw [List.getD_eq_getElem?_getD, List.getElem?_map, List.getElem?_range hi]
      rfl
    have e2 : (List.range 32).getD i 0 = i := by rw [List.getD_eq_getElem?_getD, List.getElem?_range hi]; rfl
    have hL : Lies (fun k => mv.ownBlock = some k) (pieceOfB mv i) := cls_lies i
    rw [e1, M.cls_get _ _ _ (by rw [List.length_range]; exact hi), e2]
    refine ⟨⟨(pieceOfB_isB O.isB i).chg hsame (hL.mono fun k hk e => ?_), pieceOfB_nil mv i, by show (-9223372036854775808 : Int) ≤ (i : Int); omega, by show (i : Int) < 9223372036854775808; omega⟩, hL.mono fun k hk => ⟨?_, ?_, fun e => ?_⟩⟩
    · have := MB k hk
      rcases e with e | e
      · omega
      · omega
    · have := MB k hk; omega
    · have := MB k hk
      have := hsame.size
      omega
    · have h1 := MB k hk
      have h2 := (ho.lt k e).1
      omega

set_option maxHeartbeats 8000000 in
theorem changes_any {w : World} {b : Nat} {t : M.Tab} {vs : List Value} (h : IsTabV w b t vs) (hf : TabFits t) (hL : Laid w) :
    Calls Tryz.prog 63 #[.map (some b)] w fun e w' => ∃ v ys, e = .returned v ∧ OwnCL w' w.heap.size v (M.metaCL t) ys ∧ Below w.heap.size w w' := by
  obtain ⟨w4, hw4⟩ : ∃ x, Hid (x = w.alloc (.cells #[.slice none 0 0] 117)) := ⟨_, rfl⟩
  obtain ⟨x0, hx0⟩ : ∃ x, Hid (x = w.heap.size) := ⟨_, rfl⟩
  have k4 : Below w.heap.size w w4 := by rw [hw4.out]; exact (Below.refl _ w).alloc (Nat.le_refl _) _
  have I0 : Blk w4 x0 117 [.slice none 0 0] := by rw [hw4.out]; exact Blk.newAt _ _ _ _ _ hx0.out rfl
  have HX : Hid (x0 < w4.heap.size ∧ w.heap.size ≤ x0 ∧ w.heap.size ≤ w4.heap.size) := ⟨I0.lt, Nat.le_of_eq hx0.out.symm, k4.size⟩
  have CB := Lib.hid (tbytes_any (h.below k4) hf (hL.below k4 hL.size))
  obtain ⟨bs, hbs⟩ : ∃ x, Hid (x = M.tbytes t) := ⟨_, rfl⟩
  have HLB : Hid (bs.length = 8192) := by rw [Hid, hbs.out]; exact M.tbytes_length hf
  rw [M.metaCL, ← hbs.out]
  rw [← hbs.out] at CB
  have I0H := Lib.hid I0
  have K4 := Lib.hid k4
  clear h hf hL k4 I0 hbs
  refine (callsIn_wide (n := 3)).1 ?_
  refine callsIn_of_wp_marks Tryz.func63 rfl trivial ?_ rfl
  simp only [Tryz.ntmps63, List.size_toArray, List.length_cons, List.length_nil, Nat.reduceAdd, Nat.reduceSub, Array.replicate_succ, Array.replicate_zero, List.push_toArray, List.append_toArray, List.nil_append, List.cons_append]
  refine wpIn_wide.2 ?_
  go_wp2_with (first
    | (go_at_call 81; rw [← hx0.out, ← hw4.out]; go_must (refine CB.out.mono ?_); rintro e w5 ⟨mv, rfl, o5, k5⟩; obtain ⟨ma, mn, mc, rfl⟩ := o5.shape')
    | (go_at_call 91; go_must (refine (chunk_anyB _ _ _ _).mono ?_); rintro e w6 ⟨rfl, hw6⟩))
  obtain ⟨B1, hB1⟩ : ∃ g, g = w5.heap.size := ⟨_, rfl⟩
  obtain ⟨w6, hw6'⟩ : ∃ x, x = (w5.alloc (Obj.cells #[Value.slice ma bs.length mn] 38)).alloc (Obj.cells #[Value.int IntKind.i64 256] 3) := ⟨_, rfl⟩
  obtain ⟨mv, hmv⟩ : ∃ x, x = Value.slice ma bs.length mn := ⟨_, rfl⟩
  rw [← hB1, ← hw6']
  rw [← hmv] at o5 hw6'
  have hs5 : w4.heap.size ≤ w5.heap.size := k5.size
  have K56 : Below w5.heap.size w5 w6 := by rw [hw6']; exact ((Below.refl _ _).alloc (Nat.le_refl _) _).alloc (by rw [World.size_alloc]; omega) _
  have hs6 : w6.heap.size = B1 + 1 + 1 := by rw [hw6', hB1]; simp
  have K46 : Below w4.heap.size w4 w6 := k5.trans (K56.mono hs5)
  have BK1 : Blk w6 B1 38 [mv] := by rw [hw6']; exact (Blk.newAt _ _ _ _ _ hB1 rfl).alloc _
  have BK2 : Blk w6 (B1 + 1) 3 [.int .i64 256] := by rw [hw6']; exact Blk.newAt _ _ _ _ _ (by rw [World.size_alloc, hB1]) rfl
  have C1 : w6.cell? ⟨B1, 0, none⟩ = some mv := BK1.cell 0
  have C2 : w6.cell? ⟨B1 + 1, 0, none⟩ = some (.int .i64 256) := BK2.cell 0
  have O6 : Own w6 w4.heap.size mv bs := o5.below K56
  have MB : Hid (∀ k, mv.ownBlock = some k → w4.heap.size ≤ k ∧ k < B1) := fun k hk => by have := o5.lt k hk; rw [← hB1] at this; exact this
  have I6 : Blk w6 x0 117 [.slice none 0 0] := I0H.out.below K46 HX.out.1
  have hB14 : w4.heap.size ≤ B1 := by rw [hB1]; exact hs5
  have KW6 : Below w.heap.size w w6 := K4.out.trans (K46.mono HX.out.2.2)
  have OX := Lib.hid O6
  have S6 := Lib.hid hs6
  have S14 := Lib.hid hB14
  have KW := Lib.hid KW6
  have I6H := Lib.hid I6
  clear hw6 hw6' K56 hs5 K46 BK1 BK2 o5 k5 hB1 hs6 hB14 KW6 I6 CB I0H K4 hmv
  refine (wpIn_wide (n := 3)).1 ?_
  refine wpIn_rangeFunc_ownG rfl (by omega) (gf := 107) (lb := #[.pointer (some ⟨B1, 0, none⟩), .pointer (some ⟨B1 + 1, 0, none⟩)]) rfl trivial (enters_of Tryz.func107 (by kernel_rfl) rfl)
    (chunk_stopsB (3 - 1) B1 (B1 + 1) (by omega) mv bs w6 OX.out.isB (by have := HLB.out; omega) (by have := S6.out; omega) (by have := S6.out; omega) C1 C2) (fun h k => h.trans k)
    (fun W l o o' hl _ _ _ => ⟨by simp [World.putObj, Array.getElem?_setIfInBounds_ne (show l ≠ B1 by have := S6.out; omega)], by simp [World.putObj, Array.getElem?_setIfInBounds_ne (show l ≠ B1 + 1 by have := S6.out; omega)]⟩)
    (Below.refl _ _) (fun _ => rfl)
    (fun pre W => (∃ v, Blk W x0 117 [v] ∧ W.ownsRow w6.heap.size 146 2 v pre.length (chcs (M.cls bs pre) (pre.map (pieceOfB mv)))) ∧ Chg (fun k => k = x0) w6 W ∧ Below w.heap.size w W) (fun _ _ _ => False)
    (OwnFrom.and (fun s W W' row hs hg hr => by
      obtain ⟨v, hb, ho⟩ := hs
      exact ⟨v, hb.grown hg (not_cells_ne9 hb hr), owns_last ho hg (row_cells ho hr)⟩) (OwnFrom.and (fun s W W' row hs hg hr => hs.trans (Chg.of_grown (F := fun k => w6.heap.size ≤ k) hg fun k hk => (hr k hk).1) fun k hk h => absurd h (by omega)) (ownFrom_below (Nat.le_refl _) (by have := KW.out.size; exact this)))) (fun _ _ _ _ _ hs _ _ => hs) ⟨⟨_, I6H.out, World.ownsRow_nil _ _ _ _⟩, Chg.refl _ _, KW.out⟩ ?a1 ?assign ?body ?done ?stop
  case assign =>
    intro l x W K hK
    gi_wp2
    exact hK
  case stop =>
    rintro D c pre W hD _ h _
    exact h.elim
  case done =>
    rintro D ys W hD hys ⟨⟨v, hb, ho⟩, hsame, hB⟩ hK
    have hc : W.cell? ⟨x0, 0, none⟩ = some v := hb.cell 0
    have hys2 : ys = List.range 32 := by rw [hys, HLB.out]
    subst hys2
    dsimp only
    go_wp2
    refine ⟨by simp, .inl ⟨_, _, rfl, run_takeDeferred hK, ?_⟩⟩
    have hsz : w.heap.size ≤ w6.heap.size := KW.out.size
    refine ⟨_, results_tmp rfl _ _ _, v, (List.range 32).map (pieceOfB mv), rfl, changes_own (owns_last ho (grownBy_putObj' W D _) (fun k hk e => by
      injection e with e
      subst e
      rcases ho.2 with ⟨rfl, _⟩ | ⟨k', cap, cur, rfl, hb', hg', _⟩
      · simp [Value.ownBlock] at hk
      · obtain rfl : k' = D := by simpa [Value.ownBlock] using hk
        rw [hg'] at hK
        cases hK)) ((hsame.mono fun k _ e => .inl e).trans (Chg.of_grown (F := fun k => k = D) (grownBy_putObj' W D _) fun k hk => by injection hk with hk; exact hk.symm) fun k hk e => absurd e (by omega)) OX.out MB.out HX.out S14.out S6.out, hB.trans (belowK_b (w := w) (Nat.le_refl _) W D _ _ (by omega) hK rfl rfl)⟩
  case body =>
    rintro l pre x W ⟨⟨v, hb, ho⟩, hsame, hB⟩ hlt
    obtain ⟨va, vc, rfl⟩ := ownShape ho
    obtain ⟨pa, pn, pc, hpv⟩ := pieceOfB_shape mv x
    have hc : W.cell? ⟨x0, 0, none⟩ = some (.slice va pre.length vc) := hb.cell 0
    have HPV := Lib.hid hpv
    have HBK := Lib.hid hb
    have HO := Lib.hid ho
    have HSA := Lib.hid hsame
    have HBB := Lib.hid hB
    have HLT : Hid (pre.length < 32) := by have := HLB.out; rw [Hid]; omega
    rw [hpv]
    clear hb ho hsame hB hlt hpv
    refine wpIn_block ?_
    refine wpIn_region_of_list l (fun ⟨_, _, h⟩ => h) (noDefer_spec9 (by kernel_rfl)) ?_
    obtain ⟨w1, hw1⟩ : ∃ y, Hid (y = W.alloc (.cells #[.int .i64 (pre.length : Int), .slice pa pn pc] 146)) := ⟨_, rfl⟩
    obtain ⟨g1, hg1⟩ : ∃ y, Hid (y = W.heap.size) := ⟨_, rfl⟩
    have KO1 : Hid (KeepsOthers W w1) := by rw [hw1.out]; exact KeepsOthers.alloc _ _
    have k1 : Below W.heap.size W w1 := by rw [hw1.out]; exact (Below.refl _ _).alloc (Nat.le_refl _) _
    have b1 : Blk w1 g1 146 [.int .i64 (pre.length : Int), .slice pa pn pc] := by rw [hw1.out]; exact Blk.newAt _ _ _ _ _ hg1.out rfl
    have O1 := Lib.hid (own_chg HO.out (Chg.of_below (F := fun _ => False) k1) fun _ _ h => h)
    have B1X := Lib.hid (HBK.out.below k1 HBK.out.lt)
    have K1 := Lib.hid k1
    have BB1 := Lib.hid b1
    have HS6 : Hid (w6.heap.size ≤ w1.heap.size) := Nat.le_trans HSA.out.size k1.size
    clear k1 b1
    go_wp2_with (rw [← hw1.out, ← hg1.out]; refine wpList_app_row change10 _ rfl (.tmp 9) (.tmp 14) rfl w6.heap.size (.slice va pre.length vc) pre.length _ rfl O1.out ⟨g1, 0, none⟩ 1 1 [.int .i64 (pre.length : Int), .slice pa pn pc] rfl rfl (fun j u hj => by rw [Addr.add_lit, Nat.zero_add, BB1.out.cell]; exact hj) (by intro u hu; simp only [List.mem_cons, List.not_mem_nil, or_false] at hu; rcases hu with rfl | rfl <;> rfl) (by have := HLT.out; unfold maxLen; omega) (by have := HLT.out; omega) HS6.out ?_; intro v6 w7 o6 g6 a6; obtain ⟨xa, xc, rfl⟩ := ownShape o6; have hx6 : some x0 ≠ (Value.slice va pre.length vc).ownBlock := (fun e => by have h1 := (O1.out.lt x0 e.symm).1; have h2 := S6.out; have h3 := HX.out; have h4 := S14.out; omega); have b6 := B1X.out.grown g6 hx6; have c6 := b6.cell 0; have f6 := b6.frozen 0; simp only [List.getElem?_cons_zero] at c6)
    have hg : w7.grownBy (w7.setCell ⟨x0, 0, none⟩ (.slice xa (pre.length + 1) xc)) (some x0) := (Only.refl x0 w7).setCell (.inl rfl) _
    have hsz : w6.heap.size ≤ W.heap.size := HSA.out.size
    have CH : Chg (fun k => k = x0 ∨ W.heap.size ≤ k ∨ (Value.slice va pre.length vc).ownBlock = some k) W (w7.setCell ⟨x0, 0, none⟩ (.slice xa (pre.length + 1) xc)) := (((Chg.of_below (F := fun k => k = x0 ∨ W.heap.size ≤ k ∨ (Value.slice va pre.length vc).ownBlock = some k) K1.out).trans (Chg.of_grown (F := fun k => (Value.slice va pre.length vc).ownBlock = some k) g6 fun k hk => hk) fun k hk e => .inr (.inr e))).setCell ⟨x0, 0, none⟩ _ (.inl (.inl rfl))
    have hold : ∀ k, k < w6.heap.size → k ≠ x0 → (w7.setCell ⟨x0, 0, none⟩ (.slice xa (pre.length + 1) xc)).heap[k]? = W.heap[k]? := fun k hk hk2 => CH.block k (by omega) fun e => by
      rcases e with e | e | e
      · exact hk2 e
      · omega
      · have := (HO.out.lt k e).1
        omega
    have OO : w7.ownsRow w6.heap.size 146 2 (.slice xa (pre.length + 1) xc) (pre ++ [x]).length (chcs (M.cls bs (pre ++ [x])) ((pre ++ [x]).map (pieceOfB mv))) := by
      rw [M.cls_snoc, List.map_append, chcs_append _ _ _ _ (by rw [List.length_map, M.cls_length]), List.length_append]
      have e : chcs [((pre.length : Int), M.chkB bs x)] ([x].map (pieceOfB mv)) = [.int .i64 (pre.length : Int), .slice pa pn pc] := by
        show [Value.int .i64 (pre.length : Int), pieceOfB mv x] = _
        rw [HPV.out]
      rw [e]
      exact o6
    refine ⟨((KO1.out.trans (KeepsOthers.of_grownBy g6 fun j o ej hj => ?_)).trans (KeepsOthers.setCell _ _ _)).from _, ⟨hold B1 (by have := S6.out; omega) (by have := HX.out; have := S14.out; omega), hold (B1 + 1) (by have := S6.out; omega) (by have := HX.out; have := S14.out; omega)⟩, ⟨_, b6.set_ 0 _, owns_last OO hg fun k hk e => ?_⟩, HSA.out.trans CH fun k hk e => ?_, ((HBB.out.trans (K1.out.mono (by have := HX.out; have := S14.out; have := S6.out; omega))).grown g6 (by have := HX.out; have := S14.out; have := S6.out; have := HS6.out; omega) fun k hk => by have := (O1.out.lt k hk).1; have := HX.out; have := S14.out; have := S6.out; omega).setCell (p := ⟨x0, 0, none⟩) HX.out.2.1 _⟩
    · rcases O1.out.2 with ⟨h, _⟩ | ⟨k', cap, cur, h, hb', hg', _⟩
      · rw [h] at ej
        simp [Value.ownBlock] at ej
      · rw [h] at ej
        have e' : k' = j := by simpa [Value.ownBlock] using ej
        subst e'
        rw [hg'] at hj
        cases hj
        rfl
    · exact row_ne OO b6 (by decide) (e.trans hk.symm)
    · rcases e with e | e | e
      · exact e
      · omega
      · have := (HO.out.lt k e).1
        omega

end Go.Proofs.YtphcbpfpelonaaaGreatDoor
