/-
  THE CONTRACT OF Files.changed: the files as they are behind changes. Conditions: all lies so; the free blocks suffice.
  PLAIN MATHEMATICS OF put: the writes of a commit, in their order. Nothing of the program. Conditions: none.
  THE CONTRACT OF slices.Chunk AT BYTES AND 256: what it hands back is called with a loop's body for each pieceB of at most 256 bytes, in their order. Conditions: none but that the slice lies within its reach.
-/
import Derived.Test.YtphcbpfpelonaaaGreatDoorFileS
import Derived.Test.YtphcbpfpelonaaaGreatDoorPf20
import Derived.Test.YtphcbpfpelonaaaGreatDoorPf21
import Derived.Test.YtphcbpfpelonaaaGreatDoorPf22
import Derived.RangeFuncBound
import Derived.RangeFuncLeaves
import Derived.RangeFuncBox
import Derived.Shelf.Abstract
import Derived.Shelf.RegionOpen
import Derived.WalkKit
import Derived.OwnWalkIn
import Derived.TacticsInMore
import Derived.LoopNIn
import Derived.LoopIn

namespace Go.Proofs.YtphcbpfpelonaaaGreatDoor
open Go.RowKit Go.Maps
set_option linter.unusedVariables false
set_option maxRecDepth 100000

namespace M
def chgS (fr : List Nat) (s : Tab × Nat) (c : FC) : Tab × Nat :=
  if c.gone = true then (tdel s.1 c.nm, s.2) else (tput s.1 ⟨c.nm, c.data.length, (fr.drop s.2).take (need c.data.length)⟩, s.2 + need c.data.length)
/-- The files behind changes, and how many of the free blocks they take. -/
def chgN (fr : List Nat) (t : Tab) (l : FL) : Tab × Nat := l.foldl (chgS fr) (t, 0)

theorem chgN_next (fr : List Nat) (t : Tab) (l : FL) (k : Nat) (hk : k < l.length) : chgN fr t (l.take (k + 1)) = chgS fr (chgN fr t (l.take k)) (l.getD k default) := by
  rw [chgN, List.take_add_one, List.foldl_append, List.getElem?_eq_getElem hk, List.getD_eq_getElem?_getD, List.getElem?_eq_getElem hk]
  rfl

theorem chgN_blk (fr : List Nat) (t : Tab) (l : FL) : ∀ k, k ≤ l.length → (chgN fr t (l.take k)).2 = blkN (l.take k)
  | 0, _ => rfl
  | k + 1, h => by
    have ih := chgN_blk fr t l k (by omega)
    rw [chgN_next fr t l k (by omega), blkN_next l k (by omega), chgS, blkS, ← ih]
    split <;> rfl

theorem blkN_mono (l : FL) : ∀ (r : FL) (a : Nat), a ≤ r.foldl blkS a
  | [], a => Nat.le_refl _
  | c :: r, a => by
    have h := blkN_mono l r (blkS a c)
    have h2 : a ≤ blkS a c := by rw [blkS]; split <;> omega
    exact Nat.le_trans h2 h

theorem blkN_take (l : FL) (k : Nat) : blkN (l.take k) ≤ blkN l := by
  have h := blkN_mono l (l.drop k) (blkN (l.take k))
  rw [blkN, blkN, ← List.foldl_append, List.take_append_drop] at *
  exact h

theorem chgN_few (fr : List Nat) (t : Tab) (l : FL) : ∀ k, k ≤ l.length → (chgN fr t (l.take k)).1.length ≤ t.length + k
  | 0, _ => by rw [List.take_zero]; exact Nat.le_refl _
  | k + 1, h => by
    have ih := chgN_few fr t l k (by omega)
    rw [chgN_next fr t l k (by omega), chgS]
    split
    · have := tdel_le (chgN fr t (l.take k)).1 (l.getD k default).nm
      exact Nat.le_trans this (by omega)
    · have := tput_le (chgN fr t (l.take k)).1 ⟨(l.getD k default).nm, (l.getD k default).data.length, (fr.drop (chgN fr t (l.take k)).2).take (need (l.getD k default).data.length)⟩
      exact Nat.le_trans this (by omega)
end M

/-- 's[n:]' and 's[:n:n]' of ints. -/
theorem IsI.cut {S : Nat → Prop} {w : World} {ao : Option Addr} {len cap : Nat} {ws : List Nat} (h : IsI w (.slice ao len cap) ws) (hS : Lies S (.slice ao len cap)) (m : Nat) (hm : m ≤ len) :
    (IsI w (.slice (if cap = m then ao else ao.map (fun x => x.add m)) (len - m) (cap - m)) (ws.drop m) ∧ Lies S (.slice (if cap = m then ao else ao.map (fun x => x.add m)) (len - m) (cap - m))) ∧
    (∀ W : World, (Instr.slice 108 (.slice ao len cap) none (some (.int .i64 (m : Int))) (some (.int .i64 (m : Int)))).run Tryz.prog W = .ok (.slice ao m m) W) ∧ IsI w (.slice ao m m) (ws.take m) ∧ Lies S (.slice ao m m) := by
  have hel : Tryz.prog.elem 108 = 3 := by simp [Program.elem, Tryz.underlying108]
  obtain ⟨ao', cap', e, h1, h2, h3⟩ := h
  injection e with e1 e2 e3
  subst e1 e2 e3
  refine ⟨⟨?_, ?_⟩, fun W => ?_, ?_, ?_⟩
  · have hl : (ws.drop m).length = ws.length - m := by rw [List.length_drop]
    refine ⟨_, cap - m, by rw [hl], by rw [hl]; omega, by omega, ?_⟩
    by_cases hc : cap = m
    · exact .inl (List.eq_nil_of_length_eq_zero (by rw [hl]; omega))
    · rw [if_neg hc]
      rcases h3 with h | ⟨b, off, rfl, h⟩
      · exact .inl (by rw [h]; simp)
      · refine .inr ⟨b, off + m, by rw [Option.map_some, Addr.add_lit], fun i hi => ?_⟩
        rw [hl] at hi
        rw [Nat.add_assoc, h (m + i) (by omega)]
        simp [List.getD_eq_getElem?_getD]
  · intro ad n c e
    injection e with e1 e2 e3
    by_cases hc : cap = m
    · rw [if_pos hc] at e1
      exact hS ad ws.length cap (by rw [e1])
    · rw [if_neg hc] at e1
      cases ao with
      | none => cases e1
      | some a0 =>
        rw [Option.map_some] at e1
        injection e1 with e1
        have := hS a0 ws.length cap rfl
        rw [← e1]
        have e : (a0.add m).block = a0.block := by
          unfold Addr.add
          first | rfl | (split <;> rfl)
        rw [e]
        exact this
  · rw [run_slice_hm W 108 ao ws.length cap (by rw [hel]; exact Tryz.underlying108) .i64 .i64 (m : Int) (m : Int) (by omega) (by omega) (by omega), hel, Tryz.sizeOf3]
    simp only [Result.andThen_ok, sliced, Int.toNat_natCast, Nat.mul_one]
    cases ao <;> simp [Addr.add]
  · have hl : (ws.take m).length = m := by rw [List.length_take]; omega
    refine ⟨ao, m, by rw [hl], by rw [hl]; exact Nat.le_refl _, by omega, ?_⟩
    rcases h3 with h | ⟨b, off, rfl, h⟩
    · exact .inl (by rw [h]; simp)
    · refine .inr ⟨b, off, rfl, fun i hi => ?_⟩
      rw [hl] at hi
      rw [h i (by omega), List.getD_eq_getElem?_getD, List.getD_eq_getElem?_getD, List.getElem?_take, if_pos hi]
  · intro ad n c e
    injection e with e1 e2 e3
    exact hS ad ws.length cap (by rw [e1])

set_option maxHeartbeats 8000000 in
theorem changed_any {T S : Nat → Prop} {w : World} {gf gw g mb nb : Nat} {m : M.Dsk} {dn : Bool} {t : M.Tab} {vs : List Value} (hF : FLies T w gf gw g mb nb m dn t vs) (hS : ∀ i, i < t.length → Lies S (vs.getD i undef)) (lv : Value) (l : M.FL) (xs : List Value) (hl : IsFL w lv l xs) (hlen : l.length ≤ 10000) (hd : ∀ c ∈ l, c.data.length ≤ 1099511627776) (hb : M.blkN l ≤ (M.free nb t).length) :
    Calls Tryz.prog 28 #[.pointer (some ⟨gf, 0, none⟩), lv] w fun e w' => ∃ b, e = .returned (.map (some b)) ∧ w.heap.size ≤ b ∧ b < w'.heap.size ∧ TabIn (fun k => S k ∨ (w.heap.size ≤ k ∧ k < w'.heap.size)) w' b (M.chgN (M.free nb t) t l).1 ∧ Below w.heap.size w w' := by
  have CC0 := AnyW.maps_Clone_owns lay_mclone 9 placeR mb t.length _ w hF.tab.map
  change Calls Tryz.prog 57 _ _ _ at CC0
  have CC := Lib.hid CC0
  clear CC0
  have hl' := hl
  obtain ⟨ao, cap, rfl, -, -, -, -, -⟩ := hl'
  obtain ⟨fr, hfr⟩ : ∃ z, z = M.free nb t := ⟨_, rfl⟩
  rw [← hfr] at hb ⊢
  have HFL : Hid (fr.length ≤ 2048) := by have h1 := M.free_le nb t; have h2 := hF.ok.n; rw [Hid, hfr]; omega
  have HFR := Lib.hid hfr
  obtain ⟨n, hn⟩ : ∃ n, n = l.length := ⟨_, rfl⟩
  have HN : Hid (l.length = n) := hn.symm
  have HLN : Hid (n ≤ 10000) := by rw [Hid, hn]; exact hlen
  have HD := Lib.hid hd
  have HB := Lib.hid hb
  have HS := Lib.hid hS
  rw [← hn] at hl ⊢
  have HL := Lib.hid hl
  have HF := Lib.hid hF
  have HFEW : Hid (t.length ≤ 64) := HF.out.ok.few
  have c1 := HF.out.at_.cell 1
  simp only [List.getElem?_cons_succ, List.getElem?_cons_zero] at c1
  obtain ⟨cb, hcb⟩ : ∃ x, Hid (x = w.heap.size) := ⟨_, rfl⟩
  rw [← hcb.out] at CC
  have CFREE := Lib.hid (free_any gf)
  clear hF hl hlen hd hn hb hS hfr
  go_enter Tryz.func28, Tryz.ntmps28
  go_wp2_with fail
  refine CC.out.mono ?_
  rintro e w1 ⟨rfl, hm1, -, k1⟩
  have K1 : Hid (Below w.heap.size w w1) := by rw [Hid, ← hcb.out]; exact k1
  have KM1 : Hid (w1.ownsMap Tryz.prog 9 placeR cb t.length (.map (tabL t vs))) := hm1
  obtain ⟨w2, hw2⟩ : ∃ x, Hid (x = w1.alloc (.cells #[.pointer (some ⟨gf, 0, none⟩)] 26)) := ⟨_, rfl⟩
  obtain ⟨x1, hx1⟩ : ∃ x, Hid (x = w1.heap.size) := ⟨_, rfl⟩
  have K12 : Hid (Below w1.heap.size w1 w2) := by rw [hw2.out]; exact (Below.refl _ _).alloc (Nat.le_refl _) _
  have B2 : Hid (Blk w2 x1 26 [.pointer (some ⟨gf, 0, none⟩)]) := by rw [hw2.out]; exact Blk.newAt _ _ _ _ _ hx1.out rfl
  have K2 : Hid (Below w.heap.size w w2) := K1.out.trans (K12.out.mono K1.out.size)
  have CCOL := Lib.hid (collect_any (HF.out.below K2.out) x1 (B2.out.cell 0))
  clear k1 hm1 CC c1
  go_wp2_with fail
  refine (CFREE.out w1).mono ?_
  rintro e wx ⟨rfl, rfl⟩
  rw [← hw2.out, ← hx1.out]
  clear hw2 hx1
  go_wp2_with fail
  refine CCOL.out.mono ?_
  rintro e w3 ⟨fv, rfl, of, k3⟩
  rw [← HFR.out] at of
  obtain ⟨fa, fc, hfv⟩ := ownShape of
  have K3 : Hid (Below w.heap.size w w3) := K2.out.trans (k3.mono K2.out.size)
  have HCB : Hid (w.heap.size = cb ∧ cb < w1.heap.size) := ⟨hcb.out.symm, KM1.out.lt⟩
  have H12 : Hid (w1.heap.size ≤ w2.heap.size ∧ w2.heap.size ≤ w3.heap.size) := ⟨K12.out.size, k3.size⟩
  have FI : Hid (IsI w3 fv fr) := OwnI.isI of
  have FS : Hid (Lies (fun k => cb < k ∧ k < w3.heap.size) fv) := lies_own of fun k h1 h2 => ⟨by have := HCB.out; have := H12.out; omega, h2⟩
  have T3 : Hid (∃ vs', IsTabV w3 cb (M.chgN fr t (l.take 0)).1 vs' ∧ ∀ i, i < (M.chgN fr t (l.take 0)).1.length → Lies (fun k => S k ∨ (w.heap.size ≤ k ∧ k < w3.heap.size)) (vs'.getD i undef)) := by
    refine ⟨vs, ⟨HF.out.tab.len, owns_below KM1.out ((K12.out.trans (k3.mono H12.out.1))), fun i hi => (HF.out.tab.each i hi).below K3.out⟩, fun i hi => (HS.out i hi).mono fun k hk => .inl hk⟩
  have HL3 := Lib.hid (HL.out.below K3.out)
  subst hfv
  clear of k3 K12 KM1 B2 CCOL CFREE K2 hcb
  go_wp2
  go_loopw [6, 9, 20] (fun fv _ i wr => ∃ k : Nat, i = .int .i64 (k : Int) ∧ Hid (k ≤ n) ∧ Hid (∃ vs', IsTabV wr cb (M.chgN fr t (l.take k)).1 vs' ∧ ∀ i, i < (M.chgN fr t (l.take k)).1.length → Lies (fun k => S k ∨ (w.heap.size ≤ k ∧ k < w3.heap.size)) (vs'.getD i undef)) ∧ Hid (IsI wr fv (fr.drop (M.blkN (l.take k)))) ∧ Hid (Lies (fun k => cb < k ∧ k < w3.heap.size) fv) ∧ Hid (Chg (fun b => b = cb) w3 wr))
    (fun _ _ i _ => n - numOf i)
  case atStart => exact ⟨0, rfl, Nat.zero_le _, T3.out, FI.out, FS.out, Chg.refl _ _⟩
  case round =>
    clear T3 FI FS
    obtain ⟨wz, rfl⟩ : ∃ x, x = wr := ⟨_, rfl⟩
    obtain ⟨k, rfl, hk, ht, hfi, hfs, cg⟩ := hrel
    have KZ : Hid (Below w.heap.size w wz) := K3.out.trans (cg.out.below K3.out.size fun b hb => by rw [hb]; exact Nat.le_of_eq HCB.out.1)
    by_cases hlt : k < n
    · have b1 : (k : Int) < (n : Int) := by omega
      have HK := Lib.hid hlt
      have hkl : k < l.length := by rw [HN.out]; exact hlt
      have hcn := M.chgN_next fr t l k hkl
      have hbk := M.chgN_blk fr t l k (Nat.le_of_lt hkl)
      have hbn := M.blkN_next l k hkl
      have hbt := M.blkN_take l (k + 1)
      have hfew := M.chgN_few fr t l k (Nat.le_of_lt hkl)
      obtain ⟨lb, lo, rfl, c0, c1, c2, ib, -, hnm⟩ := (HL.out.below KZ.out).at_ k hkl
      have hdl := HD.out (l.getD k default) (by rw [List.getD_eq_getElem?_getD, List.getElem?_eq_getElem hkl]; exact List.getElem_mem _)
      obtain ⟨c, hc⟩ : ∃ c, c = l.getD k default := ⟨_, rfl⟩
      rw [← hc] at c0 c2 ib hnm hcn hbn hdl
      obtain ⟨d, hdd⟩ : ∃ z, z = M.blkN (l.take k) := ⟨_, rfl⟩
      obtain ⟨t1, ht1⟩ : ∃ z, z = (M.chgN fr t (l.take k)).1 := ⟨_, rfl⟩
      rw [M.chgS, ← ht1, hbk, ← hdd] at hcn
      rw [← hdd, M.blkS] at hbn
      rw [← ht1] at ht hfew
      rw [← hdd] at hfi
      have HT1F : Hid (t1.length ≤ 20000) := by have h1 := HFEW.out; have h2 := HLN.out; clear hcn hbn hbt hdl; rw [Hid]; omega
      obtain ⟨da, dc, hdv⟩ := ib.shape
      obtain ⟨dn', hdn⟩ : ∃ z, z = c.data.length := ⟨_, rfl⟩
      rw [hdv, ← hdn] at c1
      rw [← hdn] at hdl hbn hcn
      obtain ⟨gone, hgone⟩ : ∃ z, z = c.gone := ⟨_, rfl⟩
      rw [← hgone] at c2 hcn hbn
      obtain ⟨nm, hnm0⟩ : ∃ s : ByteArray, s = ⟨c.nm.toArray⟩ := ⟨_, rfl⟩
      rw [← hnm0] at c0
      obtain ⟨w1', hw1⟩ : ∃ x, Hid (x = wz.alloc (.cells #[.string nm, .slice da dn' dc, .bool gone] 58)) := ⟨_, rfl⟩
      obtain ⟨x2, hx2⟩ : ∃ x, Hid (x = wz.heap.size) := ⟨_, rfl⟩
      have KK1 : Hid (Below wz.heap.size wz w1') := by rw [hw1.out]; exact (Below.refl _ _).alloc (Nat.le_refl _) _
      have B1 : Hid (Blk w1' x2 58 [.string nm, .slice da dn' dc, .bool gone]) := by rw [hw1.out]; exact Blk.newAt _ _ _ _ _ hx2.out rfl
      have d0 := B1.out.cell 0
      have d1 := B1.out.cell 1
      have d2 := B1.out.cell 2
      simp only [List.getElem?_cons_zero, List.getElem?_cons_succ] at d0 d1 d2
      have CG1 : Hid (Chg (fun b => b = cb) w3 w1') := cg.out.trans (Chg.of_below (F := fun _ => False) KK1.out) fun _ _ h => h.elim
      have g2 : (0 : Int) ≤ (k : Int) := Int.natCast_nonneg k
      have g3 : ((k : Int)).toNat = k := Int.toNat_natCast k
      have n3 : wrap64 ((k : Int) + 1) = ((k + 1 : Nat) : Int) := by have := HLN.out; unfold wrap64; omega
      have N3 := Lib.hid n3
      have HNM := Lib.hid hnm0
      have HCN := Lib.hid hcn
      have HBN := Lib.hid hbn
      have HMX := Lib.hid hnm
      obtain ⟨vs1, htv, hts⟩ := ht.out
      have HTV := Lib.hid (htv.below KK1.out)
      have HTS := Lib.hid hts
      have HFI := Lib.hid (hfi.out.below KK1.out)
      have HDN := Lib.hid hdn
      have HDL := Lib.hid hdl
      have HBT := Lib.hid hbt
      clear hc hdv hgone hnm0 n3 ib hkl hdn hcn hbn hbk hdd ht1 htv hts ht hfi hnm hfew hbt KZ cg hdl
      cases gone with
      | true =>
        obtain ⟨w2', vs2, hrun, h1, h2, h3, h4⟩ := HTV.out.dropL HTS.out c.nm HMX.out 0
        rw [← HNM.out] at hrun
        have HT2 : Hid (∃ vs', IsTabV w2' cb (M.chgN fr t (l.take (k + 1))).1 vs' ∧ ∀ i, i < (M.chgN fr t (l.take (k + 1))).1.length → Lies (fun k => S k ∨ (w.heap.size ≤ k ∧ k < w3.heap.size)) (vs'.getD i undef)) := by
          rw [Hid, HCN.out, if_pos rfl]
          exact ⟨vs2, h1, h2⟩
        have CG2 : Hid (Chg (fun b => b = cb) w3 w2') := CG1.out.trans (Chg.of_grown (F := fun b => b = cb) h3 fun b hb => by injection hb with hb; exact hb.symm) fun _ _ h => h
        have FI2 : Hid (IsI w2' u6 (fr.drop (M.blkN (l.take (k + 1))))) := by
          rw [Hid, HBN.out, if_pos rfl]
          exact HFI.out.turned HTV.out.isMap h3
        clear h1 h2 h3 h4
        go_upto_region 5 with fail
        rw [← hw1.out, ← hx2.out]
        clear c0 c1 c2 hw1 hx2
        go_wp2
        clear hrun
        first | go_wp2 | skip
        go_roundw
        case rel => exact ⟨k + 1, by first | rw [N3.out] | rfl, HK.out, HT2.out, FI2.out, hfs.out, CG2.out⟩
        case measure =>
          first | rw [N3.out] | skip
          exact step_down HK.out
      | false =>
        obtain ⟨nd, hnd⟩ : ∃ z, z = M.need dn' := ⟨_, rfl⟩
        have CN := Lib.hid (fun x => need_any dn' x HDL.out)
        rw [← hnd] at CN
        have hfl : nd ≤ (fr.drop d).length := by
          have h1 := HBT.out
          have h2 := HB.out
          rw [HBN.out, if_neg (by decide), ← hnd] at h1
          rw [List.length_drop]
          omega
        have HND := Lib.hid hnd
        obtain ⟨fva, fvc, efv⟩ := HFI.out.shape
        obtain ⟨fl, hfl2⟩ : ∃ z, z = (fr.drop d).length := ⟨_, rfl⟩
        rw [← hfl2] at efv hfl
        have HFLL := Lib.hid hfl
        obtain ⟨⟨hi2, hs2⟩, hsl3, hi3, hs3⟩ := (show IsI w1' (.slice fva fl fvc) (fr.drop d) by rw [← efv]; exact HFI.out).cut (show Lies _ (.slice fva fl fvc) by rw [← efv]; exact hfs.out) nd hfl
        clear hfl hnd hfl2
        subst efv
        have HSL3 := Lib.hid hsl3
        have HI2 := Lib.hid hi2
        have HI3 := Lib.hid hi3
        have HS2 := Lib.hid hs2
        have HS3 := Lib.hid hs3
        clear hsl3 hi2 hi3 hs2 hs3
        go_upto_region 5 with fail
        rw [← hw1.out, ← hx2.out]
        clear c0 c1 c2 hw1 hx2
        go_wp2_with fail
        refine (CN.out _).mono ?_
        rintro e w2' ⟨rfl, rfl⟩
        go_upto_region 8 with fail
        have hs3 := HSL3.out
        refine wp_region_still 11 (by kernel_rfl) (by kernel_rfl) ?_
        simp only [List.take_succ_cons, List.take_zero, List.drop_succ_cons, List.drop_zero]
        repeat still_step
        refine wpStill_nil ?_
        have KD : Below w2'.heap.size w2' w2'.drew := drewN_below (Below.refl _ w2') 1
        have hsz2 : w3.heap.size ≤ w2'.heap.size := CG1.out.size
        obtain ⟨w5, vs2, hrun, h1, h2, h3, h4⟩ := (HTV.out.below KD).storeL HTS.out ⟨c.nm, dn', (fr.drop d).take nd⟩ (.slice fva nd nd) (HI3.out.below KD) (HS3.out.mono fun x hx => .inr ⟨by have := HCB.out; omega, hx.2⟩) HMX.out (by have := HT1F.out; omega)
        rw [show (ByteArray.mk (M.Pl.mk c.nm dn' ((fr.drop d).take nd)).nm.toArray) = nm from HNM.out.symm, show plV (M.Pl.mk c.nm dn' ((fr.drop d).take nd)) (.slice fva nd nd) = .agg #[.int .i64 (dn' : Int), .slice fva nd nd] from rfl] at hrun
        have HT2 : Hid (∃ vs', IsTabV w5 cb (M.chgN fr t (l.take (k + 1))).1 vs' ∧ ∀ i, i < (M.chgN fr t (l.take (k + 1))).1.length → Lies (fun k => S k ∨ (w.heap.size ≤ k ∧ k < w3.heap.size)) (vs'.getD i undef)) := by
          rw [Hid, HCN.out, if_neg (by decide), ← HND.out]
          exact ⟨vs2, h1, h2⟩
        have CG2 : Hid (Chg (fun b => b = cb) w3 w5) := (CG1.out.trans (Chg.of_below (F := fun _ => False) KD) fun _ _ h => h.elim).trans (Chg.of_grown (F := fun b => b = cb) h3 fun b hb => by injection hb with hb; exact hb.symm) fun _ _ h => h
        have FI2 : Hid (IsI w5 (.slice (if fvc = nd then fva else fva.map (fun x => x.add nd)) (fl - nd) (fvc - nd)) (fr.drop (M.blkN (l.take (k + 1))))) := by
          have e : M.blkN (l.take (k + 1)) = d + nd := by rw [HBN.out, if_neg (by decide), ← HND.out]
          rw [Hid, e, ← List.drop_drop]
          exact (HI2.out.below KD).turned (HTV.out.below KD).isMap h3
        clear h1 h2 h3 h4
        go_wp2
        clear hrun
        go_roundw
        case rel => exact ⟨k + 1, by first | rw [N3.out] | rfl, HK.out, HT2.out, FI2.out, HS2.out, CG2.out⟩
        case measure =>
          first | rw [N3.out] | skip
          exact step_down HK.out
    · have b1 : ¬ (k : Int) < (n : Int) := by omega
      obtain rfl : k = n := by have := hk.out; omega
      go_wp2
      go_ret
      obtain ⟨vs', h1, h2⟩ := ht.out
      have hs := cg.out.size
      have hll : l.take k = l := List.take_of_length_le (by rw [HN.out]; exact Nat.le_refl _)
      rw [hll] at h1 h2
      exact ⟨cb, rfl, by have := HCB.out; omega, h1.lt, ⟨vs', h1, fun i hi => (h2 i hi).mono fun x hx => hx.imp_right fun hx => ⟨hx.1, by omega⟩⟩, KZ.out⟩

end Go.Proofs.YtphcbpfpelonaaaGreatDoor

namespace Go.Proofs.YtphcbpfpelonaaaGreatDoor.M
set_option linter.unusedVariables false

/-- Block i of a file's bytes, zeros behind. -/
def blkB (data : List UInt8) (i : Nat) : List UInt8 := lay11 zero256 0 ((data.drop (256 * i)).take 256)

theorem blkB_length (data : List UInt8) (i : Nat) : (blkB data i).length = 256 := by
  have h : zero256.length = 256 := List.length_replicate
  rw [blkB, lay11_length (by rw [List.length_take, h]; omega), h]

/-- The writes of a file's bytes to blocks, from the i-th on. -/
def fileWs (data : List UInt8) : List Nat → Nat → List (Nat × List UInt8)
  | [], _ => []
  | b :: r, i => (74 + b, blkB data i) :: fileWs data r (i + 1)

/-- The blocks that a file has. -/
def bsOf (t : Tab) (k : List UInt8) : List Nat := ((t.find? fun p => p.nm == k).getD default).bs

/-- The writes of a list of changes. -/
def putWs (t : Tab) : FL → List (Nat × List UInt8)
  | [] => []
  | c :: r => (if c.gone = true then [] else fileWs c.data (bsOf t c.nm) 0) ++ putWs t r

theorem fileWs_drop (data : List UInt8) : ∀ (bs : List Nat) (i j : Nat), j < bs.length → fileWs data (bs.drop j) (i + j) = (74 + bs.getD j 0, blkB data (i + j)) :: fileWs data (bs.drop (j + 1)) (i + (j + 1))
  | b :: r, i, 0, _ => rfl
  | b :: r, i, j + 1, h => by
    have ih := fileWs_drop data r (i + 1) j (by simpa using h)
    rw [show i + 1 + j = i + (j + 1) by omega, show i + 1 + (j + 1) = i + (j + 1 + 1) by omega] at ih
    exact ih

theorem fileWs_at (data : List UInt8) (bs : List Nat) (j : Nat) (h : j < bs.length) : fileWs data (bs.drop j) j = (74 + bs.getD j 0, blkB data j) :: fileWs data (bs.drop (j + 1)) (j + 1) := by
  have := fileWs_drop data bs 0 j h
  simpa using this

theorem putWs_drop (t : Tab) : ∀ (l : FL) (k : Nat), k < l.length → putWs t (l.drop k) = (if (l.getD k default).gone = true then [] else fileWs (l.getD k default).data (bsOf t (l.getD k default).nm) 0) ++ putWs t (l.drop (k + 1))
  | c :: r, 0, _ => rfl
  | c :: r, k + 1, h => putWs_drop t r k (by simpa using h)

theorem doWrite_grow (m : Dsk) (i : Int) (b : List UInt8) : (m.doWrite i b).1.wait.length ≤ m.wait.length + 1 ∧ (m.doWrite i b).1.safe.length = m.safe.length := by
  have h := grow_writes [(i.toNat, b)] m
  refine ⟨wait_write m i b, ?_⟩
  by_cases hi : 0 ≤ i
  · have e : ((i.toNat : Nat) : Int) = i := Int.toNat_of_nonneg hi
    have h2 := h.2
    rw [writes, e, writes] at h2
    by_cases h0 : (m.doWrite i b).2 = 0
    · rw [if_pos h0] at h2
      exact h2
    · rw [if_neg h0] at h2
      exact h2
  · rw [Dsk.doWrite, if_neg (by omega)]

end Go.Proofs.YtphcbpfpelonaaaGreatDoor.M

namespace Go.Proofs.YtphcbpfpelonaaaGreatDoor
open Go.RowKit Go.Shelf
set_option linter.unusedVariables false

attribute [local go_sem] Oper.semAt_some

/-- Piece c of a slice. -/
def pieceB (b off len c : Nat) : Value := .slice (some ⟨b, off + 256 * c, none⟩) (min 256 (len - 256 * c)) (min 256 (len - 256 * c))

/-- What a round that goes on keeps: the iterator's own two variables. -/
def KeepTwoB (B1 B2 : Nat) (W W' : World) : Prop := W'.heap[B1]? = W.heap[B1]? ∧ W'.heap[B2]? = W.heap[B2]?

theorem KeepTwoB.trans {B1 B2 : Nat} {X Y Z : World} (h : KeepTwoB B1 B2 X Y) (k : KeepTwoB B1 B2 Y Z) : KeepTwoB B1 B2 X Z := ⟨k.1.trans h.1, k.2.trans h.2⟩

theorem cell_sameB {W W' : World} {B : Nat} (h : W'.heap[B]? = W.heap[B]?) (i : Nat) : W'.cell? ⟨B, i, none⟩ = W.cell? ⟨B, i, none⟩ := by
  simp [World.cell?, h]

theorem chunk_anyB (a : Option Addr) (n c : Nat) (w : World) :
    Calls Tryz.prog 91 #[.slice a n c, .int .i64 256] w fun e w' =>
      e = .returned (.func (.func 107) #[] #[.pointer (some ⟨w.heap.size, 0, none⟩), .pointer (some ⟨w.heap.size + 1, 0, none⟩)]) ∧ w' = (w.alloc (.cells #[.slice a n c] 38)).alloc (.cells #[.int .i64 256] 3) := by
  have hmf : ∀ (fn : Fn) (first cap : Array Value) (w : World), (Instr.makeFunc fn first cap).run Tryz.prog w = .ok (.func fn first cap) w := fun _ _ _ _ => rfl
  go_enter Tryz.func91, Tryz.ntmps91
  go_wp2
  go_ret
  exact ⟨by simp, rfl⟩

set_option maxRecDepth 100000 in
set_option maxHeartbeats 2000000 in
theorem chunk1_inB (n l B1 B2 b off len cap : Nat) (hn : 1 ≤ n) (hlen : 0 < len) (hcap : len ≤ cap) (hmax : cap ≤ maxLen) (hsm : len ≤ 281474976710656) (J Jx : List Nat → World → Prop) (hJA : ∀ s W, J s W → J s W.drew)
    (hY : ∀ pre x W, J pre W → pre.length < (len + 255) / 256 → YieldAt Fence.wide (n - 1) Tryz.prog l #[pieceB b off len x] W fun e W' =>
      (e = .returned (.bool true) ∧ J (pre ++ [x]) W' ∧ KeepTwoB B1 B2 W W') ∨ (e = .returned (.bool false) ∧ Jx (pre ++ [x]) W'))
    (W : World) (h1 : W.cell? ⟨B1, 0, none⟩ = some (.slice (some ⟨b, off, none⟩) len cap)) (h2 : W.cell? ⟨B2, 0, none⟩ = some (.int .i64 256)) (h0 : J [] W) :
    CallsIn Fence.wide n Tryz.prog 107 #[.func (.yield l) #[] #[], .pointer (some ⟨B1, 0, none⟩), .pointer (some ⟨B2, 0, none⟩)] W fun e W' => (∃ v, e = .returned v) ∧
      ((∃ ys, ys = List.range ((len + 255) / 256) ∧ J ys W') ∨ (∃ pre, (∃ k, k ≤ (len + 255) / 256 ∧ pre = List.range k) ∧ Jx pre W')) := by
  have HY := Lib.hid hY
  unfold maxLen at hmax
  clear hY
  refine callsIn_of_wp Tryz.func107 rfl trivial ?_ rfl
  simp only [Tryz.ntmps107, List.size_toArray, List.length_cons, List.length_nil, Nat.reduceAdd, Nat.reduceSub, Array.replicate_succ, Array.replicate_zero, List.push_toArray, List.append_toArray, List.nil_append, List.cons_append]
  gi_wp2
  gi_loopw [4] (fun i wr => ∃ k p : Nat, Hid (p = 256 * k) ∧ p < len + 256 ∧ i = .int .i64 p ∧ J (List.range k) wr ∧ wr.cell? ⟨B1, 0, none⟩ = some (.slice (some ⟨b, off, none⟩) len cap) ∧ wr.cell? ⟨B2, 0, none⟩ = some (.int .i64 256))
    (fun i _ => len + 256 - (intOf i).toNat)
  case atStart => exact ⟨0, 0, rfl, by omega, rfl, h0, h1, h2⟩
  case round =>
    clear h0 h1 h2
    obtain ⟨k, p, hp, hpl, rfl, hJ, h1, h2⟩ := hrel
    by_cases hlt : p < len
    · have hne : ¬ cap = p := by omega
      have hmix : Tryz.prog.follows .mixedOrders = true := by kernel_rfl
      gi_wp2
      gi_region
      obtain ⟨q, hq⟩ : ∃ q, q = min 256 (len - p) := ⟨_, rfl⟩
      have hq1 : 1 ≤ q := by omega
      have hq2 : p + q ≤ len := by omega
      have HQ : Hid (q = min 256 (len - p)) := hq
      first
        | rw [show (if ((len - p : Nat) : Int) < 256 then ((len - p : Nat) : Int) else 256) = (q : Int) from by split <;> omega]
        | rw [show min (256 : Int) ((len - p : Nat) : Int) = (q : Int) from by omega]
      have hlk : (List.range k).length < (len + 255) / 256 := by have := hp.out; simp; omega
      obtain ⟨fn, tmps, assign, body, hy, hR⟩ := HY.out (List.range k) k wr.drew (hJA _ _ hJ) hlk
      have hpc : pieceB b off len k = .slice (some ⟨b, off + p, none⟩) q q := by rw [pieceB, hp.out, hq, hp.out]
      rw [hpc] at hy
      have h1' : wr.drew.cell? ⟨B1, 0, none⟩ = some (.slice (some ⟨b, off, none⟩) len cap) := h1
      clear hq hpc
      gi_wp2
      refine hR.mono ?_
      rintro e W3 (⟨rfl, hJ3, hk3⟩ | ⟨rfl, hJx3⟩)
      · have c1 : W3.cell? ⟨B1, 0, none⟩ = some (.slice (some ⟨b, off, none⟩) len cap) := (cell_sameB hk3.1 0).trans h1
        have c2 : W3.cell? ⟨B2, 0, none⟩ = some (.int .i64 256) := (cell_sameB hk3.2 0).trans h2
        clear hR hy h1 h2 h1'
        gi_wp2
        go_roundw
        case rel => exact ⟨k + 1, p + 256, by have := hp.out; rw [Hid]; omega, by omega, by go_num, by rw [List.range_succ]; exact hJ3, c1, c2⟩
        case measure => simp [intOf]; omega
      · gi_wp2
        refine bodyPost_ret (results_none rfl _ _ _) rfl ?_
        have e := hp.out
        exact ⟨⟨_, rfl⟩, .inr ⟨_, ⟨k + 1, by omega, rfl⟩, by rw [List.range_succ]; exact hJx3⟩⟩
    · gi_wp2
      go_end0
      have e := hp.out
      exact ⟨⟨_, rfl⟩, .inl ⟨_, rfl, by rw [show (len + 255) / 256 = k by omega]; exact hJ⟩⟩

/-- At no bytes: no round. -/
theorem chunk0_inB (n l B1 B2 cap : Nat) (a : Option Addr) (J : List Nat → World → Prop) (W : World) (h1 : W.cell? ⟨B1, 0, none⟩ = some (.slice a 0 cap)) (h0 : J [] W) :
    CallsIn Fence.wide n Tryz.prog 107 #[.func (.yield l) #[] #[], .pointer (some ⟨B1, 0, none⟩), .pointer (some ⟨B2, 0, none⟩)] W fun e W' => (∃ v, e = .returned v) ∧ J [] W' := by
  refine callsIn_of_wp Tryz.func107 rfl trivial ?_ rfl
  simp only [Tryz.ntmps107, List.size_toArray, List.length_cons, List.length_nil, Nat.reduceAdd, Nat.reduceSub, Array.replicate_succ, Array.replicate_zero, List.push_toArray, List.append_toArray, List.nil_append, List.cons_append]
  gi_wp2
  gi_loopw [4] (fun i wr => i = .int .i64 0 ∧ J [] wr ∧ wr.cell? ⟨B1, 0, none⟩ = some (.slice a 0 cap)) (fun _ _ => 0)
  case atStart => exact ⟨rfl, h0, h1⟩
  case round =>
    clear h0 h1
    obtain ⟨rfl, hJ, h1⟩ := hrel
    gi_wp2
    go_end0
    exact ⟨⟨_, rfl⟩, hJ⟩

/-- The pieces of a slice: none, or where they lie. -/
def pieceOfB (v : Value) (c : Nat) : Value :=
  match v with
  | .slice (some ⟨b, off, none⟩) len _ => pieceB b off len c
  | _ => .slice none 0 0

/-- What Chunk hands back calls a loop's body for each pieceB. -/
theorem chunk_stopsB (n B1 B2 : Nat) (hn : 1 ≤ n) (v : Value) (bs : List UInt8) (w : World) (hv : IsB w v bs) (hsm : bs.length ≤ 281474976710656) (hB1 : B1 < w.heap.size) (hB2 : B2 < w.heap.size)
    (h1 : w.cell? ⟨B1, 0, none⟩ = some v) (h2 : w.cell? ⟨B2, 0, none⟩ = some (.int .i64 256)) :
    SeqStopsK Fence.wide n Tryz.prog 107 #[.pointer (some ⟨B1, 0, none⟩), .pointer (some ⟨B2, 0, none⟩)] (fun c : Nat => #[pieceOfB v c]) (KeepTwoB B1 B2)
      (fun ys => ys = List.range ((bs.length + 255) / 256)) (fun pre => ∃ k, k ≤ (bs.length + 255) / 256 ∧ pre = List.range k) ((bs.length + 255) / 256) w := by
  intro l J Jx W hW hJ hJx hY h0
  have c1 : W.cell? ⟨B1, 0, none⟩ = some v := (hW.cell (p := ⟨B1, 0, none⟩) hB1).trans h1
  have c2 : W.cell? ⟨B2, 0, none⟩ = some (.int .i64 256) := (hW.cell (p := ⟨B2, 0, none⟩) hB2).trans h2
  obtain ⟨ao, cap, rfl, hl1, hl2, hat⟩ := hv
  by_cases hz : bs.length = 0
  · rw [hz] at c1 ⊢
    exact (chunk0_inB n l B1 B2 cap ao J W c1 h0).mono fun e W' ⟨he, hj⟩ => ⟨he, .inl ⟨_, rfl, hj⟩⟩
  · obtain ⟨b, off, rfl, _⟩ : ∃ b off, ao = some ⟨b, off, none⟩ ∧ True := by
      rcases hat with h | ⟨b, off, h, _⟩
      · rw [h] at hz; simp at hz
      · exact ⟨b, off, h, trivial⟩
    refine (chunk1_inB n l B1 B2 b off bs.length cap hn (by omega) hl1 hl2 hsm J Jx (fun s W hs => hJ s W W.drew none hs ⟨rfl, rfl, rfl, Nat.le_refl _, fun _ _ _ => rfl⟩ (fun r e => by cases e)) hY W c1 c2 h0).mono ?_
    rintro e W' ⟨he, ⟨ys, rfl, hj⟩ | ⟨pre, hp, hj⟩⟩
    · exact ⟨he, .inl ⟨_, rfl, hj⟩⟩
    · exact ⟨he, .inr ⟨_, hp, hj⟩⟩

end Go.Proofs.YtphcbpfpelonaaaGreatDoor
