/-
  LISTS OF CHANGES OF FILES (IsFL), AND THE CONTRACT OF namesMay. Conditions: the list lies so, at most 100000 changes.
  THE CONTRACT OF Files.may (with its closure, slices.ContainsFunc and IndexFunc): whether changes may be done. Conditions: all lies so.
-/
import Derived.Test.YtphcbpfpelonaaaGreatDoorPf24

namespace Go.Proofs.YtphcbpfpelonaaaGreatDoor
open Go.RowKit Go.Maps
set_option linter.unusedVariables false
set_option maxRecDepth 100000

namespace M
/-- A change of one file. -/
structure FC where
  nm : List UInt8
  data : List UInt8
  gone : Bool
abbrev FL := List FC
instance : Inhabited FC := ⟨⟨[], [], false⟩⟩

/-- Names as they may be, each in one change alone. -/
def NamesOk (l : FL) : Prop := (∀ c ∈ l, 1 ≤ c.nm.length ∧ c.nm.length ≤ 40) ∧ (l.map FC.nm).Nodup
instance (l : FL) : Decidable (NamesOk l) := by unfold NamesOk; infer_instance

/-- A name that is not there yet comes to the end. -/
def addN (acc : List (List UInt8)) (x : List UInt8) : List (List UInt8) := if x ∈ acc then acc else acc ++ [x]

theorem addN_le : ∀ (xs L : List (List UInt8)), (xs.foldl addN L).length ≤ L.length + xs.length
  | [], L => Nat.le_refl _
  | x :: r, L => by
    have h := addN_le r (addN L x)
    have h2 : (addN L x).length ≤ L.length + 1 := by
      rw [addN]
      split
      · omega
      · rw [List.length_append]; simp
    rw [List.foldl_cons, List.length_cons]
    omega

theorem addN_all : ∀ (xs L : List (List UInt8)), L.Nodup → ((xs.foldl addN L).length = L.length + xs.length ↔ xs.Nodup ∧ ∀ x ∈ xs, x ∉ L)
  | [], L, _ => by simp
  | x :: r, L, hL => by
    rw [List.foldl_cons, List.length_cons]
    by_cases hx : x ∈ L
    · have h := addN_le r L
      rw [addN, if_pos hx]
      refine ⟨fun e => by omega, fun e => absurd hx (e.2 x (List.mem_cons_self ..))⟩
    · have hL' : (L ++ [x]).Nodup := by
        rw [List.nodup_append]
        refine ⟨hL, by simp, fun a ha b hb => ?_⟩
        rw [List.mem_singleton] at hb
        subst hb
        intro e
        exact hx (e ▸ ha)
      have h := addN_all r (L ++ [x]) hL'
      rw [addN, if_neg hx]
      rw [show (L ++ [x]).length + r.length = L.length + (r.length + 1) by rw [List.length_append]; simp; omega] at h
      rw [h, List.nodup_cons]
      constructor
      · rintro ⟨h1, h2⟩
        refine ⟨⟨fun e => h2 x e (by simp), h1⟩, fun y hy => ?_⟩
        rcases List.mem_cons.1 hy with rfl | hy
        · exact hx
        · exact fun e => h2 y hy (by simp [e])
      · rintro ⟨⟨h1, h2⟩, h3⟩
        refine ⟨h2, fun y hy e => ?_⟩
        rcases List.mem_append.1 e with e | e
        · exact h3 y (List.mem_cons_of_mem _ hy) e
        · rw [List.mem_singleton] at e
          subst e
          exact h1 hy
end M

theorem keys_addN : ∀ (xs L : List (List UInt8)), (xs.map Lit.string).foldl Maps.addKey (L.map Lit.string) = (xs.foldl M.addN L).map Lit.string
  | [], L => rfl
  | x :: r, L => by
    rw [List.map_cons, List.foldl_cons, List.foldl_cons, ← keys_addN r]
    congr 1
    have e : ((L.map Lit.string).any fun y => y.sameKey (Lit.string x)) = decide (x ∈ L) := by
      rw [List.any_map, Bool.eq_iff_iff, List.any_eq_true, decide_eq_true_iff]
      constructor
      · rintro ⟨y, hy, h⟩
        have : y = x := by simpa [Lit.sameKey] using h
        exact this ▸ hy
      · intro h
        exact ⟨x, h, by simp [Lit.sameKey]⟩
    rw [Maps.addKey, e, M.addN]
    by_cases hx : x ∈ L
    · simp [hx]
    · simp [hx]

/-- v is a list of changes. -/
def IsFL (w : World) (v : Value) (l : M.FL) (xs : List Value) : Prop := ∃ ao cap, v = .slice ao l.length cap ∧ l.length ≤ cap ∧ cap ≤ maxLen ∧ xs.length = l.length ∧
  (∀ i, i < l.length → IsB w (xs.getD i undef) (l.getD i default).data ∧ (∀ n c, xs.getD i undef = .slice none n c → c = 0) ∧ (l.getD i default).nm.length ≤ maxLen) ∧
  (l = [] ∨ ∃ b off, ao = some ⟨b, off, none⟩ ∧ ∀ i, i < l.length → w.cell? ⟨b, off + i * 3, none⟩ = some (.string ⟨(l.getD i default).nm.toArray⟩) ∧ w.cell? ⟨b, off + i * 3 + 1, none⟩ = some (xs.getD i undef) ∧ w.cell? ⟨b, off + i * 3 + 2, none⟩ = some (.bool (l.getD i default).gone))

theorem IsFL.below {w w' : World} {v : Value} {l : M.FL} {xs : List Value} (h : IsFL w v l xs) (k : Below w.heap.size w w') : IsFL w' v l xs := by
  obtain ⟨ao, cap, rfl, h1, h2, h3, h4, h5⟩ := h
  refine ⟨ao, cap, rfl, h1, h2, h3, fun i hi => ⟨(h4 i hi).1.below k, (h4 i hi).2⟩, ?_⟩
  rcases h5 with h | ⟨b, off, rfl, h⟩
  · exact .inl h
  · exact .inr ⟨b, off, rfl, fun i hi => ⟨(k.cell (p := ⟨b, off + i * 3, none⟩) (World.block_lt_of_cell? w _ (h i hi).1)).trans (h i hi).1, (k.cell (p := ⟨b, off + i * 3 + 1, none⟩) (World.block_lt_of_cell? w _ (h i hi).2.1)).trans (h i hi).2.1, (k.cell (p := ⟨b, off + i * 3 + 2, none⟩) (World.block_lt_of_cell? w _ (h i hi).2.2)).trans (h i hi).2.2⟩⟩

/-- What stands at i. -/
theorem IsFL.at_ {w : World} {ao : Option Addr} {n cap : Nat} {l : M.FL} {xs : List Value} (h : IsFL w (.slice ao n cap) l xs) (i : Nat) (hi : i < l.length) : ∃ b off, ao = some ⟨b, off, none⟩ ∧ w.cell? ⟨b, off + i * 3, none⟩ = some (.string ⟨(l.getD i default).nm.toArray⟩) ∧ w.cell? ⟨b, off + i * 3 + 1, none⟩ = some (xs.getD i undef) ∧ w.cell? ⟨b, off + i * 3 + 2, none⟩ = some (.bool (l.getD i default).gone) ∧ IsB w (xs.getD i undef) (l.getD i default).data ∧ (∀ n c, xs.getD i undef = .slice none n c → c = 0) ∧ (l.getD i default).nm.length ≤ maxLen := by
  obtain ⟨ao', cap', e, h1, h2, h3, h4, h5⟩ := h
  injection e with e1 e2 e3
  rcases h5 with h | ⟨b, off, e4, h⟩
  · rw [h] at hi; cases hi
  · exact ⟨b, off, e1.trans e4, (h i hi).1, (h i hi).2.1, (h i hi).2.2, h4 i hi⟩

theorem unitKeyed : True := trivial

set_option maxHeartbeats 8000000 in
theorem namesMay_any {w : World} {v : Value} {l : M.FL} {xs : List Value} (h : IsFL w v l xs) (hl : l.length ≤ 100000) :
    Calls Tryz.prog 53 #[v] w fun e w' => e = .returned (.bool (decide (M.NamesOk l))) ∧ Below w.heap.size w w' := by
  have hI := h
  obtain ⟨ao, cap, rfl, h1, h2, h3, h4, h5⟩ := h
  obtain ⟨n, hn⟩ : ∃ n, n = l.length := ⟨_, rfl⟩
  have HN := Lib.hid hn
  have HNL : Hid (n ≤ 100000) := by rw [Hid, hn]; exact hl
  rw [← hn] at hI ⊢
  have HI := Lib.hid hI
  obtain ⟨W, hW⟩ : ∃ x, Hid (x = w.alloc (.map #[] 0)) := ⟨_, rfl⟩
  obtain ⟨mb, hmb⟩ : ∃ x, Hid (x = w.heap.size) := ⟨_, rfl⟩
  have KW : Hid (Below w.heap.size w W) := by rw [hW.out]; exact (Below.refl _ _).alloc (Nat.le_refl _) _
  have HMB : Hid (mb = w.heap.size ∧ mb < W.heap.size) := ⟨hmb.out, by rw [hW.out, World.size_alloc, hmb.out]; omega⟩
  have M0 : Hid (W.ownsMap Tryz.prog 9 unitElem mb 0 (Maps.setOf (H := Value) (.agg []) [])) := by
    rw [Hid, hW.out, hmb.out]
    exact World.ownsMap_made _ _ _ _
  have hmm : (Instr.makeMap 135 none).run Tryz.prog w = .ok (.map (some w.heap.size)) (w.alloc (.map #[] 0)) := rfl
  obtain ⟨ok, hok⟩ : ∃ b, b = decide (M.NamesOk l) := ⟨_, rfl⟩
  rw [← hok]
  have HOK := Lib.hid hok
  clear hn h1 h2 h3 h4 h5 hI hl hok
  go_enter Tryz.func53, Tryz.ntmps53
  go_upto_region 2 with fail
  rw [← hW.out, ← hmb.out]
  clear hW hmb hmm
  go_wp2
  go_loopw [5, 9] (fun _ i wr => ∃ k : Nat, i = .int .i64 (k : Int) ∧ Hid (k ≤ n) ∧ Hid (∀ j, j < k → 1 ≤ (l.getD j default).nm.length ∧ (l.getD j default).nm.length ≤ 40) ∧ Hid (wr.ownsMap Tryz.prog 9 unitElem mb k (Maps.setOf (H := Value) (.agg []) (((l.map M.FC.nm).take k).map Lit.string))) ∧ Hid (Below w.heap.size w wr))
    (fun _ i _ => n - numOf i)
  case atStart => exact ⟨0, rfl, Nat.zero_le _, fun j hj => absurd hj (Nat.not_lt_zero _), by rw [List.take_zero]; exact M0.out, KW.out⟩
  case round =>
    clear M0
    obtain ⟨wz, rfl⟩ : ∃ x, x = wr := ⟨_, rfl⟩
    obtain ⟨k, rfl, hk, hno, hM, kk⟩ := hrel
    by_cases hlt : k < n
    · have b1 : (k : Int) < (n : Int) := by omega
      have HK := Lib.hid hlt
      have hkl : k < l.length := by rw [← HN.out]; exact hlt
      obtain ⟨b, off, rfl, c0, c1, c2, ib, inil, hnm⟩ := (HI.out.below kk.out).at_ k hkl
      obtain ⟨c, hc⟩ : ∃ c, c = l.getD k default := ⟨_, rfl⟩
      rw [← hc] at c0 c2 ib hnm
      obtain ⟨nm, hnm0⟩ : ∃ s : ByteArray, s = ⟨c.nm.toArray⟩ := ⟨_, rfl⟩
      obtain ⟨gone, hgone⟩ : ∃ z, z = c.gone := ⟨_, rfl⟩
      obtain ⟨da, dc, hdv⟩ := ib.shape
      obtain ⟨dn, hdn⟩ : ∃ z, z = c.data.length := ⟨_, rfl⟩
      obtain ⟨q, hq⟩ : ∃ z, z = c.nm.length := ⟨_, rfl⟩
      have hqs : nm.size = q := by rw [hnm0, hq]; rfl
      rw [hdv, ← hdn] at c1
      rw [← hnm0] at c0
      rw [← hgone] at c2
      obtain ⟨w1, hw1⟩ : ∃ x, Hid (x = wz.alloc (.cells #[.string nm, .slice da dn dc, .bool gone] 58)) := ⟨_, rfl⟩
      obtain ⟨x1, hx1⟩ : ∃ x, Hid (x = wz.heap.size) := ⟨_, rfl⟩
      have K1 : Hid (Below wz.heap.size wz w1) := by rw [hw1.out]; exact (Below.refl _ _).alloc (Nat.le_refl _) _
      have B1 : Hid (Blk w1 x1 58 [.string nm, .slice da dn dc, .bool gone]) := by rw [hw1.out]; exact Blk.newAt _ _ _ _ _ hx1.out rfl
      have d0 := B1.out.cell 0
      simp only [List.getElem?_cons_zero] at d0
      have KZ1 : Hid (Below w.heap.size w w1) := kk.out.trans (K1.out.mono kk.out.size)
      have g2 : (0 : Int) ≤ (k : Int) := Int.natCast_nonneg k
      have g3 : ((k : Int)).toNat = k := Int.toNat_natCast k
      have HC := Lib.hid hc
      have HQ := Lib.hid hq
      have HNM := Lib.hid hnm0
      have HM1 : Hid (w1.ownsMap Tryz.prog 9 unitElem mb k (Maps.setOf (H := Value) (.agg []) (((l.map M.FC.nm).take k).map Lit.string))) := by
        obtain ⟨es, clock, hb, F, hs, hD⟩ := hM.out
        exact ⟨es, clock, (K1.out.block mb hM.out.lt).trans hb, F, hs, hD⟩
      have n3 : wrap64 ((k : Int) + 1) = ((k + 1 : Nat) : Int) := by have := HNL.out; unfold wrap64; omega
      have N3 := Lib.hid n3
      have hmemc : c ∈ l := by rw [hc, List.getD_eq_getElem?_getD, List.getElem?_eq_getElem hkl]; exact List.getElem_mem _
      have HMC := Lib.hid hmemc
      clear hc hq hnm0 hgone hdv hdn n3 hmemc inil ib hkl hM
      by_cases hbad : q < 1 ∨ 40 < q
      · have hno' : ok = false := by
          rw [HOK.out]
          refine decide_eq_false fun h => ?_
          have := h.1 c HMC.out
          rw [← HQ.out] at this
          omega
        have HNO := Lib.hid hno'
        clear hno'
        by_cases h1 : q < 1
        · have b2 : (q : Int) < 1 := by omega
          go_upto_region 5 with fail
          rw [← hw1.out, ← hx1.out]
          clear c0 c1 c2 hw1 hx1
          go_wp2
          go_ret
          exact ⟨by rw [HNO.out]; rfl, KZ1.out⟩
        · have b2 : ¬ (q : Int) < 1 := by omega
          have b3 : (40 : Int) < (q : Int) := by omega
          go_upto_region 5 with fail
          rw [← hw1.out, ← hx1.out]
          clear c0 c1 c2 hw1 hx1
          go_wp2
          go_ret
          exact ⟨by rw [HNO.out]; rfl, KZ1.out⟩
      · have b2 : ¬ (q : Int) < 1 := by omega
        have b3 : ¬ (40 : Int) < (q : Int) := by omega
        obtain ⟨w2, hrun, hM2, hT2⟩ := HM1.out.store keyed Tryz.underlying135 (by have := HK.out; have := HNL.out; unfold maxLen; omega) (key_of c.nm hnm) (unitElem_mk (H := Value))
        rw [← HNM.out] at hrun
        have G2 := hT2.grown
        have HOK2 : Hid (∀ j, j < k + 1 → 1 ≤ (l.getD j default).nm.length ∧ (l.getD j default).nm.length ≤ 40) := fun j hj => by
          rcases Nat.lt_or_ge j k with h | h
          · exact hno.out j h
          · have : j = k := by omega
            subst this
            rw [← HC.out, ← HQ.out]
            omega
        have HM2 : Hid (w2.ownsMap Tryz.prog 9 unitElem mb (k + 1) (Maps.setOf (H := Value) (.agg []) (((l.map M.FC.nm).take (k + 1)).map Lit.string))) := by
          have e : ((l.map M.FC.nm).take (k + 1)).map Lit.string = ((l.map M.FC.nm).take k).map Lit.string ++ [Lit.string c.nm] := by
            rw [List.take_add_one, List.map_append, List.getElem?_map, List.getElem?_eq_getElem (by rw [← HN.out]; exact HK.out)]
            rw [HC.out, List.getD_eq_getElem?_getD, List.getElem?_eq_getElem (by rw [← HN.out]; exact HK.out)]
            rfl
          rw [Hid, e, Maps.setOf_snoc]
          exact hM2
        have KK2 : Hid (Below w.heap.size w w2) := KZ1.out.grown G2 KZ1.out.size fun j hj => by injection hj with hj; rw [← hj, HMB.out.1]; exact Nat.le_refl _
        clear hM2 hT2 G2 hno hbad
        go_upto_region 5 with fail
        rw [← hw1.out, ← hx1.out]
        clear c0 c1 c2 hw1 hx1
        go_wp2
        clear hrun
        go_wp2
        go_roundw
        case rel => exact ⟨k + 1, by first | rw [N3.out] | rfl, HK.out, HOK2.out, HM2.out, KK2.out⟩
        case measure =>
          first | rw [N3.out] | skip
          exact step_down HK.out
    · have b1 : ¬ (k : Int) < (n : Int) := by omega
      obtain rfl : k = n := by have := hk.out; omega
      have hlen := hM.out.len (t := 135) Tryz.underlying135 3
      have hM' := hM.out
      rw [List.take_of_length_le (by rw [List.length_map, ← HN.out]; exact Nat.le_refl _)] at hlen
      obtain ⟨z, hz⟩ : ∃ z, z = Maps.size (Maps.setOf (H := Value) (.agg []) ((l.map M.FC.nm).map Lit.string)) := ⟨_, rfl⟩
      rw [← hz] at hlen
      have hz2 : z = ((l.map M.FC.nm).foldl M.addN []).length := by
        rw [hz, Maps.size_setOf _ _ (fun x hx => by obtain ⟨y, _, rfl⟩ := List.mem_map.1 hx; trivial)]
        have := keys_addN (l.map M.FC.nm) []
        rw [List.map_nil] at this
        rw [this, List.length_map]
      have hz3 := M.addN_all (l.map M.FC.nm) [] List.nodup_nil
      rw [← hz2, List.length_map, ← HN.out] at hz3
      have hzk : ((z : Int) == (k : Int)) = ok := by
        rw [HOK.out, Bool.eq_iff_iff, decide_eq_true_iff]
        have hall : ∀ c ∈ l, 1 ≤ c.nm.length ∧ c.nm.length ≤ 40 := fun c hc => by
          obtain ⟨i, hi, rfl⟩ := List.getElem_of_mem hc
          have := hno.out i (by rw [HN.out]; exact hi)
          rwa [List.getD_eq_getElem?_getD, List.getElem?_eq_getElem hi] at this
        constructor
        · intro h
          have h'' : (z : Int) = (k : Int) := by simpa using h
          have h' : z = k := by omega
          exact ⟨hall, (hz3.1 (by simpa using h')).1⟩
        · intro h
          have := hz3.2 ⟨h.2, fun x _ => by simp⟩
          have h' : z = k := by simpa using this
          simp [h']
      have HZK := Lib.hid hzk
      clear hz hz2 hz3 hzk hM' hlt
      go_wp2
      go_ret
      exact ⟨by rw [← HZK.out]; rfl, kk.out⟩

end Go.Proofs.YtphcbpfpelonaaaGreatDoor

namespace Go.Proofs.YtphcbpfpelonaaaGreatDoor
open Go.RowKit Go.Maps
set_option linter.unusedVariables false
set_option maxRecDepth 100000

def M.has (t : M.Tab) (k : List UInt8) : Bool := t.any fun p => p.nm == k
def M.bad (t : M.Tab) (c : M.FC) : Bool := c.gone && !M.has t c.nm
/-- Each file that goes is there. -/
def M.AllThere (t : M.Tab) (l : M.FL) : Prop := ∀ i, i < l.length → M.bad t (l.getD i default) = false
noncomputable instance (t : M.Tab) (l : M.FL) : Decidable (M.AllThere t l) := Classical.propDecidable _

set_option maxHeartbeats 4000000 in
theorem fmay1_any {w : World} {gf gw mb : Nat} {dn : Bool} {t : M.Tab} {vs : List Value} (hA : FilesAt w gf gw mb dn) (hT : IsTabV w mb t vs) (gb : Nat) (hb : w.cell? ⟨gb, 0, none⟩ = some (.pointer (some ⟨gf, 0, none⟩))) (k : List UInt8) (hk : k.length ≤ maxLen) (xa : Option Addr) (yn xc : Nat) (gone : Bool) (bad : Bool) (hbad : bad = (gone && !M.has t k)) :
    Calls Tryz.prog 55 #[.agg #[.string ⟨k.toArray⟩, .slice xa yn xc, .bool gone], .pointer (some ⟨gb, 0, none⟩)] w fun e w' => e = .returned (.bool bad) ∧ Below w.heap.size w w' := by
  obtain ⟨nm, hnm⟩ : ∃ s : ByteArray, s = ⟨k.toArray⟩ := ⟨_, rfl⟩
  obtain ⟨G, hG⟩ : ∃ G, Hid (G = w.heap.size) := ⟨_, rfl⟩
  obtain ⟨W, hW2⟩ : ∃ W, Hid (W = w.alloc (.cells #[.string nm, .slice xa yn xc, .bool gone] 58)) := ⟨_, rfl⟩
  have KW : Below w.heap.size w W := by rw [hW2.out]; exact (Below.refl _ _).alloc (Nat.le_refl _) _
  have BW : Blk W G 58 [.string nm, .slice xa yn xc, .bool gone] := by rw [hW2.out]; exact Blk.newAt _ _ _ _ _ hG.out rfl
  have c0 : W.cell? ⟨G, 0, none⟩ = some (.string nm) := BW.cell 0
  have c2 : W.cell? ⟨G, 2, none⟩ = some (.bool gone) := BW.cell 2
  have cb : W.cell? ⟨gb, 0, none⟩ = some (.pointer (some ⟨gf, 0, none⟩)) := (KW.cell (p := ⟨gb, 0, none⟩) (World.block_lt_of_cell? w _ hb)).trans hb
  have H := Lib.hid (fhas_any (hA.below KW) (hT.below KW) k hk)
  have K := Lib.hid KW
  rw [← hnm] at H ⊢
  obtain ⟨hs, hhs⟩ : ∃ z, z = t.any fun p => p.nm == k := ⟨_, rfl⟩
  rw [← hhs] at H
  rw [M.has, ← hhs] at hbad
  clear hA hT hb KW BW hnm hhs
  cases gone with
  | true =>
    have e : (!hs) = bad := by rw [hbad]; simp
    have E := Lib.hid e
    clear hbad e
    go_enter Tryz.func55, Tryz.ntmps55
    go_upto_region 1 with fail
    rw [← hG.out, ← hW2.out]
    go_wp2_with fail
    refine H.out.mono ?_
    rintro e w1 ⟨rfl, k1⟩
    have K1 := Lib.hid (K.out.trans (k1.mono K.out.size))
    clear k1 H
    go_wp2
    go_ret
    exact ⟨by first | rfl | (rw [← E.out]; rfl), K1.out⟩
  | false =>
    have e : false = bad := by rw [hbad]; simp
    subst e
    clear hbad H
    go_enter Tryz.func55, Tryz.ntmps55
    go_upto_region 1 with fail
    rw [← hG.out, ← hW2.out]
    go_wp2
    go_ret
    exact ⟨rfl, K.out⟩

set_option maxHeartbeats 4000000 in
theorem findex_any {w : World} {gf gw mb : Nat} {dn : Bool} {t : M.Tab} {vs : List Value} (hA : FilesAt w gf gw mb dn) (hT : IsTabV w mb t vs) (gb : Nat) (hb : w.cell? ⟨gb, 0, none⟩ = some (.pointer (some ⟨gf, 0, none⟩))) (lv : Value) (l : M.FL) (xs : List Value) (hl : IsFL w lv l xs) (hlen : l.length ≤ 100000) :
    Calls Tryz.prog 82 #[lv, .func (.func 55) #[] #[.pointer (some ⟨gb, 0, none⟩)]] w fun e w' =>
      ∃ r : Int, e = .returned (.int .i64 r) ∧ Hid (0 ≤ r ↔ ¬ M.AllThere t l) ∧ Below w.heap.size w w' := by
  have hl' := hl
  obtain ⟨ao, cap, rfl, -, -, -, -, -⟩ := hl'
  obtain ⟨n, hn⟩ : ∃ n, n = l.length := ⟨_, rfl⟩
  rw [← hn] at hl hlen ⊢
  have HN : Hid (l.length = n) := hn.symm
  have A := Lib.hid hA
  have TT := Lib.hid hT
  have CB := Lib.hid hb
  have HL := Lib.hid hl
  have HLN := Lib.hid hlen
  clear hA hT hb hl hlen hn
  go_enter Tryz.func82, Tryz.ntmps82
  go_wp2
  go_loopw [8] (fun i wr => ∃ (j : Nat), i = .int .i64 (j : Int) ∧ Hid (j ≤ n ∧ ∀ i, i < j → M.bad t (l.getD i default) = false) ∧ Hid (Below w.heap.size w wr))
    (fun i _ => n - numOf i)
  case atStart => exact ⟨0, rfl, ⟨Nat.zero_le _, fun i hi => by omega⟩, Below.refl _ _⟩
  case round =>
    obtain ⟨wz, rfl⟩ : ∃ x, x = wr := ⟨_, rfl⟩
    obtain ⟨j, rfl, hj, kk⟩ := hrel
    by_cases hlt : j < n
    · have b1 : (j : Int) < (n : Int) := by omega
      have hjl : j < l.length := by rw [HN.out]; exact hlt
      obtain ⟨lb, lo, rfl, c0, c1, c2, ib, -, hnm⟩ := (HL.out.below kk.out).at_ j hjl
      obtain ⟨c, hc⟩ : ∃ c, c = l.getD j default := ⟨_, rfl⟩
      rw [← hc] at c0 c2 ib hnm
      obtain ⟨xa, xc, hdv⟩ := ib.shape
      obtain ⟨yn, hyn⟩ : ∃ z, z = c.data.length := ⟨_, rfl⟩
      rw [hdv, ← hyn] at c1
      obtain ⟨gone, hgone⟩ : ∃ z, z = c.gone := ⟨_, rfl⟩
      rw [← hgone] at c2
      obtain ⟨bad, hbad⟩ : ∃ b, b = (gone && !M.has t c.nm) := ⟨_, rfl⟩
      have CM := Lib.hid (fmay1_any (A.out.below kk.out) (TT.out.below kk.out) gb ((kk.out.cell (p := ⟨gb, 0, none⟩) (World.block_lt_of_cell? w _ CB.out)).trans CB.out) c.nm hnm xa yn xc gone bad hbad)
      have HB : Hid (M.bad t (l.getD j default) = bad) := by rw [Hid, ← hc, M.bad, ← hgone, hbad]
      obtain ⟨nm, hnm0⟩ : ∃ s : ByteArray, s = ⟨c.nm.toArray⟩ := ⟨_, rfl⟩
      rw [← hnm0] at c0 CM
      have HJ := Lib.hid hlt
      have g2 : (0 : Int) ≤ (j : Int) := Int.natCast_nonneg j
      have g3 : ((j : Int)).toNat = j := Int.toNat_natCast j
      clear hc hnm hdv hyn hgone hbad hnm0 ib hjl hlt
      cases bad with
      | true =>
        have HNO : Hid (¬ M.AllThere t l) := fun h => by
          have h1 := h j (by rw [HN.out]; exact HJ.out)
          rw [HB.out] at h1
          cases h1
        go_wp2_with fail
        refine CM.out.mono ?_
        rintro e w1 ⟨rfl, k1⟩
        have K1 : Hid (Below w.heap.size w w1) := kk.out.trans (k1.mono kk.out.size)
        clear CM k1 kk hj
        go_wp2
        go_ret
        exact ⟨_, rfl, iff_of_true (Int.natCast_nonneg j) HNO.out, K1.out⟩
      | false =>
        have n3 : wrap64 ((j : Int) + 1) = ((j + 1 : Nat) : Int) := by have := HJ.out; have := HLN.out; unfold wrap64; omega
        have N3 := Lib.hid n3
        have HJ2 : Hid (j + 1 ≤ n ∧ ∀ i, i < j + 1 → M.bad t (l.getD i default) = false) := ⟨HJ.out, fun i hi => by
          by_cases e : i = j
          · rw [e]; exact HB.out
          · exact hj.out.2 i (by omega)⟩
        clear n3 hj
        go_wp2_with fail
        refine CM.out.mono ?_
        rintro e w1 ⟨rfl, k1⟩
        have K1 : Hid (Below w.heap.size w w1) := kk.out.trans (k1.mono kk.out.size)
        clear CM k1 kk
        go_wp2
        go_roundw
        case rel => exact ⟨j + 1, by first | rw [N3.out] | rfl, HJ2.out, K1⟩
        case measure =>
          first | rw [N3.out] | skip
          exact step_down HJ.out
    · have b1 : ¬ (j : Int) < (n : Int) := by omega
      have e : j = n := by have := hj.out.1; omega
      have HA : Hid (M.AllThere t l) := fun i hi => hj.out.2 i (by rw [e, ← HN.out]; exact hi)
      clear e hlt hj
      go_wp2
      go_ret
      exact ⟨-1, rfl, iff_of_false (by omega) (fun h => h HA.out), kk.out⟩

set_option maxHeartbeats 4000000 in
theorem fcontains_any {w : World} {gf gw mb : Nat} {dn : Bool} {t : M.Tab} {vs : List Value} (hA : FilesAt w gf gw mb dn) (hT : IsTabV w mb t vs) (gb : Nat) (hb : w.cell? ⟨gb, 0, none⟩ = some (.pointer (some ⟨gf, 0, none⟩))) (lv : Value) (l : M.FL) (xs : List Value) (hl : IsFL w lv l xs) (hlen : l.length ≤ 100000)
    (b : Bool) (hbb : b = !decide (M.AllThere t l)) :
    Calls Tryz.prog 54 #[lv, .func (.func 55) #[] #[.pointer (some ⟨gb, 0, none⟩)]] w fun e w' =>
      e = .returned (.bool b) ∧ Below w.heap.size w w' := by
  have C := Lib.hid (findex_any hA hT gb hb lv l xs hl hlen)
  have HBB := Lib.hid hbb
  obtain ⟨ao, cap, rfl, -, -, -, -, -⟩ := hl
  clear hA hT hb hlen hbb
  go_enter Tryz.func54, Tryz.ntmps54
  go_wp2_with fail
  refine C.out.mono ?_
  rintro e w1 ⟨r, rfl, hr, k1⟩
  have K1 := Lib.hid k1
  have e1 : decide (0 ≤ r) = b := by
    rw [HBB.out]
    by_cases h : M.AllThere t l
    · rw [decide_eq_true h, decide_eq_false fun h0 => hr.out.1 h0 h]; rfl
    · rw [decide_eq_false h, decide_eq_true (hr.out.2 h)]; rfl
  have E1 := Lib.hid e1
  clear C k1 hr e1
  go_wp2
  go_ret
  exact ⟨by first | rfl | (show Ending.returned (.bool (decide (0 ≤ r))) = _; rw [E1.out]), K1.out⟩

end Go.Proofs.YtphcbpfpelonaaaGreatDoor
