/-
  CONTRACT OF package file's taken: which blocks files take, as an array of 2048 bools (IsTk). Conditions: as each says.
  FROM THE PLAIN WALK TO A LOOP BODY's WALK WITHIN A RANGE OVER A FUNCTION: what a list of operations (none of them a defer statement) does in a function's own activation it does in a round; so laws on 'wpList' and 'wpStill' serve there. Conditions: the fence is the wide one; the post lets nothing outgrown out.
  A REGION THAT DRAWS ITS ORDER: reads that may come up in any order, and nothing else meanwhile, taken first in the world at hand. Conditions: none.
  FROM THE PLAIN WALK TO A WALK AT THE WIDE FENCE, FOR THE FIRST OPERATIONS OF A LIST. Conditions: the post lets nothing outgrown out.
-/
import Derived.Test.YtphcbpfpelonaaaGreatDoorPf20
import Derived.RangeFuncNested
import Derived.RangeFuncCalls
import Derived.StillTail
import Derived.TacticsIn
import Derived.OrdersIn

namespace Go.Proofs.YtphcbpfpelonaaaGreatDoor
open Go.RowKit Go.Maps
set_option linter.unusedVariables false
set_option maxRecDepth 100000

/-- L is the cells of an array of 2048 bools. -/
def IsTk (L : List Value) (P : Nat → Bool) : Prop := L.length = 2048 ∧ ∀ i, i < 2048 → L[i]? = some (.bool (P i))

theorem zeroTk : ∃ Z : Array Value, IsTk Z.toList (fun _ => false) ∧ ∀ w, (zeroValue 139).run Tryz.prog w = .ok (.agg Z) w :=
  ⟨(List.replicate 2048 (.bool false)).toArray, ⟨by rw [List.toList_toArray]; exact List.length_replicate, fun i hi => by rw [List.toList_toArray, List.getElem?_replicate, if_pos hi]⟩, (zero_of_info (P := Tryz.prog) (n := 2048) (by kernel_rfl)).1⟩

theorem IsTk.one {L : List Value} {P : Nat → Bool} (h : IsTk L P) : ∀ u ∈ L, u.oneCell' = true := by
  intro u hu
  obtain ⟨i, hi, rfl⟩ := List.mem_iff_getElem.1 hu
  have h2 := h.2 i (by rw [← h.1]; exact hi)
  rw [List.getElem?_eq_getElem hi] at h2
  injection h2 with h2
  rw [h2]
  rfl

theorem IsTk.set {L : List Value} {P : Nat → Bool} (h : IsTk L P) (x : Nat) (hx : x < 2048) : IsTk (L.set x (.bool true)) (fun i => P i || i == x) := by
  refine ⟨by rw [List.length_set, h.1], fun i hi => ?_⟩
  by_cases e : x = i
  · subst e
    rw [List.getElem?_set_self (by rw [h.1]; exact hx)]
    simp
  · rw [List.getElem?_set_ne e, h.2 i hi]
    have : (i == x) = false := by simpa using fun h => e h.symm
    show _ = some (Value.bool (P i || i == x))
    rw [this, Bool.or_false]

theorem IsTk.congr {L : List Value} {P P' : Nat → Bool} (h : IsTk L P) (e : ∀ i, P i = P' i) : IsTk L P' := ⟨h.1, fun i hi => by rw [h.2 i hi, e i]⟩

/-- The blocks of files that have come up. -/
def M.seenT (t : M.Tab) (left : Lit → Bool) (i : Nat) : Bool := t.any fun p => !left (.string p.nm) && p.bs.contains i

theorem M.seenT_none (t : M.Tab) (left : Lit → Bool) (h : ∀ p ∈ t, left (.string p.nm) = true) (i : Nat) : M.seenT t left i = false := by
  rw [M.seenT, List.any_eq_false]
  intro p hp
  rw [h p hp]
  simp

theorem M.seenT_all (t : M.Tab) (left : Lit → Bool) (h : ∀ k, left k = false) (i : Nat) : M.seenT t left i = M.takes t i := by
  rw [M.seenT, M.takes]
  congr 1
  funext p
  rw [h]
  simp

theorem M.seenT_step {t : M.Tab} (hr : M.Rising t) (left : Lit → Bool) (j : Nat) (hj : j < t.length) (hl : left (.string (t.getD j default).nm) = true) (i : Nat) :
    M.seenT t (fun z => left z && !z.sameKey (.string (t.getD j default).nm)) i = (M.seenT t left i || (t.getD j default).bs.contains i) := by
  have hm : t.getD j default ∈ t := by rw [List.getD_eq_getElem?_getD, List.getElem?_eq_getElem hj]; exact List.getElem_mem _
  apply Bool.eq_iff_iff.2
  rw [Bool.or_eq_true, M.seenT, M.seenT, List.any_eq_true, List.any_eq_true]
  constructor
  · rintro ⟨p, hp, h⟩
    by_cases e : p.nm = (t.getD j default).nm
    · right
      obtain ⟨k, hk, rfl⟩ := List.mem_iff_getElem.1 hp
      have ek : t[k] = t.getD k default := by rw [List.getD_eq_getElem?_getD, List.getElem?_eq_getElem hk]; rfl
      rw [ek] at e h
      have : k = j := by
        rcases Nat.lt_trichotomy k j with hlt | rfl | hlt
        · exact absurd e (nodup_at hr hj hlt)
        · rfl
        · exact absurd e.symm (nodup_at hr hk hlt)
      subst this
      simp only [Bool.and_eq_true] at h
      exact h.2
    · left
      refine ⟨p, hp, ?_⟩
      have : (Lit.string p.nm).sameKey (.string (t.getD j default).nm) = false := by simpa [Lit.sameKey] using e
      rw [this] at h
      simpa using h
  · rintro (⟨p, hp, h⟩ | h)
    · refine ⟨p, hp, ?_⟩
      simp only [Bool.and_eq_true, Bool.not_eq_true', Bool.and_eq_false_iff] at h ⊢
      exact ⟨.inl h.1, h.2⟩
    · refine ⟨_, hm, ?_⟩
      have : (Lit.string (t.getD j default).nm).sameKey (.string (t.getD j default).nm) = true := by simp [Lit.sameKey]
      rw [this]
      simpa using h

/-- What is at a key that is there. -/
theorem IsTabV.who {w : World} {b : Nat} {t : M.Tab} {vs : List Value} (h : IsTabV w b t vs) {kl : Lit} {y : DataW Value} (hat : ∀ z, (DataW.map (tabL t vs)).atKey kl z = y) (hk : ∃ k, kl = .string k) : ∃ j, j < t.length ∧ kl = .string (t.getD j default).nm ∧ y = .held (plV (t.getD j default) (vs.getD j undef)) := by
  obtain ⟨k, rfl⟩ := hk
  have hh := Maps.has_true_of_atKey hat
  rw [has_tab k t vs h.len, List.any_eq_true] at hh
  obtain ⟨p, hp, e⟩ := hh
  obtain ⟨j, hj, rfl⟩ := List.mem_iff_getElem.1 hp
  have ej : t[j] = t.getD j default := by rw [List.getD_eq_getElem?_getD, List.getElem?_eq_getElem hj]; rfl
  rw [ej, beq_iff_eq] at e
  subst e
  exact ⟨j, hj, rfl, by rw [← hat (.held undef)]; exact h.at j hj _⟩

theorem contains_take_succ (l : List Nat) (j : Nat) (hj : j < l.length) (i : Nat) : (l.take (j + 1)).contains i = ((l.take j).contains i || i == l.getD j 0) := by
  have e : l.getD j 0 = l[j] := by rw [List.getD_eq_getElem?_getD, List.getElem?_eq_getElem hj]; rfl
  rw [List.take_succ_eq_append_getElem hj, e]
  apply Bool.eq_iff_iff.2
  rw [List.contains_iff_mem, Bool.or_eq_true, List.contains_iff_mem, beq_iff_eq, List.mem_append, List.mem_singleton]

set_option maxHeartbeats 8000000 in
theorem taken_any {w : World} {b : Nat} {t : M.Tab} {vs : List Value} (h : IsTabV w b t vs) (hlt : ∀ p ∈ t, ∀ x ∈ p.bs, x < 2048) (h64 : ∀ p ∈ t, p.bs.length ≤ 2048) :
    Calls Tryz.prog 86 #[.map (some b)] w fun e w' => ∃ L, e = .returned (.agg L.toArray) ∧ IsTk L (M.takes t) ∧ Below w.heap.size w w' := by
  obtain ⟨Z, hZ, hz⟩ := zeroTk
  have HZ := Lib.hid hZ
  have HT := Lib.hid h
  have HLT := Lib.hid hlt
  have H64 := Lib.hid h64
  obtain ⟨ga, hga⟩ : ∃ g, Hid (g = w.heap.size + 1) := ⟨_, rfl⟩
  obtain ⟨W, hW⟩ : ∃ x, Hid (x = (w.alloc (.cells Z 139)).alloc (.cells Z 139)) := ⟨_, rfl⟩
  obtain ⟨gr, hgr⟩ : ∃ g, Hid (g = w.heap.size) := ⟨_, rfl⟩
  have KW : Hid (Below w.heap.size w W) := by rw [hW.out]; exact ((Below.refl _ _).alloc (Nat.le_refl _) _).alloc (by simp) _
  have B0 : Hid (Blk W gr 139 Z.toList) := by rw [hW.out, hgr.out]; exact (Blk.newAt _ _ _ _ _ rfl rfl).alloc _
  have B1 : Hid (Blk W ga 139 Z.toList) := by rw [hW.out, hga.out]; exact Blk.newAt _ _ _ _ _ (by simp) rfl
  have OW := Lib.hid (owns_below h.map KW.out)
  clear hZ h hlt h64
  go_enter Tryz.func86, Tryz.ntmps86
  go_upto_region 2 with fail
  rw [← hW.out, ← hga.out, ← hgr.out]
  have HG : Hid (ga < W.heap.size ∧ gr < W.heap.size ∧ ga ≠ gr ∧ w.heap.size ≤ ga ∧ w.heap.size ≤ gr ∧ b < w.heap.size) := ⟨B1.out.lt, B0.out.lt, by rw [hga.out, hgr.out]; omega, by rw [hga.out]; omega, by rw [hgr.out]; omega, HT.out.lt⟩
  clear hW hga hgr
  go_wp2_with (at_range; refine wpList_range_own _ rfl _ 68 rfl 9 110 keyed Tryz.underlying68 placeR b t.length (.map (tabL t vs)) rfl OW.out ?_; intro w0 hrg0 hg0 hs0; go_frame)
  obtain ⟨ri, hri⟩ : ∃ g, Hid (g = W.heap.size) := ⟨_, rfl⟩
  rw [← hri.out] at hrg0 ⊢
  have RG0 := Lib.hid hrg0
  have K0 : Hid (Below w.heap.size w w0) := KW.out.grown hg0 KW.out.size fun j hj => by cases hj
  have A0 : Hid (Blk w0 ga 139 Z.toList) := B1.out.grown hg0 (by simp)
  have R0 : Hid (Blk w0 gr 139 Z.toList) := B0.out.grown hg0 (by simp)
  have HR : Hid (ri ≠ ga ∧ ri ≠ gr ∧ w.heap.size ≤ ri) := by have := HG.out; have := hri.out; have := KW.out.size; rw [Hid]; omega
  clear hrg0 hg0 hs0 B0 B1 OW hri
  go_loopw [5] (fun _ wr => ∃ (left : Lit → Bool) (cnt : Nat) (L : List Value), Hid (wr.ranges Tryz.prog 9 placeR b ri t.length (.map (tabL t vs)) left cnt) ∧ Hid (Blk wr ga 139 L) ∧ Hid (IsTk L (M.seenT t left)) ∧ Hid (Blk wr gr 139 Z.toList) ∧ Hid (Below w.heap.size w wr))
    (fun _ wr => wr.rangeLeft b ri)
  case atStart =>
    refine ⟨_, _, Z.toList, RG0.out, A0.out, HZ.out.congr fun i => ?_, R0.out, K0.out⟩
    refine (M.seenT_none t _ (fun p hp => ?_) i).symm
    rw [has_tab _ t vs HT.out.len, List.any_eq_true]
    exact ⟨p, hp, by simp⟩
  case round =>
    obtain ⟨wz, rfl⟩ : ∃ x, x = wr := ⟨_, rfl⟩
    obtain ⟨left, cnt, L, hrg, ba, hL, br, kk⟩ := hrel
    clear RG0 A0 R0 K0
    go_wp2_with (at_next; refine wpList_next_ranges _ rfl _ rfl 9 keyed placeR encStr (fun p : Int × Option Addr × Nat × Nat => .agg #[.int .i64 p.1, .slice p.2.1 p.2.2.1 p.2.2.2]) (fun key kl hk => by obtain ⟨x, hx, _⟩ := Maps.keyOf_str Tryz.underlying9 hk; exact ⟨x, hx⟩) (fun v y hv => by obtain ⟨p, hp, _⟩ := placeR_inv hv; exact ⟨p, hp⟩) b ri t.length _ _ _ rfl hrg.out ?_ ?_)
    · intro hc0 hl0
      have HL : Hid (IsTk L (M.takes t)) := hL.out.congr fun i => M.seenT_all t left hl0 i
      clear hrg hL hc0 hl0
      go_wp2_with (first
        | (refine wpList_load_mid rfl 139 (.tmp 3) rfl ga 0 rfl L _ (ba.out.range 0 _ [] (by simp)) Tryz.underlying139 rfl (by rw [HL.out.1]; kernel_rfl) ?_)
        | (refine wpList_store_blk rfl 139 (.tmp 2) (.tmp 24) rfl gr L.toArray rfl rfl 139 Z.toList br.out (by rw [List.size_toArray, HL.out.1]; kernel_rfl) (by rw [List.size_toArray, HL.out.1, HZ.out.1]) (by rw [List.toList_toArray]; exact HL.out.one) ?_; intro w9 hb9 ho9))
      exact bodyPost_ret (results_cell_row rfl _ _ gr _ _ _ _ rfl hb9 Tryz.underlying139 rfl (by rw [Array.toArray_toList, List.size_toArray, HL.out.1]; kernel_rfl)) rfl ⟨L, by rw [Array.toArray_toList], HL.out, kk.out.trans (ho9.below kk.out.size HG.out.2.2.2.2.1)⟩
    · intro x c1 ca cn cc kl yd yp w2 cnt2 hkey hlk hv hat hrg2 hlt2 hg2 hs2 hen
      obtain ⟨x', ex, rfl, _⟩ := Maps.keyOf_str Tryz.underlying9 hkey
      obtain ⟨j, hj, ekl, ey⟩ := HT.out.who hat ⟨_, rfl⟩
      have ev : yd = .held (.agg #[.int .i64 c1, .slice ca cn cc]) := by obtain ⟨_, _, e⟩ := placeR_inv hv; injection e
      rw [ey] at ev
      injection ev with ev
      rw [plV] at ev
      injection ev with ev
      have e2 : vs.getD j undef = .slice ca cn cc := by have := congrArg (fun a => a.toList.getD 1 undef) ev; simpa using this
      have IB := HT.out.each j hj
      rw [e2] at IB
      have hmem : t.getD j default ∈ t := by rw [List.getD_eq_getElem?_getD, List.getElem?_eq_getElem hj]; exact List.getElem_mem _
      obtain ⟨bs, hbs⟩ : ∃ l, l = (t.getD j default).bs := ⟨_, rfl⟩
      have HST : Hid (∀ i, M.seenT t (fun z => left z && !z.sameKey (.string x')) i = (M.seenT t left i || bs.contains i)) := by
        have := M.seenT_step HT.out.rise left j hj (by rw [← ekl]; exact hlk)
        rw [← ekl, ← hbs] at this
        exact this
      rw [← hbs] at IB
      have HBL : Hid (∀ x ∈ bs, x < 2048) := by rw [hbs]; exact HLT.out _ hmem
      have HB64 : Hid (bs.length ≤ 2048) := by rw [hbs]; exact H64.out _ hmem
      obtain ⟨ao', cap', e3, i1, i2, i3⟩ := IB
      injection e3 with e4 e5 e6
      obtain ⟨n, hn⟩ : ∃ n, n = bs.length := ⟨_, rfl⟩
      have HN : Hid (bs.length = n) := hn.symm
      rw [← hn] at e5
      subst e4 e5 e6
      obtain ⟨n, rfl⟩ : ∃ z, z = cn := ⟨_, rfl⟩
      have I3 : Hid (bs = [] ∨ ∃ b off, ca = some ⟨b, off, none⟩ ∧ ∀ i, i < bs.length → w.cell? ⟨b, off + i, none⟩ = some (.int .i64 ((bs.getD i 0 : Nat) : Int))) := i3
      have RG2 := Lib.hid hrg2
      have HLT2 := Lib.hid hlt2
      have HRG := Lib.hid hrg.out
      have K2 : Hid (Below w.heap.size w w2) := kk.out.grown hg2 kk.out.size fun j hj => by injection hj with hj; rw [← hj]; exact HR.out.2.2
      have BA2 : Hid (Blk w2 ga 139 L) := ba.out.grown hg2 (by intro e; injection e with e; exact HR.out.1 e.symm)
      have BR2 : Hid (Blk w2 gr 139 Z.toList) := br.out.grown hg2 (by intro e; injection e with e; exact HR.out.2.1 e.symm)
      clear hkey hlk hv hat hrg2 hlt2 hg2 hs2 ex ey ev e2 hj hmem hbs hn i1 i2 i3 kk ba br hrg ekl
      have HG2 := HG.out
      go_wp2
      go_loopw [7, 17] (fun _ i wr => ∃ (q : Nat) (L' : List Value), i = .int .i64 (q : Int) ∧ Hid (q ≤ n) ∧ Hid (wr.ranges Tryz.prog 9 placeR b ri t.length (.map (tabL t vs)) (fun z => left z && !z.sameKey (.string x')) cnt2) ∧ Hid (Blk wr ga 139 L') ∧ Hid (IsTk L' (fun i => M.seenT t left i || (bs.take q).contains i)) ∧ Hid (Blk wr gr 139 Z.toList) ∧ Hid (Below w.heap.size w wr))
        (fun _ i _ => n - numOf i)
      case atStart =>
        refine ⟨0, L, rfl, Nat.zero_le _, RG2.out.alloc _, BA2.out.alloc _, hL.out.congr fun i => by simp, BR2.out.alloc _, K2.out.alloc K2.out.size _⟩
      case round =>
        clear RG2 BA2 BR2 K2 hL
        obtain ⟨wq, rfl⟩ : ∃ x, x = wr := ⟨_, rfl⟩
        obtain ⟨q, L', rfl, hq, rg, ba, hL, br, kk⟩ := hrel
        by_cases hlt : q < n
        · have b1 : (q : Int) < (n : Int) := by omega
          have hql : q < bs.length := by rw [HN.out]; exact hlt
          obtain ⟨ib, io, rfl, hc⟩ := I3.out.resolve_left (fun e => by rw [e] at hql; cases hql)
          have hxc := hc q hql
          have hx2 := HBL.out (bs.getD q 0) (by rw [List.getD_eq_getElem?_getD, List.getElem?_eq_getElem hql]; exact List.getElem_mem _)
          obtain ⟨x, hx⟩ : ∃ x, x = bs.getD q 0 := ⟨_, rfl⟩
          rw [← hx] at hxc hx2
          have c1 : wq.cell? ⟨ib, io + q, none⟩ = some (.int .i64 (x : Int)) := (kk.out.cell (p := ⟨ib, io + q, none⟩) (World.block_lt_of_cell? w _ hxc)).trans hxc
          have c2 : wq.cell? ⟨ga, x, none⟩ = some (.bool (M.seenT t left x || (bs.take q).contains x)) := by rw [ba.out.cell, hL.out.2 x hx2]
          have f2 : wq.frozen? ⟨ga, x, none⟩ = false := ba.out.frozen x
          have HL' : Hid (IsTk (L'.set x (.bool true)) (fun i => M.seenT t left i || (bs.take (q + 1)).contains i)) := (hL.out.set x hx2).congr fun i => by
            show ((M.seenT t left i || (bs.take q).contains i) || i == x) = _
            rw [contains_take_succ bs q hql, ← hx, Bool.or_assoc]
          have g2 : (0 : Int) ≤ (q : Int) := Int.natCast_nonneg q
          have g3 : ((q : Int)).toNat = q := Int.toNat_natCast q
          have g4 : (0 : Int) ≤ (x : Int) := Int.natCast_nonneg x
          have g5 : (x : Int) < 2048 := by omega
          have g6 : ((x : Int)).toNat = x := Int.toNat_natCast x
          have HQ := Lib.hid hlt
          have n3 : wrap64 ((q : Int) + 1) = ((q + 1 : Nat) : Int) := by have := HB64.out; have := HN.out; unfold wrap64; omega
          have N3 := Lib.hid n3
          obtain ⟨bv, hbv⟩ : ∃ bv, bv = (M.seenT t left x || (bs.take q).contains x) := ⟨_, rfl⟩
          rw [← hbv] at c2
          clear hx hxc hc hql hlt n3 hx2 hL hbv
          go_wp2
          go_roundw
          case rel =>
            refine ⟨q + 1, L'.set x (.bool true), by first | rw [N3.out] | rfl, HQ.out, ?_, ba.out.set_ x _, HL'.out, br.out.far (by have := HG.out; exact fun e => this.2.2.1 e.symm) _, kk.out.setCell (by have := HG.out; exact this.2.2.2.1) _⟩
            exact rg.out.kept (row := some ga) ((Only.refl ga wq).setCell (.inl rfl) _) (by have := HG.out; intro e; injection e with e; omega) (by have := HR.out; intro e; injection e with e; exact this.1 e)
          case measure =>
            first | rw [N3.out] | skip
            exact step_down HQ.out
        · have b1 : ¬ (q : Int) < (n : Int) := by omega
          obtain rfl : q = n := by have := hq.out; omega
          have et : bs.take q = bs := by rw [← HN.out, List.take_length]
          have HL2 : Hid (IsTk L' (M.seenT t fun z => left z && !z.sameKey (.string x'))) := hL.out.congr fun i => by rw [et, HST.out]
          clear et hL hlt
          go_wp2
          go_roundw
          case rel => exact ⟨_, cnt2, L', rg.out, ba.out, HL2.out, br.out, kk.out⟩
          case measure => rw [rg.out.left_eq, HRG.out.left_eq]; exact HLT2.out

end Go.Proofs.YtphcbpfpelonaaaGreatDoor

namespace Go.Proofs.YtphcbpfpelonaaaGreatDoor
open Go.RowKit
set_option linter.unusedVariables false

variable {P : Program} {Q : Exit → Act → World → Prop} {n : Nat}

theorem rows_in {row : String} {args : Array Value} {w : World} {R : Value → World → Prop} (l : Nat) (h : Rows P row args w R) : RowsIn (Fence.wide.inRound l) n P row args w R :=
  fun c cs _ => let ⟨v, w', r, s⟩ := h c cs; ⟨v, w', r, stepsIn_wide.2 s⟩

/-- One operation. -/
theorem wpIn_of_wp_op (l : Nat) {o : Oper} (hd : ∀ c, o.op ≠ .defer c) {a : Act} {w : World} {K : Act → World → Prop} (h : o.wp P a w K Q) : o.wpIn (Fence.wide.inRound l) n P a w K Q := by
  refine ⟨fun _ _ => trivial, ?_⟩
  show o.uponIn _ n P a K Q ((o.semAt (some l) a.eval).run P w)
  rw [Oper.semAt_some l _ _ hd]
  unfold Oper.wp at h
  generalize (execOp a.eval o).run P w = r at h
  cases r with
  | ok x w' =>
    cases x <;> simp only [Oper.upon, Oper.uponIn] at h ⊢
    all_goals first
      | exact h
      | exact ⟨fun hh => (by simp [Fence.wide, Fence.inRound] at hh), CallsIn.inRound l (callsIn_wide.2 h)⟩
      | exact ⟨fun hh => (by simp [Fence.wide, Fence.inRound] at hh), rows_in l h⟩
  | halt x w' => cases x <;> simp only [Oper.upon, Oper.uponIn] at h ⊢ <;> exact h

/-- No operation of the list is a defer statement. -/
def NoDefer (ops : List Oper) : Prop := ∀ o ∈ ops, ∀ c, o.op ≠ .defer c

theorem wpListIn_of_wpList (l : Nat) (hlo : ¬ LetsOut Q) {ops : Array Oper} : ∀ {rest : List Oper} {a : Act} {w : World}, NoDefer rest → wpList P ops Q rest a w → wpListIn (Fence.wide.inRound l) n P ops Q rest a w
  | [], _, _, _, h => h
  | o :: rest, a, w, hd, h => by
    unfold wpList at h
    unfold wpListIn
    split
    · rename_i hw
      rw [if_pos hw] at h
      rcases h with h | ⟨_, h⟩
      · exact wpIn_of_wp_op l (hd o (by simp)) (Oper.wp_mono (fun a w h => wpListIn_of_wpList l hlo (fun o' ho' => hd o' (by simp [ho'])) h) h)
      · exact absurd h hlo
    · rename_i hw
      rw [if_neg hw] at h
      exact ⟨fun _ _ => trivial, wpListIn_of_wpList l hlo (fun o' ho' => hd o' (by simp [ho'])) h⟩

theorem wpAnyIn_of_wpAny (l : Nat) (hlo : ¬ LetsOut Q) {ops : Array Oper} (hd : NoDefer ops.toList) {md : Region.Mode} : ∀ {k : Nat} {listed : Array Bool} {a : Act} {w : World}, wpAny P md ops Q k listed a w → wpAnyIn (Fence.wide.inRound l) n P md ops Q k listed a w
  | 0, _, _, _, h => h
  | k + 1, listed, a, w, ⟨h0, h1⟩ => by
    refine ⟨h0, fun i hi => ?_⟩
    have h := h1 i hi
    unfold wpOp at h
    unfold wpOpIn
    cases ho : ops[i]? with
    | none =>
      rw [ho] at h
      exact wpAnyIn_of_wpAny l hlo hd h
    | some o =>
      rw [ho] at h
      simp only at h ⊢
      have hm : o ∈ ops.toList := by
        have := Array.mem_of_getElem? ho
        simpa using this
      split
      · rename_i hw
        rw [if_pos hw] at h
        rcases h with h | ⟨_, h⟩
        · exact wpIn_of_wp_op l (hd o hm) (Oper.wp_mono (fun a w h => wpAnyIn_of_wpAny l hlo hd h) h)
        · exact absurd h hlo
      · rename_i hw
        rw [if_neg hw] at h
        exact ⟨fun _ _ => trivial, wpAnyIn_of_wpAny l hlo hd h⟩

/-- An operation that yields in whatever world, taken first; the slot that it writes known. -/
theorem wpAny_take_at {ops : Array Oper} {md : Region.Mode} {i d : Nat} {oi : Oper} {v : Value} {fuel : Nat} {listed : Array Bool} {tmps : Array Value} {defers : List Deferred} {w : World} (hi : ops[i]? = some oi) (hdst : oi.dst = some d)
    (hs : Region.noSelect ops = true) (hf : Region.free md ops listed i = true) (hr : (Region.ready md ops listed).contains i = true)
    (hQ : ∀ c a w, Q (.panic c) (a.put oi.dst v) w → Q (.panic c) a w) (hy : Yields P ops oi v { tmps := tmps, defers := defers })
    (h : wpAny P md ops Q fuel (listed.setIfInBounds i true) { tmps := tmps.setIfInBounds d v, defers := defers } w) : wpAny P md ops Q (fuel + 1) listed { tmps := tmps, defers := defers } w := by
  refine wpAny_take hi hs hf hr hQ hy ?_
  rw [hdst]
  exact h

/-- A region in its text's order. -/
theorem wpIn_region_of_list (l : Nat) (hlo : ¬ LetsOut Q) {id : Nat} {ops : List Oper} {a : Act} {w : World} (hd : NoDefer ops) (h : wpList P ops.toArray Q ops a w) : (Code.region id ops.toArray false).wpIn (Fence.wide.inRound l) n P Q a w :=
  wpIn_region_lit (wpListIn_of_wpList l hlo hd h)

/-- A region that draws, of reads and calls that leave the world alone, ahead of a forced tail. -/
theorem wpIn_region_still (r : Nat) (hlo : ¬ LetsOut Q) {id : Nat} {a : Act} {w : World} {l : List Oper} (m : Nat) (hm : P.follows .mixedOrders = true) (hB : Region.lexTailB .any l.toArray m = true) (hd : NoDefer l)
    (h : wpStill P l.toArray w.drew (fun a' => wpList P l.toArray Q (l.drop m) a' w.drew) (l.take m) a) : (Code.region id l.toArray true).wpIn (Fence.wide.inRound r) n P Q a w := by
  simp only [Region.lexTailB, Bool.and_eq_true, decide_eq_true_eq] at hB
  obtain ⟨⟨⟨⟨hsel, hn⟩, hs⟩, hc⟩, hlex⟩ := hB
  have hn' : m < l.length := by simpa using hn
  have htl : (l.take m).length = m := by simp; omega
  have hdl : (l.drop m).length = l.toArray.size - m := by simp
  have inv0 : HeadInv .any l.toArray m (Array.replicate l.toArray.size false) :=
    ⟨by simp, fun j oj _ hl => (by rw [getD_replicate_false] at hl; cases hl), fun t _ ht => getD_in (by simpa using ht) (getD_replicate_false _ _)⟩
  have H := wpAnyL_lex (md := .any) (g := l.toArray.size - m) hsel hs hc hn (l.take m) 0 _ a (fun j hj => by
    have hj' : j < m := by rw [htl] at hj; exact hj
    simp [hj']) (by simpa using htl) inv0 (by rw [htl]; exact hlex) h
  refine wpIn_region_any hm ?_
  have := wpAny_of_head (Q' := Q) (g := l.toArray.size - m) (fun listed a' hL => by
    have := wpAny_of_seq (md := .any) (Q' := Q) (l.drop m) m listed a' { w with drawn := w.drawn + 1 } (fun j => by simp [List.getElem?_drop]) (by rw [hdl]; exact hL.1) hL.2
    rwa [hdl] at this) _ _ _ H
  rw [htl, show m + (l.toArray.size - m) = l.toArray.size by omega] at this
  exact wpAnyIn_of_wpAny r hlo (by simpa using hd) this

end Go.Proofs.YtphcbpfpelonaaaGreatDoor

namespace Go.Proofs.YtphcbpfpelonaaaGreatDoor
open Go
set_option linter.unusedVariables false

variable {P : Program} {md : Region.Mode} {ops : Array Oper} {w : World}

/-- The next f operations: whichever come up, one alone is left for the last place. -/
def oneLast (md : Region.Mode) (ops : Array Oper) : Nat → Array Bool → Bool
  | 0, _ => true
  | 1, l => decide ((Region.ready md ops l).length ≤ 1)
  | f + 2, l => (Region.ready md ops l).all fun j => oneLast md ops (f + 1) (l.setIfInBounds j true)

theorem wpAnyL_first2 {i : Nat} {oi : Oper} {v : Value} {L : Array Bool → Act → Prop} (hi : ops[i]? = some oi) (hsel : ∀ (j : Nat) (o : Oper) cs b, ops[j]? = some o → o.op ≠ .select cs b) :
    ∀ (f : Nat) (listed : Array Bool) (a : Act), oneLast md ops (f + 1) listed = true →
      (∀ j oj, ops[j]? = some oj → j ≠ i → listed.getD j true = false → (∀ e ∈ oj.after, Region.binds md e = true → e.on ≠ i) → oi.apart ops oj = true) →
      i ∈ Region.ready md ops listed → YieldsAt P ops w oi v a →
      wpAnyL P md ops w ops.size L f (listed.setIfInBounds i true) (a.put oi.dst v) → wpAnyL P md ops w ops.size L (f + 1) listed a := by
  intro f
  induction f with
  | zero =>
    intro listed a ho _ hr hy H
    refine ⟨fun h => (by rw [h] at hr; cases hr), fun j hj => ?_⟩
    obtain ⟨_, oj, hoj, _⟩ := mem_ready.1 hj
    refine ⟨(Array.getElem?_eq_some_iff.1 hoj).1, ?_⟩
    have hl : (Region.ready md ops listed).length ≤ 1 := by simpa [oneLast] using ho
    obtain rfl : j = i := by
      match hq : Region.ready md ops listed, hl with
      | [x], _ =>
        rw [hq] at hj hr
        simp at hj hr
        rw [hj, hr]
      | [], _ => rw [hq] at hj; cases hj
    exact hy.stOp hi H
  | succ f ih =>
    intro listed a ho hfree hr hy H
    refine ⟨fun h => (by rw [h] at hr; cases hr), fun j hj => ?_⟩
    have hun := (mem_ready.1 hr).1
    obtain ⟨hjun, oj, hoj, hall⟩ := mem_ready.1 hj
    refine ⟨(Array.getElem?_eq_some_iff.1 hoj).1, ?_⟩
    by_cases hji : j = i
    · subst hji; exact hy.stOp hi H
    · have h1 := (H.2 j (ready_mono hj hji)).2
      have hnot : ∀ e ∈ oj.after, Region.binds md e = true → e.on ≠ i := fun e he hb heq => by
        have h1 := hall e he hb
        rw [heq, getD_both hun] at h1
        cases h1
      have h2 := stOp_put hoj (hfree j oj hoj hji hjun hnot) (fun cs b => hsel i oi cs b hi) (fun cs b => hsel j oj cs b hoj) hy h1
      have hfree' : ∀ k ok, ops[k]? = some ok → k ≠ i → (listed.setIfInBounds j true).getD k true = false →
          (∀ e ∈ ok.after, Region.binds md e = true → e.on ≠ i) → oi.apart ops ok = true := fun k ok hk hki hun hno => by
        refine hfree k ok hk hki ?_ hno
        by_cases hjk : j = k
        · subst hjk; exact hjun
        · rw [getD_set_ne true hjk] at hun; exact hun
      have ho' : oneLast md ops (f + 1) (listed.setIfInBounds j true) = true := List.all_eq_true.1 ho j hj
      refine stOp_mono (fun a' h3 => ih (listed.setIfInBounds j true) a' ho' hfree' (ready_mono hr (Ne.symm hji)) h3.1 ?_) h2
      rw [Array.setIfInBounds_comm _ _ hji]
      exact h3.2

/-- Number i taken first among reads; the slot that it writes known. -/
theorem wpAnyL_take_at {i d : Nat} {oi : Oper} {v : Value} {L : Array Bool → Act → Prop} {f : Nat} {listed : Array Bool} {tmps : Array Value} {defers : List Deferred} (hi : ops[i]? = some oi) (hdst : oi.dst = some d)
    (hs : Region.noSelect ops = true) (ho : oneLast md ops (f + 1) listed = true) (hf : Region.free md ops listed i = true) (hr : (Region.ready md ops listed).contains i = true)
    (hy : YieldsAt P ops w oi v { tmps := tmps, defers := defers })
    (h : wpAnyL P md ops w ops.size L f (listed.setIfInBounds i true) { tmps := tmps.setIfInBounds d v, defers := defers }) : wpAnyL P md ops w ops.size L (f + 1) listed { tmps := tmps, defers := defers } := by
  refine wpAnyL_first2 hi (Region.noSelect_spec hs) f listed _ ho (Region.free_spec hi hf) (by simpa using hr) hy ?_
  rw [hdst]
  exact h

/-- Reads, and then the rest. -/
theorem wpAny_reads (f g : Nat) {Q : Exit → Act → World → Prop} {listed : Array Bool} {a : Act} (h : wpAnyL P md ops w ops.size (fun listed' a' => wpAny P md ops Q g listed' a' w) f listed a) : wpAny P md ops Q (f + g) listed a w :=
  wpAny_of_head (fun _ _ h => h) f listed a h

end Go.Proofs.YtphcbpfpelonaaaGreatDoor

namespace Go.Proofs.YtphcbpfpelonaaaGreatDoor
open Go.RowKit
set_option linter.unusedVariables false

variable {P : Program} {Q : Exit → Act → World → Prop} {n : Nat}

theorem rows_wide {row : String} {args : Array Value} {w : World} {R : Value → World → Prop} (h : Rows P row args w R) : RowsIn Fence.wide n P row args w R :=
  fun c cs _ => let ⟨v, w', r, s⟩ := h c cs; ⟨v, w', r, stepsIn_wide.2 s⟩

theorem wpInW_of_wp {o : Oper} {a : Act} {w : World} {K K' : Act → World → Prop} (h : o.wp P a w K (Exit.then K' Q)) : o.wpIn Fence.wide n P a w K Q := by
  refine ⟨fun _ _ => trivial, ?_⟩
  show o.uponIn _ n P a K Q ((execOp a.eval o).run P w)
  unfold Oper.wp at h
  generalize (execOp a.eval o).run P w = r at h
  cases r with
  | ok x w' =>
    cases x <;> simp only [Oper.upon, Oper.uponIn] at h ⊢
    all_goals first
      | exact h
      | exact ⟨fun hh => (by simp [Fence.wide] at hh), callsIn_wide.2 h⟩
      | exact ⟨fun hh => (by simp [Fence.wide] at hh), rows_wide h⟩
  | halt x w' => cases x <;> simp only [Oper.upon, Oper.uponIn] at h ⊢ <;> exact h

theorem wpListInW_split (hlo : ¬ LetsOut Q) {ops : Array Oper} : ∀ (m : Nat) {l : List Oper} {a : Act} {w : World},
    wpList P ops (Exit.then (fun a w => wpListIn Fence.wide n P ops Q (l.drop m) a w) Q) (l.take m) a w → wpListIn Fence.wide n P ops Q l a w
  | 0, _, _, _, h => h
  | m + 1, [], a, w, h => h
  | m + 1, o :: rest, a, w, h => by
    simp only [List.take_succ_cons, List.drop_succ_cons] at h
    unfold wpList at h
    unfold wpListIn
    split
    · rename_i hw
      rw [if_pos hw] at h
      rcases h with h | ⟨_, h⟩
      · exact wpInW_of_wp (Oper.wp_mono (fun a w h => wpListInW_split hlo m h) h)
      · exact absurd h hlo
    · rename_i hw
      rw [if_neg hw] at h
      exact ⟨fun _ _ => trivial, wpListInW_split hlo m h⟩

end Go.Proofs.YtphcbpfpelonaaaGreatDoor
