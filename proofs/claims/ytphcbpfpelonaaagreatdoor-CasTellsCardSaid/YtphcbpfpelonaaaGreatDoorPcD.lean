/-
  ROWS OF ROWS IN BLOCKS OF S (InLL), ROWS OF ROWS THAT GROW BY WHAT LIES ELSEWHERE (OwnRS), AND (*Cas).Fsck WITH THE REAL CRYPT. Conditions: the tables of package sha lie as laid.
  (*Cas).Fsck WITH THE REAL CRYPT. Conditions: the tables of package sha lie as laid.
  orloplaw13.open, orlopref13.In AND Lists; a Cas of a new disk. Conditions: the tables of package sha lie as laid.
  crypt.Real, crypt.Book, cas.New; ONE BLOB IN PLAIN MATHEMATICS. Conditions: none.
  CONTRACT OF orloplaw13.awake. Conditions: the tables of package sha lie as laid.
-/
import Derived.Test.YtphcbpfpelonaaaGreatDoorPcC
import Derived.Test.YtphcbpfpelonaaaGreatDoorPf33

namespace Go.Proofs.YtphcbpfpelonaaaGreatDoor
open Go.RowKit Go.Maps
set_option linter.unusedVariables false
set_option maxRecDepth 100000

/-- The value is a slice of rows, all of it in blocks of S. -/
def InLL (S : Nat → Prop) (w : World) (v : Value) (L : List (List UInt8)) (rows : List Value) : Prop := IsLL w v L rows ∧ Lies S v ∧ ∀ i, i < L.length → Lies S (rows.getD i undef)

theorem InLL.chg {S F : Nat → Prop} {w w' : World} {v : Value} {L : List (List UInt8)} {rows : List Value} (h : InLL S w v L rows) (k : Chg F w w') (hs : ∀ k, S k → ¬ F k) : InLL S w' v L rows := by
  obtain ⟨⟨ao, cap, rfl, h1, h2, h3, h4, h5⟩, l1, l2⟩ := h
  refine ⟨⟨ao, cap, rfl, h1, h2, h3, fun i hi => ⟨(h4 i hi).1.chg k ((l2 i hi).mono hs), (h4 i hi).2⟩, ?_⟩, l1, l2⟩
  rcases h5 with h | ⟨b, off, rfl, h⟩
  · exact .inl h
  · refine .inr ⟨b, off, rfl, fun i hi => ?_⟩
    have hc := h i hi
    rw [World.cell?_of_block (k.block b (World.block_lt_of_cell? w _ hc) (hs b (l1 _ _ _ rfl))), hc]

theorem InLL.mono {S R : Nat → Prop} {w : World} {v : Value} {L : List (List UInt8)} {rows : List Value} (h : InLL S w v L rows) (hs : ∀ k, S k → R k) : InLL R w v L rows := ⟨h.1, h.2.1.mono hs, fun i hi => (h.2.2 i hi).mono hs⟩

theorem OwnLL.inLL {w : World} {B : Nat} {v : Value} {L : List (List UInt8)} {rows : List Value} (h : OwnLL w B v L rows) : InLL (fun k => B ≤ k ∧ k < w.heap.size) w v L rows :=
  ⟨h.isLL, lies_own h.row fun k h1 h2 => ⟨h1, h2⟩, fun i hi => (h.each i hi).2.2.mono fun k hk => ⟨hk.1, hk.2.1⟩⟩

/-- A row of the call's own, from block B on, of rows that lie in S. -/
structure OwnRS (S : Nat → Prop) (w : World) (B : Nat) (v : Value) (L : List (List UInt8)) (rows : List Value) : Prop where
  row : w.ownsRow B 38 1 v L.length rows
  each : ∀ i, i < L.length → IsB w (rows.getD i undef) (L.getD i []) ∧ (∀ n c, rows.getD i undef = .slice none n c → c = 0) ∧ Lies S (rows.getD i undef)

theorem OwnRS.len {S : Nat → Prop} {w : World} {B : Nat} {v : Value} {L : List (List UInt8)} {rows : List Value} (h : OwnRS S w B v L rows) : rows.length = L.length := by
  have := h.row.1
  omega

theorem OwnRS.nil (S : Nat → Prop) (w : World) (B : Nat) : OwnRS S w B (.slice none 0 0) [] [] := ⟨World.ownsRow_nil _ _ _ _, fun i hi => by cases hi⟩

theorem OwnRS.chg {S F : Nat → Prop} {w w' : World} {B : Nat} {v : Value} {L : List (List UInt8)} {rows : List Value} (h : OwnRS S w B v L rows) (c : Chg F w w') (h1 : ∀ k, B ≤ k → k < w.heap.size → ¬ F k) (h2 : ∀ k, S k → ¬ F k) : OwnRS S w' B v L rows :=
  ⟨own_chg h.row c fun b hb => h1 b (h.row.lt b hb).1 (h.row.lt b hb).2, fun i hi => ⟨(h.each i hi).1.chg c ((h.each i hi).2.2.mono h2), (h.each i hi).2⟩⟩

theorem OwnRS.below {S : Nat → Prop} {w w' : World} {B : Nat} {v : Value} {L : List (List UInt8)} {rows : List Value} (h : OwnRS S w B v L rows) (c : Below w.heap.size w w') : OwnRS S w' B v L rows :=
  h.chg (Chg.of_below (F := fun _ => False) c) (fun _ _ _ h => h) fun _ _ h => h

/-- A row more. -/
theorem OwnRS.add {S : Nat → Prop} {w w' : World} {B : Nat} {v v' rv : Value} {L : List (List UInt8)} {rows : List Value} {bs : List UInt8} (h : OwnRS S w B v L rows) (hS : ∀ k, S k → k < B) (d : IsB w rv bs) (ld : Lies S rv) (d0 : ∀ n c, rv = .slice none n c → c = 0)
    (o : w'.ownsRow B 38 1 v' (L.length + 1) (rows ++ [rv])) (g : w.grownBy w' v.ownBlock) : OwnRS S w' B v' (L ++ [bs]) (rows ++ [rv]) where
  row := by rw [List.length_append]; exact o
  each := by
    intro i hi
    have hi' : i < L.length + 1 := by simpa using hi
    have hl := h.len
    have c4 : Chg (fun b => v.ownBlock = some b) w w' := Chg.of_grown g fun k hk => hk
    have hv : ∀ b, v.ownBlock = some b → B ≤ b := fun b hb => (h.row.lt b hb).1
    have hd : ∀ k, S k → ¬ v.ownBlock = some k := fun k hk e => by have := hv k e; have := hS k hk; omega
    rw [getD_snoc _ _ _ _ (by rw [hl]; exact hi'), getD_snoc _ _ _ _ hi', hl]
    by_cases hlt : i < L.length
    · rw [if_pos hlt, if_pos hlt]
      obtain ⟨h1, h2, h3⟩ := h.each i hlt
      exact ⟨h1.chg c4 (h3.mono hd), h2, h3⟩
    · rw [if_neg hlt, if_neg hlt]
      exact ⟨d.chg c4 (ld.mono hd), d0, ld⟩

theorem OwnRS.inLL {S : Nat → Prop} {w : World} {B : Nat} {v : Value} {L : List (List UInt8)} {rows : List Value} (h : OwnRS S w B v L rows) : InLL (fun k => S k ∨ (B ≤ k ∧ k < w.heap.size)) w v L rows := by
  have hl := h.len
  have hr := h.row
  have l1 : Lies (fun k => S k ∨ (B ≤ k ∧ k < w.heap.size)) v := lies_own h.row fun k h1 h2 => .inr ⟨h1, h2⟩
  refine ⟨?_, l1, fun i hi => (h.each i hi).2.2.mono fun k hk => .inl hk⟩
  obtain ⟨ao, cap, rfl⟩ := ownShape h.row
  rcases h.row.2 with ⟨e, hn⟩ | ⟨g, cap', cur, e, hb, hg, hn, hm, hs, ht⟩
  · injection e with e1 e2 e3
    exact ⟨ao, cap, rfl, by omega, by unfold maxLen; omega, hl, fun i hi => by omega, .inl (by cases L; rfl; simp at hn)⟩
  · injection e with e1 e2 e3
    subst e1 e3
    refine ⟨_, cap, rfl, by omega, hm, hl, fun i hi => ⟨(h.each i hi).1, (h.each i hi).2.1⟩, ?_⟩
    by_cases h0 : L = []
    · exact .inl h0
    · refine .inr ⟨g, 0, rfl, fun i hi => ?_⟩
      obtain ⟨g2, e9, _, cs, _⟩ := ownCells hr (by cases L; exact absurd rfl h0; simp)
      injection e9 with e9
      injection e9 with e9
      subst e9
      rw [Nat.zero_add, cs _ (by omega), List.getD_eq_getElem?_getD, List.getElem?_eq_getElem (by omega)]
      rfl

theorem M.fsck_next (F : M.Fs) (ds : List (List UInt8)) (k : Nat) (h : k < ds.length) : M.fsckL F (ds.take (k + 1)) = M.fsckS F (M.fsckL F (ds.take k)) (ds.getD k []) := by
  rw [M.take_nextD ds [] k h, M.fsckL_snoc]

theorem M.filter_next (p : List UInt8 → Bool) (ds : List (List UInt8)) (k : Nat) (h : k < ds.length) : (ds.take (k + 1)).filter p = (ds.take k).filter p ++ (if p (ds.getD k []) = true then [ds.getD k []] else []) := by
  rw [M.take_nextD ds [] k h, List.filter_append]
  congr 1
  generalize ds.getD k [] = x
  by_cases hm : p x = true
  · rw [if_pos hm, List.filter_cons_of_pos hm]
    rfl
  · rw [if_neg hm, List.filter_cons_of_neg hm]
    rfl

theorem M.fsckL_len (F : M.Fs) (ds : List (List UInt8)) : (M.fsckL F ds).length ≤ 2 * ds.length := by
  have : ∀ (ds : List (List UInt8)) (L : M.Chs), (ds.foldl (M.fsckS F) L).length ≤ L.length + 2 * ds.length := by
    intro ds
    induction ds with
    | nil => intro L; simp
    | cons d r ih =>
      intro L
      have h := ih (M.fsckS F L d)
      have h2 : (M.fsckS F L d).length ≤ L.length + 2 := by
        rw [M.fsckS]
        split
        · have h1 := M.kput_le (M.kput L (98 :: d) ([], true)) (113 :: d) (M.dat F (98 :: d), false)
          have h2 := M.kput_le L (98 :: d) (([] : List UInt8), true)
          omega
        · omega
      rw [List.foldl_cons, List.length_cons]
      omega
  have h := this ds []
  rw [List.length_nil] at h
  rw [M.fsckL]
  omega

theorem M.fsckL_data {F : M.Fs} (ds : List (List UInt8)) {n : Nat} (h : ∀ k d, M.look F k = some d → d.length ≤ n) : ∀ p ∈ M.fsckL F ds, p.2.1.length ≤ n := by
  intro p hp
  have hk := M.kget_of_mem (M.rise_fsckL F ds) hp
  rw [M.fsckL, M.fsck_get F p.1 ds M.rise_nil] at hk
  split at hk
  · injection hk with hk
    rw [← hk]
    show (M.dat F _).length ≤ n
    rw [M.dat]
    cases hl : M.look F (98 :: p.1.drop 1) with
    | none => exact Nat.zero_le _
    | some d => exact h _ d hl
  · split at hk
    · injection hk with hk
      rw [← hk]
      exact Nat.zero_le _
    · cases hk

end Go.Proofs.YtphcbpfpelonaaaGreatDoor

namespace Go.Proofs.YtphcbpfpelonaaaGreatDoor
open Go.RowKit Go.Maps
set_option linter.unusedVariables false
set_option maxRecDepth 100000

section
variable {w0 w : World} {g gf gc N : Nat} {F : M.Fs} {Q : Nat → Prop} {cv : Value}

/-- What a Fsck hands back. -/
def FsckEnds (w0 w : World) (g gf gc N : Nat) (F : M.Fs) (cv : Value) (Q : Nat → Prop) (e : Ending) (w' : World) : Prop :=
  Far w0 Q w w' ∧ ∃ r : Int, (r = 0 ∨ r = 2 ∨ r = 3) ∧ ∃ (v : Value) (rows : List Value) (z : Nat), e = .returned (.tuple #[if r = 0 then v else .slice none 0 0, .int .i64 r]) ∧
    CasSt w0 w' g gf gc N (if r = 0 then M.fscked F else F) .real cv (fun b => Q b ∨ (w.heap.size ≤ b ∧ b < z)) ∧ InLL (fun b => w.heap.size ≤ b ∧ b < z) w' v ((M.marked 98 F).filter (M.spB F)) rows

set_option maxHeartbeats 16000000 in
theorem CasSt.fsck (s : CasSt w0 w g gf gc N F .real cv Q) (hL : Laid w0) :
    Calls Tryz.prog 15 #[.pointer (some ⟨gc, 0, none⟩)] w (FsckEnds w0 w g gf gc N F cv Q) := by
  have SS := Lib.hid s
  have HL := Lib.hid hL
  have HF64 := Lib.hid s.few
  have CB := Lib.hid (begin_any gc w)
  clear s hL
  go_enter Tryz.func15, Tryz.ntmps15
  go_wp2_with fail
  refine CB.out.mono ?_
  rintro e w1 ⟨gb, bm, fm, rfl, bt, k1, g1, g2, g3⟩
  have K1 := Lib.hid k1
  have BT := Lib.hid bt
  have HG : Hid (w.heap.size ≤ gb ∧ w.heap.size ≤ bm ∧ w.heap.size ≤ fm ∧ gb < w1.heap.size ∧ bm < w1.heap.size ∧ fm < w1.heap.size) := ⟨g1, g2, g3, bt.lt⟩
  have HNE : Hid (gb ≠ fm ∧ bm ≠ fm) := ⟨bt.n2, bt.n3⟩
  have S1 := Lib.hid (SS.out.below k1)
  have CL := Lib.hid S1.out.list
  clear CB bt k1 g1 g2 g3
  go_wp2_with fail
  refine CL.out.mono ?_
  rintro e w2 ⟨dv, rows, rfl, od, k2⟩
  obtain ⟨ds, hds⟩ : ∃ d, d = M.marked 98 F := ⟨_, rfl⟩
  rw [← hds] at od
  obtain ⟨da, dc, hdv⟩ := ownShape od.row
  subst hdv
  obtain ⟨n, hn⟩ : ∃ n, n = ds.length := ⟨_, rfl⟩
  have HN : Hid (ds.length = n) := hn.symm
  have H64 : Hid (n ≤ 64) := by rw [Hid, hn, hds]; exact Nat.le_trans (M.marked_le 98 F) HF64.out
  have HDS := Lib.hid hds
  have HME : Hid (∀ d ∈ ds, d.length = 32 ∧ (M.look F (98 :: d)).isSome = true) := fun d hd => by
    rw [hds] at hd
    exact (M.mem_marked 98 F d).1 hd
  rw [← hn] at od ⊢
  have OD := Lib.hid od
  have K2 := Lib.hid k2
  have BT2 := Lib.hid (BT.out.below k2)
  have hz1 := K1.out.size
  have hz2 := k2.size
  have S2 : Hid (CasSt w0 w2 g gf gc N F .real cv (fun b => Q b ∨ (w.heap.size ≤ b ∧ b < w2.heap.size))) := (S1.out.below k2).less fun k hk => by
    rcases hk with hk | hk
    · exact .inl (.inl hk)
    · by_cases h1 : k < w1.heap.size
      · exact .inl (.inr ⟨hk.1, h1⟩)
      · exact .inr ⟨by omega, hk.2⟩
  have HZ : Hid (w.heap.size ≤ w1.heap.size ∧ w1.heap.size ≤ w2.heap.size) := ⟨hz1, hz2⟩
  clear CL od k2 hds hn BT S1 hz1 hz2
  go_wp2
  go_loopw [5, 16] (fun v i wr => ∃ (j : Nat) (rows2 : List Value), i = .int .i64 (j : Int) ∧ Hid (j ≤ n) ∧ Hid (Chg (fun k => k = fm ∨ (¬ Q k ∧ w0.heap.size ≤ k ∧ k < w.heap.size)) w2 wr) ∧ Hid (CasSt w0 wr g gf gc N F .real cv (fun b => Q b ∨ (w.heap.size ≤ b ∧ b < wr.heap.size))) ∧ Hid (BtAt (fun b => w2.heap.size ≤ b ∧ b < wr.heap.size ∧ v.ownBlock ≠ some b) wr gb gc bm fm [] (M.fsckL F (ds.take j))) ∧ Hid (OwnRS (fun b => w1.heap.size ≤ b ∧ b < w2.heap.size) wr w2.heap.size v ((ds.take j).filter (M.spB F)) rows2))
    (fun v i _ => n - numOf i)
  case atStart => exact ⟨0, [], rfl, Nat.zero_le _, Chg.refl _ _, S2.out, by rw [List.take_zero]; exact BT2.out.mono fun k h => h.elim, by rw [List.take_zero]; exact OwnRS.nil _ _ _⟩
  case round =>
    obtain ⟨wz, rfl⟩ : ∃ x, x = wr := ⟨_, rfl⟩
    obtain ⟨v5, rfl⟩ : ∃ x, x = u5 := ⟨_, rfl⟩
    obtain ⟨j, rows2, rfl, hj, ch, sz, bt, oo⟩ := hrel
    clear S2 BT2
    by_cases hlt : j < n
    · have b1 : (j : Int) < (n : Int) := by omega
      have hjl : j < ds.length := by rw [HN.out]; exact hlt
      have od := OD.out.chg ch.out fun k hk h1 h2 => by
        have h3 := HG.out.2.2.2.2.2
        have h4 := HZ.out
        rcases hk with hk | hk
        · omega
        · omega
      obtain ⟨db, rfl, hdb2, hcell⟩ := od.at_ HN.out j hlt
      have ld : Lies (fun b => w1.heap.size ≤ b ∧ b < w2.heap.size) (rows.getD j undef) := (OD.out.each j hjl).2.2.mono fun k hk => ⟨hk.1, hk.2.1⟩
      obtain ⟨id, d0, _⟩ := od.each j hjl
      obtain ⟨d, hd⟩ : ∃ d, d = ds.getD j [] := ⟨_, rfl⟩
      have hdm := HME.out d (by rw [hd, List.getD_eq_getElem?_getD, List.getElem?_eq_getElem hjl]; exact List.getElem_mem _)
      have HFN := Lib.hid (M.fsck_next F ds j hjl)
      have HIN := Lib.hid (M.filter_next (M.spB F) ds j hjl)
      rw [← hd] at id HFN HIN
      obtain ⟨x, hx⟩ : ∃ x, M.look F (98 :: d) = some x := by
        have h := hdm.2
        cases hl : M.look F (98 :: d) with
        | none => rw [hl] at h; cases h
        | some x => exact ⟨x, rfl⟩
      have hblob : M.blob F d = some x := by rw [M.blob, if_pos hdm.1, hx]
      have hdat : M.dat F (98 :: d) = x := by rw [M.dat, hx]; rfl
      obtain ⟨ra, rc, hrv⟩ := id.shape
      rw [hrv] at hcell id ld d0
      rw [hdm.1] at hcell id ld d0
      have CR := Lib.hid (sz.out.read_yes (.slice ra 32 rc) d x id hblob)
      have HXL := Lib.hid (sz.out.size hx)
      have ID := Lib.hid id
      have LD := Lib.hid ld
      have D0 := Lib.hid d0
      have HLT := Lib.hid hlt
      have HD32 := Lib.hid hdm.1
      have HDAT := Lib.hid hdat
      have g2 : (0 : Int) ≤ (j : Int) := by omega
      have g3 : ((j : Int)).toNat = j := by omega
      have G1 : Hid (wrap64 ((j : Int) + 1) = ((j + 1 : Nat) : Int)) := wrap_next (by have := H64.out; omega)
      clear od hjl hdb2 ld id d0 hd hdm hx hblob hdat hrv hlt
      go_wp2_with fail
      refine CR.out.mono ?_
      rintro e w3 ⟨r, rfl, o3, k3⟩
      obtain ⟨xa, xc, rfl⟩ := o3.shape'
      have hz3 := k3.size
      have hzc := ch.out.size
      have S3 : CasSt w0 w3 g gf gc N F .real cv (fun b => Q b ∨ (w.heap.size ≤ b ∧ b < w3.heap.size)) := (sz.out.below k3).less fun k hk => by
        rcases hk with hk | hk
        · exact .inl (.inl hk)
        · by_cases h1 : k < wz.heap.size
          · exact .inl (.inr ⟨hk.1, h1⟩)
          · exact .inr ⟨by omega, hk.2⟩
      have CS := Lib.hid (S3.spoilt HL.out trivial (.slice ra 32 rc) (.slice xa x.length xc) d x (ID.out.below k3) (LD.out.mono fun k hk => .inl (.inr ⟨by have := HZ.out; omega, by omega⟩)) o3.isB HXL.out)
      have I3 : Hid (IsB w3 (.slice xa x.length xc) x) := o3.isB
      have L3 : Hid (Lies (fun k => wz.heap.size ≤ k ∧ k < w3.heap.size) (.slice xa x.length xc)) := o3.lies fun k h1 h2 => ⟨h1, h2⟩
      have K3 := Lib.hid k3
      have HZ3 : Hid (w2.heap.size ≤ wz.heap.size ∧ wz.heap.size ≤ w3.heap.size) := ⟨hzc, hz3⟩
      obtain ⟨xn, hxn⟩ : ∃ q, q = x.length := ⟨_, rfl⟩
      rw [← hxn] at CS I3 L3 ⊢
      obtain ⟨sp, hsp⟩ : ∃ b, b = !decide (M.csum .real x = d) := ⟨_, rfl⟩
      rw [← hsp] at CS
      have HSP : Hid (M.spB F d = sp) := by rw [Hid, M.spB, HDAT.out, hsp]; rfl
      clear CR o3 k3 hz3 hzc S3 hxn hsp hcell
      go_wp2_with fail
      refine CS.out.mono ?_
      rintro e w4 ⟨rfl, s4, far⟩
      have hz4 := far.size
      have c34 : Chg (fun k => k = fm ∨ (¬ Q k ∧ w0.heap.size ≤ k ∧ k < w.heap.size)) w3 w4 := far.mono fun k hk h => .inr ⟨fun hq => h.1 (.inl hq), h.2, by
        by_cases h1 : k < w.heap.size
        · exact h1
        · exact absurd (.inr ⟨by omega, hk⟩) h.1⟩
      have hfar : ∀ k, (w.heap.size ≤ k ∧ k < w3.heap.size) → ¬ (¬ (Q k ∨ (w.heap.size ≤ k ∧ k < w3.heap.size)) ∧ w0.heap.size ≤ k) := fun k hk h => h.1 (.inr hk)
      have hq2 := HZ.out
      have hq3 := HZ3.out
      have hqg := HG.out
      have C4 : Hid (Chg (fun k => k = fm ∨ (¬ Q k ∧ w0.heap.size ≤ k ∧ k < w.heap.size)) w2 w4) := (ch.out.trans (Chg.of_below (F := fun _ => False) K3.out) fun _ _ h => h.elim).trans c34 fun _ _ h => h
      have S4 : Hid (CasSt w0 w4 g gf gc N F .real cv (fun b => Q b ∨ (w.heap.size ≤ b ∧ b < w4.heap.size))) := (show CasSt w0 w4 g gf gc N F .real cv _ from s4).less fun k hk => by
        rcases hk with hk | hk
        · exact .inl (.inl hk)
        · by_cases h1 : k < w3.heap.size
          · exact .inl (.inr ⟨hk.1, h1⟩)
          · exact .inr ⟨by omega, hk.2⟩
      have BT4 : Hid (BtAt (fun b => w2.heap.size ≤ b ∧ b < w4.heap.size ∧ v5.ownBlock ≠ some b) w4 gb gc bm fm [] (M.fsckL F (ds.take j))) := ((bt.out.below K3.out).chg far (hfar _ ⟨hqg.1, by omega⟩) (hfar _ ⟨hqg.2.1, by omega⟩) (hfar _ ⟨hqg.2.2.1, by omega⟩) fun k hk => hfar k ⟨by have := hk.1; omega, by have := hk.2.1; omega⟩).mono fun k hk => ⟨hk.1, by have := hk.2.1; omega, hk.2.2⟩
      have OO4 : Hid (OwnRS (fun b => w1.heap.size ≤ b ∧ b < w2.heap.size) w4 w2.heap.size v5 ((ds.take j).filter (M.spB F)) rows2) := (oo.out.below K3.out).chg far (fun k h1 h2 => hfar k ⟨by omega, h2⟩) fun k hk => hfar k ⟨by omega, by omega⟩
      have ID4 : Hid (IsB w4 (.slice ra 32 rc) d) := (ID.out.below K3.out).chg far (LD.out.mono fun k hk => hfar k ⟨by omega, by omega⟩)
      have I4 : Hid (IsB w4 (.slice xa xn xc) x) := I3.out.chg far (L3.out.mono fun k hk => hfar k ⟨by omega, hk.2⟩)
      have HZ4 : Hid (w3.heap.size ≤ w4.heap.size) := hz4
      clear CS s4 far hz4 c34 hfar hq2 hq3 hqg ch sz bt oo ID I3
      cases sp with
      | false =>
        have e1 : M.fsckL F (ds.take (j + 1)) = M.fsckL F (ds.take j) := by rw [HFN.out, M.fsckS, if_neg (by rw [HSP.out]; decide)]
        have e2 : (ds.take (j + 1)).filter (M.spB F) = (ds.take j).filter (M.spB F) := by rw [HIN.out, if_neg (by rw [HSP.out]; decide), List.append_nil]
        have E1 := Lib.hid e1
        have E2 := Lib.hid e2
        clear e1 e2
        go_wp2
        go_roundw
        case rel => exact ⟨j + 1, rows2, by first | rfl | rw [G1.out], HLT.out, C4.out, S4.out, by rw [E1.out]; exact BT4.out, by rw [E2.out]; exact OO4.out⟩
        case measure =>
          have := HLT.out
          try rw [G1.out]
          show n - (((j + 1 : Nat) : Int)).toNat < n - ((j : Int)).toNat
          omega
      | true =>
        have e1 : M.fsckL F (ds.take (j + 1)) = M.kput (M.kput (M.fsckL F (ds.take j)) (98 :: d) ([], true)) (113 :: d) (x, false) := by rw [HFN.out, M.fsckS, if_pos HSP.out, HDAT.out]
        have e2 : (ds.take (j + 1)).filter (M.spB F) = (ds.take j).filter (M.spB F) ++ [d] := by rw [HIN.out, if_pos HSP.out]
        have E1 := Lib.hid e1
        have E2 := Lib.hid e2
        clear e1 e2
        have hq2 := HZ.out
        have hq3 := HZ3.out
        have hq4 := HZ4.out
        have hqg := HG.out
        have CN := Lib.hid (name_any (.slice ra 32 rc) d w4 ID4.out (by have := HD32.out; omega))
        have hfl := M.fsckL_len F (ds.take j)
        have htl : (ds.take j).length ≤ 64 := by rw [List.length_take]; have := H64.out; have := HLT.out; omega
        have CD := Lib.hid (drop_any BT4.out (98 :: d) (by rw [List.length_cons, HD32.out]; unfold maxLen; omega) (by omega))
        obtain ⟨snm, hsnm⟩ : ∃ s : ByteArray, s = ⟨(98 :: d).toArray⟩ := ⟨_, rfl⟩
        rw [← hsnm] at CN CD
        have HTL : Hid ((M.fsckL F (ds.take j)).length ≤ 128 ∧ (ds.take j).length ≤ 64) := ⟨by omega, htl⟩
        clear hsnm hfl htl
        go_wp2_with fail
        refine CN.out.mono ?_
        rintro e wn ⟨rfl, rfl⟩
        clear CN
        go_wp2_with fail
        refine CD.out.mono ?_
        rintro e w5 ⟨rfl, bt5, ch5⟩
        have BT5 := Lib.hid bt5
        have C5 := Lib.hid ch5
        have hz5 := ch5.size
        have ID5 : Hid (IsB w5 (.slice ra 32 rc) d) := ID4.out.chg ch5 (LD.out.mono fun k hk e => by subst e; omega)
        have I5 : Hid (IsB w5 (.slice xa xn xc) x) := I4.out.chg ch5 (L3.out.mono fun k hk e => by subst e; omega)
        have CA := Lib.hid (asideName_any (.slice ra 32 rc) d w5 ID5.out (by have := HD32.out; omega))
        have CE := Lib.hid (set_any bt5 (113 :: d) (by rw [List.length_cons, HD32.out]; unfold maxLen; omega) (.slice xa xn xc) x I5.out HXL.out (by have := HTL.out; have := M.kput_le (M.fsckL F (ds.take j)) (98 :: d) (([] : List UInt8), true); omega))
        obtain ⟨sqm, hsqm⟩ : ∃ s : ByteArray, s = ⟨(113 :: d).toArray⟩ := ⟨_, rfl⟩
        rw [← hsqm] at CA CE
        have HZ5 : Hid (wn.heap.size ≤ w5.heap.size) := hz5
        clear CD bt5 ch5 hsqm hz5
        go_wp2_with fail
        refine CA.out.mono ?_
        rintro e wn2 ⟨rfl, rfl⟩
        clear CA
        go_wp2_with fail
        refine CE.out.mono ?_
        rintro e w6 ⟨rfl, bt6, ch6⟩
        have hz5 := HZ5.out
        have hz6 := ch6.size
        obtain ⟨W7, hW7⟩ : ∃ x, Hid (x = w6.alloc (.cells #[.slice ra 32 rc] 38)) := ⟨_, rfl⟩
        obtain ⟨p7, hp7⟩ : ∃ x, Hid (x = w6.heap.size) := ⟨_, rfl⟩
        have k7 : Below w6.heap.size w6 W7 := by rw [hW7.out]; exact (Below.refl _ _).alloc (Nat.le_refl _) _
        have hz7 := k7.size
        have B7 : Hid (Blk W7 p7 38 [.slice ra 32 rc]) := by rw [hW7.out]; exact Blk.newAt _ _ _ _ _ hp7.out rfl
        have c46 : Chg (fun b => b = fm) wn w6 := C5.out.trans ch6 fun _ _ h => h
        have OO7 : Hid (OwnRS (fun b => w1.heap.size ≤ b ∧ b < w2.heap.size) W7 w2.heap.size v5 ((ds.take j).filter (M.spB F)) rows2) := ((OO4.out.chg c46 (fun k h1 h2 e => by subst e; omega) fun k hk e => by subst e; omega)).below k7
        have ID7 : Hid (IsB W7 (.slice ra 32 rc) d) := (ID5.out.chg ch6 (LD.out.mono fun k hk e => by subst e; omega)).below k7
        have S5 := S4.out.ref (P := fun b => b = fm) (fun k e => by subst e; exact .inr ⟨by omega, by omega⟩) C5.out
        have S6 := S5.ref (P := fun b => b = fm) (fun k e => by subst e; exact .inl (.inr ⟨by omega, by omega⟩)) ch6
        have S7 : Hid (CasSt w0 W7 g gf gc N F .real cv (fun b => Q b ∨ (w.heap.size ≤ b ∧ b < W7.heap.size))) := (S6.below k7).less fun k hk => by
          rcases hk with hk | hk
          · exact .inl (.inl (.inl (.inl hk)))
          · by_cases h1 : k < wn.heap.size
            · exact .inl (.inl (.inl (.inr ⟨hk.1, h1⟩)))
            · by_cases h2 : k < wn2.heap.size
              · exact .inl (.inl (.inr ⟨by omega, h2⟩))
              · by_cases h3 : k < w6.heap.size
                · exact .inl (.inr ⟨by omega, h3⟩)
                · exact .inr ⟨by omega, hk.2⟩
        have BT7 : Hid (BtAt (fun b => w2.heap.size ≤ b ∧ b < W7.heap.size ∧ v5.ownBlock ≠ some b) W7 gb gc bm fm [] (M.fsckL F (ds.take (j + 1)))) := by
          rw [E1.out]
          exact (bt6.below k7).mono fun k hk => by
            rcases hk with hk | hk
            · exact ⟨hk.1, by have := hk.2.1; omega, hk.2.2⟩
            · exact ⟨by omega, by omega, fun e => by have := (OO4.out.row.lt k e).2; omega⟩
        have C7 : Hid (Chg (fun k => k = fm ∨ (¬ Q k ∧ w0.heap.size ≤ k ∧ k < w.heap.size)) w2 W7) := (C4.out.trans c46 fun k _ e => .inl e).trans (Chg.of_below (F := fun _ => False) k7) fun _ _ h => h.elim
        have HZ7 : Hid (w2.heap.size ≤ W7.heap.size ∧ fm < w1.heap.size ∧ w.heap.size ≤ w1.heap.size ∧ w1.heap.size ≤ w2.heap.size) := ⟨by omega, by omega, hq2⟩
        have HC1 : Hid (∀ u ∈ [Value.slice ra 32 rc], u.oneCell' = true) := by intro u hu; simp only [List.mem_cons, List.not_mem_nil, or_false] at hu; rw [hu]; rfl
        have HFLL : Hid (((ds.take j).filter (M.spB F)).length ≤ 64) := Nat.le_trans (List.length_filter_le _ _) HTL.out.2
        clear CE bt6 ch6 hz5 hz6 hz7 k7 c46 S5 S6 hq2 hq3 hq4 hqg S4 BT4 OO4 ID4 I4 I5 ID5 C4 C5 BT5
        go_wp2_with (rw [← hW7.out, ← hp7.out]; at_builtin; go_must (refine wpList_app_row rows10 _ rfl _ _ rfl w2.heap.size v5 ((ds.take j).filter (M.spB F)).length rows2 rfl OO7.out.row ⟨p7, 0, none⟩ 1 1 [.slice ra 32 rc] rfl rfl ?d1 HC1.out ?d2 ?d3 HZ7.out.1 ?_))
        case d1 => exact fun j u hj => by rw [Addr.add_lit, Nat.zero_add, B7.out.cell]; exact hj
        case d2 => have := HFLL.out; unfold maxLen; omega
        case d3 => have := HFLL.out; omega
        intro v8 w8 o8 g8 a8
        have hq7 := HZ7.out
        have hz8 := g8.size
        have hown : ∀ b, v5.ownBlock = some b → w2.heap.size ≤ b ∧ b < W7.heap.size := fun b hb => OO7.out.row.lt b hb
        have c8 : Chg (fun b => v5.ownBlock = some b) W7 w8 := Chg.of_grown g8 fun k hk => hk
        have OO8 : Hid (OwnRS (fun b => w1.heap.size ≤ b ∧ b < w2.heap.size) w8 w2.heap.size v8 ((ds.take (j + 1)).filter (M.spB F)) (rows2 ++ [.slice ra 32 rc])) := by
          rw [E2.out]
          exact OO7.out.add (fun k hk => hk.2) ID7.out LD.out D0.out o8 g8
        have S8 : Hid (CasSt w0 w8 g gf gc N F .real cv (fun b => Q b ∨ (w.heap.size ≤ b ∧ b < w8.heap.size))) := (S7.out.ref (P := fun b => v5.ownBlock = some b) (fun k hk => .inr ⟨by have := hown k hk; omega, (hown k hk).2⟩) c8).less fun k hk => by
          rcases hk with hk | hk
          · exact .inl (.inl hk)
          · by_cases h1 : k < W7.heap.size
            · exact .inl (.inr ⟨hk.1, h1⟩)
            · exact .inr ⟨by omega, hk.2⟩
        have C8 : Hid (Chg (fun k => k = fm ∨ (¬ Q k ∧ w0.heap.size ≤ k ∧ k < w.heap.size)) w2 w8) := C7.out.trans c8 fun k hk h => by have := hown k h; omega
        have hfm := HG.out
        have BT8 : Hid (BtAt (fun b => w2.heap.size ≤ b ∧ b < w8.heap.size ∧ v8.ownBlock ≠ some b) w8 gb gc bm fm [] (M.fsckL F (ds.take (j + 1)))) := by
          refine (BT7.out.chg c8 (fun e => ?_) (fun e => ?_) (fun e => ?_) fun k hk e => hk.2.2 e).mono fun k hk => ⟨hk.1, by have := hk.2.1; omega, fun e => ?_⟩
          · have := hown _ e; omega
          · have := hown _ e; omega
          · have := hown _ e; omega
          · rcases a8 with a8 | a8
            · exact hk.2.2 (a8 ▸ e)
            · rw [a8] at e
              injection e with e
              have := hk.2.1
              omega
        clear hq7 hz8 hown hfm c8 o8 g8 a8 B7 OO7 ID7 S7 BT7 C7 HZ7 HC1 HFLL hW7 hp7
        go_wp2
        go_roundw
        case rel => exact ⟨j + 1, _, by first | rfl | rw [G1.out], HLT.out, C8.out, S8.out, BT8.out, OO8.out⟩
        case measure =>
          have := HLT.out
          try rw [G1.out]
          show n - (((j + 1 : Nat) : Int)).toNat < n - ((j : Int)).toNat
          omega
    · have b1 : ¬ (j : Int) < (n : Int) := by omega
      obtain rfl : j = n := by have := hj.out; omega
      have et : ds.take j = ds := by rw [← HN.out, List.take_length]
      rw [et] at bt oo
      have hq2 := HZ.out
      have hzc := ch.out.size
      obtain ⟨r, hr⟩ : ∃ r, r = M.fcode N F (M.todo F [] (M.fsckL F ds)) := ⟨_, rfl⟩
      have hr3 := M.fcode_two (n := N) (F := F) (M.fsck_names (F := F) fun d hd => (HME.out d hd).1) (M.todo_there (F := F) M.rise_nil (M.rise_fsckL F ds))
      rw [← hr] at hr3
      have HR3 := Lib.hid hr3
      have CC := Lib.hid (sz.out.commit HL.out bt.out (fun k hk => .inl (.inr ⟨by have := hk.1; omega, hk.2.1⟩)) (by rw [List.length_nil]; have h1 := M.fsckL_len F ds; have h2 := HN.out; have h3 := H64.out; omega) (fun p hp => by cases hp) (M.fsckL_data ds fun k d h => sz.out.size h) r hr (if r = 0 then M.fscked F else F) (by rw [M.fscked, ← HDS.out]))
      have KZ : Far w0 Q w wz := ((Far.of_below K1.out).trans (Far.of_below K2.out)).trans (show Far w0 Q w2 wz from ch.out.mono fun k _ h => by
        have h1 := HG.out.2.2.1
        have h2 := SS.out.under.size
        rcases h with rfl | h
        · exact ⟨fun hq => by have := (SS.out.qlt k hq).2; omega, by omega⟩
        · exact ⟨h.1, h.2.1⟩)
      have FARZ := Lib.hid KZ
      have IL := oo.out.inLL.mono (R := fun b => w.heap.size ≤ b ∧ b < wz.heap.size) fun k hk => by
        rcases hk with hk | hk
        · exact ⟨by omega, by omega⟩
        · exact ⟨by omega, hk.2⟩
      rw [HDS.out] at IL
      have HIL := Lib.hid IL
      clear et hlt hq2 hzc hr hr3 KZ IL ch sz bt oo
      go_wp2_with fail
      refine CC.out.mono ?_
      rintro e w6 ⟨rfl, far, s6⟩
      have S6 := Lib.hid s6
      have IL6 := Lib.hid (HIL.out.chg far fun k hk h => h.1 (.inr hk))
      have FAR6 : Hid (Far w0 Q w w6) := FARZ.out.trans (far.mono fun k _ h => ⟨fun hq => h.1 (.inl hq), h.2⟩)
      clear CC far s6 FARZ HIL
      rcases HR3.out with rfl | rfl | rfl
      · go_wp2
        go_ret2
        exact ⟨FAR6.out, 0, .inl rfl, v5, rows2, wz.heap.size, by rw [if_pos rfl]; rfl, S6.out, IL6.out⟩
      · go_wp2
        go_ret2
        exact ⟨FAR6.out, 2, .inr (.inl rfl), v5, rows2, wz.heap.size, by rw [if_neg (by decide)]; rfl, S6.out, IL6.out⟩
      · go_wp2
        go_ret2
        exact ⟨FAR6.out, 3, .inr (.inr rfl), v5, rows2, wz.heap.size, by rw [if_neg (by decide)]; rfl, S6.out, IL6.out⟩

end

end Go.Proofs.YtphcbpfpelonaaaGreatDoor

namespace Go.Proofs.YtphcbpfpelonaaaGreatDoor
open Go.RowKit Go.Maps
set_option linter.unusedVariables false
set_option maxRecDepth 100000

section
variable {w0 w : World} {g gw gf k N : Nat} {s : List (List UInt8)} {c : List (Nat × List UInt8)} {t : M.Tab} {dn : Bool} {R : Nat → Prop} {F : M.Fs}

set_option maxHeartbeats 4000000 in
/-- The law's open. -/
theorem open13_any (d : DSt w0 w g ⟨s, c, 0, false⟩ R) (hL : Laid w0) (h74 : 74 < s.length) (hw : c.length < 100000) :
    Calls Tryz.prog 7 #[.pointer (some ⟨g, 0, none⟩)] w fun e w' => Far w0 R w w' ∧ ∃ s2, Opened s c s2 ∧
      ((∃ t gw gf, M.On s2 t ∧ e = .returned (.pointer (some ⟨gf, 0, none⟩)) ∧ FSt w0 w' g gw gf (M.lit s2 0) t false R) ∨ ((∀ t, ¬ M.On s2 t) ∧ e = .returned (.pointer none))) := by
  have C := Lib.hid (d.wopen hL (by omega) hw)
  have HL := Lib.hid hL
  have H74 := Lib.hid h74
  clear d hL h74 hw
  go_enter Tryz.func7, Tryz.ntmps7
  go_wp2_with fail
  refine C.out.mono ?_
  rintro e w1 ⟨far, gw, s2, rfl, ws, op⟩
  have hl2 := op.1
  have CF := Lib.hid (ws.fopen HL.out (by have := H74.out; omega) op.2.1)
  have FAR := Lib.hid far
  have OP := Lib.hid op
  have HL2 : Hid (74 < s2.length) := by rw [Hid, hl2]; exact H74.out
  clear C far ws op hl2
  go_wp2_with fail
  refine CF.out.mono ?_
  rintro e w2 ⟨k2, ⟨h1, rfl⟩ | ⟨h1, ⟨t, gf, on, rfl, fs⟩ | ⟨hno, rfl⟩⟩⟩
  · exact absurd HL2.out (by omega)
  · have K2 := Lib.hid k2
    have ON := Lib.hid on
    have FS := Lib.hid fs
    clear CF h1 k2 on fs
    go_wp2
    go_ret
    exact ⟨FAR.out.trans (Far.of_below K2.out), s2, OP.out, .inl ⟨t, gw, gf, ON.out, rfl, FS.out⟩⟩
  · have K2 := Lib.hid k2
    have HNO := Lib.hid hno
    clear CF h1 k2 hno
    go_wp2
    go_ret
    exact ⟨FAR.out.trans (Far.of_below K2.out), s2, OP.out, .inr ⟨HNO.out, rfl⟩⟩


theorem fine_open13 {s : List (List UInt8)} {t : M.Tab} (d : DSt w0 w g ⟨s, [], 0, false⟩ R) (hL : Laid w0) (on : M.On s t) (hz : s.getD 0 [] = M.zero256) (hn : M.nbS s = N) (hN : N ≤ 400) (hf : M.filesB s t = F) :
    Calls Tryz.prog 7 #[.pointer (some ⟨g, 0, none⟩)] w fun e w' => Far w0 R w w' ∧ ∃ gf, e = .returned (.pointer (some ⟨gf, 0, none⟩)) ∧ Fine w0 w' g gf N F R := by
  refine (open13_any d hL on.big (by decide)).mono ?_
  rintro e w' ⟨far, s2, ⟨hl, hfu, hd, hz2⟩, hh⟩
  have ho := M.open_on on hz hl hfu hd
  have hnb : M.nbS s2 = M.nbS s := by rw [M.nbS, M.nbS, hl]
  rcases hh with ⟨t2, gw, gf, on2, he, fs⟩ | ⟨hno, _⟩
  · have : t2 = t := M.told_inj on2.ok ho.1.ok (on2.told.trans ho.1.told.symm)
    subst this
    exact ⟨far, gf, he, gw, s2, t2, fs, on2, hz2, by rw [hnb]; exact hn, hN, ho.2.trans hf⟩
  · exact absurd ho.1 (hno t)

/-- A new disk's files: none. -/
theorem fine_new13 {n : Nat} (d : DSt w0 w g (M.dnew n) R) (hL : Laid w0) (h74 : 74 < n) (hn : n ≤ 474) :
    Calls Tryz.prog 7 #[.pointer (some ⟨g, 0, none⟩)] w fun e w' => Far w0 R w w' ∧ ∃ gf, e = .returned (.pointer (some ⟨gf, 0, none⟩)) ∧ Fine w0 w' g gf (n - 74) [] R := by
  rw [M.dnew_lit n (by omega)] at d
  have ho := M.new_on h74 (by omega)
  refine fine_open13 (s := List.replicate n M.zero256) d hL ho.1 ?_ ?_ (by omega) ho.2
  · rw [List.getD_eq_getElem?_getD, List.getElem?_replicate, if_pos (by omega)]
    rfl
  · rw [M.nbS, List.length_replicate]
    omega


end

set_option maxHeartbeats 4000000 in
/-- Whether a row is in a list. -/
theorem rin_any {w : World} (dv : Value) (d : List UInt8) (lv : Value) (live : List (List UInt8)) (xs : List Value) (hd : IsB w dv d) (hl : IsLL w lv live xs) (hlen : live.length ≤ 100000) :
    Calls Tryz.prog 17 #[dv, lv] w fun e w' => e = .returned (.bool (decide (d ∈ live))) ∧ Below w.heap.size w w' := by
  obtain ⟨ao, cap, rfl⟩ := hl.shape
  obtain ⟨n, hn⟩ : ∃ n, n = live.length := ⟨_, rfl⟩
  rw [← hn] at hl hlen ⊢
  have HN : Hid (live.length = n) := hn.symm
  have HD := Lib.hid hd
  have HL := Lib.hid hl
  have HLN := Lib.hid hlen
  obtain ⟨da, dc, hdv⟩ := hd.shape
  rw [hdv] at HD ⊢
  obtain ⟨dn, hdn⟩ : ∃ q, q = d.length := ⟨_, rfl⟩
  rw [← hdn] at HD ⊢
  clear hd hl hlen hn hdv hdn
  go_enter Tryz.func17, Tryz.ntmps17
  go_wp2
  go_loopw [5] (fun i wr => ∃ (j : Nat), i = .int .i64 (j : Int) ∧ Hid (j ≤ n ∧ ∀ i, i < j → live.getD i [] ≠ d) ∧ Hid (Below w.heap.size w wr))
    (fun i _ => n - numOf i)
  case atStart => exact ⟨0, rfl, ⟨Nat.zero_le _, fun i hi => by omega⟩, Below.refl _ _⟩
  case round =>
    obtain ⟨wz, rfl⟩ : ∃ x, x = wr := ⟨_, rfl⟩
    obtain ⟨j, rfl, hj, kk⟩ := hrel
    by_cases hlt : j < n
    · have b1 : (j : Int) < (n : Int) := by omega
      have hjl : j < live.length := by rw [HN.out]; exact hlt
      obtain ⟨lb, lo, rfl, c0, ib, -⟩ := (HL.out.below kk.out).at_ j hjl
      obtain ⟨x, hx⟩ : ∃ x, x = live.getD j [] := ⟨_, rfl⟩
      have CM := Lib.hid (requal_b _ _ _ d wz ib (HD.out.below kk.out))
      rw [← hx] at CM ib
      obtain ⟨xa, xc, hxv⟩ := ib.shape
      rw [hxv] at c0 CM
      obtain ⟨xn, hxn⟩ : ∃ q, q = x.length := ⟨_, rfl⟩
      rw [← hxn] at c0 CM
      have HX := Lib.hid hx
      have HJ := Lib.hid hlt
      have g2 : (0 : Int) ≤ (j : Int) := Int.natCast_nonneg j
      have g3 : ((j : Int)).toNat = j := Int.toNat_natCast j
      obtain ⟨eq, heq⟩ : ∃ b, b = decide (x = d) := ⟨_, rfl⟩
      rw [← heq] at CM
      have HEQ := Lib.hid heq
      clear hx hxv hxn ib hjl hlt heq
      go_wp2_with fail
      refine CM.out.mono ?_
      rintro e w1 ⟨rfl, k1⟩
      have K1 : Hid (Below w.heap.size w w1) := kk.out.trans (k1.mono kk.out.size)
      clear CM k1 kk
      cases eq with
      | true =>
        have hxd : x = d := by have := HEQ.out; simpa using this.symm
        have HY : Hid (true = decide (d ∈ live)) := by
          refine (decide_eq_true ?_).symm
          rw [← hxd, HX.out, List.getD_eq_getElem?_getD, List.getElem?_eq_getElem (by rw [HN.out]; exact HJ.out)]
          exact List.getElem_mem _
        clear hxd
        go_wp2
        go_ret
        exact ⟨by rw [← HY.out]; rfl, K1.out⟩
      | false =>
        have hxd : x ≠ d := by have := HEQ.out; simpa using this.symm
        have HXD := Lib.hid hxd
        have G1 : Hid (wrap64 ((j : Int) + 1) = ((j + 1 : Nat) : Int)) := wrap_next (by have := HLN.out; have := HJ.out; omega)
        clear hxd
        go_wp2
        go_roundw
        case rel => exact ⟨j + 1, by first | rfl | rw [G1.out], ⟨HJ.out, fun i hi => by
          by_cases h : i < j
          · exact hj.out.2 i h
          · obtain rfl : i = j := by omega
            rw [← HX.out]
            exact HXD.out⟩, K1.out⟩
        case measure =>
          have := HJ.out
          try rw [G1.out]
          show n - (((j + 1 : Nat) : Int)).toNat < n - ((j : Int)).toNat
          omega
    · have b1 : ¬ (j : Int) < (n : Int) := by omega
      obtain rfl : j = n := by have := hj.out; omega
      have HNO : Hid (false = decide (d ∈ live)) := (decide_eq_false fun h => by
        obtain ⟨i, hi, e⟩ := List.mem_iff_getElem.1 h
        have := hj.out.2 i (by rw [← HN.out]; exact hi)
        rw [List.getD_eq_getElem?_getD, List.getElem?_eq_getElem hi] at this
        exact this e).symm
      clear hlt
      go_wp2
      go_ret
      exact ⟨by rw [← HNO.out]; rfl, kk.out⟩

theorem M.lists_ext {A B : List (List UInt8)} {n : Nat} (h1 : A.length = n) (h2 : B.length = n) (h : ∀ i, i < n → A.getD i [] = B.getD i []) : A = B := by
  apply List.ext_getElem (by omega)
  intro i h3 h4
  have := h i (by omega)
  rw [List.getD_eq_getElem?_getD, List.getD_eq_getElem?_getD, List.getElem?_eq_getElem h3, List.getElem?_eq_getElem h4] at this
  exact this

set_option maxHeartbeats 4000000 in
/-- Whether two lists are the same: of the same ones. -/
theorem rlists_yes {w : World} (av bv : Value) (A : List (List UInt8)) (xs ys : List Value) (ha : IsLL w av A xs) (hb : IsLL w bv A ys) (hlen : A.length ≤ 100000) :
    Calls Tryz.prog 19 #[av, bv] w fun e w' => e = .returned (.bool true) ∧ Below w.heap.size w w' := by
  obtain ⟨ao, ac, rfl⟩ := ha.shape
  obtain ⟨bo, bc, rfl⟩ := hb.shape
  obtain ⟨n, hn⟩ : ∃ n, n = A.length := ⟨_, rfl⟩
  rw [← hn] at ha hb hlen ⊢
  have HN : Hid (A.length = n) := hn.symm
  have HA := Lib.hid ha
  have HB := Lib.hid hb
  have HLN := Lib.hid hlen
  clear ha hb hlen hn
  go_enter Tryz.func19, Tryz.ntmps19
  go_wp2
  go_loopw [5] (fun i wr => ∃ (j : Nat), i = .int .i64 (j : Int) ∧ Hid (j ≤ n) ∧ Hid (Below w.heap.size w wr))
    (fun i _ => n - numOf i)
  case atStart => exact ⟨0, rfl, Nat.zero_le _, Below.refl _ _⟩
  case round =>
    obtain ⟨wz, rfl⟩ : ∃ x, x = wr := ⟨_, rfl⟩
    obtain ⟨j, rfl, hj, kk⟩ := hrel
    by_cases hlt : j < n
    · have b1 : (j : Int) < (n : Int) := by omega
      have hjl : j < A.length := by rw [HN.out]; exact hlt
      obtain ⟨lb, lo, rfl, c0, ia, -⟩ := (HA.out.below kk.out).at_ j hjl
      obtain ⟨mb, mo, rfl, c1, ib, -⟩ := (HB.out.below kk.out).at_ j hjl
      have CM := Lib.hid (fun (y : World) (k : Below wz.heap.size wz y) => requal_b _ _ _ _ y (ia.below k) (ib.below k))
      rw [decide_eq_true rfl] at CM
      obtain ⟨x, hx⟩ : ∃ x, x = A.getD j [] := ⟨_, rfl⟩
      rw [← hx] at ia ib
      obtain ⟨xa, xc, hxv⟩ := ia.shape
      obtain ⟨ya, yc, hyv⟩ := ib.shape
      rw [hxv] at c0 CM
      rw [hyv] at c1 CM
      obtain ⟨xn, hxn⟩ : ∃ q, q = x.length := ⟨_, rfl⟩
      rw [← hxn] at c0 c1 CM
      have KY : Hid (∀ y, Below wz.heap.size wz y → y.cell? ⟨lb, lo + j, none⟩ = some (.slice xa xn xc) ∧ y.cell? ⟨mb, mo + j, none⟩ = some (.slice ya xn yc)) := fun y ky => ⟨(ky.cell (p := ⟨lb, lo + j, none⟩) (World.block_lt_of_cell? _ _ c0)).trans c0, (ky.cell (p := ⟨mb, mo + j, none⟩) (World.block_lt_of_cell? _ _ c1)).trans c1⟩
      have HJ := Lib.hid hlt
      have g2 : (0 : Int) ≤ (j : Int) := Int.natCast_nonneg j
      have g3 : ((j : Int)).toNat = j := Int.toNat_natCast j
      have G1 : Hid (wrap64 ((j : Int) + 1) = ((j + 1 : Nat) : Int)) := wrap_next (by have := HLN.out; have := HJ.out; omega)
      clear hx hxv hyv hxn ia ib hjl hlt c0 c1
      go_upto_region 6 with fail
      refine wp_region_any (by kernel_rfl) ?_
      change wpAny _ _ _ _ _ _ _ (World.drew _)
      refine wpAny_of_held (S := fun w' => Below wz.heap.size wz w') _ _ _ _ ?_
      have S0 : Below wz.heap.size wz wz.drew := (Below.refl _ _).drew
      refine wpAnyH_take_at (i := 0) (v := .slice (some ⟨lb, lo, none⟩) n ac) rfl rfl (by kernel_rfl) (by kernel_rfl) (by kernel_rfl) (fun _ _ _ h => h) (Or.inl ⟨by rfl, fun w hS => by go_simp⟩) S0 ?_
      try simp only [List.setIfInBounds_toArray, List.set_cons_zero, List.set_cons_succ]
      refine wpAnyH_take_at (i := 1) (v := .int .i64 (j : Int)) rfl rfl (by kernel_rfl) (by kernel_rfl) (by kernel_rfl) (fun _ _ _ h => h) (Or.inl ⟨by rfl, fun w hS => by go_simp⟩) S0 ?_
      try simp only [List.setIfInBounds_toArray, List.set_cons_zero, List.set_cons_succ]
      refine wpAnyH_take_at (i := 2) (v := .pointer (some ⟨lb, lo + j, none⟩)) rfl rfl (by kernel_rfl) (by kernel_rfl) (by kernel_rfl) (fun _ _ _ h => h) (Or.inl ⟨by rfl, fun w hS => by go_simp⟩) S0 ?_
      try simp only [List.setIfInBounds_toArray, List.set_cons_zero, List.set_cons_succ]
      refine wpAnyH_take_at (i := 3) (v := .slice xa xn xc) rfl rfl (by kernel_rfl) (by kernel_rfl) (by kernel_rfl) (fun _ _ _ h => h) (Or.inl ⟨by rfl, fun w hS => by have c := (KY.out w hS).1; go_simp⟩) S0 ?_
      try simp only [List.setIfInBounds_toArray, List.set_cons_zero, List.set_cons_succ]
      refine wpAnyH_take_at (i := 4) (v := .slice (some ⟨mb, mo, none⟩) n bc) rfl rfl (by kernel_rfl) (by kernel_rfl) (by kernel_rfl) (fun _ _ _ h => h) (Or.inl ⟨by rfl, fun w hS => by go_simp⟩) S0 ?_
      try simp only [List.setIfInBounds_toArray, List.set_cons_zero, List.set_cons_succ]
      refine wpAnyH_take_at (i := 5) (v := .int .i64 (j : Int)) rfl rfl (by kernel_rfl) (by kernel_rfl) (by kernel_rfl) (fun _ _ _ h => h) (Or.inl ⟨by rfl, fun w hS => by go_simp⟩) S0 ?_
      try simp only [List.setIfInBounds_toArray, List.set_cons_zero, List.set_cons_succ]
      refine wpAnyH_take_at (i := 6) (v := .pointer (some ⟨mb, mo + j, none⟩)) rfl rfl (by kernel_rfl) (by kernel_rfl) (by kernel_rfl) (fun _ _ _ h => h) (Or.inl ⟨by rfl, fun w hS => by go_simp⟩) S0 ?_
      try simp only [List.setIfInBounds_toArray, List.set_cons_zero, List.set_cons_succ]
      refine wpAnyH_take_at (i := 7) (v := .slice ya xn yc) rfl rfl (by kernel_rfl) (by kernel_rfl) (by kernel_rfl) (fun _ _ _ h => h) (Or.inl ⟨by rfl, fun w hS => by have c := (KY.out w hS).2; go_simp⟩) S0 ?_
      try simp only [List.setIfInBounds_toArray, List.set_cons_zero, List.set_cons_succ]
      refine wpAnyH_ready (rs := [8]) (by kernel_rfl) (by simp) ?_
      refine AllReadyH.cons rfl (fun K hK => ?_) AllReadyH.nil
      go_simp
      refine (CM.out _ S0).mono ?_
      rintro e w3 ⟨rfl, k3⟩
      have K3 : Below wz.heap.size wz w3 := S0.trans (k3.mono S0.size)
      refine hK.out _ _ K3 (fun _ => ?_)
      clear hK
      refine wpAnyH_take_at (i := 9) (v := .bool false) rfl rfl (by kernel_rfl) (by kernel_rfl) (by kernel_rfl) (fun _ _ _ h => h) (Or.inl ⟨by rfl, fun w hS => by go_simp⟩) K3 ?_
      try simp only [List.setIfInBounds_toArray, List.set_cons_zero, List.set_cons_succ]
      refine wpAnyH_done (by kernel_rfl) ?_ _
      have K4 : Hid (Below w.heap.size w w3) := kk.out.trans (K3.mono kk.out.size)
      clear CM k3 K3 S0 KY kk
      go_wp2
      go_roundw
      case rel => exact ⟨j + 1, by first | rfl | rw [G1.out], HJ.out, K4.out⟩
      case measure =>
        have := HJ.out
        try rw [G1.out]
        show n - (((j + 1 : Nat) : Int)).toNat < n - ((j : Int)).toNat
        omega
    · have b1 : ¬ (j : Int) < (n : Int) := by omega
      obtain rfl : j = n := by have := hj.out; omega
      clear hlt
      go_wp2
      go_ret
      exact ⟨rfl, kk.out⟩

end Go.Proofs.YtphcbpfpelonaaaGreatDoor

namespace Go.Proofs.YtphcbpfpelonaaaGreatDoor
open Go.RowKit Go.Maps
set_option linter.unusedVariables false
set_option maxRecDepth 100000

set_option maxHeartbeats 1000000 in
theorem real_any (w : World) : Calls Tryz.prog 10 #[] w fun e w' => e = .returned (.iface 74 (.agg #[])) ∧ w' = w := by
  go_enter Tryz.func10, Tryz.ntmps10
  go_wp2
  go_ret
  exact ⟨rfl, rfl⟩

theorem isBook_new (w : World) : IsBook (w.alloc (.map #[] 0)) w.heap.size [] := ⟨[], mp_made w, rfl, fun k => by rw [if_neg (by simp)]; rfl⟩

set_option maxHeartbeats 1000000 in
theorem book_any (w : World) : Calls Tryz.prog 20 #[] w fun e w' => ∃ cv T, e = .returned cv ∧ CrIs T w' cv (.book []) ∧ Below w.heap.size w w' ∧ (∀ k, T k → w.heap.size ≤ k ∧ k < w'.heap.size) ∧ ∃ a, cv = .iface 82 (.pointer (some a)) := by
  have hmm := @run_makeMap Tryz.prog
  go_enter Tryz.func20, Tryz.ntmps20
  go_wp2
  go_ret
  have z1 : (w.alloc (.map #[] 0)).heap.size = w.heap.size + 1 := by simp
  have z2 : ((w.alloc (.map #[] 0)).alloc (.map #[] 0)).heap.size = w.heap.size + 1 + 1 := by simp
  refine ⟨_, fun k => k = w.heap.size + 1 + 1 ∨ k = w.heap.size, rfl, ⟨w.heap.size + 1 + 1, w.heap.size, .map (some (w.heap.size + 1)), rfl, Blk.newAt _ _ _ _ _ (by rw [z2]) rfl, ?_, by omega, .inl rfl, .inr rfl⟩, ?_, fun k hk => ?_, _, rfl⟩
  · obtain ⟨es, h1, h2, h3⟩ := isBook_new w
    exact ⟨es, (h1.alloc _).alloc _, h2, h3⟩
  · exact (((Below.refl _ w).alloc (Nat.le_refl _) _).alloc (by simp) _).alloc (by simp; omega) _
  · have hz : (((w.alloc (.map #[] 0)).alloc (.map #[] 0)).alloc (.cells #[.map (some w.heap.size), .map (some (w.heap.size + 1))] 86)).heap.size = w.heap.size + 1 + 1 + 1 := by simp
    rw [hz]
    rcases hk with rfl | rfl <;> omega

set_option maxHeartbeats 1000000 in
/-- cas.New. -/
theorem casNew_any {w0 w : World} {g gf N : Nat} {F : M.Fs} {R T : Nat → Prop} {c : M.Cr} {cv : Value} (f : Fine w0 w g gf N F R) (cr : CrIs T w cv c) (hT : ∀ k, T k → R k) (hcv : (∃ a, cv = .iface 82 (.pointer (some a))) ∨ cv = .iface 74 (.agg #[])) :
    Calls Tryz.prog 11 #[.pointer (some ⟨gf, 0, none⟩), cv] w fun e w' => ∃ gc, e = .returned (.pointer (some ⟨gc, 0, none⟩)) ∧ CasSt w0 w' g gf gc N F c cv (fun k => R k ∧ ¬ T k) ∧ Below w.heap.size w w' := by
  have fin : Hid (∀ w', w' = w.alloc (.cells #[.pointer (some ⟨gf, 0, none⟩), cv] 76) → CasSt w0 w' g gf w.heap.size N F c cv (fun k => R k ∧ ¬ T k) ∧ Below w.heap.size w w') := by
    rintro w' rfl
    have k : Below w.heap.size w (w.alloc (.cells #[.pointer (some ⟨gf, 0, none⟩), cv] 76)) := (Below.refl _ _).alloc (Nat.le_refl _) _
    have hlt := f.rlt
    refine ⟨⟨T, _, f.below k, Blk.newAt _ _ _ _ _ rfl rfl, cr.chg (Chg.of_below (F := fun _ => False) k) fun _ _ h => h, .inr ⟨Nat.le_refl _, by simp⟩, fun h => by have := (hlt _ (hT _ h)).2; omega, fun k hk => .inl (hT k hk), fun k hk => ⟨.inl hk.1, hk.2, fun e => by have := (hlt k hk.1).2; omega⟩⟩, k⟩
  clear f cr hT
  rcases hcv with ⟨a, rfl⟩ | rfl
  all_goals (
    go_enter Tryz.func11, Tryz.ntmps11
    go_wp2
    go_ret
    have h := fin.out _ rfl
    exact ⟨_, rfl, h.1, h.2⟩)

namespace M
variable {k b dg : List UInt8}

theorem blob_todo : todo [] [(k, b)] [] = [⟨k, b, false⟩] := by
  have e : changes [] [(k, b)] [] = [(k, (b, false))] := by
    rw [changes, List.foldl_cons, List.foldl_nil, chStep, if_neg (by rw [look]; intro e; cases e)]
    rfl
  rw [todo, e]
  rfl

theorem blob_apply : fapply [] [⟨k, b, false⟩] = [⟨k, b⟩] := by
  simp [fapply, fstep, fput, fdrop, atF, lessF]

theorem blob_look : look [⟨k, b⟩] k = some b := by rw [look_cons, if_pos rfl]

theorem blob_again : todo [⟨k, b⟩] [(k, b)] [] = [] := by
  have e : changes [⟨k, b⟩] [(k, b)] [] = [] := by
    rw [changes, List.foldl_cons, List.foldl_nil, chStep, if_pos blob_look]
  rw [todo, e]
  rfl

theorem blob_code {n : Nat} (h : 1 ≤ k.length ∧ k.length ≤ 40) (hn : need b.length ≤ n) : fcode (n : Int) [] [⟨k, b, false⟩] = 0 := by
  have e : fapply [] [⟨k, b, false⟩] = [⟨k, b⟩] := blob_apply
  refine fcode_ok (by simpa [NamesOk] using h) (fun i hi => ?_) (by rw [e]; simp) ?_
  · have : i = 0 := by simpa using hi
    subst this
    rfl
  · have h1 : blkN [⟨k, b, false⟩] = need b.length := by simp [blkN, blkS]
    rw [h1]
    show _ ≤ (n : Int)
    omega

theorem none_code {n : Int} {F : Fs} (h64 : F.length ≤ 64) (hf : 0 ≤ freeF n F) : fcode n F [] = 0 := by
  refine fcode_ok ⟨(fun c hc => by cases hc), List.nodup_nil⟩ (fun i hi => by cases hi) h64 ?_
  show ((0 : Nat) : Int) ≤ _
  simpa using hf

theorem blob_marked (h : dg.length = 32) : marked 98 [⟨98 :: dg, b⟩] = [dg] := by
  have e : markB 98 (98 :: dg) = true := (markB_iff 98 _).2 ⟨dg, rfl, h⟩
  rw [marked, List.map_cons, List.map_nil, markN, List.filter_cons_of_pos e]
  rfl

theorem blob_blob (h : dg.length = 32) : blob [⟨98 :: dg, b⟩] dg = some b := by rw [blob, if_pos h, blob_look]
end M

end Go.Proofs.YtphcbpfpelonaaaGreatDoor

namespace Go.Proofs.YtphcbpfpelonaaaGreatDoor
open Go.RowKit Go.Maps
set_option linter.unusedVariables false
set_option maxRecDepth 100000

set_option maxHeartbeats 16000000 in
theorem awake13_any (w : World) (hL : Laid w) :
    Calls Tryz.prog 5 #[] w fun e w' => e = .returned (.bool true) ∧ Below w.heap.size w w' := by
  have HL := Lib.hid hL
  have CN := Lib.hid (dst_new (w0 := w) (R := fun _ => False) 100 (by decide) (Below.refl _ w) (fun k h => h.elim))
  clear hL
  go_enter Tryz.func5, Tryz.ntmps5
  go_wp2_with fail
  refine CN.out.mono ?_
  rintro e w1 ⟨g, rfl, d1, k1⟩
  have CO := Lib.hid (fine_new13 (n := 100) d1 HL.out (by decide) (by decide))
  clear CN d1 k1
  go_wp2_with fail
  refine CO.out.mono ?_
  rintro e w2 ⟨-, gf, rfl, f2⟩
  have F2 := Lib.hid f2
  have CR := Lib.hid (real_any w2)
  clear CO f2
  go_wp2_with fail
  refine CR.out.mono ?_
  rintro e wr ⟨rfl, rfl⟩
  have CW := Lib.hid (casNew_any (T := fun _ => False) (c := .real) F2.out rfl (fun _ h => h.elim) (.inr rfl))
  clear CR F2
  go_wp2_with fail
  refine CW.out.mono ?_
  rintro e w3 ⟨gc, rfl, s3, k3⟩
  have S3 := Lib.hid s3
  have CB := Lib.hid (begin_any gc w3)
  clear CW s3 k3
  go_wp2_with fail
  refine CB.out.mono ?_
  rintro e w4 ⟨gb, bm, fm, rfl, bt4, k4, g1, g2, g3⟩
  have hlt4 := bt4.lt
  have S4 := Lib.hid (S3.out.below k4)
  have HG : Hid (w3.heap.size ≤ gb ∧ w3.heap.size ≤ bm ∧ w3.heap.size ≤ fm ∧ gb < w4.heap.size ∧ bm < w4.heap.size ∧ fm < w4.heap.size) := ⟨g1, g2, g3, hlt4⟩
  have BT4 := Lib.hid bt4
  clear CB bt4 k4 g1 g2 g3 hlt4 S3
  have hcv : (convert 38 38 (.slice (some ⟨w4.heap.size, 0, none⟩) 1 1)).run Tryz.prog (w4.alloc (.cells #[.int .u8 120] 5)) = .ok (.slice (some ⟨w4.heap.size, 0, none⟩) 1 1) (w4.alloc (.cells #[.int .u8 120] 5 (1, 2))) :=
    Lib.run_convert_bytes_const w4 38 5 #[.int .u8 120] 1 1 Tryz.underlying38 Tryz.underlying5
  obtain ⟨w5, hw5⟩ : ∃ x, Hid (x = w4.alloc (.cells #[.int .u8 120] 5 (1, 2))) := ⟨_, rfl⟩
  obtain ⟨p5, hp5⟩ : ∃ x, Hid (x = w4.heap.size) := ⟨_, rfl⟩
  have k5 : Below w4.heap.size w4 w5 := by rw [hw5.out]; exact (Below.refl _ _).alloc (Nat.le_refl _) _
  have i5 : IsB w5 (.slice (some ⟨p5, 0, none⟩) 1 1) [120] := by rw [hp5.out, hw5.out]; exact isB_oneM w4 _ 120 120 rfl _
  have hz5 : p5 < w5.heap.size := i5.there (by decide) ⟨p5, 0, none⟩ 1 1 rfl
  have hp5' := hp5.out
  have S5 := Lib.hid (S4.out.below k5)
  have CP := Lib.hid (S5.out.put HL.out trivial (BT4.out.below k5) ⟨.inl (.inr ⟨HG.out.1, HG.out.2.2.2.1⟩), .inl (.inr ⟨HG.out.2.1, HG.out.2.2.2.2.1⟩), .inl (.inr ⟨HG.out.2.2.1, HG.out.2.2.2.2.2⟩)⟩ (fun _ h => h.elim) (.slice (some ⟨p5, 0, none⟩) 1 1) [120] (fun x far => far.isB i5 fun ad n c e => by
    injection e with e
    injection e with e
    subst e
    exact .inl (.inr ⟨by show w4.heap.size ≤ p5; omega, hz5⟩)) (by decide) (by decide))
  have K5 := Lib.hid k5
  clear k5 i5 hz5 hp5' S4 BT4
  go_wp2_with (first
    | (go_at_call 22; rw [← hp5.out, ← hw5.out]; go_must (refine CP.out.mono ?_)))
  rintro e w6 ⟨dv, rfl, id, ld, s6, bt6, ch6⟩
  obtain ⟨dg, hdg⟩ : ∃ d, d = M.csum .real [120] := ⟨_, rfl⟩
  have h32 : dg.length = 32 := by rw [hdg]; exact M.csum_length _ _
  have HDG := Lib.hid hdg
  rw [← hdg] at id bt6
  have hz6 := ch6.size
  obtain ⟨Q6, S6, q6⟩ : ∃ Q6, Hid (CasSt w w6 g gf gc 26 [] .real (.iface 74 (.agg #[])) Q6) ∧ Hid (∀ k, (w5.heap.size ≤ k ∧ k < w6.heap.size) → Q6 k) := ⟨_, s6, fun k h => .inr h⟩
  have CC := Lib.hid (S6.out.commit HL.out bt6 (fun k hk => hk.elim (fun h => h.elim) fun h => .inl (q6.out k h)) (by show 1 + 0 < 5000; decide) (fun p hp => by
      have : p = (98 :: dg, [120]) := by simpa using (show p ∈ [(98 :: dg, ([120] : List UInt8))] from hp)
      rw [this]
      show ([120] : List UInt8).length ≤ 1099511627776
      decide) (fun p hp => by cases hp) 0 (by
      show (0 : Int) = M.fcode ((26 : Nat) : Int) [] (M.todo [] [(98 :: dg, [120])] [])
      rw [M.blob_todo, M.blob_code (by rw [List.length_cons, h32]; omega) (by decide)]) [⟨98 :: dg, [120]⟩] (by
      rw [if_pos rfl]
      show _ = M.fapply [] (M.todo [] [(98 :: dg, [120])] [])
      rw [M.blob_todo, M.blob_apply]))
  have ID := Lib.hid id
  have LD := Lib.hid ld
  have H32 := Lib.hid h32
  clear CP id ld s6 bt6 ch6 hz6 h32 hdg hw5 hp5 hcv S5
  obtain ⟨da, dc, rfl⟩ := ID.out.shape
  rw [H32.out] at ID LD ⊢
  go_wp2_with fail
  refine CC.out.mono ?_
  rintro e w7 ⟨rfl, far7, s7⟩
  have S7 := Lib.hid s7
  have ID7 := Lib.hid (far7.isB ID.out (LD.out.mono fun k hk => .inl (q6.out k hk)))
  have CG := Lib.hid (s7.get_yes HL.out trivial (.slice da 32 dc) dg [120] ID7.out (LD.out.mono fun k hk => .inl (q6.out k hk)) (M.blob_blob H32.out))
  clear CC s7 ID far7
  go_wp2_with fail
  refine CG.out.mono ?_
  rintro e w8 ⟨r, rfl, hr8, s8, far8⟩
  have he : M.csum .real [120] = dg := HDG.out.symm
  rw [if_pos he, if_pos he]
  obtain ⟨ir, lr, -⟩ := hr8 he
  obtain ⟨ra, rc, rfl⟩ := ir.shape
  obtain ⟨Q8, S8, q8⟩ : ∃ Q8, Hid (CasSt w w8 g gf gc 26 [⟨98 :: dg, [120]⟩] .real (.iface 74 (.agg #[])) Q8) ∧ Hid (∀ k, (w7.heap.size ≤ k ∧ k < w8.heap.size) → Q8 k) := ⟨_, s8, fun k h => .inr h⟩
  have IR := Lib.hid ir
  have CN := Lib.hid (S8.out.get_no (.slice none 0 0) [] (IsB.nil w8) (by rw [M.blob, if_neg (by decide)]))
  clear CG hr8 s8 far8 he ir lr
  go_wp2_with fail
  refine CN.out.mono ?_
  rintro e w9 ⟨rfl, k9⟩
  have S9 := Lib.hid (S8.out.see k9)
  have i9 := IR.out.below k9
  have hst : (convert 38 9 (.slice ra 1 rc)).run Tryz.prog w9 = .ok (.string ⟨#[120]⟩) w9 := str_any i9
  have CL := Lib.hid S9.out.list
  rw [M.blob_marked H32.out] at CL
  clear CN k9 i9 S8
  go_wp2_with fail
  refine CL.out.mono ?_
  rintro e w10 ⟨lv, rows, rfl, ol, k10⟩
  obtain ⟨la, lc, hlv⟩ := ownShape ol.row
  subst hlv
  have KW : Hid (Below w.heap.size w w10) := (S9.out.see k10).under
  clear CL ol k10
  go_wp2
  go_ret
  exact ⟨rfl, KW.out⟩

end Go.Proofs.YtphcbpfpelonaaaGreatDoor
