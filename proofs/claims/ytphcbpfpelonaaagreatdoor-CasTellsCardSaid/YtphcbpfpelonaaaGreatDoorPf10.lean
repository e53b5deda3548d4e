/-
  CONTRACTS OF (*disk.Disk).seen AND Read: a block's bytes as seen. Conditions: the disk lies so; fewer than a million writes wait.
  PACKAGE disk BY ITS CALLS (CodeDk: the code's disk as one thing), each case in one contract; for later layers' seats, which may lack some of the calls. Conditions: each contract's.
  orloplaw09.awake, under DiskOk: it returns true. Conditions: DiskOk (proved of the code elsewhere).
-/
import Derived.Test.YtphcbpfpelonaaaGreatDoorPf9
import Derived.Test.YtphcbpfpelonaaaGreatDoorPf6

namespace Go.Proofs.YtphcbpfpelonaaaGreatDoor
open Go.RowKit Go.Shelf
set_option linter.unusedVariables false

attribute [local go_sem] Oper.semAt_some

namespace M
theorem take_snoc (c : List (Nat × List UInt8)) (k : Nat) (h : k < c.length) : c.take (k + 1) = c.take k ++ [c.getD k (0, [])] := by
  rw [List.take_add_one, List.getElem?_eq_getElem h, List.getD_eq_getElem?_getD, List.getElem?_eq_getElem h]
  rfl

theorem seen_none (i : Nat) (b : List UInt8) (c : List (Nat × List UInt8)) (h : ∀ j, j < c.length → (c.getD j (0, [])).1 ≠ i) : seen i b c = b := by
  have : ∀ k, k ≤ c.length → seen i b (c.take k) = b := by
    intro k
    induction k with
    | zero => intro _; rfl
    | succ k ih =>
      intro hk
      rw [take_snoc c k hk, seen_snoc, if_neg (h k hk)]
      exact ih (by omega)
  have := this c.length (Nat.le_refl _)
  rwa [List.take_length] at this

theorem seen_at (i : Nat) (b : List UInt8) (c : List (Nat × List UInt8)) (y : Nat) (hy : y < c.length) (he : (c.getD y (0, [])).1 = i) (h : ∀ j, y < j → j < c.length → (c.getD j (0, [])).1 ≠ i) : seen i b c = (c.getD y (0, [])).2 := by
  have : ∀ t, y + 1 + t ≤ c.length → seen i b (c.take (y + 1 + t)) = (c.getD y (0, [])).2 := by
    intro t
    induction t with
    | zero => intro _; rw [Nat.add_zero, take_snoc c y hy, seen_snoc, if_pos he]
    | succ t ih =>
      intro ht
      rw [← Nat.add_assoc, take_snoc c (y + 1 + t) (by omega), seen_snoc, if_neg (h _ (by omega) (by omega))]
      exact ih (by omega)
  have := this (c.length - (y + 1)) (by omega)
  rwa [show y + 1 + (c.length - (y + 1)) = c.length by omega, List.take_length] at this

theorem mem_down (q k j : Nat) : j ∈ down q k ↔ ∃ t, t < k ∧ j = q - 1 - t := by
  simp only [down, List.mem_map, List.mem_range]
  exact ⟨fun ⟨t, h, e⟩ => ⟨t, h, e.symm⟩, fun ⟨t, h, e⟩ => ⟨t, h, e.symm⟩⟩
end M

/-- The parts of a slice. -/
def sA : Value → Option Addr
  | .slice a _ _ => a
  | _ => none
def sC : Value → Nat
  | .slice _ _ c => c
  | _ => 0

theorem blk_box9 (B g : Nat) (t : TypeId) (cs : List Value) : OwnFrom B (fun (_ : List Nat) W => Blk W g t cs) := fun s W W' row hs hg hr => hs.grown hg (by
  intro e
  obtain ⟨_, o, ho, hc⟩ := hr g e.symm
  rw [show W.heap[g]? = _ from hs] at ho
  cases ho
  cases hc)

theorem keeps_below9 {W W' : World} (k : Below W.heap.size W W') (B : Nat) : KeepsFrom B W W' := ⟨k.size, fun i o _ hi _ => (k.block i (Array.getElem?_eq_some_iff.1 hi).1).trans hi⟩

set_option maxRecDepth 100000 in
set_option maxHeartbeats 4000000 in
theorem seen9_any {T : Nat → Prop} {w : World} {g : Nat} {sv wv : Value} {dvs : List Value} {m : M.Dsk} (h : DkAt T w g sv wv dvs m) (i : Nat) (hi : i < m.safe.length) (hfew : m.wait.length < 1000000) :
    Calls Tryz.prog 100 #[.pointer (some ⟨g, 0, none⟩), .int .i64 (i : Int)] w fun e w' => ∃ r, e = .returned r ∧ IsB w' r (m.read i) ∧ Below w.heap.size w w' := by
  have H := Lib.hid h
  obtain ⟨q, hq⟩ : ∃ q, q = m.wait.length := ⟨_, rfl⟩
  obtain ⟨wa, wc, ew⟩ := ownShape h.wrow
  rw [← hq] at ew
  subst ew
  have HQ : Hid (q = m.wait.length) := hq
  have HQM : Hid (q < 1000000) := by rw [Hid, hq]; exact hfew
  have HI := Lib.hid hi
  have c1 : w.cell? ⟨g, 1, none⟩ = some (.slice wa q wc) := h.blk.cell 1
  obtain ⟨nm, hnm⟩ : ∃ nm : Nat → Nat, nm = fun j => (m.wait.getD j (0, [])).1 := ⟨_, rfl⟩
  obtain ⟨da, hda⟩ : ∃ da : Nat → Option Addr, da = fun j => sA (dvs.getD j undef) := ⟨_, rfl⟩
  obtain ⟨dc, hdc⟩ : ∃ dc : Nat → Nat, dc = fun j => sC (dvs.getD j undef) := ⟨_, rfl⟩
  have HDV : Hid (∀ j, j < q → dvs.getD j undef = .slice (da j) 256 (dc j) ∧ IsB w (.slice (da j) 256 (dc j)) (m.wait.getD j (0, [])).2) := by
    intro j hj
    have hjw : j < m.wait.length := by omega
    have dj := (h.dvs_ j hjw).1
    have hok := h.ok.wat (m.wait.getD j (0, [])) (by rw [List.getD_eq_getElem?_getD, List.getElem?_eq_getElem hjw]; exact List.getElem_mem hjw)
    obtain ⟨a, c, e⟩ := dj.shape
    rw [hok.2] at e
    rw [hda, hdc]
    show dvs.getD j undef = .slice (sA (dvs.getD j undef)) 256 (sC (dvs.getD j undef)) ∧ IsB w (.slice (sA (dvs.getD j undef)) 256 (sC (dvs.getD j undef))) (m.wait.getD j (0, [])).2
    rw [e] at dj ⊢
    exact ⟨rfl, dj⟩
  have HROW : Hid (∀ j, j < q → ∃ b, wa = some ⟨b, 0, none⟩ ∧ b < w.heap.size ∧ w.cell? ⟨b, j * 2, none⟩ = some (.int .i64 (nm j : Int)) ∧ w.cell? ⟨b, j * 2 + 1, none⟩ = some (.slice (da j) 256 (dc j))) := by
    intro j hj
    have hjw : j < m.wait.length := by omega
    obtain ⟨wb, rfl, hwc, cw, fw⟩ := ownCells (by have := h.wrow; rwa [← hq] at this) (by omega)
    have hcg := chgs_get m.wait dvs j h.dlen hjw
    have hcl := chgs_length m.wait dvs h.dlen
    have e0 : w.cell? ⟨wb, j * 2, none⟩ = some (.int .i64 (nm j : Int)) := by rw [cw _ (by rw [hcl]; omega), Nat.mul_comm, hnm]; exact hcg.1
    have e1 : w.cell? ⟨wb, j * 2 + 1, none⟩ = some (.slice (da j) 256 (dc j)) := by rw [cw _ (by rw [hcl]; omega), Nat.mul_comm, ← (HDV.out j hj).1]; exact hcg.2
    exact ⟨wb, rfl, World.block_lt_of_cell? w _ e0, e0, e1⟩
  have HNM : Hid (∀ j, nm j = (m.wait.getD j (0, [])).1) := fun j => by rw [hnm]
  clear h hq hi hfew hnm hda hdc
  refine (callsIn_wide (n := 3)).1 ?_
  refine callsIn_of_wp_marks Tryz.func100 rfl trivial ?_ rfl
  simp only [Tryz.ntmps100, List.size_toArray, List.length_cons, List.length_nil, Nat.reduceAdd, Nat.reduceSub, Array.replicate_succ, Array.replicate_zero, List.push_toArray, List.append_toArray, List.nil_append, List.cons_append]
  refine wpIn_wide.2 ?_
  have c1a : ((w.alloc (.cells #[.int .i64 (i : Int)] 3)).alloc (.cells #[.slice none 0 0] 38)).cell? ⟨g, 1, none⟩ = some (.slice wa q wc) := by
    rw [← c1]
    exact ((((Below.refl _ w).alloc (Nat.le_refl _) (.cells #[.int .i64 (i : Int)] 3)).alloc (by simp) (.cells #[.slice none 0 0] 38) : Below w.heap.size w _)).cell (p := ⟨g, 1, none⟩) H.out.blk.lt
  go_wp2_with fail
  refine (backward_any _ _ _ _).mono ?_
  rintro e w4 ⟨rfl, hw4⟩
  obtain ⟨x0, hx0⟩ : ∃ x, x = w.heap.size := ⟨_, rfl⟩
  obtain ⟨x1, hx1⟩ : ∃ x, x = w.heap.size + 1 := ⟨_, rfl⟩
  obtain ⟨B1, hB1⟩ : ∃ x, x = ((w.alloc (.cells #[.int .i64 (i : Int)] 3)).alloc (.cells #[.slice none 0 0] 38)).heap.size := ⟨_, rfl⟩
  have k4 : Below w.heap.size w w4 := by rw [hw4]; exact (((Below.refl _ w).alloc (Nat.le_refl _) _).alloc (by simp) _).alloc (by simp; omega) _
  have I0 : Blk w4 x0 3 [.int .i64 (i : Int)] := by rw [hw4, hx0]; exact ((Blk.newAt _ _ _ _ _ rfl rfl).alloc _).alloc _
  have I1 : Blk w4 x1 38 [.slice none 0 0] := by rw [hw4, hx1]; exact (Blk.newAt _ _ _ _ _ (by simp) rfl).alloc _
  have IB : Blk w4 B1 64 [.slice wa q wc] := by rw [hw4, hB1]; exact Blk.newAt _ _ _ _ _ rfl rfl
  have HX0 : Hid (x0 = w.heap.size) := hx0
  have HX1 : Hid (x1 = w.heap.size + 1) := hx1
  have HS4 : Hid (w4.heap.size = w.heap.size + 3) := by rw [Hid, hw4]; simp
  have HBS : Hid (B1 = w.heap.size + 2) := by rw [Hid, hB1]; simp
  rw [← hx1, ← hx0, ← hB1]
  clear hw4 c1a c1 hB1 hx0 hx1
  go_wp2
  refine (wpIn_wide (n := 3)).1 ?_
  have hrow4 : ∀ j, j < q → ∃ b, wa = some ⟨b, 0, none⟩ ∧ b < w4.heap.size ∧ w4.cell? ⟨b, j * 2, none⟩ = some (.int .i64 (nm j : Int)) ∧ w4.cell? ⟨b, j * 2 + 1, none⟩ = some (.slice (da j) 256 (dc j)) := by
    intro j hj
    obtain ⟨b, e, hb, r0, r1⟩ := HROW.out j hj
    exact ⟨b, e, by have := HS4.out; omega, (k4.cell (p := ⟨b, j * 2, none⟩) hb).trans r0, (k4.cell (p := ⟨b, j * 2 + 1, none⟩) hb).trans r1⟩
  refine wpIn_rangeFunc_ownH rfl (by omega) (gf := 134) (lb := #[.pointer (some ⟨B1, 0, none⟩)]) rfl trivial (enters_of Tryz.func134 (by kernel_rfl) rfl)
    (backward_stops (3 - 1) B1 q wc (by omega) HQM.out wa nm (fun j => .slice (da j) 256 (dc j)) (fun _ => rfl) w4 (by have := HS4.out; have := HBS.out; omega) (IB.cell 0) hrow4) (fun h k => h.trans k)
    (fun W l o o' hl h1 h2 h3 => belowK_b (w := w4) (Nat.le_refl _) W l o o' hl h1 h2 h3) (Below.refl _ _) (fun _ => rfl)
    (fun pre W => (∀ y ∈ pre, nm y ≠ i) ∧ Below w4.heap.size w4 W)
    (fun c pre W => (c = .ret ∧ ∃ ini last, pre = ini ++ [last] ∧ (∀ y ∈ ini, nm y ≠ i) ∧ nm last = i ∧ Blk W x1 38 [.slice (da last) 256 (dc last)]) ∧ Below w.heap.size w W)
    ?hI ?hIx ⟨by simp, Below.refl _ _⟩
    (fun x a' W => ∃ y, x1 < y ∧ a' = { tmps := #[.pointer (some ⟨g, 0, none⟩), .int .i64 (i : Int), undef, .pointer (some ⟨x0, 0, none⟩), .pointer (some ⟨x1, 0, none⟩), undef, .pointer (some ⟨y, 0, none⟩), .pointer (some ⟨g, 0, none⟩), .pointer (some ⟨g, 0, none⟩), .pointer (some ⟨g, 1, none⟩), .slice wa q wc, .func (.func 134) #[] #[.pointer (some ⟨B1, 0, none⟩)], .int .i64 (x : Int), .agg #[.int .i64 (nm x : Int), .slice (da x) 256 (dc x)], undef, undef, undef, undef, undef, undef, undef, undef, undef], defers := [] } ∧ Blk W y 152 [.int .i64 (nm x : Int), .slice (da x) 256 (dc x)])
    ?hAx ?assign ?body ?done ?stop
  case hI => exact OwnFrom.and (fun s W W' row hs hg hr => hs) (ownFrom_below (Nat.le_refl _) (Nat.le_refl _))
  case hIx =>
    intro c
    exact OwnFrom.and (fun s W W' row hs hg hr => by
      obtain ⟨hc, ini, last, e1, e2, e3, e4⟩ := hs
      exact ⟨hc, ini, last, e1, e2, e3, blk_box9 _ x1 _ _ s W W' row e4 hg hr⟩) (ownFrom_below (Nat.le_refl _) k4.size)
  case hAx =>
    intro x a' s W W' row ⟨y, h1, h2, h3⟩ hg hr
    exact ⟨y, h1, h2, blk_box9 _ y _ _ [] W W' row h3 hg hr⟩
  case assign =>
    intro l pre x W K hI hK
    have HKK := Lib.hid hK
    clear hK
    obtain ⟨hp, hB⟩ := hI
    gi_wp2
    have k5 : Below W.heap.size W (W.alloc (.cells #[.int .i64 (nm x : Int), .slice (da x) 256 (dc x)] 152)) := (Below.refl _ _).alloc (Nat.le_refl _) _
    exact HKK.out _ _ (keeps_below9 k5 _) (k5.mono hB.size) ⟨hp, hB.trans (k5.mono hB.size)⟩ ⟨W.heap.size, by have := hB.size; have := HS4.out; have := HX1.out; omega, rfl, Blk.newAt _ _ _ _ _ rfl rfl⟩
  case body =>
    rintro l pre x a' W hl _ ⟨hp, hB⟩ ⟨y, hy, rfl, by_⟩ hlt
    have cx0 : W.cell? ⟨x0, 0, none⟩ = some (.int .i64 (i : Int)) := (I0.below hB I0.lt).cell 0
    have b1 := I1.below hB I1.lt
    have cx1 : W.cell? ⟨x1, 0, none⟩ = some (.slice none 0 0) := b1.cell 0
    have fx1 : W.frozen? ⟨x1, 0, none⟩ = false := b1.frozen 0
    have y0 : W.cell? ⟨y, 0, none⟩ = some (.int .i64 (nm x : Int)) := by_.cell 0
    have y1 : W.cell? ⟨y, 1, none⟩ = some (.slice (da x) 256 (dc x)) := by_.cell 1
    have HB := Lib.hid hB
    have HB1 := Lib.hid b1
    have HP := Lib.hid hp
    have hmix : Tryz.prog.follows .mixedOrders = true := by kernel_rfl
    obtain ⟨b, hb⟩ : ∃ b, b = nm x := ⟨_, rfl⟩
    rw [← hb] at y0
    clear hB b1 hp by_
    by_cases hbi : b = i
    · have b5 : (b : Int) = (i : Int) := by omega
      have b6 : ((b : Int) == (i : Int)) = true := by simpa using b5
      gi_wp2
      exact ⟨(KeepsOthers.setCell _ _ _).from _, ⟨rfl, pre, x, rfl, HP.out, by rw [← hb]; exact hbi, HB1.out.set_ 0 _⟩, (k4.trans (HB.out.mono k4.size)).setCell (p := ⟨x1, 0, none⟩) (by have := HX1.out; show w.heap.size ≤ x1; omega) _⟩
    · have b5 : ¬ (b : Int) = (i : Int) := by omega
      have b6 : ((b : Int) == (i : Int)) = false := by simpa using b5
      gi_wp2
      exact ⟨KeepsFrom.refl _ _, Below.refl _ _, fun z hz => (List.mem_append.1 hz).elim (HP.out z) (fun e => by simp at e; subst e; rw [← hb]; exact hbi), HB.out⟩
  case done =>
    rintro D ys W hD rfl ⟨hp, hB⟩ hK
    obtain ⟨sb, cap, cur, es, _, hbk, h1, h2, h3, h4⟩ := H.out.srow.blk9 (by rw [H.out.flat]; have := HI.out; omega)
    rw [H.out.flat] at es h1
    subst es
    have kW : Below w.heap.size w W := k4.trans (hB.mono k4.size)
    have cg : W.cell? ⟨g, 0, none⟩ = some (.slice (some ⟨sb, 0, none⟩) (256 * m.safe.length) cap) := (H.out.below kW).blk.cell 0
    have CP := Lib.hid (place9_any H.out h1 i HI.out W cg)
    have ir : IsB w (.slice (some ⟨sb, 256 * i, none⟩) 256 (cap - 256 * i)) (m.read i) := by
      have hr : m.read i = m.safe.getD i [] := by
        rw [M.Dsk.read]
        refine M.seen_none _ _ _ fun j hj => ?_
        rw [← HNM.out j]
        exact hp j ((M.mem_down q q j).2 ⟨q - 1 - j, by have := HQ.out; omega, by have := HQ.out; omega⟩)
      have := IsB.mid (i := 256 * i) (k := 256) (c := cap - 256 * i) H.out.srow.isB (by rw [H.out.flat]; have := HI.out; omega) (by have := HI.out; omega) (by omega)
      rw [Nat.zero_add, M.flat_mid _ _ H.out.ok.full HI.out] at this
      rw [hr]
      exact this
    have cx0 : W.cell? ⟨x0, 0, none⟩ = some (.int .i64 (i : Int)) := (I0.below hB I0.lt).cell 0
    have b1 := I1.below hB I1.lt
    have cx1 : W.cell? ⟨x1, 0, none⟩ = some (.slice none 0 0) := b1.cell 0
    have fx1 : W.frozen? ⟨x1, 0, none⟩ = false := b1.frozen 0
    have HB1 := Lib.hid b1
    have HK := Lib.hid hK
    have KW := Lib.hid kW
    have IR := Lib.hid ir
    have HD := Lib.hid hD
    have HKS := Lib.hid k4.size
    clear hp hB hK hbk h1 h2 h3 h4 cg b1 kW ir hD
    dsimp only
    go_upto_region 5 with fail
    go_wp2_with fail
    refine CP.out.mono ?_
    rintro e W5 ⟨rfl, rfl⟩
    go_wp2
    obtain ⟨V, hV⟩ : ∃ V, V = Value.slice (some ⟨sb, 256 * i, none⟩) 256 (cap - 256 * i) := ⟨_, rfl⟩
    have IV := IR.out
    rw [← hV] at IV ⊢
    have hK' := (KeepsOthers.setCell W5 ⟨x1, 0, none⟩ V).same D _ HK.out rfl
    have hc5 := cell_kept (World.cell?_setCell_same' W5 ⟨x1, 0, none⟩ V (by rw [cx1]; rfl)) (grownBy_putObj' _ D (.deferred none)) (fun r e => by cases e; exact ⟨_, hK', rfl⟩)
    have kk := (KW.out.setCell (p := ⟨x1, 0, none⟩) (by have := HX1.out; show w.heap.size ≤ x1; omega) V).trans (belowK_b (w := w) (Nat.le_refl _) _ D _ (.deferred none) (by have := HD.out; have := HKS.out; omega) hK' rfl rfl)
    refine ⟨by simp, .inl ⟨_, _, rfl, run_takeDeferred hK', ?_⟩⟩
    exact ⟨V, by simp [results, Tryz.f100, go_sem, hc5], V, rfl, IV.below kk, kk⟩
  case stop =>
    rintro D c pre W hD ⟨k, hk, rfl⟩ ⟨⟨rfl, ini, last, e1, e2, e3, hcr⟩, hB⟩ hK
    rw [M.down_succ] at e1
    obtain ⟨rfl, e5⟩ := List.append_inj' e1 rfl
    obtain rfl : q - 1 - k = last := by simpa using e5
    have hd := HDV.out (q - 1 - k) (by omega)
    have hr : m.read i = (m.wait.getD (q - 1 - k) (0, [])).2 := by
      rw [M.Dsk.read]
      refine M.seen_at _ _ _ _ (by have := HQ.out; omega) (by rw [← HNM.out]; exact e3) fun j h1 h2 => ?_
      rw [← HNM.out j]
      exact e2 j ((M.mem_down q k j).2 ⟨q - 1 - j, by have := HQ.out; omega, by have := HQ.out; omega⟩)
    obtain ⟨V, hV⟩ : ∃ V, V = Value.slice (da (q - 1 - k)) 256 (dc (q - 1 - k)) := ⟨_, rfl⟩
    have IV := hd.2
    rw [← hr] at IV
    rw [← hV] at IV hcr
    clear hr hd
    have cx1 : W.cell? ⟨x1, 0, none⟩ = some V := hcr.cell 0
    dsimp only
    gi_wp2
    have hc5 := cell_kept cx1 (grownBy_putObj' _ D (.deferred none)) (fun r e => by cases e; exact ⟨_, hK, rfl⟩)
    have kk := hB.trans (belowK_b (w := w) (Nat.le_refl _) W D _ (.deferred none) (by have := k4.size; omega) hK rfl rfl)
    refine ⟨by simp, .inl ⟨_, _, rfl, run_takeDeferred hK, ?_⟩⟩
    exact ⟨V, by simp [results, Tryz.f100, go_sem, hc5], V, rfl, IV.below kk, kk⟩

theorem DkAt.read_length {T : Nat → Prop} {w : World} {g : Nat} {sv wv : Value} {dvs : List Value} {m : M.Dsk} (h : DkAt T w g sv wv dvs m) (i : Nat) (hi : i < m.safe.length) : (m.read i).length = 256 :=
  M.seen_length i _ _ (by rw [List.getD_eq_getElem?_getD, List.getElem?_eq_getElem hi]; exact h.ok.full _ (List.getElem_mem hi)) fun x hx => (h.ok.wat x hx).2

set_option maxHeartbeats 2000000 in
theorem read9_ok {T : Nat → Prop} {w : World} {g : Nat} {sv wv : Value} {dvs : List Value} {m : M.Dsk} (h : DkAt T w g sv wv dvs m) (i : Nat) (hi : i < m.safe.length) (hfew : m.wait.length < 1000000) :
    Calls Tryz.prog 73 #[.pointer (some ⟨g, 0, none⟩), .int .i64 (i : Int)] w fun e w' => ∃ r, e = .returned (.tuple #[r, .int .i64 0]) ∧ Own w' w.heap.size r (m.read i) ∧ Below w.heap.size w w' := by
  have C := Lib.hid (has9_any h (i : Int))
  rw [decide_eq_true (show (0 : Int) ≤ (i : Int) ∧ (i : Int) < (m.safe.length : Int) by omega)] at C
  have S := Lib.hid (seen9_any h i hi hfew)
  have HL := Lib.hid (h.read_length i hi)
  clear h hi hfew
  go_enter Tryz.func73, Tryz.ntmps73
  go_wp2_with fail
  refine C.out.mono ?_
  rintro e w1 ⟨rfl, rfl⟩
  clear C
  go_wp2_with fail
  refine S.out.mono ?_
  rintro e w2 ⟨v, rfl, iv, k2⟩
  have CL := Lib.hid (clone9_any v (m.read i) w2 iv (by rw [HL.out]; decide))
  have K2 := Lib.hid k2
  clear S iv k2
  go_wp2_with fail
  refine CL.out.mono ?_
  rintro e w3 ⟨r, rfl, o3, k3⟩
  have O3 := Lib.hid (o3.mono K2.out.size)
  have K3 : Hid (Below w1.heap.size w1 w3) := K2.out.trans (k3.mono K2.out.size)
  clear o3 k3 CL
  go_wp2
  go_ret2
  exact ⟨r, rfl, O3.out, K3.out⟩

set_option maxHeartbeats 2000000 in
theorem read9_no {T : Nat → Prop} {w : World} {g : Nat} {sv wv : Value} {dvs : List Value} {m : M.Dsk} (h : DkAt T w g sv wv dvs m) (i : Int) (hi : ¬ (0 ≤ i ∧ i < (m.safe.length : Int))) :
    Calls Tryz.prog 73 #[.pointer (some ⟨g, 0, none⟩), .int .i64 i] w fun e w' => e = .returned (.tuple #[.slice none 0 0, .int .i64 1]) ∧ w' = w := by
  have C := Lib.hid (has9_any h i)
  rw [decide_eq_false hi] at C
  clear h hi
  go_enter Tryz.func73, Tryz.ntmps73
  go_wp2_with fail
  refine C.out.mono ?_
  rintro e w1 ⟨rfl, rfl⟩
  clear C
  go_wp2
  go_ret2
  exact ⟨rfl, rfl⟩

end Go.Proofs.YtphcbpfpelonaaaGreatDoor

namespace Go.Proofs.YtphcbpfpelonaaaGreatDoor
open Go.RowKit
set_option linter.unusedVariables false
set_option maxRecDepth 100000

/-- The code's disk of the state m lies in the blocks T, its struct in block g. -/
def CodeDk (T : Nat → Prop) (w : World) (g : Nat) (m : M.Dsk) : Prop := ∃ sv wv dvs, DkAt T w g sv wv dvs m

theorem CodeDk.chg {T F : Nat → Prop} {w w' : World} {g : Nat} {m : M.Dsk} (h : CodeDk T w g m) (k : Chg F w w') (hF : ∀ b, T b → ¬ F b) : CodeDk T w' g m := by
  obtain ⟨sv, wv, dvs, h⟩ := h
  exact ⟨sv, wv, dvs, h.chg k hF⟩

theorem CodeDk.there {T : Nat → Prop} {w : World} {g : Nat} {m : M.Dsk} (h : CodeDk T w g m) : ∀ k, T k → k < w.heap.size := by
  obtain ⟨sv, wv, dvs, h⟩ := h
  exact h.there

theorem CodeDk.ok {T : Nat → Prop} {w : World} {g : Nat} {m : M.Dsk} (h : CodeDk T w g m) : m.Ok := by
  obtain ⟨sv, wv, dvs, h⟩ := h
  exact h.ok

theorem codeDk_new (n : Int) (hn : -9223372036854775808 ≤ n ∧ n < 9223372036854775808) (w : World) : Calls Tryz.prog 8 #[.int .i64 n] w fun e w' =>
    ∃ g T, e = .returned (.pointer (some ⟨g, 0, none⟩)) ∧ CodeDk T w' g (M.dnew n.toNat) ∧ (∀ k, T k → w.heap.size ≤ k) ∧ Below w.heap.size w w' :=
  (new9_any n hn w).mono fun e w' ⟨g, sv, T, he, h, ht, k⟩ => ⟨g, T, he, ⟨sv, _, _, h⟩, ht, k⟩

theorem codeDk_write {T : Nat → Prop} {w : World} {g : Nat} {m : M.Dsk} (hD : CodeDk T w g m) (i : Int) (bv : Value) (bs : List UInt8) (hb : IsB w bv bs) (hfew : m.wait.length < 1000000) :
    Calls Tryz.prog 87 #[.pointer (some ⟨g, 0, none⟩), .int .i64 i, bv] w fun e w' =>
      e = .returned (.int .i64 (m.doWrite i bs).2) ∧ Chg T w w' ∧ ∃ T', CodeDk T' w' g (m.doWrite i bs).1 ∧ ∀ k, T' k → T k ∨ w.heap.size ≤ k := by
  obtain ⟨sv, wv, dvs, h⟩ := hD
  by_cases hok : 0 ≤ i ∧ i < m.safe.length ∧ bs.length = 256
  · obtain ⟨j, rfl⟩ := Int.eq_ofNat_of_zero_le hok.1
    have hj : j < m.safe.length := by have := hok.2.1; omega
    by_cases hd : m.down = true
    · refine (write9_down h j hj bv bs hb hok.2.2 hd).mono ?_
      rintro e w' ⟨rfl, rfl⟩
      rw [M.Dsk.doWrite, if_pos hok, if_pos hd]
      exact ⟨rfl, Chg.refl _ _, T, ⟨sv, wv, dvs, h⟩, fun k hk => .inl hk⟩
    · have hd' : m.down = false := by simpa using hd
      refine (write9_ok h j hj bv bs hb hok.2.2 hd' hfew).mono ?_
      rintro e w' ⟨rfl, k, wv', dvs', T', r', ht⟩
      rw [M.Dsk.doWrite, if_pos hok, if_neg hd, Int.toNat_natCast]
      exact ⟨rfl, k, T', ⟨sv, wv', dvs', r'⟩, ht⟩
  · refine (write9_no h i bv bs hb hok).mono ?_
    rintro e w' ⟨rfl, rfl⟩
    rw [M.Dsk.doWrite, if_neg hok]
    exact ⟨rfl, Chg.refl _ _, T, ⟨sv, wv, dvs, h⟩, fun k hk => .inl hk⟩

theorem codeDk_sync {T : Nat → Prop} {w : World} {g : Nat} {m : M.Dsk} (hD : CodeDk T w g m) : Calls Tryz.prog 72 #[.pointer (some ⟨g, 0, none⟩)] w fun e w' =>
    e = .returned (.int .i64 m.doSync.2) ∧ Chg T w w' ∧ ∃ T', CodeDk T' w' g m.doSync.1 ∧ ∀ k, T' k → T k ∨ w.heap.size ≤ k := by
  obtain ⟨sv, wv, dvs, h⟩ := hD
  by_cases hd : m.down = true
  · refine (sync9_down h hd).mono ?_
    rintro e w' ⟨rfl, rfl⟩
    rw [M.Dsk.doSync, if_pos hd]
    exact ⟨rfl, Chg.refl _ _, T, ⟨sv, wv, dvs, h⟩, fun k hk => .inl hk⟩
  · have hd' : m.down = false := by simpa using hd
    by_cases hg : m.goes.2 = true
    · refine (sync9_goes h hd' hg).mono ?_
      rintro e w' ⟨rfl, k, r'⟩
      rw [M.Dsk.doSync, if_neg hd, if_pos hg]
      exact ⟨rfl, k, T, ⟨sv, wv, dvs, r'⟩, fun k hk => .inl hk⟩
    · refine (sync9_ok h hd' (by simpa using hg)).mono ?_
      rintro e w' ⟨rfl, k, r'⟩
      rw [M.Dsk.doSync, if_neg hd, if_neg hg]
      exact ⟨rfl, k, T, ⟨sv, _, _, r'⟩, fun k hk => .inl hk⟩

theorem codeDk_read {T : Nat → Prop} {w : World} {g : Nat} {m : M.Dsk} (hD : CodeDk T w g m) (hfew : m.wait.length < 1000000) (i : Int) :
    Calls Tryz.prog 73 #[.pointer (some ⟨g, 0, none⟩), .int .i64 i] w fun e w' =>
    ∃ r, e = .returned (.tuple #[r, .int .i64 (m.doRead i).2]) ∧ Own w' w.heap.size r (m.doRead i).1 ∧ Below w.heap.size w w' := by
  obtain ⟨sv, wv, dvs, h⟩ := hD
  by_cases hok : 0 ≤ i ∧ i < m.safe.length
  · obtain ⟨j, rfl⟩ := Int.eq_ofNat_of_zero_le hok.1
    refine (read9_ok h j (by have := hok.2; omega) hfew).mono ?_
    rintro e w' ⟨v, rfl, o, k⟩
    rw [M.Dsk.doRead, if_pos hok, Int.toNat_natCast]
    exact ⟨v, rfl, o, k⟩
  · refine (read9_no h i hok).mono ?_
    rintro e w' ⟨rfl, rfl⟩
    rw [M.Dsk.doRead, if_neg hok]
    exact ⟨_, rfl, World.ownsRow_nil _ _ _ _, Below.refl _ _⟩

theorem codeDk_blocks {T : Nat → Prop} {w : World} {g : Nat} {m : M.Dsk} (hD : CodeDk T w g m) : Calls Tryz.prog 71 #[.pointer (some ⟨g, 0, none⟩)] w fun e w' => e = .returned (.int .i64 (m.safe.length : Int)) ∧ w' = w := by
  obtain ⟨sv, wv, dvs, h⟩ := hD
  exact blocks9_any h

end Go.Proofs.YtphcbpfpelonaaaGreatDoor

namespace Go.Proofs.YtphcbpfpelonaaaGreatDoor
open Go.RowKit
set_option linter.unusedVariables false

theorem isZ_two (w : World) (t : TypeId) (a b : Bool) : IsZ (w.alloc (.cells #[.bool a, .bool b] t)) (.slice (some ⟨w.heap.size, 0, none⟩) 2 2) [a, b] := by
  refine ⟨_, 2, rfl, Nat.le_refl _, by unfold maxLen; omega, .inr ⟨w.heap.size, 0, rfl, fun i hi => ?_⟩⟩
  match i, hi with
  | 0, _ => simp
  | 1, _ => simp

end Go.Proofs.YtphcbpfpelonaaaGreatDoor
