/-
  FROM A STRUCT'S FIELDS' READINGS TO 'IsB' AND TO AN INTEGER: fields of one cell each. Conditions: none.
  FROM THE READING OF A SLICE OF BOOLS, AND OF A SCRIPT OF STEPS (orloplaw09.Do), TO 'IsZ' AND 'IsSteps'. Conditions: none.
  THE STEPS OF LAYER 11's LAWS (orloplaw11.Do): WHAT THEY SAY, AND FROM THE READING OF A SLICE OF THEM TO 'IsDos'. Conditions: none.
  FROM THE READING OF A SLICE OF CHANGES, AND OF ROWS OF BYTES, TO IsFL AND IsLL. Conditions: none.
-/
import Derived.Test.YtphcbpfpelonaaaGreatDoorPf4
import Derived.Lib.SmallJoins
import Derived.ShutString
import Derived.ChangeOld
import Derived.Test.YtphcbpfpelonaaaGreatDoorPf6
import Derived.Deep.Slices
import Derived.Test.YtphcbpfpelonaaaGreatDoorPf32
import Derived.Test.YtphcbpfpelonaaaGreatDoorPf12

namespace Go.Proofs.YtphcbpfpelonaaaGreatDoor
open Go.ChangeShapes Go.WideShapes Go.ChangeAt Go.RowKit
set_option linter.unusedVariables false

theorem isB_of_trod {H : Type} {enc : TypeId × Value → H} {W : World} {fuel : Nat} {v : Value} {y : DataW H × List MemPlace} (h : DataW.trod enc Tryz.prog W 0 (fun _ => true) true fuel 38 [v] = some y) :
    ∃ bs, IsB W v bs ∧ ∀ n c, v = .slice none n c → c = 0 := by
  rcases open_ints Tryz.underlying38 Tryz.underlying5 (by kernel_rfl) h with ⟨hcs, _⟩ | ⟨x, l, c, zs, hcs, _, hl, hm, hz, _, hcell, hwz⟩
  · simp at hcs
    subst hcs
    exact ⟨[], IsB.nil W, fun n c h => by cases h; rfl⟩
  · simp at hcs
    subst hcs
    obtain ⟨bs, _, hb⟩ := isB_of_ints hl hm (by simpa using hz) hcell hwz
    exact ⟨bs, hb, fun n c h => by cases h⟩

theorem int_of_trod {H : Type} {enc : TypeId × Value → H} {W : World} {fuel : Nat} {v : Value} {y : DataW H × List MemPlace} (h : DataW.trod enc Tryz.prog W 0 (fun _ => true) true fuel 3 [v] = some y) :
    ∃ n : Int, v = .int .i64 n ∧ (Lit.int .i64 n).wf = true := by
  obtain ⟨x, e0, _, wx⟩ := DataW.trod_int Tryz.underlying3 h
  simp at e0
  exact ⟨x, e0, wx⟩

end Go.Proofs.YtphcbpfpelonaaaGreatDoor

namespace Go.Proofs.YtphcbpfpelonaaaGreatDoor
open Go.ChangeShapes Go.WideShapes Go.ChangeAt Go.RowKit
set_option linter.unusedVariables false

end Go.Proofs.YtphcbpfpelonaaaGreatDoor

namespace Go.Proofs.YtphcbpfpelonaaaGreatDoor
open Go.ChangeShapes Go.WideShapes Go.ChangeAt Go.RowKit
set_option linter.unusedVariables false
set_option maxRecDepth 100000

namespace M
structure Do11 where
  kind : Int
  list : FL
  name : List UInt8
  fall : Int
  keep : List Bool

def Do11.none : Do11 := ⟨0, [], [], 0, []⟩
instance : Inhabited Do11 := ⟨Do11.none⟩

noncomputable def Do11.small (t : Do11) : Bool := decide (SmallF t.list) && (decide (t.keep.length ≤ 1000) && decide (t.name.length ≤ 1000))
noncomputable def smallDos (l : List Do11) : Bool := (l.take 14).all Do11.small

theorem smallDos_step (l : List Do11) (k : Nat) (hk : k < l.length) : (l.take (k + 1)).all Do11.small = ((l.take k).all Do11.small && (l.getD k Do11.none).small) := by
  rw [List.take_add_one, List.all_append]
  congr 1
  rw [List.getElem?_eq_getElem hk, List.getD_eq_getElem?_getD, List.getElem?_eq_getElem hk]
  simp

theorem smallDos_no (l : List Do11) (k : Nat) (hk : k < l.length) (h6 : k < 14) (h : (l.getD k Do11.none).small = false) : smallDos l = false := by
  rw [smallDos, List.all_eq_false]
  refine ⟨l.getD k Do11.none, ?_, by rw [h]; simp⟩
  rw [List.getD_eq_getElem?_getD, List.getElem?_eq_getElem hk]
  exact List.mem_take_iff_getElem.2 ⟨k, by omega, rfl⟩

theorem smallDos_get (l : List Do11) (h : smallDos l = true) (k : Nat) (hk : k < l.length) (h6 : k < 14) : SmallF (l.getD k Do11.none).list ∧ (l.getD k Do11.none).keep.length ≤ 1000 ∧ (l.getD k Do11.none).name.length ≤ 1000 := by
  have := List.all_eq_true.1 h (l.getD k Do11.none) (by
    rw [List.getD_eq_getElem?_getD, List.getElem?_eq_getElem hk]
    exact List.mem_take_iff_getElem.2 ⟨k, by omega, rfl⟩)
  simpa [Do11.small] using this
end M

/-- The cells are those of a step. -/
def DoCells (w : World) (cs : List Value) (t : M.Do11) : Prop := ∃ lo lc xs ko kc,
  cs = [.int .i64 t.kind, .slice lo t.list.length lc, .string ⟨t.name.toArray⟩, .int .i64 t.fall, .slice ko t.keep.length kc] ∧
  IsFL w (.slice lo t.list.length lc) t.list xs ∧ IsZ w (.slice ko t.keep.length kc) t.keep ∧
  (-9223372036854775808 ≤ t.kind ∧ t.kind < 9223372036854775808) ∧ (-9223372036854775808 ≤ t.fall ∧ t.fall < 9223372036854775808) ∧ t.name.length ≤ maxLen

/-- The value is a slice of steps. -/
def IsDos (w : World) (v : Value) (l : List M.Do11) : Prop := ∃ ao cap, v = .slice ao l.length cap ∧ l.length ≤ cap ∧ cap ≤ maxLen ∧
  (l = [] ∨ ∃ b off, ao = some ⟨b, off, none⟩ ∧ ∀ i, i < l.length → ∃ cs, DoCells w cs (l.getD i M.Do11.none) ∧ ∀ j, j < 5 → w.cell? ⟨b, off + i * 5 + j, none⟩ = some (cs.getD j undef))

theorem DoCells.below {w w' : World} {cs : List Value} {t : M.Do11} (h : DoCells w cs t) (k : Below w.heap.size w w') : DoCells w' cs t := by
  obtain ⟨lo, lc, xs, ko, kc, e, h1, h2, h3⟩ := h
  exact ⟨lo, lc, xs, ko, kc, e, h1.below k, h2.below k, h3⟩

theorem IsDos.below {w w' : World} {v : Value} {l : List M.Do11} (h : IsDos w v l) (k : Below w.heap.size w w') : IsDos w' v l := by
  obtain ⟨ao, cap, rfl, h1, h2, h3⟩ := h
  refine ⟨ao, cap, rfl, h1, h2, ?_⟩
  rcases h3 with h | ⟨b, off, rfl, h⟩
  · exact .inl h
  · refine .inr ⟨b, off, rfl, fun i hi => ?_⟩
    obtain ⟨cs, c1, c2⟩ := h i hi
    exact ⟨cs, c1.below k, fun j hj => (k.cell (p := ⟨b, off + i * 5 + j, none⟩) (World.block_lt_of_cell? w _ (c2 j hj))).trans (c2 j hj)⟩

theorem chg_cells_of_trod {H : Type} {enc : TypeId × Value → H} {W : World} {fuel : Nat} {cs : List Value} {y : DataW H × List MemPlace} (hlen : cs.length = 3) (h : DataW.trod enc Tryz.prog W 0 (fun _ => true) true fuel 58 cs = some y) :
    ∃ (c : M.FC) (x : Value), cs = [.string ⟨c.nm.toArray⟩, x, .bool c.gone] ∧ IsB W x c.data ∧ (∀ n k, x = .slice none n k → k = 0) ∧ c.nm.length ≤ maxLen := by
  have cs1 : Tryz.prog.cellsOf 9 = 1 := by kernel_rfl
  have cb : Tryz.prog.cellsOf 38 = 1 := by kernel_rfl
  have cz : Tryz.prog.cellsOf 4 = 1 := by kernel_rfl
  obtain ⟨xs, k, _, _, _, hxl, hs⟩ := DataW.trod_struct Tryz.underlying58 h
  match xs, hxl, cs, hlen with
  | [y0, y1, y2], _, [v0, v1, v2], _ =>
    have g0 := hs 0 _ rfl
    have g1 := hs 1 _ rfl
    have g2 := hs 2 _ rfl
    simp [cs1, cb, cz] at g0 g1 g2
    obtain ⟨s, e0, _, hsz⟩ := DataW.trod_string Tryz.underlying9 g0
    obtain ⟨bs, ib, h0⟩ := isB_of_trod g1
    obtain ⟨b, e2, _⟩ := DataW.trod_bool Tryz.underlying4 g2
    simp at e0 e2
    subst e0 e2
    exact ⟨⟨s.data.toList, bs, b⟩, v1, rfl, ib, h0, hsz⟩

theorem fl_of_trod {H : Type} {enc : TypeId × Value → H} {W : World} {fuel : Nat} {v : Value} {y : DataW H × List MemPlace} (h : DataW.trod enc Tryz.prog W 0 (fun _ => true) true fuel 22 [v] = some y) :
    ∃ l xs, IsFL W v l xs := by
  rcases Deep.open_slice Tryz.underlying22 h with ⟨hcs, _⟩ | ⟨x, l, c, m, n, D, Pl, hcs, _, hl, hm, hmm, _, hx⟩
  · simp at hcs
    subst hcs
    exact ⟨[], [], none, 0, rfl, Nat.zero_le _, Nat.zero_le _, rfl, fun i hi => absurd hi (Nat.not_lt_zero i), .inl rfl⟩
  · simp at hcs
    subst hcs
    have hlm : l ≤ m := by rw [hmm]; split <;> omega
    have ce : Tryz.prog.cellsOf 58 = 3 := by kernel_rfl
    simp only [ce] at hx
    obtain ⟨b, off, spot⟩ := x
    by_cases h0 : l = 0
    · subst h0
      exact ⟨[], [], _, c, rfl, Nat.zero_le _, hm, rfl, fun i hi => absurd hi (Nat.not_lt_zero i), .inl rfl⟩
    · have hspot : spot = none := by
        obtain ⟨cs', h1, _⟩ := hx 0 (by omega)
        obtain ⟨_, hlen, hcell⟩ := World.cells?_some h1
        have q := hcell 0 (by omega)
        rw [List.getElem?_eq_getElem (show 0 < cs'.length by omega)] at q
        simpa [Addr.add] using World.cell?_spot q
      subst hspot
      have each : ∀ i, i < l → ∃ cx : M.FC × Value, (IsB W cx.2 cx.1.data ∧ (∀ n k, cx.2 = .slice none n k → k = 0) ∧ cx.1.nm.length ≤ maxLen) ∧ W.cell? ⟨b, off + i * 3, none⟩ = some (.string ⟨cx.1.nm.toArray⟩) ∧ W.cell? ⟨b, off + i * 3 + 1, none⟩ = some cx.2 ∧ W.cell? ⟨b, off + i * 3 + 2, none⟩ = some (.bool cx.1.gone) := by
        intro i hi
        obtain ⟨cs', h1, h2⟩ := hx i (by omega)
        obtain ⟨_, hlen, hcell⟩ := World.cells?_some h1
        obtain ⟨ch, x, rfl, g1, g2, g3⟩ := chg_cells_of_trod hlen h2
        have e0 := hcell 0 (by omega)
        have e1 := hcell 1 (by omega)
        have e2 := hcell 2 (by omega)
        rw [Addr.add_lit, Addr.add_lit] at e0 e1 e2
        exact ⟨(ch, x), ⟨g1, g2, g3⟩, e0, e1, e2⟩
      obtain ⟨f, hf'⟩ := Deep.choose_lt each
      have e1 : ∀ i, i < l → ((List.range l).map fun i => (f i).1).getD i default = (f i).1 := fun i hi => by simp [List.getD_eq_getElem?_getD, hi]
      have e2 : ∀ i, i < l → ((List.range l).map fun i => (f i).2).getD i undef = (f i).2 := fun i hi => by simp [List.getD_eq_getElem?_getD, hi]
      refine ⟨(List.range l).map fun i => (f i).1, (List.range l).map fun i => (f i).2, some ⟨b, off, none⟩, c, by simp, by simp; omega, hm, by simp, fun i hi => ?_, .inr ⟨b, off, rfl, fun i hi => ?_⟩⟩
      · have hi' : i < l := by simpa using hi
        rw [e1 i hi', e2 i hi']
        exact (hf' i hi').1
      · have hi' : i < l := by simpa using hi
        rw [e1 i hi', e2 i hi']
        exact (hf' i hi').2

end Go.Proofs.YtphcbpfpelonaaaGreatDoor

namespace Go.Proofs.YtphcbpfpelonaaaGreatDoor
open Go.ChangeShapes Go.WideShapes Go.ChangeAt Go.RowKit
set_option linter.unusedVariables false
set_option maxRecDepth 100000

theorem fl_of_arg {H : Type} {enc : TypeId × Value → H} {W : World} {base : Nat} {v : Value} {d : DataW H} {p : List MemPlace} (hv : Value.okWide Tryz.prog W .any base 22 v)
    (h : DataW.Trod enc Tryz.prog W 0 (fun _ => true) true 22 v d p) : ∃ l xs, IsFL W v l xs := by
  obtain ⟨a, len, cap, rfl⟩ := okWide_slice Tryz.underlying22 hv
  obtain ⟨fuel, hf⟩ := h
  exact fl_of_trod hf

theorem ll_of_arg {H : Type} {enc : TypeId × Value → H} {W : World} {base : Nat} {v : Value} {d : DataW H} {p : List MemPlace} (hv : Value.okWide Tryz.prog W .any base 23 v)
    (h : DataW.Trod enc Tryz.prog W 0 (fun _ => true) true 23 v d p) : ∃ l xs, IsLL W v l xs := by
  obtain ⟨a, len, cap, rfl⟩ := okWide_slice Tryz.underlying23 hv
  obtain ⟨fuel, hf⟩ := h
  rcases Deep.open_slice Tryz.underlying23 hf with ⟨hcs, _⟩ | ⟨x, l, c, m, n, D, Pl, hcs, _, hl, hm, hmm, _, hx⟩
  · simp [Value.cells] at hcs
    obtain ⟨rfl, rfl, rfl⟩ := hcs
    exact ⟨[], [], none, 0, rfl, Nat.zero_le _, Nat.zero_le _, rfl, fun i hi => absurd hi (Nat.not_lt_zero i), .inl rfl⟩
  · simp [Value.cells] at hcs
    obtain ⟨rfl, rfl, rfl⟩ := hcs
    have hlm : len ≤ m := by rw [hmm]; split <;> omega
    have ce : Tryz.prog.cellsOf 38 = 1 := by kernel_rfl
    simp only [ce] at hx
    obtain ⟨b, off, spot⟩ := x
    by_cases h0 : len = 0
    · subst h0
      exact ⟨[], [], _, cap, rfl, Nat.zero_le _, hm, rfl, fun i hi => absurd hi (Nat.not_lt_zero i), .inl rfl⟩
    · have hspot : spot = none := by
        obtain ⟨cs', h1, _⟩ := hx 0 (by omega)
        obtain ⟨_, hlen, hcell⟩ := World.cells?_some h1
        have q := hcell 0 (by omega)
        rw [List.getElem?_eq_getElem (show 0 < cs'.length by omega)] at q
        simpa [Addr.add] using World.cell?_spot q
      subst hspot
      have each : ∀ i, i < len → ∃ cx : List UInt8 × Value, (IsB W cx.2 cx.1 ∧ (∀ n k, cx.2 = .slice none n k → k = 0)) ∧ W.cell? ⟨b, off + i, none⟩ = some cx.2 := by
        intro i hi
        obtain ⟨cs', h1, h2⟩ := hx i (by omega)
        obtain ⟨_, hlen, hcell⟩ := World.cells?_some h1
        match cs', hlen with
        | [v0], _ =>
          obtain ⟨bs, ib, g0⟩ := isB_of_trod h2
          have e0 := hcell 0 (by omega)
          rw [Addr.add_lit, Addr.add_lit] at e0
          refine ⟨(bs, v0), ⟨ib, g0⟩, ?_⟩
          simpa using e0
      obtain ⟨f, hf'⟩ := Deep.choose_lt each
      have e1 : ∀ i, i < len → ((List.range len).map fun i => (f i).1).getD i [] = (f i).1 := fun i hi => by simp [List.getD_eq_getElem?_getD, hi]
      have e2 : ∀ i, i < len → ((List.range len).map fun i => (f i).2).getD i undef = (f i).2 := fun i hi => by simp [List.getD_eq_getElem?_getD, hi]
      refine ⟨(List.range len).map fun i => (f i).1, (List.range len).map fun i => (f i).2, some ⟨b, off, none⟩, cap, by simp, by simp; omega, hm, by simp, fun i hi => ?_, .inr ⟨b, off, rfl, fun i hi => ?_⟩⟩
      · have hi' : i < len := by simpa using hi
        rw [e1 i hi', e2 i hi']
        exact (hf' i hi').1
      · have hi' : i < len := by simpa using hi
        rw [e2 i hi']
        exact (hf' i hi').2

end Go.Proofs.YtphcbpfpelonaaaGreatDoor
