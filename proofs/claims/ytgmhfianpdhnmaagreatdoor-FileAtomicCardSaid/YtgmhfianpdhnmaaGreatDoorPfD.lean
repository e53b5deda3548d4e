/-
  FROM A STRUCT'S FIELDS' READINGS TO 'IsB' AND TO AN INTEGER: fields of one cell each. Conditions: none.
  FROM THE READING OF A SLICE OF BOOLS, AND OF A SCRIPT OF STEPS (orloplaw09.Do), TO 'IsZ' AND 'IsSteps'. Conditions: none.
  THE STEPS OF LAYER 11's LAWS (orloplaw11.Do): WHAT THEY SAY, AND FROM THE READING OF A SLICE OF THEM TO 'IsDos'. Conditions: none.
  CONTRACT OF orloplaw11.small. Conditions: the steps lie so.
  THE DOCUMENT'S FILES BESIDE THE CODE's, FROM STEP TO STEP. Conditions: none.
  FILES WHOSE DISK IS ARMED, A COMMIT THAT MAY BE CUT OFF, THE CRASH, AND WHAT OPENS BEHIND IT. Conditions: the tables of package sha lie as laid.
-/
import Derived.Test.YtgmhfianpdhnmaaGreatDoorPf4
import Derived.Lib.SmallJoins
import Derived.ShutString
import Derived.ChangeOld
import Derived.Test.YtgmhfianpdhnmaaGreatDoorPf6
import Derived.Deep.Slices
import Derived.Test.YtgmhfianpdhnmaaGreatDoorPf32
import Derived.Test.YtgmhfianpdhnmaaGreatDoorPf33

namespace Go.Proofs.YtgmhfianpdhnmaaGreatDoor
open Go.ChangeShapes Go.WideShapes Go.ChangeAt Go.RowKit
set_option linter.unusedVariables false

theorem isB_of_trod {H : Type} {enc : TypeId × Value → H} {W : World} {fuel : Nat} {v : Value} {y : DataW H × List MemPlace} (h : DataW.trod enc Tryz.prog W 0 (fun _ => true) true fuel 42 [v] = some y) :
    ∃ bs, IsB W v bs ∧ ∀ n c, v = .slice none n c → c = 0 := by
  rcases open_ints Tryz.underlying42 Tryz.underlying5 (by kernel_rfl) h with ⟨hcs, _⟩ | ⟨x, l, c, zs, hcs, _, hl, hm, hz, _, hcell, hwz⟩
  · simp at hcs
    subst hcs
    exact ⟨[], IsB.nil W, fun n c h => by cases h; rfl⟩
  · simp at hcs
    subst hcs
    obtain ⟨bs, _, hb⟩ := isB_of_ints hl hm (by simpa using hz) hcell hwz
    exact ⟨bs, hb, fun n c h => by cases h⟩

theorem int_of_trod {H : Type} {enc : TypeId × Value → H} {W : World} {fuel : Nat} {v : Value} {y : DataW H × List MemPlace} (h : DataW.trod enc Tryz.prog W 0 (fun _ => true) true fuel 3 [v] = some y) :
    ∃ n : Int, v = .int .i64 n ∧ (Lit.int .i64 n).wf = true := by
  obtain ⟨x, e0, _, wx⟩ := DataW.trod_int Tryz.underlying3 h
  simp at e0
  exact ⟨x, e0, wx⟩

end Go.Proofs.YtgmhfianpdhnmaaGreatDoor

namespace Go.Proofs.YtgmhfianpdhnmaaGreatDoor
open Go.ChangeShapes Go.WideShapes Go.ChangeAt Go.RowKit
set_option linter.unusedVariables false

theorem z_of_trod {H : Type} {enc : TypeId × Value → H} {W : World} {fuel : Nat} {v : Value} {y : DataW H × List MemPlace} (h : DataW.trod enc Tryz.prog W 0 (fun _ => true) true fuel 35 [v] = some y) :
    ∃ ks, IsZ W v ks := by
  rcases Deep.open_slice1 Tryz.underlying35 (by kernel_rfl) h with ⟨hcs, _⟩ | ⟨x, l, c, m, n, V, D, Pl, hcs, _, hl, hm, hmm, _, hcell⟩
  · simp at hcs
    subst hcs
    exact ⟨[], IsZ.nil W⟩
  · simp at hcs
    subst hcs
    have hlm : l ≤ m := by rw [hmm]; split <;> omega
    have each : ∀ i, i < l → ∃ q : Bool, W.cell? (x.add i) = some (.bool q) := by
      intro i hi
      obtain ⟨c0, t0⟩ := hcell i (by omega)
      obtain ⟨b, e0, _⟩ := DataW.trod_bool Tryz.underlying4 t0
      simp at e0
      exact ⟨b, by rw [c0, e0]⟩
    obtain ⟨f, hf⟩ := Deep.choose_lt each
    refine ⟨(List.range l).map f, some x, c, by simp, by simp; omega, hm, ?_⟩
    by_cases h0 : l = 0
    · exact .inl (by rw [h0]; rfl)
    · obtain ⟨b, off, spot⟩ := x
      have hspot : spot = none := by simpa [Addr.add] using World.cell?_spot (hf 0 (by omega))
      subst hspot
      refine .inr ⟨b, off, rfl, fun i hi => ?_⟩
      have hi' : i < l := by simpa using hi
      have e : ((List.range l).map f).getD i false = f i := by simp [List.getD_eq_getElem?_getD, hi']
      rw [e]
      have := hf i hi'
      rwa [Addr.add_lit] at this

end Go.Proofs.YtgmhfianpdhnmaaGreatDoor

namespace Go.Proofs.YtgmhfianpdhnmaaGreatDoor
open Go.ChangeShapes Go.WideShapes Go.ChangeAt Go.RowKit
set_option linter.unusedVariables false
set_option maxRecDepth 100000

namespace M
structure Do11 where
  kind : Int
  list : FL
  name : List UInt8
  fall : Int
  keep : List Bool

def Do11.none : Do11 := ⟨0, [], [], 0, []⟩
instance : Inhabited Do11 := ⟨Do11.none⟩

noncomputable def Do11.small (t : Do11) : Bool := decide (SmallF t.list) && (decide (t.keep.length ≤ 1000) && decide (t.name.length ≤ 1000))
noncomputable def smallDos (l : List Do11) : Bool := (l.take 14).all Do11.small

theorem smallDos_step (l : List Do11) (k : Nat) (hk : k < l.length) : (l.take (k + 1)).all Do11.small = ((l.take k).all Do11.small && (l.getD k Do11.none).small) := by
  rw [List.take_add_one, List.all_append]
  congr 1
  rw [List.getElem?_eq_getElem hk, List.getD_eq_getElem?_getD, List.getElem?_eq_getElem hk]
  simp

theorem smallDos_no (l : List Do11) (k : Nat) (hk : k < l.length) (h6 : k < 14) (h : (l.getD k Do11.none).small = false) : smallDos l = false := by
  rw [smallDos, List.all_eq_false]
  refine ⟨l.getD k Do11.none, ?_, by rw [h]; simp⟩
  rw [List.getD_eq_getElem?_getD, List.getElem?_eq_getElem hk]
  exact List.mem_take_iff_getElem.2 ⟨k, by omega, rfl⟩

theorem smallDos_get (l : List Do11) (h : smallDos l = true) (k : Nat) (hk : k < l.length) (h6 : k < 14) : SmallF (l.getD k Do11.none).list ∧ (l.getD k Do11.none).keep.length ≤ 1000 ∧ (l.getD k Do11.none).name.length ≤ 1000 := by
  have := List.all_eq_true.1 h (l.getD k Do11.none) (by
    rw [List.getD_eq_getElem?_getD, List.getElem?_eq_getElem hk]
    exact List.mem_take_iff_getElem.2 ⟨k, by omega, rfl⟩)
  simpa [Do11.small] using this
end M

/-- The cells are those of a step. -/
def DoCells (w : World) (cs : List Value) (t : M.Do11) : Prop := ∃ lo lc xs ko kc,
  cs = [.int .i64 t.kind, .slice lo t.list.length lc, .string ⟨t.name.toArray⟩, .int .i64 t.fall, .slice ko t.keep.length kc] ∧
  IsFL w (.slice lo t.list.length lc) t.list xs ∧ IsZ w (.slice ko t.keep.length kc) t.keep ∧
  (-9223372036854775808 ≤ t.kind ∧ t.kind < 9223372036854775808) ∧ (-9223372036854775808 ≤ t.fall ∧ t.fall < 9223372036854775808) ∧ t.name.length ≤ maxLen

/-- The value is a slice of steps. -/
def IsDos (w : World) (v : Value) (l : List M.Do11) : Prop := ∃ ao cap, v = .slice ao l.length cap ∧ l.length ≤ cap ∧ cap ≤ maxLen ∧
  (l = [] ∨ ∃ b off, ao = some ⟨b, off, none⟩ ∧ ∀ i, i < l.length → ∃ cs, DoCells w cs (l.getD i M.Do11.none) ∧ ∀ j, j < 5 → w.cell? ⟨b, off + i * 5 + j, none⟩ = some (cs.getD j undef))

theorem DoCells.below {w w' : World} {cs : List Value} {t : M.Do11} (h : DoCells w cs t) (k : Below w.heap.size w w') : DoCells w' cs t := by
  obtain ⟨lo, lc, xs, ko, kc, e, h1, h2, h3⟩ := h
  exact ⟨lo, lc, xs, ko, kc, e, h1.below k, h2.below k, h3⟩

theorem IsDos.below {w w' : World} {v : Value} {l : List M.Do11} (h : IsDos w v l) (k : Below w.heap.size w w') : IsDos w' v l := by
  obtain ⟨ao, cap, rfl, h1, h2, h3⟩ := h
  refine ⟨ao, cap, rfl, h1, h2, ?_⟩
  rcases h3 with h | ⟨b, off, rfl, h⟩
  · exact .inl h
  · refine .inr ⟨b, off, rfl, fun i hi => ?_⟩
    obtain ⟨cs, c1, c2⟩ := h i hi
    exact ⟨cs, c1.below k, fun j hj => (k.cell (p := ⟨b, off + i * 5 + j, none⟩) (World.block_lt_of_cell? w _ (c2 j hj))).trans (c2 j hj)⟩

theorem chg_cells_of_trod {H : Type} {enc : TypeId × Value → H} {W : World} {fuel : Nat} {cs : List Value} {y : DataW H × List MemPlace} (hlen : cs.length = 3) (h : DataW.trod enc Tryz.prog W 0 (fun _ => true) true fuel 44 cs = some y) :
    ∃ (c : M.FC) (x : Value), cs = [.string ⟨c.nm.toArray⟩, x, .bool c.gone] ∧ IsB W x c.data ∧ (∀ n k, x = .slice none n k → k = 0) ∧ c.nm.length ≤ maxLen := by
  have cs1 : Tryz.prog.cellsOf 9 = 1 := by kernel_rfl
  have cb : Tryz.prog.cellsOf 42 = 1 := by kernel_rfl
  have cz : Tryz.prog.cellsOf 4 = 1 := by kernel_rfl
  obtain ⟨xs, k, _, _, _, hxl, hs⟩ := DataW.trod_struct Tryz.underlying44 h
  match xs, hxl, cs, hlen with
  | [y0, y1, y2], _, [v0, v1, v2], _ =>
    have g0 := hs 0 _ rfl
    have g1 := hs 1 _ rfl
    have g2 := hs 2 _ rfl
    simp [cs1, cb, cz] at g0 g1 g2
    obtain ⟨s, e0, _, hsz⟩ := DataW.trod_string Tryz.underlying9 g0
    obtain ⟨bs, ib, h0⟩ := isB_of_trod g1
    obtain ⟨b, e2, _⟩ := DataW.trod_bool Tryz.underlying4 g2
    simp at e0 e2
    subst e0 e2
    exact ⟨⟨s.data.toList, bs, b⟩, v1, rfl, ib, h0, hsz⟩

theorem fl_of_trod {H : Type} {enc : TypeId × Value → H} {W : World} {fuel : Nat} {v : Value} {y : DataW H × List MemPlace} (h : DataW.trod enc Tryz.prog W 0 (fun _ => true) true fuel 34 [v] = some y) :
    ∃ l xs, IsFL W v l xs := by
  rcases Deep.open_slice Tryz.underlying34 h with ⟨hcs, _⟩ | ⟨x, l, c, m, n, D, Pl, hcs, _, hl, hm, hmm, _, hx⟩
  · simp at hcs
    subst hcs
    exact ⟨[], [], none, 0, rfl, Nat.zero_le _, Nat.zero_le _, rfl, fun i hi => absurd hi (Nat.not_lt_zero i), .inl rfl⟩
  · simp at hcs
    subst hcs
    have hlm : l ≤ m := by rw [hmm]; split <;> omega
    have ce : Tryz.prog.cellsOf 44 = 3 := by kernel_rfl
    simp only [ce] at hx
    obtain ⟨b, off, spot⟩ := x
    by_cases h0 : l = 0
    · subst h0
      exact ⟨[], [], _, c, rfl, Nat.zero_le _, hm, rfl, fun i hi => absurd hi (Nat.not_lt_zero i), .inl rfl⟩
    · have hspot : spot = none := by
        obtain ⟨cs', h1, _⟩ := hx 0 (by omega)
        obtain ⟨_, hlen, hcell⟩ := World.cells?_some h1
        have q := hcell 0 (by omega)
        rw [List.getElem?_eq_getElem (show 0 < cs'.length by omega)] at q
        simpa [Addr.add] using World.cell?_spot q
      subst hspot
      have each : ∀ i, i < l → ∃ cx : M.FC × Value, (IsB W cx.2 cx.1.data ∧ (∀ n k, cx.2 = .slice none n k → k = 0) ∧ cx.1.nm.length ≤ maxLen) ∧ W.cell? ⟨b, off + i * 3, none⟩ = some (.string ⟨cx.1.nm.toArray⟩) ∧ W.cell? ⟨b, off + i * 3 + 1, none⟩ = some cx.2 ∧ W.cell? ⟨b, off + i * 3 + 2, none⟩ = some (.bool cx.1.gone) := by
        intro i hi
        obtain ⟨cs', h1, h2⟩ := hx i (by omega)
        obtain ⟨_, hlen, hcell⟩ := World.cells?_some h1
        obtain ⟨ch, x, rfl, g1, g2, g3⟩ := chg_cells_of_trod hlen h2
        have e0 := hcell 0 (by omega)
        have e1 := hcell 1 (by omega)
        have e2 := hcell 2 (by omega)
        rw [Addr.add_lit, Addr.add_lit] at e0 e1 e2
        exact ⟨(ch, x), ⟨g1, g2, g3⟩, e0, e1, e2⟩
      obtain ⟨f, hf'⟩ := Deep.choose_lt each
      have e1 : ∀ i, i < l → ((List.range l).map fun i => (f i).1).getD i default = (f i).1 := fun i hi => by simp [List.getD_eq_getElem?_getD, hi]
      have e2 : ∀ i, i < l → ((List.range l).map fun i => (f i).2).getD i undef = (f i).2 := fun i hi => by simp [List.getD_eq_getElem?_getD, hi]
      refine ⟨(List.range l).map fun i => (f i).1, (List.range l).map fun i => (f i).2, some ⟨b, off, none⟩, c, by simp, by simp; omega, hm, by simp, fun i hi => ?_, .inr ⟨b, off, rfl, fun i hi => ?_⟩⟩
      · have hi' : i < l := by simpa using hi
        rw [e1 i hi', e2 i hi']
        exact (hf' i hi').1
      · have hi' : i < l := by simpa using hi
        rw [e1 i hi', e2 i hi']
        exact (hf' i hi').2

theorem do_cells_of_trod {H : Type} {enc : TypeId × Value → H} {W : World} {fuel : Nat} {cs : List Value} {y : DataW H × List MemPlace} (hlen : cs.length = 5) (h : DataW.trod enc Tryz.prog W 0 (fun _ => true) true fuel 37 cs = some y) :
    ∃ t, DoCells W cs t := by
  have ci : Tryz.prog.cellsOf 3 = 1 := by kernel_rfl
  have ck : Tryz.prog.cellsOf 34 = 1 := by kernel_rfl
  have cb : Tryz.prog.cellsOf 9 = 1 := by kernel_rfl
  have cz : Tryz.prog.cellsOf 35 = 1 := by kernel_rfl
  obtain ⟨xs, k, _, _, _, hxl, hs⟩ := DataW.trod_struct Tryz.underlying37 h
  match xs, hxl, cs, hlen with
  | [y0, y1, y2, y3, y4], _, [v0, v1, v2, v3, v4], _ =>
    have g0 := hs 0 _ rfl
    have g1 := hs 1 _ rfl
    have g2 := hs 2 _ rfl
    have g3 := hs 3 _ rfl
    have g4 := hs 4 _ rfl
    simp [ci, ck, cb, cz] at g0 g1 g2 g3 g4
    obtain ⟨n0, rfl, w0⟩ := int_of_trod g0
    obtain ⟨l1, x1, i1⟩ := fl_of_trod g1
    obtain ⟨s, e2, _, hsz⟩ := DataW.trod_string Tryz.underlying9 g2
    obtain ⟨n3, rfl, w3⟩ := int_of_trod g3
    obtain ⟨k4, i4⟩ := z_of_trod g4
    simp at e2
    subst e2
    obtain ⟨lo, lc, e, il1⟩ := i1
    subst e
    obtain ⟨zo, zc, e, iz1⟩ := i4
    subst e
    have b0 := bounds_i64 w0
    have b3 := bounds_i64 w3
    have r0 : -9223372036854775808 ≤ n0 ∧ n0 < 9223372036854775808 := by omega
    have r3 : -9223372036854775808 ≤ n3 ∧ n3 < 9223372036854775808 := by omega
    exact ⟨⟨n0, l1, s.data.toList, n3, k4⟩, lo, lc, x1, zo, zc, rfl, ⟨lo, lc, rfl, il1⟩, ⟨zo, zc, rfl, iz1⟩, r0, r3, hsz⟩

theorem dos_of_trod {H : Type} {enc : TypeId × Value → H} {W : World} {base : Nat} {v : Value} {d : DataW H} {p : List MemPlace} (hv : Value.okWide Tryz.prog W .any base 22 v)
    (h : DataW.Trod enc Tryz.prog W 0 (fun _ => true) true 22 v d p) : ∃ l, IsDos W v l := by
  obtain ⟨a, len, cap, rfl⟩ := okWide_slice Tryz.underlying22 hv
  obtain ⟨fuel, hf⟩ := h
  rcases Deep.open_slice Tryz.underlying22 hf with ⟨hcs, _⟩ | ⟨x, l, c, m, n, D, Pl, hcs, _, hl, hm, hmm, _, hx⟩
  · simp [Value.cells] at hcs
    obtain ⟨rfl, rfl, rfl⟩ := hcs
    exact ⟨[], none, 0, rfl, Nat.zero_le _, Nat.zero_le _, .inl rfl⟩
  · simp [Value.cells] at hcs
    obtain ⟨rfl, rfl, rfl⟩ := hcs
    have hlm : len ≤ m := by rw [hmm]; split <;> omega
    have ce : Tryz.prog.cellsOf 37 = 5 := by kernel_rfl
    simp only [ce] at hx
    obtain ⟨b, off, spot⟩ := x
    by_cases h0 : len = 0
    · subst h0
      exact ⟨[], _, cap, rfl, Nat.zero_le _, hm, .inl rfl⟩
    · have hspot : spot = none := by
        obtain ⟨cs', h1, _⟩ := hx 0 (by omega)
        obtain ⟨_, hlen, hcell⟩ := World.cells?_some h1
        have q := hcell 0 (by omega)
        rw [List.getElem?_eq_getElem (show 0 < cs'.length by omega)] at q
        simpa [Addr.add] using World.cell?_spot q
      subst hspot
      have each : ∀ i, i < len → ∃ t cs, DoCells W cs t ∧ ∀ j, j < 5 → W.cell? ⟨b, off + i * 5 + j, none⟩ = some (cs.getD j undef) := by
        intro i hi
        obtain ⟨cs', h1, h2⟩ := hx i (by omega)
        obtain ⟨_, hlen, hcell⟩ := World.cells?_some h1
        obtain ⟨t, ht⟩ := do_cells_of_trod hlen h2
        refine ⟨t, cs', ht, fun j hj => ?_⟩
        have e := hcell j (by omega)
        rw [Addr.add_lit, Addr.add_lit] at e
        rw [List.getElem?_eq_getElem (by omega)] at e
        rw [List.getD_eq_getElem?_getD, List.getElem?_eq_getElem (by omega)]
        exact e
      obtain ⟨f, hf'⟩ := Deep.choose_lt each
      refine ⟨(List.range len).map f, some ⟨b, off, none⟩, cap, by simp, by simp; omega, hm, .inr ⟨b, off, rfl, fun i hi => ?_⟩⟩
      have hi' : i < len := by simpa using hi
      have e : ((List.range len).map f).getD i M.Do11.none = f i := by simp [List.getD_eq_getElem?_getD, hi']
      rw [e]
      exact hf' i hi'

end Go.Proofs.YtgmhfianpdhnmaaGreatDoor

namespace Go.Proofs.YtgmhfianpdhnmaaGreatDoor
open Go.RowKit Go.Maps
set_option linter.unusedVariables false
set_option maxRecDepth 100000

set_option maxHeartbeats 8000000 in
theorem small11_any (v : Value) (l : List M.Do11) (w : World) (hs : IsDos w v l) :
    Calls Tryz.prog 9 #[v] w fun e w' => e = .returned (.bool (M.smallDos l)) ∧ w' = w := by
  obtain ⟨ao, cap, rfl, hc1, hc2, hcell⟩ := hs
  obtain ⟨nn, hnn⟩ : ∃ n, n = l.length := ⟨_, rfl⟩
  rw [← hnn] at hc1 ⊢
  have HNN : Hid (l.length = nn) := hnn.symm
  have HL : Hid (nn ≤ maxLen) := Nat.le_trans hc1 hc2
  have HC := Lib.hid hcell
  clear hcell hc1 hc2 hnn
  go_enter Tryz.func9, Tryz.ntmps9
  go_wp2
  go_loopw [3] (fun v wr => ∃ k : Nat, v = .int .i64 (k : Int) ∧ Hid (k ≤ nn ∧ k ≤ 14 ∧ (l.take k).all M.Do11.small = true) ∧ wr = w)
    (fun v _ => 14 - numOf v)
  case atStart => exact ⟨0, rfl, ⟨Nat.zero_le _, Nat.zero_le _, by simp⟩, rfl⟩
  case round =>
    obtain ⟨k, rfl, hk, rfl⟩ := hrel
    by_cases hlt : k < nn
    · have b1 : (k : Int) < nn := by omega
      by_cases h6 : k < 14
      · have b2 : (k : Int) < 14 := by omega
        obtain ⟨b, off, rfl, hc⟩ := HC.out.resolve_left (fun e => by have := HNN.out; rw [e] at this; simp at this; omega)
        obtain ⟨cs, ⟨lo, lc, xs, ko, kc, ecs, hfl, _⟩, cc⟩ := hc k (by rw [HNN.out]; exact hlt)
        have c1 := cc 1 (by decide)
        have c2 := cc 2 (by decide)
        have c4 := cc 4 (by decide)
        obtain ⟨t, ht⟩ : ∃ t, t = l.getD k M.Do11.none := ⟨_, rfl⟩
        rw [← ht] at ecs hfl
        have CS := Lib.hid (rsmall_any hfl)
        obtain ⟨n1, hn1⟩ : ∃ n, n = t.list.length := ⟨_, rfl⟩
        obtain ⟨n2, hn2⟩ : ∃ n, n = t.keep.length := ⟨_, rfl⟩
        obtain ⟨n3, hn3⟩ : ∃ n, n = t.name.length := ⟨_, rfl⟩
        obtain ⟨s, hs⟩ : ∃ s : ByteArray, s = ⟨t.name.toArray⟩ := ⟨_, rfl⟩
        have hsz : s.size = n3 := by rw [hs, hn3]; rfl
        rw [ecs, ← hn1, ← hn2, ← hs] at c1 c2 c4
        rw [← hn1] at CS
        have c1 : wr.cell? ⟨b, off + k * 5 + 1, none⟩ = some (.slice lo n1 lc) := c1
        have c2 : wr.cell? ⟨b, off + k * 5 + 2, none⟩ = some (.string s) := c2
        have c4 : wr.cell? ⟨b, off + k * 5 + 4, none⟩ = some (.slice ko n2 kc) := c4
        have HS : Hid (t.small = (decide (M.SmallF t.list) && (decide (n2 ≤ 1000) && decide (n3 ≤ 1000)))) := by rw [Hid, M.Do11.small, hn2, hn3]
        have g1 : wrap64 ((k : Int) + 1) = ((k + 1 : Nat) : Int) := by unfold wrap64; omega
        have g2 : (0 : Int) ≤ (k : Int) := Int.natCast_nonneg k
        have g3 : ((k : Int)).toNat = k := Int.toNat_natCast k
        have HK := Lib.hid hlt
        have H6 := Lib.hid h6
        have HT := Lib.hid ht
        have HNO : Hid (t.small = false → M.smallDos l = false) := fun h => M.smallDos_no l k (by rw [HNN.out]; exact HK.out) H6.out (by rw [← HT.out]; exact h)
        clear hc hn1 hn2 hn3 hlt h6 cc ecs hfl hs ht
        by_cases s1 : M.SmallF t.list
        · rw [decide_eq_true s1] at CS HS
          by_cases s2 : n2 ≤ 1000
          · have t2 : ¬ (1000 : Int) < (n2 : Int) := by omega
            by_cases s3 : n3 ≤ 1000
            · have t3 : ¬ (1000 : Int) < (n3 : Int) := by omega
              have hS : Hid (k + 1 ≤ nn ∧ k + 1 ≤ 14 ∧ (l.take (k + 1)).all M.Do11.small = true) := by
                refine ⟨HK.out, H6.out, ?_⟩
                rw [M.smallDos_step l k (by rw [HNN.out]; exact HK.out), hk.out.2.2, ← HT.out, HS.out, decide_eq_true s2, decide_eq_true s3]; rfl
              clear hk s1 s2 s3
              go_wp2_with fail
              refine CS.out.mono ?_
              rintro e w' ⟨rfl, rfl⟩
              clear CS
              go_wp2
              go_roundw
              case rel => exact ⟨k + 1, rfl, hS, trivial⟩
              case measure =>
                have := H6.out
                show 14 - (((k + 1 : Nat) : Int)).toNat < 14 - ((k : Int)).toNat
                omega
            · have t3 : (1000 : Int) < (n3 : Int) := by omega
              have hS : Hid (M.smallDos l = false) := HNO.out (by rw [HS.out, decide_eq_false s3, Bool.and_false, Bool.and_false])
              clear hk s1 s2 s3
              go_wp2_with fail
              refine CS.out.mono ?_
              rintro e w' ⟨rfl, rfl⟩
              clear CS
              go_wp2
              go_ret
              exact ⟨by rw [hS.out]; rfl, rfl⟩
          · have t2 : (1000 : Int) < (n2 : Int) := by omega
            have hS : Hid (M.smallDos l = false) := HNO.out (by rw [HS.out, decide_eq_false s2, Bool.false_and, Bool.and_false])
            clear hk s1 s2
            go_wp2_with fail
            refine CS.out.mono ?_
            rintro e w' ⟨rfl, rfl⟩
            clear CS
            go_wp2
            go_ret
            exact ⟨by rw [hS.out]; rfl, rfl⟩
        · rw [decide_eq_false s1] at CS HS
          have hS : Hid (M.smallDos l = false) := HNO.out (by rw [HS.out, Bool.false_and])
          clear hk s1
          go_wp2_with fail
          refine CS.out.mono ?_
          rintro e w' ⟨rfl, rfl⟩
          clear CS
          go_wp2
          go_ret
          exact ⟨by rw [hS.out]; rfl, rfl⟩
      · have b2 : ¬ (k : Int) < 14 := by omega
        have hS : Hid (M.smallDos l = true) := by
          have e : k = 14 := by have := hk.out; omega
          rw [Hid, M.smallDos, ← e]; exact hk.out.2.2
        clear hk hlt h6
        go_wp2
        go_ret
        exact ⟨by rw [hS.out]; rfl, rfl⟩
    · have b1 : ¬ (k : Int) < nn := by omega
      have hS : Hid (M.smallDos l = true) := by
        have e : k = nn := by have := hk.out; omega
        have h := hk.out.2.2
        have hle := hk.out.2.1
        rw [Hid, M.smallDos, List.take_of_length_le (by rw [HNN.out, ← e]; exact hle)]
        rwa [List.take_of_length_le (by rw [HNN.out, ← e]; exact Nat.le_refl _)] at h
      clear hk hlt
      go_wp2
      go_ret
      exact ⟨by rw [hS.out]; rfl, rfl⟩

end Go.Proofs.YtgmhfianpdhnmaaGreatDoor

namespace Go.Proofs.YtgmhfianpdhnmaaGreatDoor
open Go.RowKit Go.Maps
set_option linter.unusedVariables false
set_option maxRecDepth 100000

namespace M
theorem atI_yes {F : Fs} {k : List UInt8} (h : hasF F k = true) : ¬ atI F k < 0 := by
  have : atF F k < F.length := by
    rw [atF, List.findIdx_lt_length]
    obtain ⟨q, hq, e⟩ := List.any_eq_true.1 h
    exact ⟨q, hq, e⟩
  rw [atI, if_pos this]
  omega

theorem atI_no {F : Fs} {k : List UInt8} (h : hasF F k = false) : atI F k = -1 := by
  rw [atI, if_neg]
  intro hlt
  rw [atF, List.findIdx_lt_length] at hlt
  obtain ⟨q, hq, e⟩ := hlt
  have : hasF F k = true := List.any_eq_true.2 ⟨q, hq, e⟩
  rw [h] at this
  cases this

theorem fdrop_len (F : Fs) (k : List UInt8) : (fdrop F k).length ≤ F.length := by
  rw [fdrop, List.length_append, List.length_take, List.length_drop]
  omega

theorem gone_apply (F : Fs) (nm : List UInt8) : fapply F [⟨nm, [], true⟩] = fdrop F nm := rfl

theorem small_data {l : FL} (h : SmallF l) : ∀ c ∈ l, c.data.length ≤ 1099511627776 := by
  intro c hc
  obtain ⟨i, hi, rfl⟩ := List.getElem_of_mem hc
  have := (h.2.1 i hi).2
  rw [List.getD_eq_getElem?_getD, List.getElem?_eq_getElem hi] at this
  have h2 : (l[i]).data.length ≤ 10000 := this
  omega
end M

/-- A file that is there may go. -/
theorem Fine.gone {w0 w : World} {g gf N : Nat} {F : M.Fs} {R : Nat → Prop} (f : Fine w0 w g gf N F R) (nm : List UInt8) (h : M.hasF F nm = true) : M.fcode N F [⟨nm, [], true⟩] = 0 := by
  have hfew := f.few
  obtain ⟨gw, s, t, f, on, _, rfl, _, rfl⟩ := f
  have h0 := h
  rw [M.filesB, M.hasF_img] at h
  obtain ⟨i, hi, e, _⟩ := M.find_img h
  have hn := on.ok.nm _ (M.getD_mem hi)
  rw [e] at hn
  refine M.fcode_ok ?_ ?_ ?_ ?_
  · simp only [M.NamesOk, List.mem_singleton, forall_eq, List.map_cons, List.map_nil, List.nodup_cons, List.not_mem_nil, not_false_eq_true, List.nodup_nil, and_true]
    exact hn
  · intro j hj
    have : j = 0 := by simpa using hj
    subst this
    show (true && !M.hasF (M.filesB s t) nm) = false
    rw [h0]
    rfl
  · rw [M.gone_apply]
    exact Nat.le_trans (M.fdrop_len _ _) hfew
  · rw [M.filesB, M.freeF_img on.ok (M.datB s) fun p hp => M.datB_len on hp]
    show (((M.blkN [⟨nm, [], true⟩] : Nat) : Int)) ≤ _
    have : M.blkN [⟨nm, [], true⟩] = 0 := by simp [M.blkN, M.blkS]
    rw [this]
    omega

/-- The document's files lie beside the code's. -/
structure Along (w0 w : World) (g gf gr N : Nat) (F : M.Fs) (R S : Nat → Prop) (v : Value) (xs : List Value) : Prop where
  fine : Fine w0 w g gf N F R
  at_ : RefAt11 w gr v ((N : Nat) : Int)
  fs : IsFs S w v F xs
  there : R gr
  sR : ∀ k, S k → R k
  ne : ¬ S gr

section
variable {w0 w w' w2 w3 : World} {g gf gr N : Nat} {F F2 : M.Fs} {R S : Nat → Prop} {v : Value} {xs : List Value}

theorem Along.below (b : Along w0 w g gf gr N F R S v xs) (k : Below w.heap.size w w') : Along w0 w' g gf gr N F (fun b => R b ∨ (w.heap.size ≤ b ∧ b < w'.heap.size)) S v xs :=
  ⟨b.fine.below k, b.at_.below k b.at_.lt, b.fs.below k, .inl b.there, fun k hk => .inl (b.sR k hk), b.ne⟩

theorem Along.see (b : Along w0 w g gf gr N F R S v xs) (k : Below w.heap.size w w') : Along w0 w' g gf gr N F R S v xs :=
  ⟨b.fine.see k, b.at_.below k b.at_.lt, b.fs.below k, b.there, b.sR, b.ne⟩

theorem Along.same (b : Along w0 w g gf gr N F R S v xs) : Calls Tryz.prog 12 #[.pointer (some ⟨gf, 0, none⟩), .pointer (some ⟨gr, 0, none⟩)] w fun e w' => e = .returned (.bool true) ∧ Below w.heap.size w w' :=
  b.fine.same b.at_ b.fs (by have := b.fine.few; omega) b.fine.data true (by simp)

/-- Behind a call of the code. -/
theorem Along.far {gf2 : Nat} (b : Along w0 w g gf gr N F R S v xs) (far : Far w0 R w w') (f : Fine w0 w' g gf2 N F R) : Along w0 w' g gf2 gr N F R S v xs :=
  ⟨f, far.blk b.at_ b.there, far.fs b.fs b.sR, b.there, b.sR, b.ne⟩

/-- Behind a commit of both. -/
theorem Along.next (b : Along w0 w g gf gr N F R S v xs) (f : Fine w0 w2 g gf N F2 R) (e : RefEnds S w2 gr ((N : Nat) : Int) F2 w3) : ∃ F R S v xs, Along w0 w3 g gf gr N F R S v xs := by
  obtain ⟨c, v, xs, ha, is⟩ := e
  have := (f.rlt gr b.there).2
  exact ⟨F2, _, _, v, xs, f.ref b.there c, ha, is, .inl b.there, fun k hk => hk.imp (b.sR k) id, fun h => h.elim b.ne fun h => by omega⟩

/-- The document's commit behind the code's. -/
theorem Along.rcommit (b : Along w0 w g gf gr N F R S v xs) (hN : N ≤ 400) (far : Far w0 R w w2) (f : Fine w0 w2 g gf N F2 R) (lv : Value) (l : M.FL) (ys : List Value) (hl : IsFL w2 lv l ys) (hll : l.length ≤ 100) (hld : ∀ c ∈ l, c.data.length ≤ 1099511627776) (r : Int) (hr : r = M.fcode N F l) (hF2 : F2 = if r = 0 then M.fapply F l else F) :
    Calls Tryz.prog 14 #[.pointer (some ⟨gr, 0, none⟩), lv] w2 fun e w' => e = .returned (.int .i64 r) ∧ RefEnds S w2 gr ((N : Nat) : Int) F2 w' :=
  rcommit11_any (far.blk b.at_ b.there) (far.fs b.fs b.sR) b.ne (fun j hj => (f.rlt j (b.sR j hj)).2) b.fine.few b.fine.data (by omega) lv l ys hl hll hld r hr F2 hF2
end

/-- The state between two steps. -/
def Plays (W wr : World) (g gf gr N : Nat) : Prop := ∃ F R S v xs, Along W wr g gf gr N F R S v xs

end Go.Proofs.YtgmhfianpdhnmaaGreatDoor

namespace Go.Proofs.YtgmhfianpdhnmaaGreatDoor
open Go.RowKit Go.Maps
set_option linter.unusedVariables false
set_option maxRecDepth 100000

namespace M
theorem fcode_ne {n : Int} {F : Fs} {l : FL} : fcode n F l ≠ 11 := by
  unfold fcode
  split
  · decide
  split
  · decide
  split
  · decide
  split
  · decide
  · decide

theorem fdrop_mem {F : Fs} {k : List UInt8} {q : Fil} (h : q ∈ fdrop F k) : q ∈ F := by
  rw [fdrop, List.mem_append] at h
  exact h.elim List.mem_of_mem_take List.mem_of_mem_drop

theorem fstep_bound {F : Fs} {c : FC} (n b : Nat) (h1 : F.length ≤ n) (h2 : ∀ q ∈ F, q.data.length ≤ b) (h3 : c.data.length ≤ b) : (fstep F c).length ≤ n + 1 ∧ ∀ q ∈ fstep F c, q.data.length ≤ b := by
  have hd := fdrop_len F c.nm
  rw [fstep]
  split
  · exact ⟨by omega, fun q hq => h2 q (fdrop_mem hq)⟩
  · constructor
    · rw [fput, List.length_append, List.length_cons, List.length_take, List.length_drop]
      omega
    · intro q hq
      rw [fput, List.mem_append, List.mem_cons] at hq
      rcases hq with hq | hq | hq
      · exact h2 q (fdrop_mem (List.mem_of_mem_take hq))
      · rw [hq]; exact h3
      · exact h2 q (fdrop_mem (List.mem_of_mem_drop hq))

theorem fapply_bound {l : FL} (b : Nat) : ∀ {F : Fs} (n : Nat), F.length ≤ n → (∀ q ∈ F, q.data.length ≤ b) → (∀ c ∈ l, c.data.length ≤ b) → (fapply F l).length ≤ n + l.length ∧ ∀ q ∈ fapply F l, q.data.length ≤ b := by
  induction l with
  | nil => exact fun n h1 h2 _ => ⟨h1, h2⟩
  | cons c l ih =>
    intro F n h1 h2 h3
    have h := fstep_bound (c := c) n b h1 h2 (h3 c List.mem_cons_self)
    have := ih (n + 1) h.1 h.2 fun c hc => h3 c (List.mem_cons_of_mem _ hc)
    refine ⟨?_, this.2⟩
    have e : (fapply (fstep F c) l).length ≤ n + 1 + l.length := this.1
    show (fapply (fstep F c) l).length ≤ n + (c :: l).length
    rw [List.length_cons]
    omega
end M

/-- Files whose disk is armed with k. -/
def Armed (w0 w : World) (g gf N : Nat) (F : M.Fs) (R : Nat → Prop) (k : Nat) : Prop :=
  ∃ gw s t, FSt w0 w g gw gf (M.lit s k) t false R ∧ M.On s t ∧ s.getD 0 [] = M.zero256 ∧ M.nbS s = N ∧ N ≤ 400 ∧ M.filesB s t = F

/-- Files whose power has gone within a commit. -/
def Cut (w0 w : World) (g gf N : Nat) (A B : M.Fs) (R : Nat → Prop) : Prop :=
  ∃ gw m t L, FSt w0 w g gw gf m t true R ∧ 74 < L ∧ m.safe.length = L ∧ min (L - 74) 2048 = N ∧ N ≤ 400 ∧
    ∀ kp y, y.length = L → (∀ b ∈ y, b.length = 256) → y.drop 42 = M.recs M.decJ (m.crash kp).safe → ∃ t, M.On y t ∧ (M.filesB y t = A ∨ M.filesB y t = B)

/-- The disk behind a crash: what opens has A or B. -/
def Crashed (w0 w : World) (g N : Nat) (A B : M.Fs) (R : Nat → Prop) : Prop :=
  ∃ s, DSt w0 w g ⟨s, [], 0, false⟩ R ∧ 74 < s.length ∧ min (s.length - 74) 2048 = N ∧ N ≤ 400 ∧
    ∀ y, y.length = s.length → (∀ b ∈ y, b.length = 256) → y.drop 42 = M.recs M.decJ s → y.getD 0 [] = M.zero256 → ∃ t, M.On y t ∧ (M.filesB y t = A ∨ M.filesB y t = B)

theorem M.nbS_min (s : List (List UInt8)) : M.nbS s = min (s.length - 74) 2048 := by unfold M.nbS; omega

theorem kept_len (w : List (Nat × List UInt8)) (k : List Bool) : ∀ (n : Nat) (s : List (List UInt8)), (M.kept s w k n).length = s.length := by
  intro n s
  exact M.kept_length ..

section
variable {w0 w : World} {g gf N k : Nat} {F A B : M.Fs} {R : Nat → Prop}

theorem Fine.arm (f : Fine w0 w g gf N F R) (n : Int) (hn : -9223372036854775808 ≤ n ∧ n < 9223372036854775808) :
    Calls Tryz.prog 19 #[.pointer (some ⟨g, 0, none⟩), .int .i64 n] w fun e w' => e = .returned (.tuple #[]) ∧ Far w0 R w w' ∧ Armed w0 w' g gf N F R n.toNat := by
  obtain ⟨gw, s, t, f, on, hz, hN, h4, hF⟩ := f
  refine (f.arm n hn).mono ?_
  rintro e w' ⟨he, fs, far⟩
  exact ⟨he, far, gw, s, t, fs, on, hz, hN, h4, hF⟩

theorem Armed.under (f : Armed w0 w g gf N F R k) : Below w0.heap.size w0 w := by
  obtain ⟨gw, s, t, f, _⟩ := f
  exact f.under

theorem Armed.commit (f : Armed w0 w g gf N F R k) (hL : Laid w0) (lv : Value) (l : M.FL) (xs : List Value) (hl : Keeps (fun j => ¬ R j ∧ w0.heap.size ≤ j) w (fun x => IsFL x lv l xs)) (hlen : l.length ≤ 10000) (hd : ∀ c ∈ l, c.data.length ≤ 1099511627776) (r : Int) (hr : r = M.fcode N F l) (G : M.Fs) (hG : G = if r = 0 then M.fapply F l else F) :
    Calls Tryz.prog 13 #[.pointer (some ⟨gf, 0, none⟩), lv] w fun e w' => Far w0 R w w' ∧
      ((e = .returned (.int .i64 r) ∧ ∃ k', Armed w0 w' g gf N G R k') ∨ (r = 0 ∧ e = .returned (.int .i64 11) ∧ Cut w0 w' g gf N F G R)) := by
  obtain ⟨gw, s, t, f, on, hz, rfl, hN, rfl⟩ := f
  have hc : r = M.fmay (M.nbS s) t l := by rw [hr, M.fmay_code on.ok (M.datB s) (fun p hp => M.datB_len on hp) l]; rfl
  by_cases h0 : M.fmay (M.nbS s) t l = 0
  · rw [hc, if_pos h0] at hG
    refine (f.commit_yes hL on lv l xs hl hlen hd h0).mono ?_
    rintro e w' ⟨he, far, hh⟩
    refine ⟨far, ?_⟩
    rcases M.commit_goes (k := k) on hz (by omega) h0 with ⟨s2, k', e2, hk, hl2, hz2, hon⟩ | ⟨m, e2, hk0, hdn, hsl, hwl, hall⟩
    · rw [e2] at he hh
      rcases hh with ⟨_, fs⟩ | ⟨h, _⟩
      · have ho := hon fs.okay.full
        exact .inl ⟨by rw [he, hc, h0], k', gw, s2, _, fs, ho.1, hz2, by rw [M.nbS, M.nbS, hl2], hN, ho.2.trans hG.symm⟩
      · exact absurd rfl h
    · rw [e2] at he hh
      rcases hh with ⟨h, _⟩ | ⟨_, fs⟩
      · exact absurd (show (11 : Int) = 0 from h) (by decide)
      · refine .inr ⟨by rw [hc, h0], he, gw, m, t, s.length, fs, on.big, hsl, (M.nbS_min s).symm, hN, fun kp y h1 h2 h3 => ?_⟩
        rcases hall kp y h1 h2 h3 with ⟨o, e⟩ | ⟨o, e⟩
        · exact ⟨_, o, .inl e⟩
        · exact ⟨_, o, .inr (e.trans hG.symm)⟩
  · rw [hc, if_neg h0] at hG
    refine (f.commit_no on lv l xs hl.now hlen hd h0).mono ?_
    rintro e w' ⟨he, k1⟩
    subst hG
    exact ⟨Far.of_below k1, .inl ⟨by rw [he, hc], k, gw, s, t, f.see k1, on, hz, rfl, hN, rfl⟩⟩

theorem Armed.crash (f : Armed w0 w g gf N F R k) (kv : Value) (kp : List Bool) (hk : IsZ w0 kv kp) :
    Calls Tryz.prog 17 #[.pointer (some ⟨g, 0, none⟩), kv] w fun e w' => e = .returned (.tuple #[]) ∧ Far w0 R w w' ∧ Crashed w0 w' g N F F R := by
  obtain ⟨gw, s, t, f, on, hz, hn, hN, hf⟩ := f
  refine (f.disk.crash kv kp hk).mono ?_
  rintro e w' ⟨he, d, far⟩
  refine ⟨he, far, s, d, on.big, by rw [← M.nbS_min]; exact hn, hN, fun y h1 h2 h3 h4 => ?_⟩
  have ho := M.open_on on hz h1 h2 h3
  exact ⟨t, ho.1, .inl (ho.2.trans hf)⟩

theorem Cut.down (f : Cut w0 w g gf N A B R) (lv : Value) :
    Calls Tryz.prog 13 #[.pointer (some ⟨gf, 0, none⟩), lv] w fun e w' => e = .returned (.int .i64 11) ∧ w' = w := by
  obtain ⟨gw, m, t, L, f, _⟩ := f
  exact f.commit_down lv

theorem Cut.down2 (f : Cut w0 w g gf N A B R) (lv : Value) :
    Calls Tryz.prog 15 #[.pointer (some ⟨gf, 0, none⟩), lv] w fun e w' => e = .returned (.int .i64 11) ∧ w' = w := by
  obtain ⟨gw, m, t, L, f, _⟩ := f
  exact f.erase_down lv

theorem Cut.crash (f : Cut w0 w g gf N A B R) (kv : Value) (kp : List Bool) (hk : IsZ w0 kv kp) :
    Calls Tryz.prog 17 #[.pointer (some ⟨g, 0, none⟩), kv] w fun e w' => e = .returned (.tuple #[]) ∧ Far w0 R w w' ∧ Crashed w0 w' g N A B R := by
  obtain ⟨gw, m, t, L, f, h74, hsl, hn, hN, hall⟩ := f
  refine (f.disk.crash kv kp hk).mono ?_
  rintro e w' ⟨he, d, far⟩
  have hl : (m.crash kp).safe.length = L := (kept_len _ _ _ _).trans hsl
  exact ⟨he, far, (m.crash kp).safe, d, by omega, by rw [hl]; exact hn, hN, fun y h1 h2 h3 _ => hall kp y (h1.trans hl) h2 h3⟩

theorem Crashed.open_ (c : Crashed w0 w g N A B R) (hL : Laid w0) :
    Calls Tryz.prog 11 #[.pointer (some ⟨g, 0, none⟩)] w fun e w' => Far w0 R w w' ∧ ∃ gf G, e = .returned (.pointer (some ⟨gf, 0, none⟩)) ∧ (G = A ∨ G = B) ∧ Fine w0 w' g gf N G R := by
  obtain ⟨s, d, h74, hn, hN, hall⟩ := c
  refine (open11_any d hL h74 (by decide)).mono ?_
  rintro e w' ⟨far, s2, ⟨hl, hfu, hd, hz2⟩, hh⟩
  obtain ⟨t, on, hf⟩ := hall s2 hl hfu hd hz2
  rcases hh with ⟨t2, gw, gf, on2, he, fs⟩ | ⟨hno, _⟩
  · have : t2 = t := M.told_inj on2.ok on.ok (on2.told.trans on.told.symm)
    subst this
    exact ⟨far, gf, _, he, hf, gw, s2, t2, fs, on2, hz2, by rw [M.nbS_min, hl]; exact hn, hN, rfl⟩
  · exact absurd on (hno t)

end

/-- The document's files lie in blocks that no call of the code turns. -/
def RefIn (w : World) (gr N : Nat) (F : M.Fs) (R : Nat → Prop) : Prop := R gr ∧ ∃ S v xs, RefAt11 w gr v ((N : Nat) : Int) ∧ IsFs S w v F xs ∧ (∀ k, S k → R k) ∧ ¬ S gr

section
variable {w0 w w' : World} {g gf gr gn N : Nat} {F F2 G : M.Fs} {R R' : Nat → Prop}

theorem RefIn.far (h : RefIn w gr N F R) (far : Far w0 R w w') : RefIn w' gr N F R := by
  obtain ⟨hr, S, v, xs, a, i, s, n⟩ := h
  exact ⟨hr, S, v, xs, far.blk a hr, far.fs i s, s, n⟩

theorem RefIn.more (h : RefIn w gr N F R) (hR : ∀ k, R k → R' k) : RefIn w gr N F R' := by
  obtain ⟨hr, S, v, xs, a, i, s, n⟩ := h
  exact ⟨hR _ hr, S, v, xs, a, i, fun k hk => hR k (s k hk), n⟩

theorem RefIn.plays (h : RefIn w gr N F R) (f : Fine w0 w g gf N F R) : Plays w0 w g gf gr N := by
  obtain ⟨hr, S, v, xs, a, i, s, n⟩ := h
  exact ⟨F, R, S, v, xs, f, a, i, hr, s, n⟩

theorem RefIn.same (h : RefIn w gr N F R) (f : Fine w0 w g gf N G R) (hlen : F.length ≤ 1000) (hd : ∀ q ∈ F, q.data.length ≤ 1099511627776) (b : Bool) (hb : b = decide (G = F)) :
    Calls Tryz.prog 12 #[.pointer (some ⟨gf, 0, none⟩), .pointer (some ⟨gr, 0, none⟩)] w fun e w' => e = .returned (.bool b) ∧ Below w.heap.size w w' := by
  obtain ⟨hr, S, v, xs, a, i, s, n⟩ := h
  exact f.same a i hlen hd b hb

/-- A copy of the document's files. -/
theorem Along.copy {S : Nat → Prop} {v : Value} {xs : List Value} (b : Along w0 w g gf gr N F R S v xs) :
    Calls Tryz.prog 18 #[.pointer (some ⟨gr, 0, none⟩)] w fun e w' => ∃ gn R', e = .returned (.pointer (some ⟨gn, 0, none⟩)) ∧ Below w.heap.size w w' ∧ w.heap.size ≤ gn ∧ gr ≠ gn ∧ Fine w0 w' g gf N F R' ∧ RefIn w' gr N F R' ∧ RefIn w' gn N F R' ∧ (∀ k, R k → R' k) ∧
      ∃ S v xs, RefAt11 w' gr v ((N : Nat) : Int) ∧ IsFs S w' v F xs ∧ (∀ k, S k → R' k) ∧ ¬ S gr ∧ ¬ S gn := by
  refine (rcopy_any b.at_ b.fs (by have := b.fine.few; omega)).mono ?_
  rintro e w' ⟨gn, v', xs', he, hge, a, i, k⟩
  have hrl := b.fine.rlt
  have hg := (hrl gr b.there).2
  have hl := a.lt
  have hS : ∀ j, S j → j < w.heap.size := fun j hj => (hrl j (b.sR j hj)).2
  have B := b.below k
  refine ⟨gn, _, he, k, hge, by omega, B.fine, ⟨B.there, S, v, xs, B.at_, B.fs, B.sR, B.ne⟩, ⟨.inr ⟨hge, hl⟩, _, v', xs', a, i, fun j hj => ?_, fun h => ?_⟩, fun j hj => .inl hj, S, v, xs, B.at_, B.fs, B.sR, B.ne, fun h => by have := hS gn h; omega⟩
  · rcases hj with hj | hj
    · exact .inl (b.sR j hj)
    · exact .inr ⟨hj.1, hj.2.1⟩
  · rcases h with h | h
    · have := hS gn h
      omega
    · exact h.2.2 rfl

/-- The copy's commit. -/
theorem copy_commit (f : Fine w0 w g gf N F R) (ho : RefIn w gr N F R) (hn : RefIn w gn N F R) (hne : gr ≠ gn) (lv : Value) (l : M.FL) (ys : List Value) (hl : IsFL w lv l ys) (hll : l.length ≤ 100) (hld : ∀ c ∈ l, c.data.length ≤ 1099511627776) (r : Int) (hr : r = M.fcode N F l) (hF2 : F2 = if r = 0 then M.fapply F l else F)
    (hfr : ∃ S v xs, RefAt11 w gr v ((N : Nat) : Int) ∧ IsFs S w v F xs ∧ (∀ k, S k → R k) ∧ ¬ S gr ∧ ¬ S gn) :
    Calls Tryz.prog 14 #[.pointer (some ⟨gn, 0, none⟩), lv] w fun e w' => e = .returned (.int .i64 r) ∧ Chg (fun b => b = gn) w w' ∧ ∃ R', Fine w0 w' g gf N F R' ∧ RefIn w' gr N F R' ∧ RefIn w' gn N F2 R' ∧ ∀ k, R k → R' k := by
  obtain ⟨hr1, S, v, xs, a, i, s, n⟩ := hn
  obtain ⟨S1, v1, xs1, a1, i1, s1, n1, m1⟩ := hfr
  have hN : N ≤ 400 := by obtain ⟨_, _, _, _, _, _, _, h, _⟩ := f; exact h
  refine (rcommit11_any a i n (fun j hj => (f.rlt j (s j hj)).2) f.few f.data (by omega) lv l ys hl hll hld r hr F2 hF2).mono ?_
  rintro e w' ⟨he, c, v2, xs2, a2, i2⟩
  refine ⟨he, c, _, f.ref hr1 c, ⟨.inl ho.1, S1, v1, xs1, a1.chg c hne, i1.chg c (fun k hk e => m1 (e ▸ hk)), fun k hk => .inl (s1 k hk), n1⟩, ⟨.inl hr1, _, v2, xs2, a2, i2, fun k hk => hk.imp (s k) id, fun h => ?_⟩, fun k hk => .inl hk⟩
  rcases h with h | h
  · exact n h
  · have := (f.rlt gn hr1).2
    omega
end

end Go.Proofs.YtgmhfianpdhnmaaGreatDoor
