/-
  PLAIN MATHEMATICS OF FILES: names in their order (bytesBefore, Go's order of strings), tables of where files lie, which blocks are free. Nothing of the program. Conditions: none.
  THE LIBRARY'S CONTRACTS AT THIS TRANSLATION'S NUMBERS: tables of numbers, each field a fact of the translation's own or the kernel's comparison. Conditions: none.
  SLICES OF INTS: the call's own or come in; one or more ints appended; made. Conditions: none.
-/
import Derived.Test.YtphcbpfpelonaaaGreatDoorPf3
import Derived.Sort.KeysCollected
import Derived.Maps.OwnSet
import Derived.Maps.Ext
import Derived.Shelf.SlGeneric
import Derived.Shelf.SlIter.Nil
import Derived.Shelf.SlIter.Sorted
import Derived.Shelf.SortM.Plain
import Derived.Shelf.SortM.SortNone
import Derived.Shelf.SlMaps.Clone
import Derived.Shelf.SlicesE.Clone
import Derived.Test.YtphcbpfpelonaaaGreatDoorChecked
import Derived.Test.YtphcbpfpelonaaaGreatDoorPf2
import Derived.Deep.RegionLaw

namespace Go.Proofs.YtphcbpfpelonaaaGreatDoor.M
set_option linter.unusedVariables false

/-- How many blocks so many bytes need. -/
def need (n : Nat) : Nat := (n + 255) / 256

/-- Where a file lies: its name, how many bytes, in which blocks. -/
structure Pl where
  nm : List UInt8
  sz : Nat
  bs : List Nat
abbrev Tab := List Pl
instance : Inhabited Pl := ⟨⟨[], 0, []⟩⟩

/-- Names rise. -/
def Rising (t : Tab) : Prop := t.Pairwise fun p q => bytesBefore p.nm q.nm = true

/-- A table as it must be, on a disk of n blocks for bytes. -/
structure TabOk (n : Nat) (t : Tab) : Prop where
  rise : Rising t
  few : t.length ≤ 64
  nm : ∀ p ∈ t, 1 ≤ p.nm.length ∧ p.nm.length ≤ 40
  len : ∀ p ∈ t, p.bs.length = need p.sz
  lt : ∀ p ∈ t, ∀ b ∈ p.bs, b < n
  up : ∀ p ∈ t, p.bs.Pairwise (· < ·)
  apart : t.Pairwise fun p q => ∀ b ∈ p.bs, b ∉ q.bs
  n : n ≤ 2048

/-- Which blocks files take. -/
def takes (t : Tab) (b : Nat) : Bool := t.any fun p => p.bs.contains b

/-- The free blocks, from the least on. -/
def free (n : Nat) (t : Tab) : List Nat := (List.range n).filter fun b => !takes t b

theorem before_iff : ∀ (a b : List UInt8), bytesBefore a b = true ↔ a < b
  | [], [] => by simp [bytesBefore]
  | [], _ :: _ => by simp [bytesBefore]
  | _ :: _, [] => by simp [bytesBefore]
  | x :: a, y :: b => by
    rw [bytesBefore, List.cons_lt_cons_iff, ← before_iff a b]
    simp

theorem leB_iff (a b : List UInt8) : leB a b = true ↔ bytesBefore b a = false := by
  rw [leB, decide_eq_true_eq, ← Bool.not_eq_true, before_iff]
  exact ⟨fun h => by simpa using h, fun h => by simpa using h⟩

theorem rising_le {t : Tab} (h : Rising t) : (t.map Pl.nm).Pairwise fun a b => leB a b = true := by
  rw [List.pairwise_map]
  refine h.imp fun {p q} hpq => ?_
  rw [leB_iff]
  cases hx : bytesBefore q.nm p.nm with
  | false => rfl
  | true =>
    have := WideShapes.bytes_trans _ _ _ hpq hx
    rw [WideAt.bytes_irrefl] at this
    cases this

/-- Sorted again they are as they were. -/
theorem sort_names {t : Tab} (h : Rising t) {ss : List (List UInt8)} (hp : ss.Perm (t.map Pl.nm)) : ss.mergeSort leB = t.map Pl.nm := by
  rw [mergeSort_of_perm hp]
  exact List.mergeSort_of_pairwise (rising_le h)

theorem rising_ne {t : Tab} (h : Rising t) : (t.map Pl.nm).Pairwise fun a b => a ≠ b := by
  rw [List.pairwise_map]
  refine h.imp fun {p q} hpq e => ?_
  rw [e, WideAt.bytes_irrefl] at hpq
  cases hpq

theorem free_lt {n : Nat} {t : Tab} {b : Nat} (h : b ∈ free n t) : b < n ∧ takes t b = false := by
  rw [free, List.mem_filter, List.mem_range] at h
  exact ⟨h.1, by simpa using h.2⟩

theorem free_up (n : Nat) (t : Tab) : (free n t).Pairwise (· < ·) := List.Pairwise.filter _ List.pairwise_lt_range

theorem free_le (n : Nat) (t : Tab) : (free n t).length ≤ n := Nat.le_trans (List.length_filter_le _ _) (by rw [List.length_range]; exact Nat.le_refl _)

theorem up_le : ∀ {l : List Nat} {n : Nat}, l.Pairwise (· < ·) → (∀ b ∈ l, b < n) → l.length ≤ n
  | [], _, _, _ => Nat.zero_le _
  | l, 0, _, h => by
    cases l with
    | nil => exact Nat.zero_le _
    | cons b _ => exact absurd (h b (List.mem_cons_self ..)) (by omega)
  | b :: r, n + 1, hp, h => by
    obtain ⟨h1, h2⟩ := List.pairwise_cons.1 hp
    have hr : (r.map (· - 1)).Pairwise (· < ·) := by
      rw [List.pairwise_map]
      refine List.Pairwise.imp_of_mem ?_ h2
      intro x y hx hy hxy
      have := h1 x hx
      omega
    have := up_le (l := r.map (· - 1)) (n := n) hr (fun y hy => by
      obtain ⟨x, hx, rfl⟩ := List.mem_map.1 hy
      have := h1 x hx
      have := h x (List.mem_cons_of_mem _ hx)
      omega)
    rw [List.length_map] at this
    rw [List.length_cons]
    omega
  termination_by l => l.length

theorem need_le (a b : Nat) (h : a ≤ 256 * b) : need a ≤ b := by rw [need]; omega

end Go.Proofs.YtphcbpfpelonaaaGreatDoor.M

namespace Go.Proofs.YtphcbpfpelonaaaGreatDoor
open Go.Shelf Go.Proofs

def lay_keysA_ren : Go.Shelf.Ren := ⟨fun | 7 => 66 | 10 => 93 | n => n, fun | 23 => 68 | 26 => 9 | 3 => 110 | 28 => 94 | 0 => 0 | 27 => 93 | 33 => 103 | 4 => 4 | n => n, fun | n => n⟩

theorem lay_keysA : Go.Proofs.SlLaysZ.n7 Tryz.prog lay_keysA_ren := {
  mixed := by kernel_rfl
  f7 := ⟨Tryz.f66.name, by decide, Tryz.func66.trans (congrArg some (by kernel_rfl))⟩
  f10 := ⟨Tryz.f93.name, by decide, Tryz.func93.trans (congrArg some (by kernel_rfl))⟩
  t0 := Tryz.underlying0
  a0 := Tryz.isAgg0
  z0 := Tryz.sizeOf0
  v0 := Tryz.zeroValue0
  t4 := Tryz.underlying4
  a4 := Tryz.isAgg4
  z4 := Tryz.sizeOf4
  v4 := Tryz.zeroValue4
  t23 := Tryz.underlying68
  a23 := Tryz.isAgg68
  z23 := Tryz.sizeOf68
  v23 := Tryz.zeroValue68
  t26 := Tryz.underlying9
  a26 := Tryz.isAgg9
  z26 := Tryz.sizeOf9
  v26 := Tryz.zeroValue9
  t27 := Tryz.underlying93
  a27 := Tryz.isAgg93
  z27 := Tryz.sizeOf93
  v27 := Tryz.zeroValue93
  t28 := Tryz.underlying94
  a28 := Tryz.isAgg94
  z28 := Tryz.sizeOf94
  v28 := Tryz.zeroValue94
  t33 := Tryz.underlying103
  a33 := Tryz.isAgg103
  z33 := Tryz.sizeOf103
  v33 := Tryz.zeroValue103 }

def lay_sortedA_ren : Go.Shelf.Ren := ⟨fun | 6 => 43 | 8 => 68 | 9 => 69 | 11 => 94 | 13 => 96 | 12 => 95 | 23 => 118 | 24 => 119 | 14 => 109 | 15 => 110 | 16 => 111 | 17 => 112 | 18 => 113 | 19 => 114 | 20 => 115 | 21 => 116 | 22 => 117 | 25 => 128 | 26 => 129 | 27 => 130 | 28 => 131 | 29 => 132 | 30 => 133 | 31 => 138 | n => n, fun | 26 => 9 | 28 => 94 | 24 => 48 | 0 => 0 | 3 => 3 | 37 => 150 | 48 => 155 | 50 => 173 | 4 => 4 | 40 => 165 | 39 => 164 | 45 => 169 | 5 => 5 | 9 => 9 | 51 => 183 | 55 => 187 | 57 => 195 | 58 => 196 | 33 => 103 | n => n, fun | n => n⟩

theorem lay_sortedA : Go.Proofs.SlLaysZ.n6 Tryz.prog lay_sortedA_ren := {
  mixed := by kernel_rfl
  f6 := ⟨Tryz.f43.name, by decide, Tryz.func43.trans (congrArg some (by kernel_rfl))⟩
  f8 := ⟨Tryz.f68.name, by decide, Tryz.func68.trans (congrArg some (by kernel_rfl))⟩
  f11 := ⟨Tryz.f94.name, by decide, Tryz.func94.trans (congrArg some (by kernel_rfl))⟩
  t0 := Tryz.underlying0
  a0 := Tryz.isAgg0
  z0 := Tryz.sizeOf0
  v0 := Tryz.zeroValue0
  t24 := Tryz.underlying48
  a24 := Tryz.isAgg48
  z24 := Tryz.sizeOf48
  v24 := Tryz.zeroValue48
  t26 := Tryz.underlying9
  a26 := Tryz.isAgg9
  z26 := Tryz.sizeOf9
  v26 := Tryz.zeroValue9
  t28 := Tryz.underlying94
  a28 := Tryz.isAgg94
  z28 := Tryz.sizeOf94
  v28 := Tryz.zeroValue94
  i26 := by kernel_rfl }

def lay_sortA_ren : Go.Shelf.Ren := ⟨fun | 6 => 69 | 8 => 96 | 9 => 95 | 19 => 118 | 20 => 119 | 21 => 109 | 22 => 110 | 23 => 111 | 24 => 112 | 25 => 113 | 26 => 114 | 27 => 115 | 28 => 116 | 29 => 117 | 36 => 128 | 31 => 129 | 32 => 130 | 37 => 131 | 38 => 132 | 39 => 133 | 41 => 138 | n => n, fun | 27 => 48 | 29 => 9 | 3 => 3 | 32 => 150 | 26 => 48 | 0 => 0 | 44 => 155 | 46 => 173 | 4 => 4 | 36 => 165 | 35 => 164 | 41 => 169 | 5 => 5 | 9 => 9 | 53 => 183 | 57 => 187 | 63 => 195 | 64 => 196 | n => n, fun | n => n⟩

theorem lay_sortA : Go.Proofs.SlLaysM.n6 Tryz.prog lay_sortA_ren := {
  mixed := by kernel_rfl
  f6 := ⟨Tryz.f69.name, by decide, Tryz.func69.trans (congrArg some (by kernel_rfl))⟩
  f8 := Tryz.func96.trans (congrArg some (by kernel_rfl))
  f9 := ⟨Tryz.f95.name, by decide, Tryz.func95.trans (congrArg some (by kernel_rfl))⟩
  f19 := Tryz.func118.trans (congrArg some (by kernel_rfl))
  f20 := Tryz.func119.trans (congrArg some (by kernel_rfl))
  f21 := ⟨Tryz.f109.name, by decide, Tryz.func109.trans (congrArg some (by kernel_rfl))⟩
  f22 := ⟨Tryz.f110.name, by decide, Tryz.func110.trans (congrArg some (by kernel_rfl))⟩
  f23 := ⟨Tryz.f111.name, by decide, Tryz.func111.trans (congrArg some (by kernel_rfl))⟩
  f24 := ⟨Tryz.f112.name, by decide, Tryz.func112.trans (congrArg some (by kernel_rfl))⟩
  f25 := ⟨Tryz.f113.name, by decide, Tryz.func113.trans (congrArg some (by kernel_rfl))⟩
  f26 := ⟨Tryz.f114.name, by decide, Tryz.func114.trans (congrArg some (by kernel_rfl))⟩
  f27 := ⟨Tryz.f115.name, by decide, Tryz.func115.trans (congrArg some (by kernel_rfl))⟩
  f28 := ⟨Tryz.f116.name, by decide, Tryz.func116.trans (congrArg some (by kernel_rfl))⟩
  f29 := ⟨Tryz.f117.name, by decide, Tryz.func117.trans (congrArg some (by kernel_rfl))⟩
  f31 := Tryz.func129.trans (congrArg some (by kernel_rfl))
  f32 := Tryz.func130.trans (congrArg some (by kernel_rfl))
  f36 := ⟨Tryz.f128.name, by decide, Tryz.func128.trans (congrArg some (by kernel_rfl))⟩
  f37 := ⟨Tryz.f131.name, by decide, Tryz.func131.trans (congrArg some (by kernel_rfl))⟩
  f38 := ⟨Tryz.f132.name, by decide, Tryz.func132.trans (congrArg some (by kernel_rfl))⟩
  f39 := ⟨Tryz.f133.name, by decide, Tryz.func133.trans (congrArg some (by kernel_rfl))⟩
  f41 := ⟨Tryz.f138.name, by decide, Tryz.func138.trans (congrArg some (by kernel_rfl))⟩
  t0 := Tryz.underlying0
  a0 := Tryz.isAgg0
  z0 := Tryz.sizeOf0
  v0 := Tryz.zeroValue0
  t3 := Tryz.underlying3
  a3 := Tryz.isAgg3
  z3 := Tryz.sizeOf3
  v3 := Tryz.zeroValue3
  t4 := Tryz.underlying4
  a4 := Tryz.isAgg4
  z4 := Tryz.sizeOf4
  v4 := Tryz.zeroValue4
  t5 := Tryz.underlying5
  a5 := Tryz.isAgg5
  z5 := Tryz.sizeOf5
  v5 := Tryz.zeroValue5
  t9 := Tryz.underlying9
  a9 := Tryz.isAgg9
  z9 := Tryz.sizeOf9
  v9 := Tryz.zeroValue9
  t26 := Tryz.underlying48
  a26 := Tryz.isAgg48
  z26 := Tryz.sizeOf48
  v26 := Tryz.zeroValue48
  t27 := Tryz.underlying48
  a27 := Tryz.isAgg48
  z27 := Tryz.sizeOf48
  v27 := Tryz.zeroValue48
  t29 := Tryz.underlying9
  a29 := Tryz.isAgg9
  z29 := Tryz.sizeOf9
  v29 := Tryz.zeroValue9
  t32 := Tryz.underlying150
  a32 := Tryz.isAgg150
  z32 := Tryz.sizeOf150
  v32 := Tryz.zeroValue150
  t35 := Tryz.underlying164
  a35 := Tryz.isAgg164
  z35 := Tryz.sizeOf164
  v35 := Tryz.zeroValue164
  t36 := Tryz.underlying165
  a36 := Tryz.isAgg165
  z36 := Tryz.sizeOf165
  v36 := Tryz.zeroValue165
  t41 := Tryz.underlying169
  a41 := Tryz.isAgg169
  z41 := Tryz.sizeOf169
  v41 := Tryz.zeroValue169
  t44 := Tryz.underlying155
  a44 := Tryz.isAgg155
  z44 := Tryz.sizeOf155
  v44 := Tryz.zeroValue155
  t46 := Tryz.underlying173
  a46 := Tryz.isAgg173
  z46 := Tryz.sizeOf173
  v46 := Tryz.zeroValue173
  t53 := Tryz.underlying183
  a53 := Tryz.isAgg183
  z53 := Tryz.sizeOf183
  v53 := Tryz.zeroValue183
  t57 := Tryz.underlying187
  a57 := Tryz.isAgg187
  z57 := Tryz.sizeOf187
  v57 := Tryz.zeroValue187
  t63 := Tryz.underlying195
  a63 := Tryz.isAgg195
  z63 := Tryz.sizeOf195
  v63 := Tryz.zeroValue195
  t64 := Tryz.underlying196
  a64 := Tryz.isAgg196
  z64 := Tryz.sizeOf196
  v64 := Tryz.zeroValue196 }

def lay_mclone_ren : Go.Shelf.Ren := ⟨fun | 5 => 57 | 7 => 83 | n => n, fun | 23 => 68 | 25 => 9 | 3 => 110 | 4 => 4 | 20 => 20 | n => n, fun | n => n⟩

theorem lay_mclone : Go.Proofs.SlLaysW.n5 Tryz.prog lay_mclone_ren := {
  mixed := by kernel_rfl
  f5 := ⟨Tryz.f57.name, by decide, Tryz.func57.trans (congrArg some (by kernel_rfl))⟩
  f7 := Tryz.func83.trans (congrArg some (by kernel_rfl))
  t4 := Tryz.underlying4
  a4 := Tryz.isAgg4
  z4 := Tryz.sizeOf4
  v4 := Tryz.zeroValue4
  t20 := Tryz.underlying20
  a20 := Tryz.isAgg20
  z20 := Tryz.sizeOf20
  v20 := Tryz.zeroValue20
  t23 := Tryz.underlying68
  a23 := Tryz.isAgg68
  z23 := Tryz.sizeOf68
  v23 := Tryz.zeroValue68 }

end Go.Proofs.YtphcbpfpelonaaaGreatDoor

namespace Go.Proofs.YtphcbpfpelonaaaGreatDoor
open Go.RowKit
set_option linter.unusedVariables false

/-- An int as a cell. -/
def ci (x : Nat) : Value := .int .i64 (x : Int)

def ic (l : List Nat) : List Value := l.map ci

theorem ic_length (l : List Nat) : (ic l).length = l.length := by simp [ic]

theorem ic_append (a b : List Nat) : ic (a ++ b) = ic a ++ ic b := by simp [ic]

theorem ic_get (l : List Nat) (i : Nat) (h : i < l.length) : (ic l)[i]? = some (.int .i64 ((l.getD i 0 : Nat) : Int)) := by
  simp [ic, ci, h]

theorem ic_set (s : List Nat) (i : Nat) (x : Nat) : (ic s).set i (ci x) = ic (s.set i x) := by
  rw [ic, ic, List.map_set]

theorem ic_oneCell (l : List Nat) : ∀ u ∈ ic l, u.oneCell' = true := by
  intro u hu
  obtain ⟨_, _, rfl⟩ := List.mem_map.1 hu
  rfl

theorem ic_zero (n : Nat) : List.replicate n (Value.int .i64 0) = ic (List.replicate n 0) := by simp [ic, ci]

/-- The value is a slice of the words ws. -/
def IsI (w : World) (v : Value) (ws : List Nat) : Prop :=
  ∃ ao cap, v = .slice ao ws.length cap ∧ ws.length ≤ cap ∧ cap ≤ maxLen ∧ (ws = [] ∨ ∃ b off, ao = some ⟨b, off, none⟩ ∧ ∀ i, i < ws.length → w.cell? ⟨b, off + i, none⟩ = some (.int .i64 ((ws.getD i 0 : Nat) : Int)))

/-- The value is a slice of the words ws, a row of the call's own. -/
def OwnI (w : World) (B : Nat) (v : Value) (ws : List Nat) : Prop := w.ownsRow B 3 1 v ws.length (ic ws)

/-- The call hands back the words ws in memory of its own; what was there stands. -/
def MakesI (w : World) (ws : List Nat) (e : Ending) (w' : World) : Prop := ∃ r, e = .returned r ∧ OwnI w' w.heap.size r ws ∧ Below w.heap.size w w'

theorem OwnI.isI {w : World} {B : Nat} {v : Value} {ws : List Nat} (h : OwnI w B v ws) : IsI w v ws := by
  rcases h.2 with ⟨rfl, hn⟩ | ⟨g, cap, cur, rfl, hb, hg, hn, hm, hs, ht⟩
  · have : ws = [] := List.eq_nil_of_length_eq_zero hn
    subst this
    exact ⟨none, 0, rfl, Nat.le_refl _, Nat.zero_le _, .inl rfl⟩
  · refine ⟨_, cap, rfl, hn, hm, .inr ⟨g, 0, rfl, fun i hi => ?_⟩⟩
    have h' : w.ownsRow B 3 1 (.slice (some ⟨g, 0, none⟩) ws.length cap) ws.length (ic ws) := ⟨h.1, .inr ⟨g, cap, cur, rfl, hb, hg, hn, hm, hs, ht⟩⟩
    rw [Nat.zero_add, h'.cellAt i (by omega)]
    exact ic_get ws i hi

theorem OwnI.below {w w' : World} {B : Nat} {v : Value} {ws : List Nat} (h : OwnI w B v ws) (k : Below w.heap.size w w') : OwnI w' B v ws := by
  refine ⟨h.1, ?_⟩
  rcases h.2 with hn | ⟨g, cap, cur, rfl, hb, hg, rest⟩
  · exact .inl hn
  · refine .inr ⟨g, cap, cur, rfl, hb, ?_, rest⟩
    rw [k.block g (Array.getElem?_eq_some_iff.1 hg).1]
    exact hg

theorem OwnI.mono {w : World} {B B' : Nat} {v : Value} {ws : List Nat} (h : OwnI w B v ws) (hb : B' ≤ B) : OwnI w B' v ws := by
  refine ⟨h.1, ?_⟩
  rcases h.2 with hn | ⟨g, cap, cur, rfl, hg, rest⟩
  · exact .inl hn
  · exact .inr ⟨g, cap, cur, rfl, Nat.le_trans hb hg, rest⟩

theorem IsI.below {w w' : World} {v : Value} {ws : List Nat} (h : IsI w v ws) (k : Below w.heap.size w w') : IsI w' v ws := by
  obtain ⟨ao, cap, rfl, h1, h2, h3⟩ := h
  refine ⟨ao, cap, rfl, h1, h2, ?_⟩
  rcases h3 with h | ⟨b, off, rfl, h⟩
  · exact .inl h
  · refine .inr ⟨b, off, rfl, fun i hi => ?_⟩
    have hc := h i hi
    rw [k.cell (by exact World.block_lt_of_cell? w _ hc)]
    exact hc

/-- A slice of at least one word: where it lies. -/
theorem IsI.at_ {w : World} {v : Value} {ws : List Nat} (h : IsI w v ws) (hne : 0 < ws.length) :
    ∃ b off cap, v = .slice (some ⟨b, off, none⟩) ws.length cap ∧ ∀ i, i < ws.length → w.cell? ⟨b, off + i, none⟩ = some (.int .i64 ((ws.getD i 0 : Nat) : Int)) := by
  obtain ⟨ao, cap, rfl, h1, h2, h3⟩ := h
  rcases h3 with h | ⟨b, off, rfl, h⟩
  · subst h; simp at hne
  · exact ⟨b, off, cap, rfl, h⟩

theorem ownI_nil (w : World) (B : Nat) : OwnI w B (.slice none 0 0) [] := World.ownsRow_nil _ _ _ _

theorem ownI_lit (w : World) (B : Nat) (cs : Array Value) (ws : List Nat) (hB : B ≤ w.heap.size) (e : cs.toList = ic ws) (hm : ws.length ≤ maxLen) :
    OwnI (w.alloc (.cells cs 3)) B (.slice (some ⟨w.heap.size, 0, none⟩) ws.length ws.length) ws := by
  have hsz : cs.size = ws.length := by rw [← Array.length_toList, e, ic_length]
  refine ⟨by rw [ic_length, Nat.mul_one], .inr ⟨w.heap.size, ws.length, cs, rfl, hB, heap_alloc_new w _, Nat.le_refl _, hm, by rw [hsz, Nat.mul_one], ?_⟩⟩
  rw [e, List.take_of_length_le (by rw [ic_length, Nat.mul_one]; exact Nat.le_refl _)]

theorem Tryz.info47 : (Tryz.prog.info? 3).map (fun i => (i.zero, i.size, i.bytes)) = some (some (.int .i64 0), 1, 8) := by kernel_rfl

/-- 'append(ws, x)' as one step of a region that draws. -/
theorem step_appI {w : World} {ops : Array Oper} {o : Oper} {a : Act} {K : Act → World → Prop} {Q : Exit → Act → World → Prop} {E : Prop} (hg : o.guard = none) (s x : Operand)
    (ho : o.op = .call { callee := .builtin .append, args := #[s, x], argTypes := #[108, 108] })
    (B : Nat) (v : Value) (ws : List Nat) (hs : a.eval s = v) (hown : OwnI w B v ws) (g1 : Nat) (u : Nat) (hx : a.eval x = .slice (some ⟨g1, 0, none⟩) 1 1) (hc : w.cell? ⟨g1, 0, none⟩ = some (.int .i64 (u : Int)))
    (hlen : ws.length ≤ 1000000) (hB : B ≤ w.heap.size)
    (h : ∀ v' w', OwnI w' B v' (ws ++ [u]) → Below B w w' → K (a.put o.dst v') w') : if Region.wanted o (yielded ops a.tmps) = true then Oper.wp Tryz.prog o a w K Q else E := by
  obtain ⟨i0, h0, hz0, hz1, hz2⟩ := info_parts Tryz.info47
  have hw : Region.wanted o (yielded ops a.tmps) = true := by simp [Region.wanted, hg]
  rw [if_pos hw]
  refine wp_append_own w s x _ ho B 3 i0 (.int .i64 0) 1 8 Tryz.underlying108 h0 hz0 hz1 hz2 rfl (by decide) v ws.length _ hs hown ⟨g1, 0, none⟩ 1 1 [ci u] hx rfl (fun j y hj => ?_) (fun y hy => by simp at hy; subst hy; rfl) (by unfold maxLen; omega) (by omega) hB ?_
  · match j, hj with
    | 0, hj =>
      simp at hj
      subst hj
      simpa [Addr.add, ci] using hc
  · intro v' w' hown' hgrow _
    refine h v' w' ?_ ((Below.refl B w).grown hgrow hB fun k hk => (hown.lt k hk).1)
    rw [OwnI, List.length_append, ic_append]
    exact hown'

/-- .. in a plain region. -/
theorem wpList_appI (w : World) {ops : Array Oper} {rest : List Oper} {o : Oper} {a : Act} {Q : Exit → Act → World → Prop} (hg : o.guard = none) (s x : Operand)
    (ho : o.op = .call { callee := .builtin .append, args := #[s, x], argTypes := #[108, 108] })
    (B : Nat) (v : Value) (ws : List Nat) (hs : a.eval s = v) (hown : OwnI w B v ws) (g1 : Nat) (u : Nat) (hx : a.eval x = .slice (some ⟨g1, 0, none⟩) 1 1) (hc : w.cell? ⟨g1, 0, none⟩ = some (.int .i64 (u : Int)))
    (hlen : ws.length ≤ 1000000) (hB : B ≤ w.heap.size)
    (h : ∀ v' w', OwnI w' B v' (ws ++ [u]) → Below B w w' → wpList Tryz.prog ops Q rest (a.put o.dst v') w') : wpList Tryz.prog ops Q (o :: rest) a w := by
  refine wpList_plain hg fun K hK => ?_
  have := step_appI (ops := ops) (K := K) (Q := Q) (E := False) hg s x ho B v ws hs hown g1 u hx hc hlen hB (fun v' w' h1 h2 => hK _ _ (h v' w' h1 h2))
  rw [if_pos (by simp [Region.wanted, hg])] at this
  exact this

end Go.Proofs.YtphcbpfpelonaaaGreatDoor
