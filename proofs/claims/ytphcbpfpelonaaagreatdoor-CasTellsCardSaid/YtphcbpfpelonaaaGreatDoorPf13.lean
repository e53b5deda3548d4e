/-
  A TABLE OF FILES AS IT LIES: a map from names to places (IsTab); what a look-up finds; its names, in their order. Conditions: none.
  A TABLE OF FILES WRITTEN: a name put, a name gone; as plain lists, and as the map lies. Conditions: none.
-/
import Derived.Test.YtphcbpfpelonaaaGreatDoorPf5
import Derived.Test.YtphcbpfpelonaaaGreatDoorPf12
import Derived.Maps.OwnSet
import Derived.Maps.Ext
import Derived.Maps.RangeWalk

namespace Go.Proofs.YtphcbpfpelonaaaGreatDoor
open Go.RowKit Go.Maps
set_option linter.unusedVariables false
set_option maxRecDepth 100000

/-- How a place reads: as it is. -/
def placeR (v : Value) : Option (DataW Value × List MemPlace) :=
  match v with
  | .agg cs => match cs.toList with
    | [.int .i64 s, .slice a n c] => some (.held v, [])
    | _ => none
  | _ => none

theorem placeR_mk (s : Int) (a : Option Addr) (n c : Nat) : placeR (.agg #[.int .i64 s, .slice a n c]) = some (.held (.agg #[.int .i64 s, .slice a n c]), []) := rfl

theorem placeR_inv {v : Value} {y : DataW Value × List MemPlace} (h : placeR v = some y) : ∃ p : Int × Option Addr × Nat × Nat, v = .agg #[.int .i64 p.1, .slice p.2.1 p.2.2.1 p.2.2.2] ∧ y = (.held v, []) := by
  unfold placeR at h
  split at h
  · rename_i cs
    split at h
    · rename_i s a n c e
      injection h with h
      have : cs = #[.int .i64 s, .slice a n c] := by rw [← Array.toArray_toList (xs := cs), e]
      subst this
      exact ⟨(s, a, n, c), rfl, h.symm⟩
    · cases h
  · cases h

def plV (p : M.Pl) (v : Value) : Value := .agg #[.int .i64 (p.sz : Int), v]

def tabL (t : M.Tab) (vs : List Value) : List (Lit × DataW Value) := List.zipWith (fun p v => (Lit.string p.nm, DataW.held (plV p v))) t vs

/-- Block b is a map that reads as the table t, whose blocks' values are vs. -/
structure IsTabV (w : World) (b : Nat) (t : M.Tab) (vs : List Value) : Prop where
  len : vs.length = t.length
  map : w.ownsMap Tryz.prog 9 placeR b t.length (.map (tabL t vs))
  each : ∀ i, i < t.length → IsI w (vs.getD i undef) (t.getD i default).bs

def IsTab (w : World) (b : Nat) (t : M.Tab) : Prop := ∃ vs, IsTabV w b t vs

theorem keyed : Keyed Tryz.prog 9 := string_keyed Tryz.underlying9

/-- A name as a value. -/
theorem key_of (nm : List UInt8) (h : nm.length ≤ maxLen) : keyOf Tryz.prog 9 (.string ⟨nm.toArray⟩) = some (.string nm) := WideMaps.keyOf_string_mk Tryz.underlying9 (s := ⟨nm.toArray⟩) h

theorem tight {w : World} {b n : Nat} {D : DataW Value} (h : w.ownsMap Tryz.prog 9 placeR b n D) : w.ownsMap Tryz.prog 9 placeR b (Maps.size D) D := by
  obtain ⟨es, clock, hb, F, hs, hD⟩ := h
  refine ⟨es, clock, hb, F, ?_, hD⟩
  rw [hD, Maps.size, length_sorted]
  simp

theorem tabL_length {t : M.Tab} {vs : List Value} (h : vs.length = t.length) : (tabL t vs).length = t.length := by rw [tabL, List.length_zipWith, h, Nat.min_self]

theorem tabL_get {t : M.Tab} {vs : List Value} (h : vs.length = t.length) (i : Nat) (hi : i < (tabL t vs).length) : (tabL t vs)[i] = (.string (t.getD i default).nm, .held (plV (t.getD i default) (vs.getD i undef))) := by
  have h1 : i < t.length := by rwa [tabL_length h] at hi
  have h2 : i < vs.length := by omega
  simp [tabL, List.getD_eq_getElem?_getD, h1, h2]

theorem IsTabV.rise {w : World} {b : Nat} {t : M.Tab} {vs : List Value} (h : IsTabV w b t vs) : M.Rising t := by
  obtain ⟨es, he, hp, _⟩ := h.map.canon keyed
  injection he with he
  rw [M.Rising, List.pairwise_iff_getElem]
  intro i j hi hj hij
  rw [← he, List.pairwise_iff_getElem] at hp
  have hl := tabL_length h.len
  have := hp i j (by omega) (by omega) hij
  rw [tabL_get h.len, tabL_get h.len] at this
  simpa [Lit.before, List.getD_eq_getElem?_getD, hi, hj] using this

theorem IsTabV.lt {w : World} {b : Nat} {t : M.Tab} {vs : List Value} (h : IsTabV w b t vs) : b < w.heap.size := h.map.lt

theorem IsI.shape {w : World} {v : Value} {ws : List Nat} (h : IsI w v ws) : ∃ ao cap, v = .slice ao ws.length cap := by
  obtain ⟨ao, cap, rfl, _⟩ := h
  exact ⟨ao, cap, rfl⟩

theorem owns_below {w w' : World} {b n : Nat} {D : DataW Value} (h : w.ownsMap Tryz.prog 9 placeR b n D) (k : Below w.heap.size w w') : w'.ownsMap Tryz.prog 9 placeR b n D := by
  have hl := h.lt
  obtain ⟨es, clock, hb, F, hs, hD⟩ := h
  exact ⟨es, clock, (k.block b hl).trans hb, F, hs, hD⟩

theorem IsTabV.below {w w' : World} {b : Nat} {t : M.Tab} {vs : List Value} (h : IsTabV w b t vs) (k : Below w.heap.size w w') : IsTabV w' b t vs :=
  ⟨h.len, owns_below h.map k, fun i hi => (h.each i hi).below k⟩

theorem find_tab (k : List UInt8) : ∀ (t : M.Tab) (vs : List Value), vs.length = t.length → (∀ i, i < t.length → (t.getD i default).nm = k → ∀ j, j < i → (t.getD j default).nm ≠ k) → ∀ i, i < t.length → (t.getD i default).nm = k → (tabL t vs).find? (fun p => p.1.sameKey (.string k)) = some (.string k, .held (plV (t.getD i default) (vs.getD i undef)))
  | p :: t, v :: vs, hl, hd, i, hi, hk => by
    match i with
    | 0 =>
      have hk' : p.nm = k := hk
      simp [tabL, Lit.sameKey, hk']
    | i + 1 =>
      have h0 : p.nm ≠ k := hd (i + 1) hi hk 0 (by omega)
      have ih := find_tab k t vs (by simpa using hl) (fun a ha hka b hb => hd (a + 1) (by simpa using ha) hka (b + 1) (by omega)) i (by simpa using hi) hk
      rw [tabL] at ih ⊢
      rw [List.zipWith_cons_cons, List.find?_cons_of_neg (by simpa [Lit.sameKey] using h0), ih]
      rfl

theorem nodup_at {t : M.Tab} (h : M.Rising t) {i j : Nat} (hi : i < t.length) (hj : j < i) : (t.getD j default).nm ≠ (t.getD i default).nm := by
  have := M.rising_ne h
  rw [List.pairwise_map, List.pairwise_iff_getElem] at this
  have := this j i (by omega) hi hj
  simpa [List.getD_eq_getElem?_getD, hi, show j < t.length by omega] using this

theorem IsTabV.at {w : World} {b : Nat} {t : M.Tab} {vs : List Value} (h : IsTabV w b t vs) (i : Nat) (hi : i < t.length) (z : DataW Value) : (DataW.map (tabL t vs)).atKey (.string (t.getD i default).nm) z = .held (plV (t.getD i default) (vs.getD i undef)) := by
  have hr := h.rise
  rw [DataW.atKey, find_tab _ t vs h.len (fun a ha hka b hb e => nodup_at hr ha hb (e.trans hka.symm)) i hi rfl]

theorem has_tab (k : List UInt8) : ∀ (t : M.Tab) (vs : List Value), vs.length = t.length → Maps.has (.map (tabL t vs)) (.string k) = t.any fun p => p.nm == k
  | [], [], _ => rfl
  | p :: t, v :: vs, hl => by
    have ih := has_tab k t vs (by simpa using hl)
    rw [Maps.has_eq] at ih ⊢
    rw [tabL] at ih ⊢
    rw [List.zipWith_cons_cons, List.any_cons, List.any_cons, ih]
    rfl

/-- 'm[k]' of a name that is there. -/
theorem IsTabV.look {w : World} {b : Nat} {t : M.Tab} {vs : List Value} (h : IsTabV w b t vs) (h40 : ∀ p ∈ t, p.nm.length ≤ maxLen) (i : Nat) (hi : i < t.length) : (Instr.lookup 68 (.map (some b)) (.string ⟨(t.getD i default).nm.toArray⟩) false).run Tryz.prog w = .ok (plV (t.getD i default) (vs.getD i undef)) w := by
  have hm : t.getD i default ∈ t := by rw [List.getD_eq_getElem?_getD, List.getElem?_eq_getElem hi]; exact List.getElem_mem _
  obtain ⟨v, ps, hrun, hv⟩ := h.map.lookup keyed Tryz.underlying68 (Tryz.zeroValue110 w) (placeR_mk 0 none 0 0) (key_of _ (h40 _ hm))
  rw [h.at i hi] at hv
  obtain ⟨_, _, e⟩ := placeR_inv hv
  injection e with e _
  injection e with e
  rw [hrun, ← e]

/-- 'v, ok := m[k]'. -/
theorem IsTabV.look_ok {w : World} {b : Nat} {t : M.Tab} {vs : List Value} (h : IsTabV w b t vs) (k : List UInt8) (hk : k.length ≤ maxLen) : ∃ s a n c, (Instr.lookup 68 (.map (some b)) (.string ⟨k.toArray⟩) true).run Tryz.prog w = .ok (.tuple #[.agg #[.int .i64 s, .slice a n c], .bool (t.any fun p => p.nm == k)]) w ∧
    ∀ i, i < t.length → (t.getD i default).nm = k → Value.agg #[.int .i64 s, .slice a n c] = plV (t.getD i default) (vs.getD i undef) := by
  obtain ⟨v, ps, hrun, hv⟩ := h.map.look_ok keyed Tryz.underlying68 (Tryz.zeroValue110 w) (placeR_mk 0 none 0 0) (key_of k hk)
  obtain ⟨⟨s, a, n, c⟩, rfl, e⟩ := placeR_inv hv
  refine ⟨s, a, n, c, by rw [hrun, has_tab k t vs h.len], fun i hi hki => ?_⟩
  rw [← hki, h.at i hi] at e
  injection e with e _
  injection e with e
  exact e.symm

theorem IsTabV.lenM {w : World} {b : Nat} {t : M.Tab} {vs : List Value} (h : IsTabV w b t vs) (ty : TypeId) : (Builtin.len_ #[68] ty #[.map (some b)]).run Tryz.prog w = .ok (.int .i64 (t.length : Int)) w := by
  have := h.map.len (t := 68) Tryz.underlying68 ty
  rwa [Maps.size_eq, tabL_length h.len] at this

theorem strKeys_tab : ∀ (t : M.Tab) (vs : List Value), vs.length = t.length → strKeys (.map (tabL t vs)) = t.map M.Pl.nm
  | [], [], _ => rfl
  | p :: t, v :: vs, hl => by
    have ih := strKeys_tab t vs (by simpa using hl)
    rw [strKeys] at ih ⊢
    rw [tabL] at ih ⊢
    rw [List.zipWith_cons_cons, List.map_cons, List.map_cons, ih]
    rfl

/-- A row of texts of the call's own. -/
def OwnS (w : World) (B : Nat) (v : Value) (ss : List (List UInt8)) : Prop := w.ownsRow B 9 1 v ss.length (ss.map encStr)

theorem sortsA (m : Nat) : AnyZ.SortsIn Tryz.prog lay_sortedA_ren Fence.wide m :=
  ⟨fun blk off cap ss W hH hblk hsz => callsIn_wide.2 (AnyM.slices_Sort_string lay_sortA blk off cap ss W hH hblk hsz),
   fun p cap W => callsIn_wide.2 (AnyM.slices_Sort_string_none lay_sortA p cap W)⟩

set_option maxHeartbeats 1000000 in
theorem tnames_any {w : World} {b : Nat} {t : M.Tab} {vs : List Value} (h : IsTabV w b t vs) (h64 : t.length ≤ 1000) :
    Calls Tryz.prog 40 #[.map (some b)] w fun e w' => ∃ v, e = .returned v ∧ OwnS w' w.heap.size v (t.map M.Pl.nm) ∧ Below w.heap.size w w' := by
  have hr := h.rise
  have hk := strKeys_tab t vs h.len
  have hs : Maps.size (.map (tabL t vs)) = t.length := by rw [Maps.size_eq, tabL_length h.len]
  have hown := h.map
  refine (callsIn_wide (n := 6)).1 ?_
  have hbl := hown.lt
  have hmax : Maps.size (.map (tabL t vs)) ≤ maxLen := by rw [hs]; unfold maxLen; omega
  have hbytes : Maps.size (.map (tabL t vs)) * 16 ≤ 140737488355328 := by rw [hs]; omega
  have hseq : SeqGives Fence.wide 2 Tryz.prog 93 #[.pointer (some ⟨w.heap.size, 0, none⟩)] encStr (fun ss => ss.Perm (strKeys (.map (tabL t vs)))) (Maps.size (.map (tabL t vs))) (w.alloc (.cells #[.map (some b)] 68)) :=
    AnyZ.keys_gives (ρ := lay_keysA_ren) { lay_keysA with } Fence.wide _ trivial rfl (by omega) w.heap.size b t.length (.map (tabL t vs)) _ (by simp) (by simp) (by
      obtain ⟨es, clock, hb, Ft, hs, hD⟩ := hown
      exact ⟨es, clock, (Below.heap_alloc _ _ b hbl).trans hb, Ft, hs, hD⟩)
  have cK : ∀ mb W, CallsIn Fence.wide 5 Tryz.prog 66 #[.map mb] W fun e w' => e = .returned (.func (.func 93) #[] #[.pointer (some ⟨W.heap.size, 0, none⟩)]) ∧ w' = W.alloc (.cells #[.map mb] 68) := fun mb W => AnyZ.keys_in lay_keysA Fence.wide 5 trivial rfl mb W
  have cS := AnyZ.sorted_in lay_sortedA Fence.wide 5 trivial trivial trivial trivial rfl (by omega) (sortsA _) (enters_of Tryz.func69 (by kernel_rfl) rfl) 93 #[.pointer (some ⟨w.heap.size, 0, none⟩)] trivial (enters_of Tryz.func93 (by kernel_rfl) rfl) _ _ hmax hbytes _ hseq
  change CallsIn _ _ Tryz.prog 43 _ _ _ at cS
  have hfK : Fence.wide.fn 66 := trivial
  have hfS : Fence.wide.fn 43 := trivial
  refine callsIn_of_wp Tryz.func40 rfl trivial ?_ rfl
  simp only [Tryz.ntmps40, List.size_toArray, List.length_cons, List.length_nil, Nat.reduceAdd, Nat.reduceSub, Array.replicate_succ, Array.replicate_zero, List.push_toArray, List.append_toArray, List.nil_append, List.cons_append]
  gi_wp2_with (first
    | (gi_at_call 66; refine (cK _ _).mono ?_; rintro e w' ⟨rfl, rfl⟩)
    | (gi_at_call 43; refine cS.mono ?_; rintro e w' ⟨v, ss, rfl, hS, hrow, hnil, hb⟩))
  go_ret
  rw [hk] at hS
  have e1 := M.sort_names hr hS
  have e2 : ss.length = (t.map M.Pl.nm).length := hS.length_eq
  refine ⟨v, rfl, ?_, ((Below.refl _ w).alloc (Nat.le_refl _) _).trans (hb.mono (by simp))⟩
  have hrow' := ownsRow_base_a (base' := w.heap.size) hrow (by simp)
  rw [OwnS, ← e2, ← e1]
  exact hrow'

end Go.Proofs.YtphcbpfpelonaaaGreatDoor

namespace Go.Proofs.YtphcbpfpelonaaaGreatDoor
open Go.RowKit Go.Maps
set_option linter.unusedVariables false
set_option maxRecDepth 100000

namespace M
def ins (p : Pl) : Tab → Tab
  | [] => [p]
  | q :: r => if bytesBefore p.nm q.nm = true then p :: q :: r else q :: ins p r

/-- A name gone. -/
def tdel (t : Tab) (k : List UInt8) : Tab := t.filter fun q => !(q.nm == k)

/-- A name put. -/
def tput (t : Tab) (p : Pl) : Tab := ins p (tdel t p.nm)

theorem mem_ins (p q : Pl) : ∀ t : Tab, q ∈ ins p t ↔ q = p ∨ q ∈ t
  | [] => by simp [ins]
  | x :: r => by
    rw [ins]
    split
    · simp
    · rw [List.mem_cons, mem_ins p q r, List.mem_cons]
      constructor
      · rintro (h | h | h)
        · exact .inr (.inl h)
        · exact .inl h
        · exact .inr (.inr h)
      · rintro (h | h | h)
        · exact .inr (.inl h)
        · exact .inl h
        · exact .inr (.inr h)

theorem length_ins (p : Pl) : ∀ t : Tab, (ins p t).length = t.length + 1
  | [] => rfl
  | x :: r => by
    rw [ins]
    split
    · rfl
    · rw [List.length_cons, length_ins p r, List.length_cons]

theorem mem_tdel (t : Tab) (k : List UInt8) (q : Pl) : q ∈ tdel t k ↔ q ∈ t ∧ q.nm ≠ k := by
  rw [tdel, List.mem_filter]
  simp

theorem mem_tput (t : Tab) (p q : Pl) : q ∈ tput t p ↔ q = p ∨ (q ∈ t ∧ q.nm ≠ p.nm) := by rw [tput, mem_ins, mem_tdel]

theorem tdel_le (t : Tab) (k : List UInt8) : (tdel t k).length ≤ t.length := List.length_filter_le _ _

theorem tput_le (t : Tab) (p : Pl) : (tput t p).length ≤ t.length + 1 := by
  rw [tput, length_ins]
  have := tdel_le t p.nm
  omega

theorem rising_tdel {t : Tab} (h : Rising t) (k : List UInt8) : Rising (tdel t k) := List.Pairwise.filter _ h

theorem rising_ins {p : Pl} : ∀ {t : Tab}, Rising t → (∀ q ∈ t, q.nm ≠ p.nm) → Rising (ins p t)
  | [], _, _ => by simp [ins, Rising]
  | x :: r, h, hn => by
    obtain ⟨h1, h2⟩ := List.pairwise_cons.1 h
    rw [ins]
    split
    · rename_i hb
      refine List.pairwise_cons.2 ⟨fun q hq => ?_, h⟩
      rcases List.mem_cons.1 hq with rfl | hq
      · exact hb
      · exact WideShapes.bytes_trans _ _ _ hb (h1 q hq)
    · rename_i hb
      have hx : bytesBefore x.nm p.nm = true := by
        rcases WideAt.bytes_total p.nm x.nm (hn x (List.mem_cons_self ..)).symm with h | h
        · exact absurd h hb
        · exact h
      refine List.pairwise_cons.2 ⟨fun q hq => ?_, rising_ins h2 fun q hq => hn q (List.mem_cons_of_mem _ hq)⟩
      rcases (mem_ins p q r).1 hq with rfl | hq
      · exact hx
      · exact h1 q hq

theorem rising_tput {t : Tab} (h : Rising t) (p : Pl) : Rising (tput t p) := rising_ins (rising_tdel h _) fun q hq => ((mem_tdel t p.nm q).1 hq).2

/-- A name behind all that are there comes to the end. -/
theorem ins_end {p : Pl} : ∀ {t : Tab}, (∀ q ∈ t, bytesBefore q.nm p.nm = true) → ins p t = t ++ [p]
  | [], _ => rfl
  | x :: r, h => by
    have hx : ¬ bytesBefore p.nm x.nm = true := fun e => by
      have := WideShapes.bytes_trans _ _ _ e (h x (List.mem_cons_self ..))
      rw [WideAt.bytes_irrefl] at this
      cases this
    rw [ins, if_neg hx, ins_end fun q hq => h q (List.mem_cons_of_mem _ hq)]
    rfl

theorem tput_end {t : Tab} {p : Pl} (h : ∀ q ∈ t, bytesBefore q.nm p.nm = true) : tput t p = t ++ [p] := by
  have e : tdel t p.nm = t := List.filter_eq_self.2 fun q hq => by
    have hq' : q.nm ≠ p.nm := fun e => by
      have := h q hq
      rw [e, WideAt.bytes_irrefl] at this
      cases this
    simpa using hq'
  rw [tput, e, ins_end h]

/-- Put one behind another, names that rise are as they stand. -/
theorem puts_rising : ∀ (t : Tab) (s : Tab), Rising (s ++ t) → t.foldl tput s = s ++ t
  | [], s, _ => by simp
  | p :: r, s, h => by
    have hp : ∀ q ∈ s, bytesBefore q.nm p.nm = true := fun q hq => (List.pairwise_append.1 h).2.2 q hq p (List.mem_cons_self ..)
    rw [List.foldl_cons, tput_end hp]
    have e : s ++ p :: r = (s ++ [p]) ++ r := by simp
    rw [e] at h ⊢
    exact puts_rising r (s ++ [p]) h
end M

theorem tabL_ins (Q : M.Pl → Value → Prop) (p : M.Pl) (v : Value) (hq : Q p v) : ∀ (t : M.Tab) (vs : List Value), vs.length = t.length → (∀ i, i < t.length → Q (t.getD i default) (vs.getD i undef)) →
    ∃ vs', vs'.length = (M.ins p t).length ∧ DataW.insert (Lit.string p.nm, DataW.held (plV p v)) (tabL t vs) = tabL (M.ins p t) vs' ∧ ∀ i, i < (M.ins p t).length → Q ((M.ins p t).getD i default) (vs'.getD i undef)
  | [], [], _, _ => ⟨[v], rfl, rfl, fun i hi => by
      have : i = 0 := by rw [M.length_ins] at hi; simp at hi; exact hi
      subst this
      exact hq⟩
  | x :: t, y :: vs, hl, hQ => by
    by_cases hb : bytesBefore p.nm x.nm = true
    · refine ⟨v :: y :: vs, by rw [M.ins, if_pos hb]; simp at hl ⊢; exact hl, ?_, ?_⟩
      · rw [M.ins, if_pos hb]
        show DataW.insert _ ((Lit.string x.nm, DataW.held (plV x y)) :: tabL t vs) = _
        rw [DataW.insert, if_pos (by exact hb)]
        rfl
      · intro i hi
        rw [M.ins, if_pos hb] at hi ⊢
        match i with
        | 0 => exact hq
        | i + 1 => exact hQ i (by simpa using hi)
    · obtain ⟨vs', h1, h2, h3⟩ := tabL_ins Q p v hq t vs (by simpa using hl) fun i hi => hQ (i + 1) (by simpa using hi)
      refine ⟨y :: vs', by rw [M.ins, if_neg hb]; simp at h1 ⊢; exact h1, ?_, ?_⟩
      · rw [M.ins, if_neg hb]
        show DataW.insert _ ((Lit.string x.nm, DataW.held (plV x y)) :: tabL t vs) = (Lit.string x.nm, DataW.held (plV x y)) :: tabL (M.ins p t) vs'
        rw [DataW.insert, if_neg (by exact hb), h2]
      · intro i hi
        rw [M.ins, if_neg hb] at hi ⊢
        match i with
        | 0 => exact hQ 0 (by simp)
        | i + 1 => exact h3 i (by simpa using hi)

theorem tabL_del (Q : M.Pl → Value → Prop) (k : List UInt8) : ∀ (t : M.Tab) (vs : List Value), vs.length = t.length → (∀ i, i < t.length → Q (t.getD i default) (vs.getD i undef)) →
    ∃ vs', vs'.length = (M.tdel t k).length ∧ (tabL t vs).filter (ChangeMaps.notKey (Lit.string k)) = tabL (M.tdel t k) vs' ∧ ∀ i, i < (M.tdel t k).length → Q ((M.tdel t k).getD i default) (vs'.getD i undef)
  | [], [], _, _ => ⟨[], rfl, rfl, fun i hi => by cases hi⟩
  | x :: t, y :: vs, hl, hQ => by
    obtain ⟨vs', h1, h2, h3⟩ := tabL_del Q k t vs (by simpa using hl) fun i hi => hQ (i + 1) (by simpa using hi)
    have e0 : tabL (x :: t) (y :: vs) = (Lit.string x.nm, DataW.held (plV x y)) :: tabL t vs := rfl
    by_cases hb : x.nm = k
    · have e : M.tdel (x :: t) k = M.tdel t k := by rw [M.tdel, List.filter_cons_of_neg (by simp [hb])]; rfl
      refine ⟨vs', by rw [e]; exact h1, ?_, by rw [e]; exact h3⟩
      rw [e0, List.filter_cons_of_neg (by simp [ChangeMaps.notKey, Lit.sameKey, hb]), e, h2]
    · have e : M.tdel (x :: t) k = x :: M.tdel t k := by rw [M.tdel, List.filter_cons_of_pos (by simp [hb])]; rfl
      refine ⟨y :: vs', by rw [e, List.length_cons, List.length_cons, h1], ?_, ?_⟩
      · rw [e0, List.filter_cons_of_pos (by simp [ChangeMaps.notKey, Lit.sameKey, hb]), e, h2]
        rfl
      · intro i hi
        rw [e] at hi ⊢
        match i with
        | 0 => exact hQ 0 (by simp)
        | i + 1 => exact h3 i (by simpa using hi)

/-- What lies in cells stays while a map is written. -/
theorem IsI.turned {w w' : World} {b : Nat} {v : Value} {ws : List Nat} (h : IsI w v ws) (hb : ∃ es clock, w.heap[b]? = some (.map es clock)) (g : w.grownBy w' (some b)) : IsI w' v ws := by
  obtain ⟨ao, cap, rfl, h1, h2, h3⟩ := h
  refine ⟨ao, cap, rfl, h1, h2, ?_⟩
  rcases h3 with h | ⟨k, off, rfl, h⟩
  · exact .inl h
  · refine .inr ⟨k, off, rfl, fun i hi => ?_⟩
    have hc := h i hi
    have hne : some k ≠ some b := by
      intro e
      injection e with e
      subst e
      obtain ⟨es, clock, hb⟩ := hb
      simp [World.cell?, hb] at hc
    exact g.cell (a := ⟨k, off + i, none⟩) hc hne

theorem IsTabV.isMap {w : World} {b : Nat} {t : M.Tab} {vs : List Value} (h : IsTabV w b t vs) : ∃ es clock, w.heap[b]? = some (.map es clock) := by
  obtain ⟨es, clock, hb, _⟩ := h.map
  exact ⟨es, clock, hb⟩

theorem placeR_plV {w : World} {p : M.Pl} {v : Value} (h : IsI w v p.bs) : placeR (plV p v) = some (.held (plV p v), []) := by
  obtain ⟨ao, cap, rfl, _⟩ := h
  rfl

/-- 'm[k] = v'. -/
theorem IsTabV.store {w : World} {b : Nat} {t : M.Tab} {vs : List Value} (h : IsTabV w b t vs) (p : M.Pl) (v : Value) (hv : IsI w v p.bs) (hnm : p.nm.length ≤ maxLen) (hfew : t.length < 100000) :
    ∃ w' vs', (Instr.mapUpdate 68 (.map (some b)) (.string ⟨p.nm.toArray⟩) (plV p v)).run Tryz.prog w = .ok () w' ∧ IsTabV w' b (M.tput t p) vs' ∧ w.grownBy w' (some b) ∧ w'.heap.size = w.heap.size := by
  obtain ⟨w', hrun, ho, hm⟩ := h.map.store keyed Tryz.underlying68 (by unfold maxLen; omega) (key_of p.nm hnm) (placeR_plV hv)
  have hg := hm.grown
  rw [DataW.put_eq, ChangeMaps.putKey] at ho
  obtain ⟨v1, l1, e1, q1⟩ := tabL_del (fun p v => IsI w v p.bs) p.nm t vs h.len h.each
  obtain ⟨v2, l2, e2, q2⟩ := tabL_ins (fun p v => IsI w v p.bs) p v hv (M.tdel t p.nm) v1 l1 q1
  rw [e1, e2] at ho
  have ho2 := tight ho
  rw [Maps.size_eq, tabL_length l2] at ho2
  refine ⟨w', v2, hrun, ⟨l2, ho2, fun i hi => (q2 i hi).turned h.isMap hg⟩, hg, ?_⟩
  obtain ⟨es, clock, es', clock', hb, rfl⟩ := hm
  simp [ChangeMaps.setBlock]

/-- 'delete(m, k)'. -/
theorem IsTabV.drop {w : World} {b : Nat} {t : M.Tab} {vs : List Value} (h : IsTabV w b t vs) (k : List UInt8) (hk : k.length ≤ maxLen) (ty : TypeId) :
    ∃ w' vs', (Builtin.delete_ #[68, 9] ty #[.map (some b), .string ⟨k.toArray⟩]).run Tryz.prog w = .ok (.tuple #[]) w' ∧ IsTabV w' b (M.tdel t k) vs' ∧ w.grownBy w' (some b) ∧ w'.heap.size = w.heap.size := by
  obtain ⟨w', hrun, ho, hm⟩ := h.map.drop keyed Tryz.underlying68 (key_of k hk) ty
  have hg := hm.grown
  rw [DataW.del_eq, ChangeMaps.delKey] at ho
  obtain ⟨v1, l1, e1, q1⟩ := tabL_del (fun p v => IsI w v p.bs) k t vs h.len h.each
  rw [e1] at ho
  have ho2 := tight ho
  rw [Maps.size_eq, tabL_length l1] at ho2
  refine ⟨w', v1, hrun, ⟨l1, ho2, fun i hi => (q1 i hi).turned h.isMap hg⟩, hg, ?_⟩
  obtain ⟨es, clock, es', clock', hb, rfl⟩ := hm
  simp [ChangeMaps.setBlock]

/-- 'make(map)'. -/
theorem tab_made (w : World) : IsTabV (w.alloc (.map #[] 0)) w.heap.size [] [] :=
  ⟨rfl, World.ownsMap_made _ _ _ _, fun i hi => by cases hi⟩

end Go.Proofs.YtphcbpfpelonaaaGreatDoor
