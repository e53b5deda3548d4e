/-
  MAPS BY NAMES AS THEY LIE, WHATEVER THEIR VALUES (IsMp): what a look-up finds, a store, how many there are. Conditions: none.
-/
import Derived.Test.YtdojalhaklkegaaKeyMath
import Derived.Test.YtdojalhaklkegaaHeapKit
import Derived.Maps.OwnSet
import Derived.Maps.Ext
import Derived.Maps.RangeWalk
namespace Go.Proofs.Ytdojalhaklkegaa
open Go.RowKit Go.Maps
set_option linter.unusedVariables false
set_option maxRecDepth 100000

theorem keyed : Keyed Try.prog 9 := string_keyed Try.underlying9

/-- A name as a value. -/
theorem key_of (nm : List UInt8) (h : nm.length ≤ maxLen) : keyOf Try.prog 9 (.string ⟨nm.toArray⟩) = some (.string nm) := WideMaps.keyOf_string_mk Try.underlying9 (s := ⟨nm.toArray⟩) h

/-- A value reads as it is. -/
def asR (v : Value) : Option (DataW Value × List MemPlace) := some (.held v, [])
def mpL (es : M.KL Value) : List (Lit × DataW Value) := es.map fun p => (Lit.string p.1, DataW.held p.2)

/-- Block b is a map by names of the values es. -/
def IsMp (w : World) (b : Nat) (es : M.KL Value) : Prop := w.ownsMap Try.prog 9 asR b es.length (.map (mpL es))

theorem asR_inv {v : Value} {y : DataW Value × List MemPlace} (h : asR v = some y) : y = (.held v, []) := by
  injection h with h
  exact h.symm

theorem at_mp (k : List UInt8) (z : DataW Value) : ∀ es : M.KL Value, (DataW.map (mpL es)).atKey (.string k) z = match M.kget es k with | some v => .held v | none => z
  | [] => rfl
  | p :: r => by
    have ih := at_mp k z r
    rw [DataW.atKey] at ih ⊢
    rw [M.kget_cons, mpL, List.map_cons, List.find?_cons]
    by_cases e : p.1 = k
    · simp [Lit.sameKey, e]
    · rw [show (Lit.string p.1).sameKey (Lit.string k) = false by simpa [Lit.sameKey] using e, if_neg e]
      exact ih

theorem has_mp (k : List UInt8) : ∀ es : M.KL Value, Maps.has (.map (mpL es)) (.string k) = (M.kget es k).isSome
  | [] => rfl
  | p :: r => by
    have ih := has_mp k r
    rw [Maps.has_eq] at ih ⊢
    rw [M.kget_cons, mpL, List.map_cons, List.any_cons]
    by_cases e : p.1 = k
    · simp [Lit.sameKey, e]
    · rw [show (Lit.string p.1).sameKey (Lit.string k) = false by simpa [Lit.sameKey] using e, if_neg e, Bool.false_or]
      exact ih

theorem tightR {w : World} {b n : Nat} {D : DataW Value} (h : w.ownsMap Try.prog 9 asR b n D) : w.ownsMap Try.prog 9 asR b (Maps.size D) D := by
  obtain ⟨es, clock, hb, F, hs, hD⟩ := h
  refine ⟨es, clock, hb, F, ?_, hD⟩
  rw [hD, Maps.size, length_sorted]
  simp

theorem mpL_length (es : M.KL Value) : (mpL es).length = es.length := List.length_map _

theorem IsMp.lt {w : World} {b : Nat} {es : M.KL Value} (h : IsMp w b es) : b < w.heap.size := World.ownsMap.lt h

theorem IsMp.rise {w : World} {b : Nat} {es : M.KL Value} (h : IsMp w b es) : M.KRise es := by
  obtain ⟨es', he, hp, _⟩ := World.ownsMap.canon h keyed
  injection he with he
  rw [← he, mpL, List.pairwise_map] at hp
  exact hp

theorem IsMp.chg {F : Nat → Prop} {w w' : World} {b : Nat} {es : M.KL Value} (h : IsMp w b es) (k : Chg F w w') (hb : ¬ F b) : IsMp w' b es := by
  have hl := h.lt
  obtain ⟨es', clock, hg, F', hs, hD⟩ := h
  exact ⟨es', clock, (k.block b hl hb).trans hg, F', hs, hD⟩

theorem IsMp.below {w w' : World} {b : Nat} {es : M.KL Value} (h : IsMp w b es) (k : Below w.heap.size w w') : IsMp w' b es := h.chg (Chg.of_below (F := fun _ => False) k) fun h => h

theorem IsMp.alloc {w : World} {b : Nat} {es : M.KL Value} (h : IsMp w b es) (o : Obj) : IsMp (w.alloc o) b es := World.ownsMap.alloc h o

theorem IsMp.isMap {w : World} {b : Nat} {es : M.KL Value} (h : IsMp w b es) : ∃ es' clock, w.heap[b]? = some (.map es' clock) := by
  obtain ⟨es', clock, hb, _⟩ := h
  exact ⟨es', clock, hb⟩

theorem mpL_ins (k : List UInt8) (v : Value) : ∀ es : M.KL Value, DataW.insert (Lit.string k, DataW.held v) (mpL es) = mpL (M.kins k v es)
  | [] => rfl
  | x :: r => by
    have ih := mpL_ins k v r
    show DataW.insert _ ((Lit.string x.1, DataW.held x.2) :: mpL r) = _
    rw [DataW.insert, M.kins]
    by_cases hb : bytesBefore k x.1 = true
    · rw [if_pos hb, if_pos (by exact hb)]
      rfl
    · rw [if_neg hb, if_neg (by exact hb), ih]
      rfl

theorem mpL_del (k : List UInt8) : ∀ es : M.KL Value, (mpL es).filter (ChangeMaps.notKey (Lit.string k)) = mpL (M.kdel es k)
  | [] => rfl
  | x :: r => by
    have ih := mpL_del k r
    show ((Lit.string x.1, DataW.held x.2) :: mpL r).filter _ = _
    by_cases hb : x.1 = k
    · rw [List.filter_cons_of_neg (by simp [ChangeMaps.notKey, Lit.sameKey, hb]), ih, M.kdel, M.kdel, List.filter_cons_of_neg (by simp [hb])]
    · rw [List.filter_cons_of_pos (by simp [ChangeMaps.notKey, Lit.sameKey, hb]), ih, M.kdel, M.kdel, List.filter_cons_of_pos (by simp [hb])]
      rfl

theorem mpL_put (k : List UInt8) (v : Value) (es : M.KL Value) : (DataW.map (mpL es)).put (.string k) (.held v) = .map (mpL (M.kput es k v)) := by
  rw [DataW.put_eq, ChangeMaps.putKey, mpL_del, mpL_ins]
  rfl

/-- 'm[k] = v'. -/
theorem IsMp.store {w : World} {b : Nat} {es : M.KL Value} (h : IsMp w b es) {t e : TypeId} (ht : Try.prog.underlying t = some (.map 9 e)) (k : List UInt8) (v : Value) (hk : k.length ≤ maxLen) (hfew : es.length < 1000000) :
    ∃ w', (Instr.mapUpdate t (.map (some b)) (.string ⟨k.toArray⟩) v).run Try.prog w = .ok () w' ∧ IsMp w' b (M.kput es k v) ∧ w.grownBy w' (some b) ∧ w'.heap.size = w.heap.size := by
  obtain ⟨w', hrun, ho, hm⟩ := World.ownsMap.store h keyed ht (by unfold maxLen; omega) (key_of k hk) (show asR v = some (.held v, []) from rfl)
  rw [mpL_put] at ho
  have ho2 := tightR ho
  rw [Maps.size_eq, mpL_length] at ho2
  refine ⟨w', hrun, ho2, hm.grown, ?_⟩
  obtain ⟨es, clock, es', clock', hb, rfl⟩ := hm
  simp [ChangeMaps.setBlock]

/-- 'm[k]'. -/
theorem IsMp.look {w : World} {b : Nat} {es : M.KL Value} (h : IsMp w b es) {t e : TypeId} (ht : Try.prog.underlying t = some (.map 9 e)) {z : Value} (hz : (zeroValue e).run Try.prog w = .ok z w) (k : List UInt8) (hk : k.length ≤ maxLen) :
    (Instr.lookup t (.map (some b)) (.string ⟨k.toArray⟩) false).run Try.prog w = .ok ((M.kget es k).getD z) w := by
  obtain ⟨v, ps, hrun, hv⟩ := World.ownsMap.lookup h keyed ht hz (show asR z = some (.held z, []) from rfl) (key_of k hk)
  have e := asR_inv hv
  injection e with e _
  rw [at_mp] at e
  rw [hrun]
  cases hg : M.kget es k with
  | none => rw [hg] at e; injection e with e; rw [← e]; rfl
  | some x => rw [hg] at e; injection e with e; rw [← e]; rfl

/-- 'v, ok := m[k]'. -/
theorem IsMp.look_ok {w : World} {b : Nat} {es : M.KL Value} (h : IsMp w b es) {t e : TypeId} (ht : Try.prog.underlying t = some (.map 9 e)) {z : Value} (hz : (zeroValue e).run Try.prog w = .ok z w) (k : List UInt8) (hk : k.length ≤ maxLen) :
    (Instr.lookup t (.map (some b)) (.string ⟨k.toArray⟩) true).run Try.prog w = .ok (.tuple #[(M.kget es k).getD z, .bool (M.kget es k).isSome]) w := by
  obtain ⟨v, ps, hrun, hv⟩ := World.ownsMap.look_ok h keyed ht hz (show asR z = some (.held z, []) from rfl) (key_of k hk)
  have e := asR_inv hv
  injection e with e _
  rw [at_mp] at e
  rw [hrun, has_mp]
  cases hg : M.kget es k with
  | none => rw [hg] at e; injection e with e; rw [← e]; rfl
  | some x => rw [hg] at e; injection e with e; rw [← e]; rfl

/-- 'len(m)'. -/
theorem IsMp.lenM {w : World} {b : Nat} {es : M.KL Value} (h : IsMp w b es) {t e : TypeId} (ht : Try.prog.underlying t = some (.map 9 e)) (ty : TypeId) : (Builtin.len_ #[t] ty #[.map (some b)]).run Try.prog w = .ok (.int .i64 (es.length : Int)) w := by
  have := World.ownsMap.len h (t := t) ht ty
  rwa [Maps.size_eq, mpL_length] at this

/-- 'make(map)'. -/
theorem mp_made (w : World) : IsMp (w.alloc (.map #[] 0)) w.heap.size [] := World.ownsMap_made _ _ _ _

end Go.Proofs.Ytdojalhaklkegaa
