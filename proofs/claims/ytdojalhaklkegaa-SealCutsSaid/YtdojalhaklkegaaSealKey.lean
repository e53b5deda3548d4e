/-
  A BOOK'S MAP OF BOXES: its keys (four texts), what is stored, what is found. Conditions: none.
-/
import Derived.Test.YtdojalhaklkegaaSealMath
import Derived.Test.YtdojalhaklkegaaKeyMap
import Derived.DeepKeys5
import Derived.Maps.Views
namespace Go.Proofs.Ytdojalhaklkegaa
open Go.RowKit Go.Maps
set_option linter.unusedVariables false
set_option maxRecDepth 100000

theorem wideSl : (match Try.prog.underlying 87 with | some (.array _ _) | some (.struct _) => true | _ => false) = true := by kernel_rfl
theorem laidOutSl : laidOutB Try.prog = true := by kernel_rfl
theorem keyedSl : Keyed Try.prog 87 := Keyed.of_law (deep_law_laid laidOutSl (m := 2) (by omega) (of_decide_eq_true (by kernel_rfl)) (by kernel_rfl) wideSl)

/-- A key as a value. -/
def kvalA (a b c d : ByteArray) : Value := .agg #[.string a, .string b, .string c, .string d]
def kval (s : M.Sl) : Value := kvalA ⟨s.1.toArray⟩ ⟨s.2.1.toArray⟩ ⟨s.2.2.1.toArray⟩ ⟨s.2.2.2.toArray⟩
/-- Texts that fit. -/
def SlFit (s : M.Sl) : Prop := s.1.length ≤ maxLen ∧ s.2.1.length ≤ maxLen ∧ s.2.2.1.length ≤ maxLen ∧ s.2.2.2.length ≤ maxLen

theorem keyLits_str (d : Nat) (s : ByteArray) (h : s.size ≤ maxLen) : Try.prog.keyLits (d + 1) 9 [.string s] = some [.string s.data.toList] := by
  rw [Program.keyLits]
  simp [h]
  exact Try.underlying9

theorem cellsSl : Try.prog.cellsOf 87 = 4 := by kernel_rfl
theorem cellsStr : Try.prog.cellsOf 9 = 1 := by kernel_rfl
theorem typeSl : Try.prog.keyType 87 = true := by kernel_rfl

theorem keyLits_sl (n : Nat) (a b c d : ByteArray) (ha : a.size ≤ maxLen) (hb : b.size ≤ maxLen) (hc : c.size ≤ maxLen) (hd : d.size ≤ maxLen) : (Try.prog.keyLits (n + 2) 87 [.string a, .string b, .string c, .string d]).isSome = true := by
  unfold Program.keyLits
  simp only [Try.underlying87]
  simp [cellsSl, cellsStr, keyLits_str, ha, hb, hc, hd]

theorem keyOf_sl (s : M.Sl) (h : SlFit s) : ∃ l, keyOf Try.prog 87 (kval s) = some l := by
  have e : (keyOf Try.prog 87 (kval s)).isSome = true := by
    have hz : ∃ n, Try.prog.types.size + 1 = n + 2 := ⟨Try.prog.types.size - 1, by have : 0 < Try.prog.types.size := of_decide_eq_true (by kernel_rfl); omega⟩
    obtain ⟨n, hn⟩ := hz
    unfold keyOf
    rw [Try.underlying87]
    have hf : (kval s).formed Try.prog 87 = true := by
      unfold kval kvalA Value.formed
      rw [Try.underlying87]
      simp [cellsSl]
    simp only [typeSl, hf, Bool.and_self, if_true, Option.isSome_map]
    rw [hn]
    exact keyLits_sl n _ _ _ _ h.1 h.2.1 h.2.2.1 h.2.2.2
  exact Option.isSome_iff_exists.1 e

/-- What a key is told as. -/
noncomputable def klit (s : M.Sl) : Lit := (keyOf Try.prog 87 (kval s)).getD .nil
theorem klit_of {s : M.Sl} (h : SlFit s) : keyOf Try.prog 87 (kval s) = some (klit s) := by
  obtain ⟨l, hl⟩ := keyOf_sl s h
  rw [klit, hl]
  rfl
theorem kval_inj {s t : M.Sl} (h : kval s = kval t) : s = t := by
  obtain ⟨a, b, c, d⟩ := s
  obtain ⟨a', b', c', d'⟩ := t
  unfold kval kvalA at h
  simp at h
  obtain ⟨h1, h2, h3, h4⟩ := h
  rw [h1, h2, h3, h4]
theorem klit_inj {s t : M.Sl} (hs : SlFit s) (ht : SlFit t) (h : klit s = klit t) : s = t := kval_inj (keyedSl.inj (klit_of hs) (by rw [h]; exact klit_of ht))

/-- Block b is a map of boxes: f tells what stands at each key. -/
def IsSm (w : World) (b : Nat) (n : Nat) (f : M.Sl → Option Value) : Prop := ∃ D : DataW Value, w.ownsMap Try.prog 87 asR b n D ∧ Maps.size D = n ∧ ∀ s, SlFit s → Maps.has D (klit s) = (f s).isSome ∧ ∀ z, D.atKey (klit s) z = match f s with | some v => .held v | none => z

theorem IsSm.lt {w : World} {b n : Nat} {f : M.Sl → Option Value} (h : IsSm w b n f) : b < w.heap.size := by
  obtain ⟨D, h, _⟩ := h
  exact World.ownsMap.lt h
theorem IsSm.isMap {w : World} {b n : Nat} {f : M.Sl → Option Value} (h : IsSm w b n f) : ∃ es clock, w.heap[b]? = some (.map es clock) := by
  obtain ⟨D, ⟨es, clock, hb, _⟩, _⟩ := h
  exact ⟨es, clock, hb⟩
theorem IsSm.chg {F : Nat → Prop} {w w' : World} {b n : Nat} {f : M.Sl → Option Value} (h : IsSm w b n f) (k : Chg F w w') (hb : ¬ F b) : IsSm w' b n f := by
  have hl := h.lt
  obtain ⟨D, ⟨es', clock, hg, F', hs, hD⟩, h2⟩ := h
  exact ⟨D, ⟨es', clock, (k.block b hl hb).trans hg, F', hs, hD⟩, h2⟩
theorem sm_made (w : World) : IsSm (w.alloc (.map #[] 0)) w.heap.size 0 fun _ => none :=
  ⟨.map [], World.ownsMap_made _ _ _ _, rfl, fun s _ => ⟨rfl, fun z => rfl⟩⟩
theorem IsSm.congr {w : World} {b n : Nat} {f g : M.Sl → Option Value} (h : IsSm w b n f) (e : ∀ s, SlFit s → f s = g s) : IsSm w b n g := by
  obtain ⟨D, h1, h2, h3⟩ := h
  exact ⟨D, h1, h2, fun s hs => by rw [← e s hs]; exact h3 s hs⟩

/-- 'len(m)'. -/
theorem IsSm.lenM {w : World} {b n : Nat} {f : M.Sl → Option Value} (h : IsSm w b n f) (ty : TypeId) : (Builtin.len_ #[45] ty #[.map (some b)]).run Try.prog w = .ok (.int .i64 (n : Int)) w := by
  obtain ⟨D, h1, h2, h3⟩ := h
  have := World.ownsMap.len h1 (t := 45) Try.underlying45 ty
  rwa [h2] at this

/-- 'v, ok := m[k]'. -/
theorem IsSm.look_ok {w : World} {b n : Nat} {f : M.Sl → Option Value} (h : IsSm w b n f) (s : M.Sl) (hs : SlFit s) :
    (Instr.lookup 45 (.map (some b)) (kval s) true).run Try.prog w = .ok (.tuple #[(f s).getD (.slice none 0 0), .bool (f s).isSome]) w := by
  obtain ⟨D, h1, h2, h3⟩ := h
  obtain ⟨v, ps, hrun, hv⟩ := World.ownsMap.look_ok h1 keyedSl Try.underlying45 (z := .slice none 0 0) (Try.zeroValue22 w) (show asR (.slice none 0 0) = some (.held (.slice none 0 0), []) from rfl) (klit_of hs)
  obtain ⟨e1, e2⟩ := h3 s hs
  have e := asR_inv hv
  injection e with e _
  rw [e2] at e
  rw [hrun, e1]
  cases hg : f s with
  | none => rw [hg] at e; injection e with e; rw [← e]; rfl
  | some x => rw [hg] at e; injection e with e; rw [← e]; rfl

/-- 'm[k] = v', where there is none yet. -/
theorem IsSm.store {w : World} {b n : Nat} {f : M.Sl → Option Value} (h : IsSm w b n f) (s : M.Sl) (v : Value) (hs : SlFit s) (hno : f s = none) (hn : n < 1000000) :
    ∃ w', (Instr.mapUpdate 45 (.map (some b)) (kval s) v).run Try.prog w = .ok () w' ∧ IsSm w' b (n + 1) (fun t => if t = s then some v else f t) ∧ w.grownBy w' (some b) ∧ w'.heap.size = w.heap.size := by
  obtain ⟨D, h1, h2, h3⟩ := h
  have hty := h1.tidy keyedSl
  have him := h1.isMap
  obtain ⟨w', hrun, ho, hm⟩ := World.ownsMap.store h1 keyedSl Try.underlying45 (by unfold maxLen; omega) (klit_of hs) (show asR v = some (.held v, []) from rfl)
  have hsz : Maps.size (D.put (klit s) (.held v)) = n + 1 := by
    rw [size_put hty, (h3 s hs).1, hno, h2]
    rfl
  refine ⟨w', hrun, ⟨_, ?_, hsz, fun t ht => ?_⟩, hm.grown, ?_⟩
  · exact ho
  · dsimp only
    by_cases e : t = s
    · subst e
      rw [if_pos rfl, has_put_same him (keyedSl.key (klit_of hs))]
      exact ⟨rfl, fun z => atKey_put_same him (keyedSl.key (klit_of hs)) _ z⟩
    · have hne : klit t ≠ klit s := fun h => e (klit_inj ht hs h)
      rw [if_neg e, has_put_other hne]
      exact ⟨(h3 t ht).1, fun z => by rw [atKey_put_other hne]; exact (h3 t ht).2 z⟩
  · obtain ⟨es, clock, es', clock', hb, rfl⟩ := hm
    simp [ChangeMaps.setBlock]

end Go.Proofs.Ytdojalhaklkegaa
