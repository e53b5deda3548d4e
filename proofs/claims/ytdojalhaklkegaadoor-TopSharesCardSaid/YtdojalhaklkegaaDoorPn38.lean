/-
  THINGS THAT LIVE IN SEVERAL BLOCKS: what a call may have turned (a set of blocks), what lies out of it and lasts. Nothing of the program. Conditions: none.
  MAPS BY NAMES AS THEY LIE, WHATEVER THEIR VALUES (IsMp): what a look-up finds, a store, how many there are. Conditions: none.
  A BOOK'S MAP OF BOXES: its keys (four texts), what is stored, what is found. Conditions: none.
-/
import Derived.Test.YtdojalhaklkegaaDoorPn13
import Derived.Test.YtdojalhaklkegaaDoorPn2
import Derived.Test.YtdojalhaklkegaaDoorPn15
import Derived.Lib.Hide
import Derived.Test.YtdojalhaklkegaaDoorPn37
import Derived.Maps.OwnSet
import Derived.Maps.Ext
import Derived.Maps.RangeWalk
import Derived.DeepKeys5
import Derived.Maps.Views

namespace Go.Proofs.YtdojalhaklkegaaDoor
open Go.RowKit
set_option linter.unusedVariables false

/-- Only blocks of F, and what is new, have turned. -/
structure Chg (F : Nat → Prop) (w w' : World) : Prop where
  os : w'.os = w.os
  tape : w'.tape = w.tape
  output : w'.output = w.output
  size : w.heap.size ≤ w'.heap.size
  block : ∀ k, k < w.heap.size → ¬ F k → w'.heap[k]? = w.heap[k]?

theorem Chg.refl (F : Nat → Prop) (w : World) : Chg F w w := ⟨rfl, rfl, rfl, Nat.le_refl _, fun _ _ _ => rfl⟩

theorem Chg.mono {F G : Nat → Prop} {w w' : World} (h : Chg F w w') (hs : ∀ k, k < w.heap.size → F k → G k) : Chg G w w' :=
  ⟨h.os, h.tape, h.output, h.size, fun k hk hg => h.block k hk fun hf => hg (hs k hk hf)⟩

theorem Chg.trans {F G : Nat → Prop} {w w1 w2 : World} (h : Chg F w w1) (h2 : Chg G w1 w2) (hs : ∀ k, k < w.heap.size → G k → F k) : Chg F w w2 :=
  ⟨h2.os.trans h.os, h2.tape.trans h.tape, h2.output.trans h.output, Nat.le_trans h.size h2.size, fun k hk hf => (h2.block k (Nat.lt_of_lt_of_le hk h.size) fun hg => hf (hs k hk hg)).trans (h.block k hk hf)⟩

theorem Chg.of_below {F : Nat → Prop} {w w' : World} (h : Below w.heap.size w w') : Chg F w w' := ⟨h.os, h.tape, h.output, h.size, fun k hk _ => h.block k hk⟩

theorem Chg.of_grown {F : Nat → Prop} {w w' : World} {row : Option Nat} (h : w.grownBy w' row) (hr : ∀ k, row = some k → F k) : Chg F w w' :=
  ⟨h.os, h.tape, h.output, h.size, fun k hk hf => h.block k hk fun e => hf (hr k e.symm)⟩

theorem Chg.drew {F : Nat → Prop} {w w' : World} (h : Chg F w w') : Chg F w w'.drew := ⟨h.os, h.tape, h.output, h.size, h.block⟩

theorem Chg.alloc {F : Nat → Prop} {w w' : World} (h : Chg F w w') (o : Obj) : Chg F w (w'.alloc o) :=
  h.trans (Chg.of_below (F := fun _ => False) ((Below.refl _ w').alloc (Nat.le_refl _) o)) (fun _ _ h => h.elim)

theorem Chg.setCell {F : Nat → Prop} {w w' : World} (h : Chg F w w') (p : Addr) (u : Value) (hp : F p.block ∨ w.heap.size ≤ p.block) : Chg F w (w'.setCell p u) :=
  ⟨h.os, h.tape, h.output, by rw [World.size_setCell]; exact h.size, fun k hk hf => by
    rw [Below.heap_setCell w' p u k (by rintro rfl; rcases hp with hp | hp; exact hf hp; omega)]
    exact h.block k hk hf⟩

theorem Chg.cell {g : Nat} {w w' : World} (h : Chg (fun b => b = g) w w') (o : Nat) (u : Value) : Chg (fun b => b = g) w (w'.setCell ⟨g, o, none⟩ u) := h.setCell ⟨g, o, none⟩ u (.inl rfl)

/-- What is below B lasts, where no block of F is. -/
theorem Chg.below {F : Nat → Prop} {w w' : World} {B : Nat} (h : Chg F w w') (hB : B ≤ w.heap.size) (hF : ∀ k, F k → B ≤ k) : Below B w w' :=
  ⟨h.os, h.tape, h.output, h.size, fun k hk => h.block k (by omega) fun hf => by have := hF k hf; omega⟩

theorem Blk.chg {F : Nat → Prop} {w w' : World} {g : Nat} {t : TypeId} {cs : List Value} (h : Blk w g t cs) (k : Chg F w w') (hg : ¬ F g) : Blk w' g t cs := (k.block g h.lt hg).trans h

theorem own_chg {F : Nat → Prop} {w w' : World} {B : Nat} {e : TypeId} {size n : Nat} {v : Value} {xs : List Value} (h : w.ownsRow B e size v n xs) (k : Chg F w w') (hg : ∀ b, v.ownBlock = some b → ¬ F b) : w'.ownsRow B e size v n xs := by
  refine ⟨h.1, ?_⟩
  rcases h.2 with hn | ⟨g, cap, cur, rfl, hb, hgg, rest⟩
  · exact .inl hn
  · exact .inr ⟨g, cap, cur, rfl, hb, (k.block g (Array.getElem?_eq_some_iff.1 hgg).1 (hg g rfl)).trans hgg, rest⟩

/-- A slice lies in blocks of S. -/
def Lies (S : Nat → Prop) (v : Value) : Prop := ∀ ad n c, v = .slice (some ad) n c → S ad.block

theorem Lies.mono {S R : Nat → Prop} {v : Value} (h : Lies S v) (hs : ∀ k, S k → R k) : Lies R v := fun ad n c e => hs _ (h ad n c e)

theorem lies_own {S : Nat → Prop} {w : World} {B n size : Nat} {e : TypeId} {v : Value} {xs : List Value} (h : w.ownsRow B e size v n xs) (hs : ∀ k, B ≤ k → k < w.heap.size → S k) : Lies S v := by
  intro ad n' c e
  have h1 := h.lt ad.block (by rw [e]; rfl)
  exact hs _ h1.1 h1.2

theorem IsB.chg {F : Nat → Prop} {w w' : World} {v : Value} {bs : List UInt8} (h : IsB w v bs) (k : Chg F w w') (hl : Lies (fun b => ¬ F b) v) : IsB w' v bs := by
  obtain ⟨ao, cap, rfl, h1, h2, h3⟩ := h
  refine ⟨ao, cap, rfl, h1, h2, ?_⟩
  rcases h3 with h | ⟨b, off, rfl, h⟩
  · exact .inl h
  · refine .inr ⟨b, off, rfl, fun i hi => ?_⟩
    have hc := h i hi
    have hb := World.block_lt_of_cell? w _ hc
    rw [World.cell?_of_block (k.block b hb (hl _ _ _ rfl)), hc]

/-- A slice of bytes lies in blocks that are there, or it has none. -/
theorem IsB.there {w : World} {v : Value} {bs : List UInt8} (h : IsB w v bs) (hn : bs ≠ []) : Lies (fun k => k < w.heap.size) v := by
  obtain ⟨ao, cap, rfl, h1, h2, h3⟩ := h
  intro ad n c e
  injection e with e1 e2 e3
  rcases h3 with h | ⟨b, off, e4, h⟩
  · exact absurd h hn
  · rw [e4] at e1
    injection e1 with e1
    subst e1
    exact World.block_lt_of_cell? w _ (h 0 (by cases bs; exact absurd rfl hn; simp))

theorem Own.lies {S : Nat → Prop} {w : World} {B : Nat} {v : Value} {bs : List UInt8} (h : Own w B v bs) (hs : ∀ k, B ≤ k → k < w.heap.size → S k) : Lies S v := lies_own h hs

/-- The value is a slice of the bools ks. -/
def IsZ (w : World) (v : Value) (ks : List Bool) : Prop := ∃ ao cap, v = .slice ao ks.length cap ∧ ks.length ≤ cap ∧ cap ≤ maxLen ∧
  (ks = [] ∨ ∃ b off, ao = some ⟨b, off, none⟩ ∧ ∀ i, i < ks.length → w.cell? ⟨b, off + i, none⟩ = some (.bool (ks.getD i false)))

theorem IsZ.chg {F : Nat → Prop} {w w' : World} {v : Value} {ks : List Bool} (h : IsZ w v ks) (k : Chg F w w') (hl : Lies (fun b => ¬ F b) v) : IsZ w' v ks := by
  obtain ⟨ao, cap, rfl, h1, h2, h3⟩ := h
  refine ⟨ao, cap, rfl, h1, h2, ?_⟩
  rcases h3 with h | ⟨b, off, rfl, h⟩
  · exact .inl h
  · refine .inr ⟨b, off, rfl, fun i hi => ?_⟩
    have hc := h i hi
    have hb := World.block_lt_of_cell? w _ hc
    rw [World.cell?_of_block (k.block b hb (hl _ _ _ rfl)), hc]

theorem IsZ.nil (w : World) : IsZ w (.slice none 0 0) [] := ⟨none, 0, rfl, Nat.le_refl _, Nat.zero_le _, .inl rfl⟩

end Go.Proofs.YtdojalhaklkegaaDoor

namespace Go.Proofs.YtdojalhaklkegaaDoor
open Go.RowKit Go.Maps
set_option linter.unusedVariables false
set_option maxRecDepth 100000

theorem keyed : Keyed Tryd.prog 9 := string_keyed Tryd.underlying9

/-- A name as a value. -/
theorem key_of (nm : List UInt8) (h : nm.length ≤ maxLen) : keyOf Tryd.prog 9 (.string ⟨nm.toArray⟩) = some (.string nm) := WideMaps.keyOf_string_mk Tryd.underlying9 (s := ⟨nm.toArray⟩) h

/-- A value reads as it is. -/
def asR (v : Value) : Option (DataW Value × List MemPlace) := some (.held v, [])
def mpL (es : M.KL Value) : List (Lit × DataW Value) := es.map fun p => (Lit.string p.1, DataW.held p.2)

/-- Block b is a map by names of the values es. -/
def IsMp (w : World) (b : Nat) (es : M.KL Value) : Prop := w.ownsMap Tryd.prog 9 asR b es.length (.map (mpL es))

theorem asR_inv {v : Value} {y : DataW Value × List MemPlace} (h : asR v = some y) : y = (.held v, []) := by
  injection h with h
  exact h.symm

theorem at_mp (k : List UInt8) (z : DataW Value) : ∀ es : M.KL Value, (DataW.map (mpL es)).atKey (.string k) z = match M.kget es k with | some v => .held v | none => z
  | [] => rfl
  | p :: r => by
    have ih := at_mp k z r
    rw [DataW.atKey] at ih ⊢
    rw [M.kget_cons, mpL, List.map_cons, List.find?_cons]
    by_cases e : p.1 = k
    · simp [Lit.sameKey, e]
    · rw [show (Lit.string p.1).sameKey (Lit.string k) = false by simpa [Lit.sameKey] using e, if_neg e]
      exact ih

theorem has_mp (k : List UInt8) : ∀ es : M.KL Value, Maps.has (.map (mpL es)) (.string k) = (M.kget es k).isSome
  | [] => rfl
  | p :: r => by
    have ih := has_mp k r
    rw [Maps.has_eq] at ih ⊢
    rw [M.kget_cons, mpL, List.map_cons, List.any_cons]
    by_cases e : p.1 = k
    · simp [Lit.sameKey, e]
    · rw [show (Lit.string p.1).sameKey (Lit.string k) = false by simpa [Lit.sameKey] using e, if_neg e, Bool.false_or]
      exact ih

theorem tightR {w : World} {b n : Nat} {D : DataW Value} (h : w.ownsMap Tryd.prog 9 asR b n D) : w.ownsMap Tryd.prog 9 asR b (Maps.size D) D := by
  obtain ⟨es, clock, hb, F, hs, hD⟩ := h
  refine ⟨es, clock, hb, F, ?_, hD⟩
  rw [hD, Maps.size, length_sorted]
  simp

theorem mpL_length (es : M.KL Value) : (mpL es).length = es.length := List.length_map _

theorem IsMp.lt {w : World} {b : Nat} {es : M.KL Value} (h : IsMp w b es) : b < w.heap.size := World.ownsMap.lt h

theorem IsMp.chg {F : Nat → Prop} {w w' : World} {b : Nat} {es : M.KL Value} (h : IsMp w b es) (k : Chg F w w') (hb : ¬ F b) : IsMp w' b es := by
  have hl := h.lt
  obtain ⟨es', clock, hg, F', hs, hD⟩ := h
  exact ⟨es', clock, (k.block b hl hb).trans hg, F', hs, hD⟩

theorem IsMp.below {w w' : World} {b : Nat} {es : M.KL Value} (h : IsMp w b es) (k : Below w.heap.size w w') : IsMp w' b es := h.chg (Chg.of_below (F := fun _ => False) k) fun h => h

theorem IsMp.alloc {w : World} {b : Nat} {es : M.KL Value} (h : IsMp w b es) (o : Obj) : IsMp (w.alloc o) b es := World.ownsMap.alloc h o

theorem IsMp.isMap {w : World} {b : Nat} {es : M.KL Value} (h : IsMp w b es) : ∃ es' clock, w.heap[b]? = some (.map es' clock) := by
  obtain ⟨es', clock, hb, _⟩ := h
  exact ⟨es', clock, hb⟩

theorem mpL_ins (k : List UInt8) (v : Value) : ∀ es : M.KL Value, DataW.insert (Lit.string k, DataW.held v) (mpL es) = mpL (M.kins k v es)
  | [] => rfl
  | x :: r => by
    have ih := mpL_ins k v r
    show DataW.insert _ ((Lit.string x.1, DataW.held x.2) :: mpL r) = _
    rw [DataW.insert, M.kins]
    by_cases hb : bytesBefore k x.1 = true
    · rw [if_pos hb, if_pos (by exact hb)]
      rfl
    · rw [if_neg hb, if_neg (by exact hb), ih]
      rfl

theorem mpL_del (k : List UInt8) : ∀ es : M.KL Value, (mpL es).filter (ChangeMaps.notKey (Lit.string k)) = mpL (M.kdel es k)
  | [] => rfl
  | x :: r => by
    have ih := mpL_del k r
    show ((Lit.string x.1, DataW.held x.2) :: mpL r).filter _ = _
    by_cases hb : x.1 = k
    · rw [List.filter_cons_of_neg (by simp [ChangeMaps.notKey, Lit.sameKey, hb]), ih, M.kdel, M.kdel, List.filter_cons_of_neg (by simp [hb])]
    · rw [List.filter_cons_of_pos (by simp [ChangeMaps.notKey, Lit.sameKey, hb]), ih, M.kdel, M.kdel, List.filter_cons_of_pos (by simp [hb])]
      rfl

theorem mpL_put (k : List UInt8) (v : Value) (es : M.KL Value) : (DataW.map (mpL es)).put (.string k) (.held v) = .map (mpL (M.kput es k v)) := by
  rw [DataW.put_eq, ChangeMaps.putKey, mpL_del, mpL_ins]
  rfl

/-- 'm[k] = v'. -/
theorem IsMp.store {w : World} {b : Nat} {es : M.KL Value} (h : IsMp w b es) {t e : TypeId} (ht : Tryd.prog.underlying t = some (.map 9 e)) (k : List UInt8) (v : Value) (hk : k.length ≤ maxLen) (hfew : es.length < 1000000) :
    ∃ w', (Instr.mapUpdate t (.map (some b)) (.string ⟨k.toArray⟩) v).run Tryd.prog w = .ok () w' ∧ IsMp w' b (M.kput es k v) ∧ w.grownBy w' (some b) ∧ w'.heap.size = w.heap.size := by
  obtain ⟨w', hrun, ho, hm⟩ := World.ownsMap.store h keyed ht (by unfold maxLen; omega) (key_of k hk) (show asR v = some (.held v, []) from rfl)
  rw [mpL_put] at ho
  have ho2 := tightR ho
  rw [Maps.size_eq, mpL_length] at ho2
  refine ⟨w', hrun, ho2, hm.grown, ?_⟩
  obtain ⟨es, clock, es', clock', hb, rfl⟩ := hm
  simp [ChangeMaps.setBlock]

/-- 'm[k]'. -/
theorem IsMp.look {w : World} {b : Nat} {es : M.KL Value} (h : IsMp w b es) {t e : TypeId} (ht : Tryd.prog.underlying t = some (.map 9 e)) {z : Value} (hz : (zeroValue e).run Tryd.prog w = .ok z w) (k : List UInt8) (hk : k.length ≤ maxLen) :
    (Instr.lookup t (.map (some b)) (.string ⟨k.toArray⟩) false).run Tryd.prog w = .ok ((M.kget es k).getD z) w := by
  obtain ⟨v, ps, hrun, hv⟩ := World.ownsMap.lookup h keyed ht hz (show asR z = some (.held z, []) from rfl) (key_of k hk)
  have e := asR_inv hv
  injection e with e _
  rw [at_mp] at e
  rw [hrun]
  cases hg : M.kget es k with
  | none => rw [hg] at e; injection e with e; rw [← e]; rfl
  | some x => rw [hg] at e; injection e with e; rw [← e]; rfl

/-- 'v, ok := m[k]'. -/
theorem IsMp.look_ok {w : World} {b : Nat} {es : M.KL Value} (h : IsMp w b es) {t e : TypeId} (ht : Tryd.prog.underlying t = some (.map 9 e)) {z : Value} (hz : (zeroValue e).run Tryd.prog w = .ok z w) (k : List UInt8) (hk : k.length ≤ maxLen) :
    (Instr.lookup t (.map (some b)) (.string ⟨k.toArray⟩) true).run Tryd.prog w = .ok (.tuple #[(M.kget es k).getD z, .bool (M.kget es k).isSome]) w := by
  obtain ⟨v, ps, hrun, hv⟩ := World.ownsMap.look_ok h keyed ht hz (show asR z = some (.held z, []) from rfl) (key_of k hk)
  have e := asR_inv hv
  injection e with e _
  rw [at_mp] at e
  rw [hrun, has_mp]
  cases hg : M.kget es k with
  | none => rw [hg] at e; injection e with e; rw [← e]; rfl
  | some x => rw [hg] at e; injection e with e; rw [← e]; rfl

/-- 'len(m)'. -/
theorem IsMp.lenM {w : World} {b : Nat} {es : M.KL Value} (h : IsMp w b es) {t e : TypeId} (ht : Tryd.prog.underlying t = some (.map 9 e)) (ty : TypeId) : (Builtin.len_ #[t] ty #[.map (some b)]).run Tryd.prog w = .ok (.int .i64 (es.length : Int)) w := by
  have := World.ownsMap.len h (t := t) ht ty
  rwa [Maps.size_eq, mpL_length] at this

end Go.Proofs.YtdojalhaklkegaaDoor

namespace Go.Proofs.YtdojalhaklkegaaDoor
open Go.RowKit Go.Maps
set_option linter.unusedVariables false
set_option maxRecDepth 100000

theorem wideSl : (match Tryd.prog.underlying 176 with | some (.array _ _) | some (.struct _) => true | _ => false) = true := by kernel_rfl
theorem laidOutSl : laidOutB Tryd.prog = true := by kernel_rfl
theorem keyedSl : Keyed Tryd.prog 176 := Keyed.of_law (deep_law_laid laidOutSl (m := 2) (by omega) (of_decide_eq_true (by kernel_rfl)) (by kernel_rfl) wideSl)

/-- A key as a value. -/
def kvalA (a b c d : ByteArray) : Value := .agg #[.string a, .string b, .string c, .string d]
def kval (s : M.Sl) : Value := kvalA ⟨s.1.toArray⟩ ⟨s.2.1.toArray⟩ ⟨s.2.2.1.toArray⟩ ⟨s.2.2.2.toArray⟩
/-- Texts that fit. -/
def SlFit (s : M.Sl) : Prop := s.1.length ≤ maxLen ∧ s.2.1.length ≤ maxLen ∧ s.2.2.1.length ≤ maxLen ∧ s.2.2.2.length ≤ maxLen

theorem keyLits_str (d : Nat) (s : ByteArray) (h : s.size ≤ maxLen) : Tryd.prog.keyLits (d + 1) 9 [.string s] = some [.string s.data.toList] := by
  rw [Program.keyLits]
  simp [h]
  exact Tryd.underlying9

theorem cellsSl : Tryd.prog.cellsOf 176 = 4 := by kernel_rfl
theorem cellsStr : Tryd.prog.cellsOf 9 = 1 := by kernel_rfl
theorem typeSl : Tryd.prog.keyType 176 = true := by kernel_rfl

theorem keyLits_sl (n : Nat) (a b c d : ByteArray) (ha : a.size ≤ maxLen) (hb : b.size ≤ maxLen) (hc : c.size ≤ maxLen) (hd : d.size ≤ maxLen) : (Tryd.prog.keyLits (n + 2) 176 [.string a, .string b, .string c, .string d]).isSome = true := by
  unfold Program.keyLits
  simp only [Tryd.underlying176]
  simp [cellsSl, cellsStr, keyLits_str, ha, hb, hc, hd]

theorem keyOf_sl (s : M.Sl) (h : SlFit s) : ∃ l, keyOf Tryd.prog 176 (kval s) = some l := by
  have e : (keyOf Tryd.prog 176 (kval s)).isSome = true := by
    have hz : ∃ n, Tryd.prog.types.size + 1 = n + 2 := ⟨Tryd.prog.types.size - 1, by have : 0 < Tryd.prog.types.size := of_decide_eq_true (by kernel_rfl); omega⟩
    obtain ⟨n, hn⟩ := hz
    unfold keyOf
    rw [Tryd.underlying176]
    have hf : (kval s).formed Tryd.prog 176 = true := by
      unfold kval kvalA Value.formed
      rw [Tryd.underlying176]
      simp [cellsSl]
    simp only [typeSl, hf, Bool.and_self, if_true, Option.isSome_map]
    rw [hn]
    exact keyLits_sl n _ _ _ _ h.1 h.2.1 h.2.2.1 h.2.2.2
  exact Option.isSome_iff_exists.1 e

/-- What a key is told as. -/
noncomputable def klit (s : M.Sl) : Lit := (keyOf Tryd.prog 176 (kval s)).getD .nil
theorem klit_of {s : M.Sl} (h : SlFit s) : keyOf Tryd.prog 176 (kval s) = some (klit s) := by
  obtain ⟨l, hl⟩ := keyOf_sl s h
  rw [klit, hl]
  rfl
theorem kval_inj {s t : M.Sl} (h : kval s = kval t) : s = t := by
  obtain ⟨a, b, c, d⟩ := s
  obtain ⟨a', b', c', d'⟩ := t
  unfold kval kvalA at h
  simp at h
  obtain ⟨h1, h2, h3, h4⟩ := h
  rw [h1, h2, h3, h4]
theorem klit_inj {s t : M.Sl} (hs : SlFit s) (ht : SlFit t) (h : klit s = klit t) : s = t := kval_inj (keyedSl.inj (klit_of hs) (by rw [h]; exact klit_of ht))

/-- Block b is a map of boxes: f tells what stands at each key. -/
def IsSm (w : World) (b : Nat) (n : Nat) (f : M.Sl → Option Value) : Prop := ∃ D : DataW Value, w.ownsMap Tryd.prog 176 asR b n D ∧ Maps.size D = n ∧ ∀ s, SlFit s → Maps.has D (klit s) = (f s).isSome ∧ ∀ z, D.atKey (klit s) z = match f s with | some v => .held v | none => z

theorem IsSm.lt {w : World} {b n : Nat} {f : M.Sl → Option Value} (h : IsSm w b n f) : b < w.heap.size := by
  obtain ⟨D, h, _⟩ := h
  exact World.ownsMap.lt h
theorem IsSm.isMap {w : World} {b n : Nat} {f : M.Sl → Option Value} (h : IsSm w b n f) : ∃ es clock, w.heap[b]? = some (.map es clock) := by
  obtain ⟨D, ⟨es, clock, hb, _⟩, _⟩ := h
  exact ⟨es, clock, hb⟩
theorem IsSm.chg {F : Nat → Prop} {w w' : World} {b n : Nat} {f : M.Sl → Option Value} (h : IsSm w b n f) (k : Chg F w w') (hb : ¬ F b) : IsSm w' b n f := by
  have hl := h.lt
  obtain ⟨D, ⟨es', clock, hg, F', hs, hD⟩, h2⟩ := h
  exact ⟨D, ⟨es', clock, (k.block b hl hb).trans hg, F', hs, hD⟩, h2⟩
theorem sm_made (w : World) : IsSm (w.alloc (.map #[] 0)) w.heap.size 0 fun _ => none :=
  ⟨.map [], World.ownsMap_made _ _ _ _, rfl, fun s _ => ⟨rfl, fun z => rfl⟩⟩
theorem IsSm.congr {w : World} {b n : Nat} {f g : M.Sl → Option Value} (h : IsSm w b n f) (e : ∀ s, SlFit s → f s = g s) : IsSm w b n g := by
  obtain ⟨D, h1, h2, h3⟩ := h
  exact ⟨D, h1, h2, fun s hs => by rw [← e s hs]; exact h3 s hs⟩

/-- 'len(m)'. -/
theorem IsSm.lenM {w : World} {b n : Nat} {f : M.Sl → Option Value} (h : IsSm w b n f) (ty : TypeId) : (Builtin.len_ #[74] ty #[.map (some b)]).run Tryd.prog w = .ok (.int .i64 (n : Int)) w := by
  obtain ⟨D, h1, h2, h3⟩ := h
  have := World.ownsMap.len h1 (t := 74) Tryd.underlying74 ty
  rwa [h2] at this

/-- 'v, ok := m[k]'. -/
theorem IsSm.look_ok {w : World} {b n : Nat} {f : M.Sl → Option Value} (h : IsSm w b n f) (s : M.Sl) (hs : SlFit s) :
    (Instr.lookup 74 (.map (some b)) (kval s) true).run Tryd.prog w = .ok (.tuple #[(f s).getD (.slice none 0 0), .bool (f s).isSome]) w := by
  obtain ⟨D, h1, h2, h3⟩ := h
  obtain ⟨v, ps, hrun, hv⟩ := World.ownsMap.look_ok h1 keyedSl Tryd.underlying74 (z := .slice none 0 0) (Tryd.zeroValue24 w) (show asR (.slice none 0 0) = some (.held (.slice none 0 0), []) from rfl) (klit_of hs)
  obtain ⟨e1, e2⟩ := h3 s hs
  have e := asR_inv hv
  injection e with e _
  rw [e2] at e
  rw [hrun, e1]
  cases hg : f s with
  | none => rw [hg] at e; injection e with e; rw [← e]; rfl
  | some x => rw [hg] at e; injection e with e; rw [← e]; rfl

/-- 'm[k] = v', where there is none yet. -/
theorem IsSm.store {w : World} {b n : Nat} {f : M.Sl → Option Value} (h : IsSm w b n f) (s : M.Sl) (v : Value) (hs : SlFit s) (hno : f s = none) (hn : n < 1000000) :
    ∃ w', (Instr.mapUpdate 74 (.map (some b)) (kval s) v).run Tryd.prog w = .ok () w' ∧ IsSm w' b (n + 1) (fun t => if t = s then some v else f t) ∧ w.grownBy w' (some b) ∧ w'.heap.size = w.heap.size := by
  obtain ⟨D, h1, h2, h3⟩ := h
  have hty := h1.tidy keyedSl
  have him := h1.isMap
  obtain ⟨w', hrun, ho, hm⟩ := World.ownsMap.store h1 keyedSl Tryd.underlying74 (by unfold maxLen; omega) (klit_of hs) (show asR v = some (.held v, []) from rfl)
  have hsz : Maps.size (D.put (klit s) (.held v)) = n + 1 := by
    rw [size_put hty, (h3 s hs).1, hno, h2]
    rfl
  refine ⟨w', hrun, ⟨_, ?_, hsz, fun t ht => ?_⟩, hm.grown, ?_⟩
  · exact ho
  · dsimp only
    by_cases e : t = s
    · subst e
      rw [if_pos rfl, has_put_same him (keyedSl.key (klit_of hs))]
      exact ⟨rfl, fun z => atKey_put_same him (keyedSl.key (klit_of hs)) _ z⟩
    · have hne : klit t ≠ klit s := fun h => e (klit_inj ht hs h)
      rw [if_neg e, has_put_other hne]
      exact ⟨(h3 t ht).1, fun z => by rw [atKey_put_other hne]; exact (h3 t ht).2 z⟩
  · obtain ⟨es, clock, es', clock', hb, rfl⟩ := hm
    simp [ChangeMaps.setBlock]

end Go.Proofs.YtdojalhaklkegaaDoor
