/-
  MEMORY FOR LAYER 2: a block known whole, words of 32 bits as cells, 'only block g has turned', a digest on its way. Conditions: none.
-/
import Derived.Test.YtdojalhaklkegaaDoorAppend
import Derived.Test.YtdojalhaklkegaaDoorShaRor
import Derived.Deep.MidRow
import Derived.Laws.CopyOwn
import Derived.Deep.QuietTactic
import Derived.BigQuiet
import Derived.RegionTactic
import Derived.StillTailTactics
import Derived.Deep.Cut
namespace Go.Proofs.YtdojalhaklkegaaDoor
open Go.RowKit
set_option linter.unusedVariables false

/-- A block is just the cells cs. -/
def Blk (w : World) (g : Nat) (t : TypeId) (cs : List Value) : Prop := w.heap[g]? = some (.cells cs.toArray t (0, 0))

theorem Blk.lt {w : World} {g : Nat} {t : TypeId} {cs : List Value} (h : Blk w g t cs) : g < w.heap.size := by
  rcases Nat.lt_or_ge g w.heap.size with hlt | hge
  · exact hlt
  · unfold Blk at h; rw [Array.getElem?_eq_none hge] at h; cases h

theorem Blk.cell {w : World} {g : Nat} {t : TypeId} {cs : List Value} (h : Blk w g t cs) (i : Nat) : w.cell? ⟨g, i, none⟩ = cs[i]? := by
  rw [cell_of_row w g i cs.toArray t (0, 0) h]
  simp

theorem Blk.frozen {w : World} {g : Nat} {t : TypeId} {cs : List Value} (h : Blk w g t cs) (i : Nat) : w.frozen? ⟨g, i, none⟩ = false := frozen_of_row w g i _ t h

theorem Blk.new (w : World) (t : TypeId) (cs : Array Value) : Blk (w.alloc (.cells cs t)) w.heap.size t cs.toList := by
  have := heap_alloc_new w (.cells cs t)
  simpa [Blk] using this

theorem Blk.newAt (w : World) (t : TypeId) (cs : Array Value) (g : Nat) (xs : List Value) (hg : g = w.heap.size) (e : cs.toList = xs) : Blk (w.alloc (.cells cs t)) g t xs := by
  subst hg e
  exact Blk.new w t cs

theorem Blk.drew {w : World} {g : Nat} {t : TypeId} {cs : List Value} (h : Blk w g t cs) : Blk w.drew g t cs := h

theorem Blk.drewN {w : World} {g : Nat} {t : TypeId} {cs : List Value} (h : Blk w g t cs) (n : Nat) : Blk (w.drewN n) g t cs := h

theorem Blk.alloc {w : World} {g : Nat} {t : TypeId} {cs : List Value} (h : Blk w g t cs) (o : Obj) : Blk (w.alloc o) g t cs := (Below.heap_alloc w o g h.lt).trans h

theorem Blk.set_ {w : World} {g : Nat} {t : TypeId} {cs : List Value} (h : Blk w g t cs) (i : Nat) (u : Value) : Blk (w.setCell ⟨g, i, none⟩ u) g t (cs.set i u) := by
  have := heap_setCell_same w g i _ t u h
  simpa [Blk] using this

theorem Blk.far {w : World} {g : Nat} {t : TypeId} {cs : List Value} (h : Blk w g t cs) {p : Addr} (hp : g ≠ p.block) (u : Value) : Blk (w.setCell p u) g t cs := (Below.heap_setCell w p u g hp).trans h

theorem Blk.below {w w' : World} {g : Nat} {t : TypeId} {cs : List Value} {B : Nat} (h : Blk w g t cs) (hb : Below B w w') (hg : g < B) : Blk w' g t cs := (hb.block g hg).trans h

theorem Blk.grown {w w' : World} {g : Nat} {t : TypeId} {cs : List Value} {row : Option Nat} (h : Blk w g t cs) (hb : w.grownBy w' row) (hg : some g ≠ row) : Blk w' g t cs := (hb.block g h.lt hg).trans h

theorem Blk.eq_ {w : World} {g : Nat} {t : TypeId} {cs cs' : List Value} (h : Blk w g t cs) (e : cs = cs') : Blk w g t cs' := e ▸ h

theorem Blk.range {w : World} {g : Nat} {t : TypeId} {cs : List Value} (h : Blk w g t cs) (o : Nat) (xs ys : List Value) (e : cs.drop o = xs ++ ys) : w.rangeAt g o xs := by
  intro j v hv
  rw [h.cell, ← hv, ← List.getElem?_drop, e, List.getElem?_append_left (List.getElem?_eq_some_iff.1 hv).1]

/-- Only block g, and what is new, has turned. -/
abbrev Only (g : Nat) (a w : World) : Prop := a.grownBy w (some g)

theorem Only.below {g B : Nat} {a w : World} (h : Only g a w) (hB : B ≤ a.heap.size) (hg : B ≤ g) : Below B a w :=
  (Below.refl B a).grown h hB fun k hk => by cases hk; exact hg

theorem Only.drewN {g : Nat} {a w : World} (h : Only g a w) (n : Nat) : Only g a (w.drewN n) := ⟨h.os, h.tape, h.output, h.size, h.block⟩

theorem Only.drew {g : Nat} {a w : World} (h : Only g a w) : Only g a w.drew := ⟨h.os, h.tape, h.output, h.size, h.block⟩

theorem Only.alloc {g : Nat} {a w : World} (h : Only g a w) (o : Obj) : Only g a (w.alloc o) :=
  ⟨h.os, h.tape, h.output, Nat.le_trans h.size (by simp), fun i hi hne => (Below.heap_alloc w o i (Nat.lt_of_lt_of_le hi h.size)).trans (h.block i hi hne)⟩

theorem Only.setCell {g : Nat} {a w : World} (h : Only g a w) {p : Addr} (hp : p.block = g ∨ a.heap.size ≤ p.block) (u : Value) : Only g a (w.setCell p u) :=
  ⟨h.os, h.tape, h.output, by simpa [World.setCell] using h.size, fun i hi hne => (Below.heap_setCell w p u i (by
    rintro rfl
    rcases hp with hp | hp
    · exact hne (by rw [hp])
    · omega)).trans (h.block i hi hne)⟩

theorem Only.of_below {g : Nat} {a w : World} (h : Below a.heap.size a w) : Only g a w := ⟨h.os, h.tape, h.output, h.size, fun i hi _ => h.block i hi⟩

theorem Only.trans {g : Nat} {a b c : World} (h : Only g a b) (k : Only g b c) : Only g a c :=
  ⟨k.os.trans h.os, k.tape.trans h.tape, k.output.trans h.output, Nat.le_trans h.size k.size, fun i hi hne => (k.block i (Nat.lt_of_lt_of_le hi h.size) hne).trans (h.block i hi hne)⟩

theorem Only.refl (g : Nat) (a : World) : Only g a a := World.grownBy.refl _ _

theorem drewN_below {B : Nat} {a w : World} (h : Below B a w) (n : Nat) : Below B a (w.drewN n) := ⟨h.os, h.tape, h.output, h.size, h.block⟩

/-- The slice's bytes, if it has any, do not lie in block g. -/
def Off (v : Value) (g : Nat) : Prop := ∀ ad n c, v = .slice (some ad) n c → 0 < n → ad.block ≠ g

/-- What lies in memory does not lie in a block that is not there yet. -/
theorem IsB.off {w : World} {v : Value} {bs : List UInt8} {g : Nat} (h : IsB w v bs) (hg : w.heap.size ≤ g) : Off v g := by
  obtain ⟨ao, cap, rfl, h1, h2, h3⟩ := h
  intro ad n c e hn
  injection e with e1 e2 e3
  rcases h3 with h | ⟨b, off, h4, h⟩
  · rw [← e2, h] at hn
    simp at hn
  · rw [h4] at e1
    injection e1 with e1
    have := World.block_lt_of_cell? w _ (h 0 (by omega))
    rw [← e1]
    show b ≠ g
    have h5 : b < w.heap.size := this
    omega

theorem IsB.only {w w' : World} {v : Value} {bs : List UInt8} {g : Nat} (h : IsB w v bs) (k : Only g w w') (ho : Off v g) : IsB w' v bs := by
  obtain ⟨ao, cap, rfl, h1, h2, h3⟩ := h
  refine ⟨ao, cap, rfl, h1, h2, ?_⟩
  rcases h3 with h | ⟨b, off, rfl, h⟩
  · exact .inl h
  · refine .inr ⟨b, off, rfl, fun i hi => ?_⟩
    have hne : b ≠ g := ho _ _ _ rfl (by omega)
    exact k.cell (h i hi) (fun e => hne (by injection e))

/-- A word of 32 bits as a cell. -/
def c32 (x : UInt32) : Value := .int .u32 (x.toNat : Int)

def wc (l : List UInt32) : List Value := l.map c32

theorem wc_length (l : List UInt32) : (wc l).length = l.length := by simp [wc]

theorem wc_oneCell (l : List UInt32) : ∀ v ∈ (wc l).toArray.toList, v.oneCell' = true := by
  intro v hv
  simp [wc] at hv
  obtain ⟨_, _, rfl⟩ := hv
  rfl

theorem wc_append (a b : List UInt32) : wc (a ++ b) = wc a ++ wc b := by simp [wc]

theorem wc_get (l : List UInt32) (i : Nat) (h : i < l.length) : (wc l)[i]? = some (.int .u32 ((l.getD i 0).toNat : Int)) := by
  simp [wc, c32, h]

/-- The cells of a digest on its way. -/
def Hc (s : List UInt32) (wait : List UInt8) (n : Nat) : List Value := wc s ++ (Lib.byteCells wait ++ [.int .u64 (n : Int)])

theorem Hc_length (s : List UInt32) (wait : List UInt8) (n : Nat) : (Hc s wait n).length = s.length + wait.length + 1 := by
  simp [Hc, wc_length, byteCells_length]; omega

theorem Hc_state (s : List UInt32) (wait : List UInt8) (n i : Nat) (h : i < s.length) : (Hc s wait n)[i]? = some (.int .u32 ((s.getD i 0).toNat : Int)) := by
  rw [Hc, List.getElem?_append_left (by rw [wc_length]; exact h), wc_get s i h]

theorem Hc_wait (s : List UInt32) (wait : List UInt8) (n i : Nat) (hs : s.length = 8) (h : i < wait.length) : (Hc s wait n)[8 + i]? = some (.int .u8 ((wait.getD i 0).toNat : Int)) := by
  rw [Hc, List.getElem?_append_right (by rw [wc_length, hs]; omega), wc_length, hs, Nat.add_sub_cancel_left, List.getElem?_append_left (by rw [byteCells_length]; exact h), byteCells_getElem? wait i h]

theorem Hc_count (s : List UInt32) (wait : List UInt8) (n : Nat) (hs : s.length = 8) (hw : wait.length = 64) : (Hc s wait n)[72]? = some (.int .u64 (n : Int)) := by
  rw [Hc, List.getElem?_append_right (by rw [wc_length, hs]; omega), wc_length, hs, List.getElem?_append_right (by rw [byteCells_length, hw]; omega), byteCells_length, hw]
  rfl

/-- A whole array or struct into a block that is known. -/
theorem wpList_store_blk {P : Program} {ops : Array Oper} {rest : List Oper} {o : Oper} {a : Act} {w : World} {Q : Exit → Act → World → Prop} (hgd : o.guard = none) (ty : TypeId) (x y : Operand) (ho : o.op = .store ty x y)
    (g : Nat) (cells : Array Value) (hx : a.eval x = .pointer (some ⟨g, 0, none⟩)) (hy : a.eval y = .agg cells) (t : TypeId) (cs : List Value) (hg : Blk w g t cs)
    (hi : (P.info? ty).map (·.size) = some cells.size) (hl : cs.length = cells.size) (h1 : ∀ v ∈ cells.toList, v.oneCell' = true)
    (h : ∀ w', Blk w' g t cells.toList → Only g w w' → wpList P ops Q rest (a.put o.dst undef) w') : wpList P ops Q (o :: rest) a w := by
  refine wpList_plain hgd fun _ hK => ?_
  unfold Oper.wp execOp
  have h1' : cells.all (·.oneCell') = true := Array.all_eq_true_iff_forall_mem.2 fun v hv => h1 v (by simpa using hv)
  simp only [ho, hx, hy, Instr.storeAt, Instr.sureAddr, Sem.run_bind, Sem.run_pure, Result.andThen_ok, run_storeVar_row w g t ty cs.toArray cells hg hi (by simpa using hl) h1']
  refine hK _ _ (h _ ?_ ⟨rfl, rfl, rfl, by simp, fun k _ hne => ?_⟩)
  · have := setRow_heap w g cs.toArray cells t (0, 0) hg
    simpa [Blk] using this
  · exact setRow_other w g k cells (fun e => hne (by rw [e]))

/-- 'copy' into a block that is known, from cells that are known. -/
theorem wpList_copy_blk {P : Program} {w : World} {ops : Array Oper} {rest : List Oper} {o : Oper} {a : Act} {Q : Exit → Act → World → Prop} (hgd : o.guard = none) (d s : Operand) (dT sT : TypeId)
    (ho : o.op = .call { callee := .builtin .copy, args := #[d, s], argTypes := #[dT, sT] }) (elem : TypeId) (hu : P.underlying dT = some (.slice elem)) (hsz : (P.info? elem).map (·.size) = some 1)
    (dp sp : Option Addr) (dLen dCap sLen sCap : Nat) (hd : a.eval d = .slice dp dLen dCap) (hs : a.eval s = .slice sp sLen sCap)
    (g off : Nat) (cur : List Value) (t : TypeId) (hg : Blk w g t cur) (cs : List Value) (hn : cs.length = Nat.min sLen dLen)
    (hpos : 0 < cs.length → dp = some ⟨g, off, none⟩ ∧ ∃ ad, sp = some ad ∧ ∀ j v, cs[j]? = some v → w.cell? (ad.add j) = some v)
    (hfit : off + cs.length ≤ cur.length) (h1 : ∀ v ∈ cs, v.oneCell' = true)
    (h : ∀ w', Blk w' g t (splice cur off cs) → Only g w w' → wpList P ops Q rest (a.put o.dst (.int .i64 (cs.length : Int))) w') :
    wpList P ops Q (o :: rest) a w := by
  by_cases h0 : cs.length = 0
  · obtain rfl : cs = [] := List.eq_nil_of_length_eq_zero h0
    refine wpList_copy_nothing hgd d s dT sT ho elem hu hsz dp sp dLen dCap sLen sCap hd hs (by simpa using hn.symm) ?_
    exact h w (hg.eq_ (by simp [splice])) (Only.refl g w)
  · obtain ⟨rfl, ad, rfl, hsrc⟩ := hpos (by omega)
    refine wpList_copy_own hgd d s dT sT ho elem hu hsz g off dLen dCap ad sLen sCap hd hs cur.toArray t hg cs hn hsrc (by simpa using hfit) h1 ?_
    exact h _ (show _ = _ by simpa [splice] using setRow_heap w g _ _ t _ hg) ⟨rfl, rfl, rfl, by simp, fun k _ hne => setRow_other w g k _ (fun e => hne (by rw [e]))⟩

/-- A region that draws, of reads and calls that leave the world alone, ahead of a forced tail. -/
theorem wp_region_still {P : Program} {id : Nat} {Q : Exit → Act → World → Prop} {a : Act} {w : World} {l : List Oper} (n : Nat) (hm : P.follows .mixedOrders = true) (hB : Region.lexTailB .any l.toArray n = true)
    (h : wpStill P l.toArray w.drew (fun a' => wpList P l.toArray Q (l.drop n) a' w.drew) (l.take n) a) : (Code.region id l.toArray true).wp P Q a w :=
  wp_region_still_tail n hm hB h

/-- 'h.wait[at:]'. -/
theorem slice_wait (g at_ : Nat) (z : Int) (hz : z = at_) (h : at_ < 64) (w : World) :
    (Instr.sliceAt 101 (.pointer (some ⟨g, 8, none⟩)) (some (.int .i64 z)) none none).run Tryd.prog w = .ok (.slice (some ⟨g, 8 + at_, none⟩) (64 - at_) (64 - at_)) w := by
  subst hz
  have hal : Tryd.prog.arrayLen 101 = 64 := by simp [Program.arrayLen, Tryd.underlying101]
  have hel : Tryd.prog.elem 101 = 5 := by simp [Program.elem, Tryd.underlying101]
  rw [run_sliceAt_array_l w 101 ⟨g, 8, none⟩ (by rw [hal, hel]; exact Tryd.underlying101) .i64 (at_ : Int) (by omega) (by rw [hal]; omega), hel, Tryd.sizeOf5]
  simp only [Result.andThen_ok, slicedAt, hal, Int.toNat_natCast]
  rw [if_neg (by omega), Nat.mul_one, Addr.add_lit]

end Go.Proofs.YtdojalhaklkegaaDoor
