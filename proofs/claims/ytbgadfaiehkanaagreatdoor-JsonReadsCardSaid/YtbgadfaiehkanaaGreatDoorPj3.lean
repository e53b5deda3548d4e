/-
  MEMORY FOR LAYER 2: a block known whole, words of 32 bits as cells, 'only block g has turned', a digest on its way. Conditions: none.
  CONTRACTS OF word.ofLeastFirst, word.ofGreatestFirst, Get32, Get64, GetBig32, GetBig64 and of orlopref01.Get, GetBig: the numbers of the first bytes of a row. Conditions: none but n up to 8, which is all that is asked for.
  CONTRACTS OF orlopref01.Little, Back, Equal, Get, GetBig: the document's own answers on numbers as bytes. Conditions: none but n up to 8, which is all that is asked for.
  CONTRACTS OF word.Equal AND word.Wipe. Conditions: what is wiped is a row of the call's own.
  THINGS THAT LIVE IN SEVERAL BLOCKS: what a call may have turned (a set of blocks), what lies out of it and lasts. Nothing of the program. Conditions: none.
-/
import Derived.Test.YtbgadfaiehkanaaGreatDoorPj2
import Derived.Deep.MidRow
import Derived.Laws.CopyOwn
import Derived.Deep.QuietTactic
import Derived.BigQuiet
import Derived.RegionTactic
import Derived.StillTailTactics
import Derived.Deep.Cut
import Derived.WalkSpells
import Derived.Lib.SliceRun
import Derived.Lib.Hide

namespace Go.Proofs.YtbgadfaiehkanaaGreatDoor
open Go.RowKit
set_option linter.unusedVariables false

/-- A block is just the cells cs. -/
def Blk (w : World) (g : Nat) (t : TypeId) (cs : List Value) : Prop := w.heap[g]? = some (.cells cs.toArray t (0, 0))

theorem Blk.lt {w : World} {g : Nat} {t : TypeId} {cs : List Value} (h : Blk w g t cs) : g < w.heap.size := by
  rcases Nat.lt_or_ge g w.heap.size with hlt | hge
  · exact hlt
  · unfold Blk at h; rw [Array.getElem?_eq_none hge] at h; cases h

theorem Blk.cell {w : World} {g : Nat} {t : TypeId} {cs : List Value} (h : Blk w g t cs) (i : Nat) : w.cell? ⟨g, i, none⟩ = cs[i]? := by
  rw [cell_of_row w g i cs.toArray t (0, 0) h]
  simp

theorem Blk.frozen {w : World} {g : Nat} {t : TypeId} {cs : List Value} (h : Blk w g t cs) (i : Nat) : w.frozen? ⟨g, i, none⟩ = false := frozen_of_row w g i _ t h

theorem Blk.new (w : World) (t : TypeId) (cs : Array Value) : Blk (w.alloc (.cells cs t)) w.heap.size t cs.toList := by
  have := heap_alloc_new w (.cells cs t)
  simpa [Blk] using this

theorem Blk.newAt (w : World) (t : TypeId) (cs : Array Value) (g : Nat) (xs : List Value) (hg : g = w.heap.size) (e : cs.toList = xs) : Blk (w.alloc (.cells cs t)) g t xs := by
  subst hg e
  exact Blk.new w t cs

theorem Blk.drew {w : World} {g : Nat} {t : TypeId} {cs : List Value} (h : Blk w g t cs) : Blk w.drew g t cs := h

theorem Blk.drewN {w : World} {g : Nat} {t : TypeId} {cs : List Value} (h : Blk w g t cs) (n : Nat) : Blk (w.drewN n) g t cs := h

theorem Blk.alloc {w : World} {g : Nat} {t : TypeId} {cs : List Value} (h : Blk w g t cs) (o : Obj) : Blk (w.alloc o) g t cs := (Below.heap_alloc w o g h.lt).trans h

theorem Blk.set_ {w : World} {g : Nat} {t : TypeId} {cs : List Value} (h : Blk w g t cs) (i : Nat) (u : Value) : Blk (w.setCell ⟨g, i, none⟩ u) g t (cs.set i u) := by
  have := heap_setCell_same w g i _ t u h
  simpa [Blk] using this

theorem Blk.far {w : World} {g : Nat} {t : TypeId} {cs : List Value} (h : Blk w g t cs) {p : Addr} (hp : g ≠ p.block) (u : Value) : Blk (w.setCell p u) g t cs := (Below.heap_setCell w p u g hp).trans h

theorem Blk.below {w w' : World} {g : Nat} {t : TypeId} {cs : List Value} {B : Nat} (h : Blk w g t cs) (hb : Below B w w') (hg : g < B) : Blk w' g t cs := (hb.block g hg).trans h

theorem Blk.grown {w w' : World} {g : Nat} {t : TypeId} {cs : List Value} {row : Option Nat} (h : Blk w g t cs) (hb : w.grownBy w' row) (hg : some g ≠ row) : Blk w' g t cs := (hb.block g h.lt hg).trans h

theorem Blk.eq_ {w : World} {g : Nat} {t : TypeId} {cs cs' : List Value} (h : Blk w g t cs) (e : cs = cs') : Blk w g t cs' := e ▸ h

theorem Blk.range {w : World} {g : Nat} {t : TypeId} {cs : List Value} (h : Blk w g t cs) (o : Nat) (xs ys : List Value) (e : cs.drop o = xs ++ ys) : w.rangeAt g o xs := by
  intro j v hv
  rw [h.cell, ← hv, ← List.getElem?_drop, e, List.getElem?_append_left (List.getElem?_eq_some_iff.1 hv).1]

/-- Only block g, and what is new, has turned. -/
abbrev Only (g : Nat) (a w : World) : Prop := a.grownBy w (some g)

theorem Only.below {g B : Nat} {a w : World} (h : Only g a w) (hB : B ≤ a.heap.size) (hg : B ≤ g) : Below B a w :=
  (Below.refl B a).grown h hB fun k hk => by cases hk; exact hg

theorem Only.drewN {g : Nat} {a w : World} (h : Only g a w) (n : Nat) : Only g a (w.drewN n) := ⟨h.os, h.tape, h.output, h.size, h.block⟩

theorem Only.drew {g : Nat} {a w : World} (h : Only g a w) : Only g a w.drew := ⟨h.os, h.tape, h.output, h.size, h.block⟩

theorem Only.alloc {g : Nat} {a w : World} (h : Only g a w) (o : Obj) : Only g a (w.alloc o) :=
  ⟨h.os, h.tape, h.output, Nat.le_trans h.size (by simp), fun i hi hne => (Below.heap_alloc w o i (Nat.lt_of_lt_of_le hi h.size)).trans (h.block i hi hne)⟩

theorem Only.setCell {g : Nat} {a w : World} (h : Only g a w) {p : Addr} (hp : p.block = g ∨ a.heap.size ≤ p.block) (u : Value) : Only g a (w.setCell p u) :=
  ⟨h.os, h.tape, h.output, by simpa [World.setCell] using h.size, fun i hi hne => (Below.heap_setCell w p u i (by
    rintro rfl
    rcases hp with hp | hp
    · exact hne (by rw [hp])
    · omega)).trans (h.block i hi hne)⟩

theorem Only.of_below {g : Nat} {a w : World} (h : Below a.heap.size a w) : Only g a w := ⟨h.os, h.tape, h.output, h.size, fun i hi _ => h.block i hi⟩

theorem Only.trans {g : Nat} {a b c : World} (h : Only g a b) (k : Only g b c) : Only g a c :=
  ⟨k.os.trans h.os, k.tape.trans h.tape, k.output.trans h.output, Nat.le_trans h.size k.size, fun i hi hne => (k.block i (Nat.lt_of_lt_of_le hi h.size) hne).trans (h.block i hi hne)⟩

theorem Only.refl (g : Nat) (a : World) : Only g a a := World.grownBy.refl _ _

theorem drewN_below {B : Nat} {a w : World} (h : Below B a w) (n : Nat) : Below B a (w.drewN n) := ⟨h.os, h.tape, h.output, h.size, h.block⟩

/-- The slice's bytes, if it has any, do not lie in block g. -/
def Off (v : Value) (g : Nat) : Prop := ∀ ad n c, v = .slice (some ad) n c → 0 < n → ad.block ≠ g

/-- What lies in memory does not lie in a block that is not there yet. -/
theorem IsB.off {w : World} {v : Value} {bs : List UInt8} {g : Nat} (h : IsB w v bs) (hg : w.heap.size ≤ g) : Off v g := by
  obtain ⟨ao, cap, rfl, h1, h2, h3⟩ := h
  intro ad n c e hn
  injection e with e1 e2 e3
  rcases h3 with h | ⟨b, off, h4, h⟩
  · rw [← e2, h] at hn
    simp at hn
  · rw [h4] at e1
    injection e1 with e1
    have := World.block_lt_of_cell? w _ (h 0 (by omega))
    rw [← e1]
    show b ≠ g
    have h5 : b < w.heap.size := this
    omega

theorem IsB.only {w w' : World} {v : Value} {bs : List UInt8} {g : Nat} (h : IsB w v bs) (k : Only g w w') (ho : Off v g) : IsB w' v bs := by
  obtain ⟨ao, cap, rfl, h1, h2, h3⟩ := h
  refine ⟨ao, cap, rfl, h1, h2, ?_⟩
  rcases h3 with h | ⟨b, off, rfl, h⟩
  · exact .inl h
  · refine .inr ⟨b, off, rfl, fun i hi => ?_⟩
    have hne : b ≠ g := ho _ _ _ rfl (by omega)
    exact k.cell (h i hi) (fun e => hne (by injection e))

/-- A word of 32 bits as a cell. -/
def c32 (x : UInt32) : Value := .int .u32 (x.toNat : Int)

def wc (l : List UInt32) : List Value := l.map c32

theorem wc_length (l : List UInt32) : (wc l).length = l.length := by simp [wc]

theorem wc_oneCell (l : List UInt32) : ∀ v ∈ (wc l).toArray.toList, v.oneCell' = true := by
  intro v hv
  simp [wc] at hv
  obtain ⟨_, _, rfl⟩ := hv
  rfl

theorem wc_append (a b : List UInt32) : wc (a ++ b) = wc a ++ wc b := by simp [wc]

theorem wc_get (l : List UInt32) (i : Nat) (h : i < l.length) : (wc l)[i]? = some (.int .u32 ((l.getD i 0).toNat : Int)) := by
  simp [wc, c32, h]

/-- The cells of a digest on its way. -/
def Hc (s : List UInt32) (wait : List UInt8) (n : Nat) : List Value := wc s ++ (Lib.byteCells wait ++ [.int .u64 (n : Int)])

theorem Hc_length (s : List UInt32) (wait : List UInt8) (n : Nat) : (Hc s wait n).length = s.length + wait.length + 1 := by
  simp [Hc, wc_length, byteCells_length]; omega

theorem Hc_state (s : List UInt32) (wait : List UInt8) (n i : Nat) (h : i < s.length) : (Hc s wait n)[i]? = some (.int .u32 ((s.getD i 0).toNat : Int)) := by
  rw [Hc, List.getElem?_append_left (by rw [wc_length]; exact h), wc_get s i h]

theorem Hc_wait (s : List UInt32) (wait : List UInt8) (n i : Nat) (hs : s.length = 8) (h : i < wait.length) : (Hc s wait n)[8 + i]? = some (.int .u8 ((wait.getD i 0).toNat : Int)) := by
  rw [Hc, List.getElem?_append_right (by rw [wc_length, hs]; omega), wc_length, hs, Nat.add_sub_cancel_left, List.getElem?_append_left (by rw [byteCells_length]; exact h), byteCells_getElem? wait i h]

theorem Hc_count (s : List UInt32) (wait : List UInt8) (n : Nat) (hs : s.length = 8) (hw : wait.length = 64) : (Hc s wait n)[72]? = some (.int .u64 (n : Int)) := by
  rw [Hc, List.getElem?_append_right (by rw [wc_length, hs]; omega), wc_length, hs, List.getElem?_append_right (by rw [byteCells_length, hw]; omega), byteCells_length, hw]
  rfl

/-- A whole array or struct into a block that is known. -/
theorem wpList_store_blk {P : Program} {ops : Array Oper} {rest : List Oper} {o : Oper} {a : Act} {w : World} {Q : Exit → Act → World → Prop} (hgd : o.guard = none) (ty : TypeId) (x y : Operand) (ho : o.op = .store ty x y)
    (g : Nat) (cells : Array Value) (hx : a.eval x = .pointer (some ⟨g, 0, none⟩)) (hy : a.eval y = .agg cells) (t : TypeId) (cs : List Value) (hg : Blk w g t cs)
    (hi : (P.info? ty).map (·.size) = some cells.size) (hl : cs.length = cells.size) (h1 : ∀ v ∈ cells.toList, v.oneCell' = true)
    (h : ∀ w', Blk w' g t cells.toList → Only g w w' → wpList P ops Q rest (a.put o.dst undef) w') : wpList P ops Q (o :: rest) a w := by
  refine wpList_plain hgd fun _ hK => ?_
  unfold Oper.wp execOp
  have h1' : cells.all (·.oneCell') = true := Array.all_eq_true_iff_forall_mem.2 fun v hv => h1 v (by simpa using hv)
  simp only [ho, hx, hy, Instr.storeAt, Instr.sureAddr, Sem.run_bind, Sem.run_pure, Result.andThen_ok, run_storeVar_row w g t ty cs.toArray cells hg hi (by simpa using hl) h1']
  refine hK _ _ (h _ ?_ ⟨rfl, rfl, rfl, by simp, fun k _ hne => ?_⟩)
  · have := setRow_heap w g cs.toArray cells t (0, 0) hg
    simpa [Blk] using this
  · exact setRow_other w g k cells (fun e => hne (by rw [e]))

/-- 'copy' into a block that is known, from cells that are known. -/
theorem wpList_copy_blk {P : Program} {w : World} {ops : Array Oper} {rest : List Oper} {o : Oper} {a : Act} {Q : Exit → Act → World → Prop} (hgd : o.guard = none) (d s : Operand) (dT sT : TypeId)
    (ho : o.op = .call { callee := .builtin .copy, args := #[d, s], argTypes := #[dT, sT] }) (elem : TypeId) (hu : P.underlying dT = some (.slice elem)) (hsz : (P.info? elem).map (·.size) = some 1)
    (dp sp : Option Addr) (dLen dCap sLen sCap : Nat) (hd : a.eval d = .slice dp dLen dCap) (hs : a.eval s = .slice sp sLen sCap)
    (g off : Nat) (cur : List Value) (t : TypeId) (hg : Blk w g t cur) (cs : List Value) (hn : cs.length = Nat.min sLen dLen)
    (hpos : 0 < cs.length → dp = some ⟨g, off, none⟩ ∧ ∃ ad, sp = some ad ∧ ∀ j v, cs[j]? = some v → w.cell? (ad.add j) = some v)
    (hfit : off + cs.length ≤ cur.length) (h1 : ∀ v ∈ cs, v.oneCell' = true)
    (h : ∀ w', Blk w' g t (splice cur off cs) → Only g w w' → wpList P ops Q rest (a.put o.dst (.int .i64 (cs.length : Int))) w') :
    wpList P ops Q (o :: rest) a w := by
  by_cases h0 : cs.length = 0
  · obtain rfl : cs = [] := List.eq_nil_of_length_eq_zero h0
    refine wpList_copy_nothing hgd d s dT sT ho elem hu hsz dp sp dLen dCap sLen sCap hd hs (by simpa using hn.symm) ?_
    exact h w (hg.eq_ (by simp [splice])) (Only.refl g w)
  · obtain ⟨rfl, ad, rfl, hsrc⟩ := hpos (by omega)
    refine wpList_copy_own hgd d s dT sT ho elem hu hsz g off dLen dCap ad sLen sCap hd hs cur.toArray t hg cs hn hsrc (by simpa using hfit) h1 ?_
    exact h _ (show _ = _ by simpa [splice] using setRow_heap w g _ _ t _ hg) ⟨rfl, rfl, rfl, by simp, fun k _ hne => setRow_other w g k _ (fun e => hne (by rw [e]))⟩

/-- A region that draws, of reads and calls that leave the world alone, ahead of a forced tail. -/
theorem wp_region_still {P : Program} {id : Nat} {Q : Exit → Act → World → Prop} {a : Act} {w : World} {l : List Oper} (n : Nat) (hm : P.follows .mixedOrders = true) (hB : Region.lexTailB .any l.toArray n = true)
    (h : wpStill P l.toArray w.drew (fun a' => wpList P l.toArray Q (l.drop n) a' w.drew) (l.take n) a) : (Code.region id l.toArray true).wp P Q a w :=
  wp_region_still_tail n hm hB h

/-- 'h.wait[at:]'. -/
theorem slice_wait (g at_ : Nat) (z : Int) (hz : z = at_) (h : at_ < 64) (w : World) :
    (Instr.sliceAt 262 (.pointer (some ⟨g, 8, none⟩)) (some (.int .i64 z)) none none).run Tryz.prog w = .ok (.slice (some ⟨g, 8 + at_, none⟩) (64 - at_) (64 - at_)) w := by
  subst hz
  have hal : Tryz.prog.arrayLen 262 = 64 := by simp [Program.arrayLen, Tryz.underlying262]
  have hel : Tryz.prog.elem 262 = 5 := by simp [Program.elem, Tryz.underlying262]
  rw [run_sliceAt_array_l w 262 ⟨g, 8, none⟩ (by rw [hal, hel]; exact Tryz.underlying262) .i64 (at_ : Int) (by omega) (by rw [hal]; omega), hel, Tryz.sizeOf5]
  simp only [Result.andThen_ok, slicedAt, hal, Int.toNat_natCast]
  rw [if_neg (by omega), Nat.mul_one, Addr.add_lit]

end Go.Proofs.YtbgadfaiehkanaaGreatDoor

namespace Go.Proofs.YtbgadfaiehkanaaGreatDoor
open Go.RowKit

theorem ret_u64 {a b : Int} (h : a = b) : Ending.returned (.int .u64 a) = .returned (.int .u64 b) := by rw [h]
theorem ret_u32 {a b : Int} (h : a = b) : Ending.returned (.int .u32 a) = .returned (.int .u32 b) := by rw [h]

theorem gb_up (bs : List UInt8) (k n : Nat) (h : k ≤ n) (hn : n ≤ 8) : M.gb bs k * 256 ^ (n - k) < 18446744073709551616 := by
  have h1 : M.gb bs k * 256 ^ (n - k) < 256 ^ k * 256 ^ (n - k) := (Nat.mul_lt_mul_right (M.pow_pos _)).2 (M.gb_lt bs k)
  rw [← Nat.pow_add, show k + (n - k) = n by omega] at h1
  have h2 : (256 : Nat) ^ n ≤ 256 ^ 8 := Nat.pow_le_pow_right (by omega) (by omega)
  have h3 : (256 : Nat) ^ 8 = 18446744073709551616 := by decide
  omega

theorem ofGreatestFirst_any (ao : Option Addr) (cap n : Nat) (bs : List UInt8) (w : World) (hn : n ≤ 8) (hl : bs.length ≤ cap) (hm : cap ≤ maxLen) (h : At w ao bs) :
    Calls Tryz.prog 154 #[.slice ao bs.length cap, .int .i64 n] w fun e w' => e = .returned (.int .u64 (M.gb bs n : Nat)) ∧ w = w' := by
  unfold maxLen at hm
  have H : Hid (At w ao bs) := h
  clear h
  by_cases hmin : n ≤ bs.length
  all_goals
    go_enter Tryz.func154, Tryz.ntmps154
    go_wp2
    go_loop [5, 11] (fun v i => ∃ k : Nat, k ≤ n ∧ k ≤ bs.length ∧ i = .int .i64 k ∧ v = .int .u64 (M.gb bs k * 256 ^ (n - k) : Nat)) (fun _ i => n - (intOf i).toNat)
    case atStart => exact ⟨0, Nat.zero_le _, Nat.zero_le _, rfl, by simp [M.gb]⟩
    case round =>
      obtain ⟨k, hk, hk2, rfl, rfl⟩ := hrel
      by_cases hlt : k < n ∧ k < bs.length
      · obtain ⟨h1, h2⟩ := hlt
        rcases H.out with h0 | ⟨b, off, rfl, hc0⟩
        · subst h0; simp at h2
        · have hc := hc0 k h2
          clear hc0
          obtain ⟨c, hcc⟩ : ∃ c, c = (bs.getD k 0).toNat := ⟨_, rfl⟩
          rw [← hcc] at hc
          have HC : Hid (c = (bs.getD k 0).toNat) := hcc
          clear hcc
          obtain ⟨g, hg⟩ : ∃ g, g = M.gb bs k * 256 ^ (n - k) := ⟨_, rfl⟩
          rw [← hg]
          have HG : Hid (g = M.gb bs k * 256 ^ (n - k)) := hg
          clear hg
          go_wp2
          go_round
          case rel =>
            refine ⟨k + 1, by omega, by omega, by go_num, ?_⟩
            have e := HG.out
            have hb := gb_up bs k n hk hn
            rw [show n - k = n - 1 - k + 1 by omega] at e hb
            rw [e, or_byte_down _ c (n - 1 - k) hb (by omega) (by have := (bs.getD k 0).toNat_lt; have := HC.out; omega), HC.out]
            rw [show n - (k + 1) = n - 1 - k by omega]
            rfl
          case measure => simp [intOf]; omega
      · go_wp2
        go_ret
        refine ⟨ret_u64 ?_, rfl⟩
        by_cases hkn : k = n
        · rw [hkn]; simp
        · have e := M.gb_past bs k (by omega) (n - k)
          rw [show k + (n - k) = n by omega] at e
          rw [e]
          simp

theorem getBig32_any (v : Value) (bs : List UInt8) (w : World) (h : IsB w v bs) :
    Calls Tryz.prog 121 #[v] w fun e w' => e = .returned (.int .u32 (M.gb bs 4 : Nat)) ∧ w = w' := by
  obtain ⟨ao, cap, rfl, h1, h2, h3⟩ := h
  go_enter Tryz.func121, Tryz.ntmps121
  go_wp2_with (go_at_call 154; go_must (refine (ofGreatestFirst_any ao cap 4 bs _ (by omega) h1 h2 h3).mono ?_); rintro e w1 ⟨rfl, rfl⟩)
  go_ret
  refine ⟨ret_u32 ?_, rfl⟩
  have := M.gb_lt bs 4
  omega

end Go.Proofs.YtbgadfaiehkanaaGreatDoor

namespace Go.Proofs.YtbgadfaiehkanaaGreatDoor
open Go.RowKit

theorem ret_bool {a b : Bool} (h : a = b) : Ending.returned (.bool a) = .returned (.bool b) := by rw [h]

theorem little_any (v n : Nat) (w : World) (hv : v < 18446744073709551616) (hn : n ≤ 8) :
    Calls Tryz.prog 110 #[.int .u64 v, .int .i64 n] w (Makes w (M.le v n)) := by
  have HV : Hid (v < 18446744073709551616) := hv
  clear hv
  obtain ⟨i0, hi, hz0, hz1, hz2⟩ := info_parts Tryz.info5
  go_enter Tryz.func110, Tryz.ntmps110
  go_wp2
  go_loopw [0, 5, 6] (fun x s i wr => ∃ k : Nat, k ≤ n ∧ i = .int .i64 k ∧ x = .int .u64 (v / 256 ^ k : Nat) ∧ Hid (Own wr w.heap.size s (M.le v k)) ∧ Below w.heap.size w wr)
    (fun _ _ i _ => n - (intOf i).toNat)
  case atStart => exact ⟨0, Nat.zero_le _, rfl, by simp, World.ownsRow_nil _ _ _ _, Below.refl _ _⟩
  case round =>
    rename_i wr
    obtain ⟨k, hk, rfl, rfl, hown, hb⟩ := hrel
    have hsz : w.heap.size ≤ wr.heap.size := hb.size
    obtain ⟨q, hq⟩ : ∃ q, q = v / 256 ^ k := ⟨_, rfl⟩
    rw [← hq]
    have HQ : Hid (q = v / 256 ^ k) := hq
    clear hq
    by_cases hlt : k < n
    · have hl : (M.le v k).length = k := M.le_length v k
      have HL : Hid ((M.le v k).length = k) := hl
      clear hl
      go_wp2_with (at_builtin; go_loud (refine wpList_append_own _ rfl _ _ 22 rfl w.heap.size 5 i0 (.int .u8 0) 1 1 Tryz.underlying22 hi hz0 hz1 hz2 rfl (by decide) _ _ _ rfl (hown.out.alloc _) ⟨wr.heap.size, 0, none⟩ 1 1 [.int .u8 (↑q % 256)] rfl rfl (one_new _ _ _) (one_oneCell _ _) (by rw [HL.out]; unfold maxLen; omega) (by rw [HL.out]; omega) (by simp; omega) ?_))
      intro s' w1 hown' hgrow _
      have hb' := Below.of_grown hb hown.out hgrow
      have H' : Hid (Own w1 w.heap.size s' (M.le v (k + 1))) := by
        rw [Hid, Own, M.le, byteCells_append, List.length_append]
        have e : Value.int .u8 (↑q % 256) = .int .u8 ((UInt8.ofNat (v / 256 ^ k)).toNat : Int) := by
          rw [show (UInt8.ofNat (v / 256 ^ k)).toNat = v / 256 ^ k % 256 by simp, ← HQ.out]
          simp
        rw [e] at hown'
        exact hown'
      clear hown' hgrow
      go_wp2
      go_roundw
      case rel =>
        refine ⟨k + 1, by omega, by go_num, ?_, H', hb'⟩
        have hq : q < 18446744073709551616 := by rw [HQ.out]; exact Nat.lt_of_le_of_lt (Nat.div_le_self _ _) HV.out
        rw [Nat.pow_succ, ← Nat.div_div_eq_div_mul, ← HQ.out, wraps_u64 _ (by omega) (by omega)]
        rfl
      case measure => simp [intOf]; omega
    · obtain rfl : k = n := by omega
      go_wp2
      go_ret
      exact ⟨_, rfl, hown.out, hb⟩

theorem back_any (v : Value) (bs : List UInt8) (w : World) (h : IsB w v bs) (hsm : bs.length ≤ 140737488355328) :
    Calls Tryz.prog 109 #[v] w (Makes w bs.reverse) := by
  obtain ⟨ao, cap, rfl, hl, hm, h⟩ := h
  unfold maxLen at hm
  have H : Hid (At w ao bs) := h
  clear h
  obtain ⟨i0, hi, hz0, hz1, hz2⟩ := info_parts Tryz.info5
  go_enter Tryz.func109, Tryz.ntmps109
  go_wp2
  go_loopw [3, 4] (fun s i wr => ∃ k : Nat, k ≤ bs.length ∧ i = .int .i64 ((k : Int) - 1) ∧ Hid (Own wr w.heap.size s (bs.drop k).reverse) ∧ Below w.heap.size w wr)
    (fun _ i _ => (intOf i + 1).toNat)
  case atStart => exact ⟨bs.length, Nat.le_refl _, rfl, by rw [Hid, List.drop_length]; exact World.ownsRow_nil _ _ _ _, Below.refl _ _⟩
  case round =>
    rename_i wr
    obtain ⟨k, hk, rfl, hown, hb⟩ := hrel
    have hsz : w.heap.size ≤ wr.heap.size := hb.size
    by_cases hlt : 0 < k
    · obtain ⟨j, rfl⟩ : ∃ j, k = j + 1 := ⟨k - 1, by omega⟩
      rcases H.out with h0 | ⟨b, off, rfl, hc0⟩
      · subst h0; simp at hk
      · have hc : wr.cell? ⟨b, off + j, none⟩ = some (.int .u8 ((bs.getD j 0).toNat : Int)) := by
          have g := hc0 j (by omega)
          rw [hb.cell (by exact World.block_lt_of_cell? w _ g)]
          exact g
        clear hc0
        obtain ⟨c, hcc⟩ : ∃ c, c = (bs.getD j 0).toNat := ⟨_, rfl⟩
        rw [← hcc] at hc
        have HC : Hid (c = (bs.getD j 0).toNat) := hcc
        clear hcc
        have HL : Hid ((bs.drop (j + 1)).reverse.length = bs.length - (j + 1)) := by rw [Hid]; simp
        go_wp2_with (at_builtin; go_loud (refine wpList_append_own _ rfl _ _ 22 rfl w.heap.size 5 i0 (.int .u8 0) 1 1 Tryz.underlying22 hi hz0 hz1 hz2 rfl (by decide) _ _ _ rfl (hown.out.alloc _) ⟨wr.heap.size, 0, none⟩ 1 1 [.int .u8 c] rfl rfl (one_new _ _ _) (one_oneCell _ _) (by rw [HL.out]; unfold maxLen; omega) (by rw [HL.out]; omega) (by simp; omega) ?_))
        intro s' w1 hown' hgrow _
        have hb' := Below.of_grown hb hown.out hgrow
        have H' : Hid (Own w1 w.heap.size s' (bs.drop j).reverse) := by
          have e : bs.drop j = bs.getD j 0 :: bs.drop (j + 1) := by
            rw [List.drop_eq_getElem_cons (by omega)]
            simp [List.getD_eq_getElem?_getD, show j < bs.length by omega]
          rw [Hid, Own, e, List.reverse_cons, byteCells_append, List.length_append]
          rw [HC.out] at hown'
          rw [HL.out]
          exact hown'
        clear hown' hgrow
        go_wp2
        go_roundw
        case rel => exact ⟨j, by omega, by go_num, H', hb'⟩
        case measure => (simp [intOf]; try omega)
    · obtain rfl : k = 0 := by omega
      go_wp2
      go_ret
      exact ⟨_, rfl, hown.out, hb⟩

theorem equal_any (v1 v2 : Value) (xs ys : List UInt8) (w : World) (h1 : IsB w v1 xs) (h2 : IsB w v2 ys) :
    Calls Tryz.prog 28 #[v1, v2] w fun e w' => e = .returned (.bool (decide (xs = ys))) ∧ ∃ n, w' = w.drewN n := by
  obtain ⟨ao1, cap1, rfl, hl1, hm1, H1⟩ := h1
  obtain ⟨ao2, cap2, rfl, hl2, hm2, H2⟩ := h2
  unfold maxLen at hm1 hm2
  have H1 : Hid (At w ao1 xs) := H1
  have H2 : Hid (At w ao2 ys) := H2
  by_cases hlen : xs.length = ys.length
  · have HL : Hid (xs.length = ys.length) := hlen
    clear hlen
    rw [HL.out]
    go_enter Tryz.func28, Tryz.ntmps28
    go_wp2
    go_loopw [5] (fun i wr => ∃ k : Nat, k ≤ ys.length ∧ i = .int .i64 k ∧ Hid (xs.take k = ys.take k) ∧ ∃ n, wr = w.drewN n)
      (fun i _ => ys.length - (intOf i).toNat)
    case atStart => exact ⟨0, Nat.zero_le _, rfl, by simp [Hid], 0, rfl⟩
    case round =>
      obtain ⟨k, hk, rfl, hpre, nq, rfl⟩ := hrel
      by_cases hlt : k < ys.length
      · rcases H1.out with h0 | ⟨b1, off1, rfl, hc1⟩
        · have := HL.out; subst h0; simp at this; simp [← this] at hlt
        rcases H2.out with h0 | ⟨b2, off2, rfl, hc2⟩
        · subst h0; simp at hlt
        have g1 := hc1 k (by rw [HL.out]; exact hlt)
        have g2 := hc2 k hlt
        clear hc1 hc2
        obtain ⟨c1, hcc1⟩ : ∃ c, c = (xs.getD k 0).toNat := ⟨_, rfl⟩
        obtain ⟨c2, hcc2⟩ : ∃ c, c = (ys.getD k 0).toNat := ⟨_, rfl⟩
        rw [← hcc1] at g1
        rw [← hcc2] at g2
        have HC1 : Hid (c1 = (xs.getD k 0).toNat) := hcc1
        have HC2 : Hid (c2 = (ys.getD k 0).toNat) := hcc2
        clear hcc1 hcc2
        have hltI : (k : Int) < (ys.length : Int) := by omega
        by_cases hcc : c1 = c2
        · subst hcc
          go_wp2
          go_quiet (fail)
          go_wp2
          go_roundw
          case rel => exact ⟨k + 1, by omega, by go_num, M.take_next xs ys k (by rw [HL.out]; exact hlt) hlt hpre.out (by rw [← HC1.out, ← HC2.out]), _, rfl⟩
          case measure => simp [intOf]; omega
        · go_wp2
          go_quiet (fail)
          go_wp2
          go_ret
          refine ⟨ret_bool ?_, _, World.drewN_drewN _ _ _⟩
          symm
          rw [decide_eq_false_iff_not]
          intro e
          rw [HC1.out, HC2.out, e] at hcc
          exact hcc rfl
      · obtain rfl : k = ys.length := by omega
        go_wp2
        go_ret
        refine ⟨ret_bool ?_, _, rfl⟩
        symm
        rw [decide_eq_true_iff]
        have e := hpre.out
        rw [List.take_length, List.take_of_length_le (by rw [HL.out]; exact Nat.le_refl _)] at e
        exact e
  · have hne : ¬ xs = ys := fun e => hlen (by rw [e])
    have HN : Hid (¬ xs = ys) := hne
    clear hne
    go_enter Tryz.func28, Tryz.ntmps28
    go_wp2
    go_ret
    refine ⟨ret_bool ?_, 0, rfl⟩
    symm
    rw [decide_eq_false_iff_not]
    exact HN.out

theorem horner1 (v c : Nat) (h : v * 256 + 255 < 18446744073709551616) (hc : c < 256) :
    Value.int .u64 (IntKind.u64.wrap (IntKind.u64.wrap ((v : Int) * 256) + IntKind.u64.wrap (c : Int))) = .int .u64 ((v * 256 + c : Nat) : Int) := by
  rw [wraps_u64 ((v : Int) * 256) (by omega) (by omega), wraps_u64 (c : Int) (by omega) (by omega), wraps_u64 _ (by omega) (by omega)]
  congr 1

theorem horner0 (v : Nat) (h : v * 256 + 255 < 18446744073709551616) :
    Value.int .u64 (IntKind.u64.wrap ((v : Int) * 256)) = .int .u64 ((v * 256 : Nat) : Int) := by
  rw [wraps_u64 ((v : Int) * 256) (by omega) (by omega)]
  congr 1

theorem rgetBig_any (v : Value) (bs : List UInt8) (n : Nat) (w : World) (hn : n ≤ 8) (h : IsB w v bs) :
    Calls Tryz.prog 77 #[v, .int .i64 n] w fun e w' => e = .returned (.int .u64 (M.gb bs n : Nat)) ∧ w = w' := by
  obtain ⟨ao, cap, rfl, hl, hm, h⟩ := h
  unfold maxLen at hm
  have H : Hid (At w ao bs) := h
  clear h
  go_enter Tryz.func77, Tryz.ntmps77
  go_wp2
  go_loop [5, 6] (fun x i => ∃ k v : Nat, k ≤ n ∧ i = .int .i64 k ∧ x = .int .u64 v ∧ Hid (v = M.gb bs k)) (fun _ i => n - (intOf i).toNat)
  case atStart => exact ⟨0, 0, Nat.zero_le _, rfl, rfl, rfl⟩
  case round =>
    obtain ⟨k, v, hk, rfl, rfl, hv⟩ := hrel
    by_cases hlt : k < n
    · have HS : Hid (v * 256 + 255 < 18446744073709551616) := by rw [hv.out]; exact M.gb_small bs k n hn hlt
      by_cases hj : k < bs.length
      · rcases H.out with h0 | ⟨b, off, rfl, hc0⟩
        · subst h0; simp at hj
        have hc := hc0 k hj
        clear hc0
        obtain ⟨c, hcc⟩ : ∃ c, c = (bs.getD k 0).toNat := ⟨_, rfl⟩
        rw [← hcc] at hc
        have HC : Hid (c = (bs.getD k 0).toNat) := hcc
        clear hcc
        go_wp2
        go_round
        case rel =>
          refine ⟨k + 1, v * 256 + c, by omega, by go_num, ?_, by rw [Hid, M.gb, ← hv.out, HC.out]⟩
          exact horner1 v c HS.out (by rw [HC.out]; exact (bs.getD k 0).toNat_lt)
        case measure => simp [intOf]; omega
      · go_wp2
        go_round
        case rel =>
          refine ⟨k + 1, v * 256, by omega, by go_num, ?_, by rw [Hid, M.gb, ← hv.out, M.getD_past bs k hj, Nat.add_zero]⟩
          exact horner0 v HS.out
        case measure => simp [intOf]; omega
    · obtain rfl : k = n := by omega
      go_wp2
      go_ret
      exact ⟨ret_u64 (by rw [hv.out]), rfl⟩

end Go.Proofs.YtbgadfaiehkanaaGreatDoor

namespace Go.Proofs.YtbgadfaiehkanaaGreatDoor
open Go.RowKit

theorem xor_zero_iff (a b : Nat) : a ^^^ b = 0 ↔ a = b := by
  constructor
  · intro h
    apply Nat.eq_of_testBit_eq
    intro i
    have := congrArg (fun n => n.testBit i) h
    simpa using this
  · rintro rfl
    exact Nat.xor_self a

theorem or_zero_iff (a b : Nat) : a ||| b = 0 ↔ a = 0 ∧ b = 0 := by
  constructor
  · intro h
    refine ⟨Nat.eq_of_testBit_eq fun i => ?_, Nat.eq_of_testBit_eq fun i => ?_⟩
    all_goals
      have := congrArg (fun n => n.testBit i) h
      simp at this
      simp [this]
  · rintro ⟨rfl, rfl⟩
    rfl

theorem take_succ_iff (xs ys : List UInt8) (k : Nat) (hx : k < xs.length) (hy : k < ys.length) :
    xs.take (k + 1) = ys.take (k + 1) ↔ xs.take k = ys.take k ∧ (xs.getD k 0).toNat = (ys.getD k 0).toNat := by
  constructor
  · intro h
    refine ⟨?_, ?_⟩
    · have := congrArg (List.take k) h
      simpa [List.take_take, Nat.min_eq_left (Nat.le_succ k)] using this
    · have := congrArg (fun l => (l.getD k 0)) h
      simp [List.getD_eq_getElem?_getD] at this
      simp [List.getD_eq_getElem?_getD, this]
  · rintro ⟨h1, h2⟩
    exact M.take_next xs ys k hx hy h1 h2

theorem requal_b (v1 v2 : Value) (xs ys : List UInt8) (w : World) (h1 : IsB w v1 xs) (h2 : IsB w v2 ys) :
    Calls Tryz.prog 28 #[v1, v2] w fun e w' => e = .returned (.bool (decide (xs = ys))) ∧ Below w.heap.size w w' := by
  refine (equal_any v1 v2 xs ys w h1 h2).mono ?_
  rintro e w' ⟨rfl, n, rfl⟩
  exact ⟨rfl, below_draws w n⟩

/-- Cells written one after the other, from the place o on. -/
def over (xs : List Value) : Nat → List Value → List Value
  | _, [] => xs
  | o, v :: r => over (xs.set o v) (o + 1) r

theorem over_all (z : Value) : ∀ (ys : List Value) (o : Nat), over (List.replicate o z ++ ys) o (List.replicate ys.length z) = List.replicate (o + ys.length) z := by
  intro ys
  induction ys with
  | nil => intro o; simp [over]
  | cons y r ih =>
    intro o
    have e : (List.replicate o z ++ y :: r).set o z = List.replicate (o + 1) z ++ r := by
      rw [List.replicate_succ', List.append_assoc]
      simp
    rw [List.length_cons, List.replicate_succ, over, e, ih (o + 1)]
    congr 1
    omega

/-- Many stores into a row that is owned. -/
theorem stored_many {base g n cap : Nat} {e : TypeId} : ∀ (vs : List Value) (o : Nat) (w : World) (xs : List Value), w.ownsRow base e 1 (.slice (some ⟨g, 0, none⟩) n cap) n xs →
    (w.setCells g o vs).ownsRow base e 1 (.slice (some ⟨g, 0, none⟩) n cap) n (over xs o vs) ∧ w.grownBy (w.setCells g o vs) (some g) := by
  intro vs
  induction vs with
  | nil => intro o w xs h; exact ⟨h, World.grownBy.refl _ _⟩
  | cons v r ih =>
    intro o w xs h
    obtain ⟨h1, g1⟩ := h.stored o v
    obtain ⟨h2, g2⟩ := ih (o + 1) _ _ h1
    refine ⟨h2, ⟨g2.os.trans g1.os, g2.tape.trans g1.tape, g2.output.trans g1.output, Nat.le_trans g1.size g2.size, fun k hk hne => ?_⟩⟩
    exact (g2.block k (Nat.lt_of_lt_of_le hk g1.size) hne).trans (g1.block k hk hne)

end Go.Proofs.YtbgadfaiehkanaaGreatDoor

namespace Go.Proofs.YtbgadfaiehkanaaGreatDoor
open Go.RowKit
set_option linter.unusedVariables false

/-- Only blocks of F, and what is new, have turned. -/
structure Chg (F : Nat → Prop) (w w' : World) : Prop where
  os : w'.os = w.os
  tape : w'.tape = w.tape
  output : w'.output = w.output
  size : w.heap.size ≤ w'.heap.size
  block : ∀ k, k < w.heap.size → ¬ F k → w'.heap[k]? = w.heap[k]?

theorem Chg.refl (F : Nat → Prop) (w : World) : Chg F w w := ⟨rfl, rfl, rfl, Nat.le_refl _, fun _ _ _ => rfl⟩

theorem Chg.mono {F G : Nat → Prop} {w w' : World} (h : Chg F w w') (hs : ∀ k, k < w.heap.size → F k → G k) : Chg G w w' :=
  ⟨h.os, h.tape, h.output, h.size, fun k hk hg => h.block k hk fun hf => hg (hs k hk hf)⟩

theorem Chg.trans {F G : Nat → Prop} {w w1 w2 : World} (h : Chg F w w1) (h2 : Chg G w1 w2) (hs : ∀ k, k < w.heap.size → G k → F k) : Chg F w w2 :=
  ⟨h2.os.trans h.os, h2.tape.trans h.tape, h2.output.trans h.output, Nat.le_trans h.size h2.size, fun k hk hf => (h2.block k (Nat.lt_of_lt_of_le hk h.size) fun hg => hf (hs k hk hg)).trans (h.block k hk hf)⟩

theorem Chg.of_below {F : Nat → Prop} {w w' : World} (h : Below w.heap.size w w') : Chg F w w' := ⟨h.os, h.tape, h.output, h.size, fun k hk _ => h.block k hk⟩

theorem Chg.of_grown {F : Nat → Prop} {w w' : World} {row : Option Nat} (h : w.grownBy w' row) (hr : ∀ k, row = some k → F k) : Chg F w w' :=
  ⟨h.os, h.tape, h.output, h.size, fun k hk hf => h.block k hk fun e => hf (hr k e.symm)⟩

theorem Chg.drew {F : Nat → Prop} {w w' : World} (h : Chg F w w') : Chg F w w'.drew := ⟨h.os, h.tape, h.output, h.size, h.block⟩

theorem Chg.alloc {F : Nat → Prop} {w w' : World} (h : Chg F w w') (o : Obj) : Chg F w (w'.alloc o) :=
  h.trans (Chg.of_below (F := fun _ => False) ((Below.refl _ w').alloc (Nat.le_refl _) o)) (fun _ _ h => h.elim)

theorem Chg.setCell {F : Nat → Prop} {w w' : World} (h : Chg F w w') (p : Addr) (u : Value) (hp : F p.block ∨ w.heap.size ≤ p.block) : Chg F w (w'.setCell p u) :=
  ⟨h.os, h.tape, h.output, by rw [World.size_setCell]; exact h.size, fun k hk hf => by
    rw [Below.heap_setCell w' p u k (by rintro rfl; rcases hp with hp | hp; exact hf hp; omega)]
    exact h.block k hk hf⟩

theorem Chg.cell {g : Nat} {w w' : World} (h : Chg (fun b => b = g) w w') (o : Nat) (u : Value) : Chg (fun b => b = g) w (w'.setCell ⟨g, o, none⟩ u) := h.setCell ⟨g, o, none⟩ u (.inl rfl)

/-- What is below B lasts, where no block of F is. -/
theorem Chg.below {F : Nat → Prop} {w w' : World} {B : Nat} (h : Chg F w w') (hB : B ≤ w.heap.size) (hF : ∀ k, F k → B ≤ k) : Below B w w' :=
  ⟨h.os, h.tape, h.output, h.size, fun k hk => h.block k (by omega) fun hf => by have := hF k hf; omega⟩

theorem Blk.chg {F : Nat → Prop} {w w' : World} {g : Nat} {t : TypeId} {cs : List Value} (h : Blk w g t cs) (k : Chg F w w') (hg : ¬ F g) : Blk w' g t cs := (k.block g h.lt hg).trans h

theorem own_chg {F : Nat → Prop} {w w' : World} {B : Nat} {e : TypeId} {size n : Nat} {v : Value} {xs : List Value} (h : w.ownsRow B e size v n xs) (k : Chg F w w') (hg : ∀ b, v.ownBlock = some b → ¬ F b) : w'.ownsRow B e size v n xs := by
  refine ⟨h.1, ?_⟩
  rcases h.2 with hn | ⟨g, cap, cur, rfl, hb, hgg, rest⟩
  · exact .inl hn
  · exact .inr ⟨g, cap, cur, rfl, hb, (k.block g (Array.getElem?_eq_some_iff.1 hgg).1 (hg g rfl)).trans hgg, rest⟩

/-- A slice lies in blocks of S. -/
def Lies (S : Nat → Prop) (v : Value) : Prop := ∀ ad n c, v = .slice (some ad) n c → S ad.block

theorem Lies.mono {S R : Nat → Prop} {v : Value} (h : Lies S v) (hs : ∀ k, S k → R k) : Lies R v := fun ad n c e => hs _ (h ad n c e)

theorem lies_own {S : Nat → Prop} {w : World} {B n size : Nat} {e : TypeId} {v : Value} {xs : List Value} (h : w.ownsRow B e size v n xs) (hs : ∀ k, B ≤ k → k < w.heap.size → S k) : Lies S v := by
  intro ad n' c e
  have h1 := h.lt ad.block (by rw [e]; rfl)
  exact hs _ h1.1 h1.2

theorem IsB.chg {F : Nat → Prop} {w w' : World} {v : Value} {bs : List UInt8} (h : IsB w v bs) (k : Chg F w w') (hl : Lies (fun b => ¬ F b) v) : IsB w' v bs := by
  obtain ⟨ao, cap, rfl, h1, h2, h3⟩ := h
  refine ⟨ao, cap, rfl, h1, h2, ?_⟩
  rcases h3 with h | ⟨b, off, rfl, h⟩
  · exact .inl h
  · refine .inr ⟨b, off, rfl, fun i hi => ?_⟩
    have hc := h i hi
    have hb := World.block_lt_of_cell? w _ hc
    rw [World.cell?_of_block (k.block b hb (hl _ _ _ rfl)), hc]

/-- A slice of bytes lies in blocks that are there, or it has none. -/
theorem IsB.there {w : World} {v : Value} {bs : List UInt8} (h : IsB w v bs) (hn : bs ≠ []) : Lies (fun k => k < w.heap.size) v := by
  obtain ⟨ao, cap, rfl, h1, h2, h3⟩ := h
  intro ad n c e
  injection e with e1 e2 e3
  rcases h3 with h | ⟨b, off, e4, h⟩
  · exact absurd h hn
  · rw [e4] at e1
    injection e1 with e1
    subst e1
    exact World.block_lt_of_cell? w _ (h 0 (by cases bs; exact absurd rfl hn; simp))

theorem Own.lies {S : Nat → Prop} {w : World} {B : Nat} {v : Value} {bs : List UInt8} (h : Own w B v bs) (hs : ∀ k, B ≤ k → k < w.heap.size → S k) : Lies S v := lies_own h hs

/-- The value is a slice of the bools ks. -/
def IsZ (w : World) (v : Value) (ks : List Bool) : Prop := ∃ ao cap, v = .slice ao ks.length cap ∧ ks.length ≤ cap ∧ cap ≤ maxLen ∧
  (ks = [] ∨ ∃ b off, ao = some ⟨b, off, none⟩ ∧ ∀ i, i < ks.length → w.cell? ⟨b, off + i, none⟩ = some (.bool (ks.getD i false)))

theorem IsZ.chg {F : Nat → Prop} {w w' : World} {v : Value} {ks : List Bool} (h : IsZ w v ks) (k : Chg F w w') (hl : Lies (fun b => ¬ F b) v) : IsZ w' v ks := by
  obtain ⟨ao, cap, rfl, h1, h2, h3⟩ := h
  refine ⟨ao, cap, rfl, h1, h2, ?_⟩
  rcases h3 with h | ⟨b, off, rfl, h⟩
  · exact .inl h
  · refine .inr ⟨b, off, rfl, fun i hi => ?_⟩
    have hc := h i hi
    have hb := World.block_lt_of_cell? w _ hc
    rw [World.cell?_of_block (k.block b hb (hl _ _ _ rfl)), hc]

theorem IsZ.nil (w : World) : IsZ w (.slice none 0 0) [] := ⟨none, 0, rfl, Nat.le_refl _, Nat.zero_le _, .inl rfl⟩

end Go.Proofs.YtbgadfaiehkanaaGreatDoor
