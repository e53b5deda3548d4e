/-
  THE TABLE OF PLACES of chacha, and equations for arrays by value and slices of an array. Conditions: none.
-/
import Derived.Test.YtdojalhaklkegaaDoorChaQ
import Derived.Test.YtdojalhaklkegaaDoorWordA
namespace Go.Proofs.YtdojalhaklkegaaDoor
open Go.RowKit
set_option linter.unusedVariables false

/-- The places of quarter k, as cells. -/
def pc (k : Nat) : List Value := [.int .i64 (M.pl k 0 : Nat), .int .i64 (M.pl k 1 : Nat), .int .i64 (M.pl k 2 : Nat), .int .i64 (M.pl k 3 : Nat)]

/-- The table's cells. -/
def tbl : List Value := pc 0 ++ pc 1 ++ pc 2 ++ pc 3 ++ pc 4 ++ pc 5 ++ pc 6 ++ pc 7

theorem tbl_length : tbl.length = 32 := rfl

theorem tbl_get (i : Nat) (h : i < 32) : tbl[i]? = some (.int .i64 (M.pl (i / 4) (i % 4) : Nat)) := by
  match i, h with
  | 0, _ => rfl
  | 1, _ => rfl
  | 2, _ => rfl
  | 3, _ => rfl
  | 4, _ => rfl
  | 5, _ => rfl
  | 6, _ => rfl
  | 7, _ => rfl
  | 8, _ => rfl
  | 9, _ => rfl
  | 10, _ => rfl
  | 11, _ => rfl
  | 12, _ => rfl
  | 13, _ => rfl
  | 14, _ => rfl
  | 15, _ => rfl
  | 16, _ => rfl
  | 17, _ => rfl
  | 18, _ => rfl
  | 19, _ => rfl
  | 20, _ => rfl
  | 21, _ => rfl
  | 22, _ => rfl
  | 23, _ => rfl
  | 24, _ => rfl
  | 25, _ => rfl
  | 26, _ => rfl
  | 27, _ => rfl
  | 28, _ => rfl
  | 29, _ => rfl
  | 30, _ => rfl
  | 31, _ => rfl
  | n + 32, h => omega

/-- The package's table lies as the program's text lays it. -/
structure LaidP (w : World) : Prop where
  pls : ∀ i, i < 32 → w.cell? ⟨0, i, none⟩ = some (.int .i64 (M.pl (i / 4) (i % 4) : Nat))
  size : 1 ≤ w.heap.size

theorem LaidP.below {B : Nat} {w w' : World} (h : LaidP w) (k : Below B w w') (hB : 1 ≤ B) : LaidP w' :=
  ⟨fun i hi => by rw [k.cell (Nat.lt_of_lt_of_le (show 0 < 1 by decide) hB)]; exact h.pls i hi, Nat.le_trans h.size k.size⟩

theorem LaidP.range {w : World} (h : LaidP w) : w.rangeAt 0 0 tbl := by
  intro j v hv
  have hj : j < 32 := (List.getElem?_eq_some_iff.1 hv).1
  rw [Nat.zero_add, h.pls j hj, ← hv, tbl_get j hj]

theorem pc_oneCell (k : Nat) : ∀ v ∈ (pc k).toArray.toList, v.oneCell' = true := by
  intro v hv
  simp [pc] at hv
  rcases hv with rfl | rfl | rfl | rfl <;> rfl

theorem pl_ne (k : Nat) : M.pl k 0 ≠ M.pl k 1 ∧ M.pl k 0 ≠ M.pl k 2 ∧ M.pl k 0 ≠ M.pl k 3 ∧ M.pl k 1 ≠ M.pl k 2 ∧ M.pl k 1 ≠ M.pl k 3 ∧ M.pl k 2 ≠ M.pl k 3 := by
  unfold M.pl
  split <;> omega

/-- 'places[k]' of the table by value. -/
theorem run_index_places (w : World) (k : Nat) (hk : k < 8) :
    (Instr.index 119 (.agg tbl.toArray) (.int .i64 (k : Int))).run Tryd.prog w = .ok (.agg (pc k).toArray) w := by
  have hn' : (k : Int) < 8 := by omega
  simp [Instr.index, run_underlying Tryd.underlying119, asIntOf, go_sem, Tryd.sizeOf118]
  match k, hk with
  | 0, _ => rfl
  | 1, _ => rfl
  | 2, _ => rfl
  | 3, _ => rfl
  | 4, _ => rfl
  | 5, _ => rfl
  | 6, _ => rfl
  | 7, _ => rfl

/-- A number of an array by value. -/
theorem run_index_w16 (w : World) (l : List UInt32) (k : Nat) (hk : k < 16) (x : UInt32) (hx : (wc l)[k]? = some (.int .u32 (x.toNat : Int))) :
    (Instr.index 96 (.agg (wc l).toArray) (.int .i64 (k : Int))).run Tryd.prog w = .ok (.int .u32 (x.toNat : Int)) w := by
  have hn' : (k : Int) < 16 := by omega
  simp [Instr.index, run_underlying Tryd.underlying96, asIntOf, go_sem, Tryd.sizeOf58]
  rw [if_pos hk, hx]
  rfl

/-- 'block[at:]'. -/
theorem slice_blk (g at_ : Nat) (z : Int) (hz : z = at_) (h : at_ < 64) (w : World) :
    (Instr.sliceAt 101 (.pointer (some ⟨g, 0, none⟩)) (some (.int .i64 z)) none none).run Tryd.prog w = .ok (.slice (some ⟨g, at_, none⟩) (64 - at_) (64 - at_)) w := by
  subst hz
  have hal : Tryd.prog.arrayLen 101 = 64 := by simp [Program.arrayLen, Tryd.underlying101]
  have hel : Tryd.prog.elem 101 = 5 := by simp [Program.elem, Tryd.underlying101]
  rw [run_sliceAt_array_l w 101 ⟨g, 0, none⟩ (by rw [hal, hel]; exact Tryd.underlying101) .i64 (at_ : Int) (by omega) (by rw [hal]; omega), hel, Tryd.sizeOf5]
  simp only [Result.andThen_ok, slicedAt, hal, Int.toNat_natCast]
  rw [if_neg (by omega), Nat.mul_one, Addr.add_lit, Nat.zero_add]

/-- 'copy' into a block that is known, as one step of a region that draws. -/
theorem step_copy_blk {P : Program} {w : World} {ops : Array Oper} {o : Oper} {a : Act} {K : Act → World → Prop} {Q : Exit → Act → World → Prop} {E : Prop} (hgd : o.guard = none) (d s : Operand) (dT sT : TypeId)
    (ho : o.op = .call { callee := .builtin .copy, args := #[d, s], argTypes := #[dT, sT] }) (elem : TypeId) (hu : P.underlying dT = some (.slice elem)) (hsz : (P.info? elem).map (·.size) = some 1)
    (g off dLen dCap : Nat) (ad : Addr) (sLen sCap : Nat) (hd : a.eval d = .slice (some ⟨g, off, none⟩) dLen dCap) (hs : a.eval s = .slice (some ad) sLen sCap)
    (cur : List Value) (t : TypeId) (hg : Blk w g t cur) (cs : List Value) (hn : cs.length = Nat.min sLen dLen)
    (hsrc : ∀ j v, cs[j]? = some v → w.cell? (ad.add j) = some v) (hfit : off + cs.length ≤ cur.length) (h1 : ∀ v ∈ cs, v.oneCell' = true)
    (h : ∀ w', Blk w' g t (splice cur off cs) → Only g w w' → K (a.put o.dst (.int .i64 (cs.length : Int))) w') :
    if Region.wanted o (yielded ops a.tmps) = true then Oper.wp P o a w K Q else E := by
  rw [if_pos (by simp [Region.wanted, hgd])]
  have hrun := run_copy_row (P := P) w dT sT o.type elem g off dLen dCap ad sLen sCap cur.toArray t cs hu hsz hg hn hsrc (by simpa using hfit) h1
  unfold Oper.wp
  simp [execOp, ho, resolve, invoke, builtin, hd, hs, hrun, Result.andThen]
  exact h _ (show _ = _ by simpa [splice] using setRow_heap w g _ _ t _ hg) ⟨rfl, rfl, rfl, by simp, fun k _ hne => setRow_other w g k _ (fun e => hne (by rw [e]))⟩

theorem bytes_oneCell (b : List UInt8) : ∀ v ∈ (Lib.byteCells b).toArray.toList, v.oneCell' = true := by
  intro v hv
  exact byteCells_oneCell b v (by simpa using hv)

end Go.Proofs.YtdojalhaklkegaaDoor
