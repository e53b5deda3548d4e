/-
  WORDS OF 64 BITS AS CELLS, AND THE WALK'S SUMS OF THEM; an array of five of them by its places. Conditions: none.
-/
import Derived.Test.YtbjmkgbjpcepaaaShaMem
import Derived.Test.YtbjmkgbjpcepaaaPolyMath2
namespace Go.Proofs.Ytbjmkgbjpcepaaa
open Go.RowKit
set_option linter.unusedVariables false

/-- A word of 64 bits as a cell. -/
def c64 (x : UInt64) : Value := .int .u64 (x.toNat : Int)

def dc (l : List UInt64) : List Value := l.map c64

theorem dc_length (l : List UInt64) : (dc l).length = l.length := by simp [dc]

theorem dc_oneCell (l : List UInt64) : ∀ v ∈ (dc l).toArray.toList, v.oneCell' = true := by
  intro v hv
  simp [dc] at hv
  obtain ⟨_, _, rfl⟩ := hv
  rfl

theorem dc_get (l : List UInt64) (i : Nat) (h : i < l.length) : (dc l)[i]? = some (.int .u64 ((l.getD i 0).toNat : Int)) := by
  simp [dc, c64, h]

theorem dc_set (s : List UInt64) (i : Nat) (x : UInt64) : (dc s).set i (c64 x) = dc (s.set i x) := by
  rw [dc, dc, List.map_set]

theorem dc_zero : List.replicate 5 (Value.int .u64 0) = dc (List.replicate 5 0) := rfl

theorem d_lt (x : UInt64) : x.toNat < 18446744073709551616 := x.toNat_lt

theorem d_xor (a b : UInt64) : bits BinOp.xor .u64 (a.toNat : Int) (b.toNat : Int) = ((a ^^^ b).toNat : Int) := by
  rw [u64_xor_nat _ _ (d_lt a) (d_lt b), UInt64.toNat_xor]

theorem d_and (a b : UInt64) : bits BinOp.and .u64 (a.toNat : Int) (b.toNat : Int) = ((a &&& b).toNat : Int) := by
  rw [u64_and_nat _ _ (d_lt a) (d_lt b), UInt64.toNat_and]

theorem d_mask (a : UInt64) : bits BinOp.and .u64 (a.toNat : Int) 67108863 = ((a &&& 67108863).toNat : Int) := d_and a 67108863

theorem d_or (a b : UInt64) : bits BinOp.or .u64 (a.toNat : Int) (b.toNat : Int) = ((a ||| b).toNat : Int) := by
  rw [u64_or_nat _ _ (d_lt a) (d_lt b), UInt64.toNat_or]

theorem d_add (a b : UInt64) : ((a.toNat : Int) + (b.toNat : Int)) % 18446744073709551616 = ((a + b).toNat : Int) := by
  rw [UInt64.toNat_add]
  omega

theorem d_wrap (a b : UInt64) : IntKind.u64.wrap ((a.toNat : Int) + (b.toNat : Int)) = ((a + b).toNat : Int) := d_add a b

theorem d_mul (a b : UInt64) : ((a.toNat : Int) * (b.toNat : Int)) % 18446744073709551616 = ((a * b).toNat : Int) := by
  rw [UInt64.toNat_mul, ← Int.natCast_mul]
  omega

theorem d_mulw (a b : UInt64) : IntKind.u64.wrap ((a.toNat : Int) * (b.toNat : Int)) = ((a * b).toNat : Int) := d_mul a b

theorem d_five (b : UInt64) : (5 * (b.toNat : Int)) % 18446744073709551616 = ((5 * b).toNat : Int) := d_mul 5 b

theorem d_fivew (b : UInt64) : IntKind.u64.wrap (5 * (b.toNat : Int)) = ((5 * b).toNat : Int) := d_mul 5 b

theorem d_neg (b : UInt64) : (-(b.toNat : Int)) % 18446744073709551616 = ((0 - b).toNat : Int) := by
  rw [UInt64.toNat_sub]
  have := d_lt b
  simp
  omega

theorem d_negw (b : UInt64) : IntKind.u64.wrap (-(b.toNat : Int)) = ((0 - b).toNat : Int) := d_neg b

theorem d_shr (a : UInt64) : (a.toNat : Int) / 67108864 = ((a >>> 26).toNat : Int) := by
  rw [M.u_shr26]
  omega

theorem ret_d {a b : Int} (h : a = b) : Ending.returned (.int .u64 a) = .returned (.int .u64 b) := by rw [h]

theorem run_index_limbs (w : World) (l : List UInt64) (k : Nat) (hk : k < 5) (x : UInt64) (hx : (dc l)[k]? = some (.int .u64 (x.toNat : Int))) :
    (Instr.index 39 (.agg (dc l).toArray) (.int .i64 (k : Int))).run Try.prog w = .ok (.int .u64 (x.toNat : Int)) w := by
  have hn' : (k : Int) < 5 := by omega
  simp [Instr.index, run_underlying Try.underlying39, asIntOf, go_sem, Try.sizeOf37]
  rw [if_pos hk, hx]
  rfl

theorem below_set {B g i : Nat} {a w : World} (h : Below B a w) (hg : B ≤ g) (u : Value) : Below B a (w.setCell ⟨g, i, none⟩ u) := h.setCell hg u

theorem blk_far {w : World} {g g' i : Nat} {t : TypeId} {cs : List Value} (h : Blk w g t cs) (hg : g ≠ g') (u : Value) : Blk (w.setCell ⟨g', i, none⟩ u) g t cs := h.far hg u

end Go.Proofs.Ytbjmkgbjpcepaaa
