/-
  FROM THE PLAIN WALK TO A LOOP BODY's WALK WITHIN A RANGE OVER A FUNCTION: what a list of operations (none of them a defer statement) does in a function's own activation it does in a round; so laws on 'wpList' and 'wpStill' serve there. Conditions: the fence is the wide one; the post lets nothing outgrown out.
  A REGION THAT DRAWS ITS ORDER: reads that may come up in any order, and nothing else meanwhile, taken first in the world at hand. Conditions: none.
  FROM THE PLAIN WALK TO A WALK AT THE WIDE FENCE, FOR THE FIRST OPERATIONS OF A LIST. Conditions: the post lets nothing outgrown out.
  WORDS OF 64 BITS: their sums and shifts as numbers, as cells, and the walk's sums of them; math/bits.Add64 and Mul64. Conditions: as each says.
-/
import Derived.RangeFuncNested
import Derived.RangeFuncCalls
import Derived.StillTail
import Derived.TacticsIn
import Derived.OrdersIn
import Derived.Test.YtdojalhaklkegaaDoorPn1
import Derived.Test.YtdojalhaklkegaaDoorPn2
import Derived.Lib.Hide
import Derived.Lib.Mul64
import Derived.Laws.Externs

namespace Go.Proofs.YtdojalhaklkegaaDoor
open Go.RowKit
set_option linter.unusedVariables false

variable {P : Program} {Q : Exit → Act → World → Prop} {n : Nat}

theorem rows_in {row : String} {args : Array Value} {w : World} {R : Value → World → Prop} (l : Nat) (h : Rows P row args w R) : RowsIn (Fence.wide.inRound l) n P row args w R :=
  fun c cs _ => let ⟨v, w', r, s⟩ := h c cs; ⟨v, w', r, stepsIn_wide.2 s⟩

/-- One operation. -/
theorem wpIn_of_wp_op (l : Nat) {o : Oper} (hd : ∀ c, o.op ≠ .defer c) {a : Act} {w : World} {K : Act → World → Prop} (h : o.wp P a w K Q) : o.wpIn (Fence.wide.inRound l) n P a w K Q := by
  refine ⟨fun _ _ => trivial, ?_⟩
  show o.uponIn _ n P a K Q ((o.semAt (some l) a.eval).run P w)
  rw [Oper.semAt_some l _ _ hd]
  unfold Oper.wp at h
  generalize (execOp a.eval o).run P w = r at h
  cases r with
  | ok x w' =>
    cases x <;> simp only [Oper.upon, Oper.uponIn] at h ⊢
    all_goals first
      | exact h
      | exact ⟨fun hh => (by simp [Fence.wide, Fence.inRound] at hh), CallsIn.inRound l (callsIn_wide.2 h)⟩
      | exact ⟨fun hh => (by simp [Fence.wide, Fence.inRound] at hh), rows_in l h⟩
  | halt x w' => cases x <;> simp only [Oper.upon, Oper.uponIn] at h ⊢ <;> exact h

/-- No operation of the list is a defer statement. -/
def NoDefer (ops : List Oper) : Prop := ∀ o ∈ ops, ∀ c, o.op ≠ .defer c

theorem wpListIn_of_wpList (l : Nat) (hlo : ¬ LetsOut Q) {ops : Array Oper} : ∀ {rest : List Oper} {a : Act} {w : World}, NoDefer rest → wpList P ops Q rest a w → wpListIn (Fence.wide.inRound l) n P ops Q rest a w
  | [], _, _, _, h => h
  | o :: rest, a, w, hd, h => by
    unfold wpList at h
    unfold wpListIn
    split
    · rename_i hw
      rw [if_pos hw] at h
      rcases h with h | ⟨_, h⟩
      · exact wpIn_of_wp_op l (hd o (by simp)) (Oper.wp_mono (fun a w h => wpListIn_of_wpList l hlo (fun o' ho' => hd o' (by simp [ho'])) h) h)
      · exact absurd h hlo
    · rename_i hw
      rw [if_neg hw] at h
      exact ⟨fun _ _ => trivial, wpListIn_of_wpList l hlo (fun o' ho' => hd o' (by simp [ho'])) h⟩

theorem wpAnyIn_of_wpAny (l : Nat) (hlo : ¬ LetsOut Q) {ops : Array Oper} (hd : NoDefer ops.toList) {md : Region.Mode} : ∀ {k : Nat} {listed : Array Bool} {a : Act} {w : World}, wpAny P md ops Q k listed a w → wpAnyIn (Fence.wide.inRound l) n P md ops Q k listed a w
  | 0, _, _, _, h => h
  | k + 1, listed, a, w, ⟨h0, h1⟩ => by
    refine ⟨h0, fun i hi => ?_⟩
    have h := h1 i hi
    unfold wpOp at h
    unfold wpOpIn
    cases ho : ops[i]? with
    | none =>
      rw [ho] at h
      exact wpAnyIn_of_wpAny l hlo hd h
    | some o =>
      rw [ho] at h
      simp only at h ⊢
      have hm : o ∈ ops.toList := by
        have := Array.mem_of_getElem? ho
        simpa using this
      split
      · rename_i hw
        rw [if_pos hw] at h
        rcases h with h | ⟨_, h⟩
        · exact wpIn_of_wp_op l (hd o hm) (Oper.wp_mono (fun a w h => wpAnyIn_of_wpAny l hlo hd h) h)
        · exact absurd h hlo
      · rename_i hw
        rw [if_neg hw] at h
        exact ⟨fun _ _ => trivial, wpAnyIn_of_wpAny l hlo hd h⟩

/-- An operation that yields in whatever world, taken first; the slot that it writes known. -/
theorem wpAny_take_at {ops : Array Oper} {md : Region.Mode} {i d : Nat} {oi : Oper} {v : Value} {fuel : Nat} {listed : Array Bool} {tmps : Array Value} {defers : List Deferred} {w : World} (hi : ops[i]? = some oi) (hdst : oi.dst = some d)
    (hs : Region.noSelect ops = true) (hf : Region.free md ops listed i = true) (hr : (Region.ready md ops listed).contains i = true)
    (hQ : ∀ c a w, Q (.panic c) (a.put oi.dst v) w → Q (.panic c) a w) (hy : Yields P ops oi v { tmps := tmps, defers := defers })
    (h : wpAny P md ops Q fuel (listed.setIfInBounds i true) { tmps := tmps.setIfInBounds d v, defers := defers } w) : wpAny P md ops Q (fuel + 1) listed { tmps := tmps, defers := defers } w := by
  refine wpAny_take hi hs hf hr hQ hy ?_
  rw [hdst]
  exact h

/-- A region in its text's order. -/
theorem wpIn_region_of_list (l : Nat) (hlo : ¬ LetsOut Q) {id : Nat} {ops : List Oper} {a : Act} {w : World} (hd : NoDefer ops) (h : wpList P ops.toArray Q ops a w) : (Code.region id ops.toArray false).wpIn (Fence.wide.inRound l) n P Q a w :=
  wpIn_region_lit (wpListIn_of_wpList l hlo hd h)

end Go.Proofs.YtdojalhaklkegaaDoor

namespace Go.Proofs.YtdojalhaklkegaaDoor
open Go
set_option linter.unusedVariables false

variable {P : Program} {md : Region.Mode} {ops : Array Oper} {w : World}

/-- The next f operations: whichever come up, one alone is left for the last place. -/
def oneLast (md : Region.Mode) (ops : Array Oper) : Nat → Array Bool → Bool
  | 0, _ => true
  | 1, l => decide ((Region.ready md ops l).length ≤ 1)
  | f + 2, l => (Region.ready md ops l).all fun j => oneLast md ops (f + 1) (l.setIfInBounds j true)

theorem wpAnyL_first2 {i : Nat} {oi : Oper} {v : Value} {L : Array Bool → Act → Prop} (hi : ops[i]? = some oi) (hsel : ∀ (j : Nat) (o : Oper) cs b, ops[j]? = some o → o.op ≠ .select cs b) :
    ∀ (f : Nat) (listed : Array Bool) (a : Act), oneLast md ops (f + 1) listed = true →
      (∀ j oj, ops[j]? = some oj → j ≠ i → listed.getD j true = false → (∀ e ∈ oj.after, Region.binds md e = true → e.on ≠ i) → oi.apart ops oj = true) →
      i ∈ Region.ready md ops listed → YieldsAt P ops w oi v a →
      wpAnyL P md ops w ops.size L f (listed.setIfInBounds i true) (a.put oi.dst v) → wpAnyL P md ops w ops.size L (f + 1) listed a := by
  intro f
  induction f with
  | zero =>
    intro listed a ho _ hr hy H
    refine ⟨fun h => (by rw [h] at hr; cases hr), fun j hj => ?_⟩
    obtain ⟨_, oj, hoj, _⟩ := mem_ready.1 hj
    refine ⟨(Array.getElem?_eq_some_iff.1 hoj).1, ?_⟩
    have hl : (Region.ready md ops listed).length ≤ 1 := by simpa [oneLast] using ho
    obtain rfl : j = i := by
      match hq : Region.ready md ops listed, hl with
      | [x], _ =>
        rw [hq] at hj hr
        simp at hj hr
        rw [hj, hr]
      | [], _ => rw [hq] at hj; cases hj
    exact hy.stOp hi H
  | succ f ih =>
    intro listed a ho hfree hr hy H
    refine ⟨fun h => (by rw [h] at hr; cases hr), fun j hj => ?_⟩
    have hun := (mem_ready.1 hr).1
    obtain ⟨hjun, oj, hoj, hall⟩ := mem_ready.1 hj
    refine ⟨(Array.getElem?_eq_some_iff.1 hoj).1, ?_⟩
    by_cases hji : j = i
    · subst hji; exact hy.stOp hi H
    · have h1 := (H.2 j (ready_mono hj hji)).2
      have hnot : ∀ e ∈ oj.after, Region.binds md e = true → e.on ≠ i := fun e he hb heq => by
        have h1 := hall e he hb
        rw [heq, getD_both hun] at h1
        cases h1
      have h2 := stOp_put hoj (hfree j oj hoj hji hjun hnot) (fun cs b => hsel i oi cs b hi) (fun cs b => hsel j oj cs b hoj) hy h1
      have hfree' : ∀ k ok, ops[k]? = some ok → k ≠ i → (listed.setIfInBounds j true).getD k true = false →
          (∀ e ∈ ok.after, Region.binds md e = true → e.on ≠ i) → oi.apart ops ok = true := fun k ok hk hki hun hno => by
        refine hfree k ok hk hki ?_ hno
        by_cases hjk : j = k
        · subst hjk; exact hjun
        · rw [getD_set_ne true hjk] at hun; exact hun
      have ho' : oneLast md ops (f + 1) (listed.setIfInBounds j true) = true := List.all_eq_true.1 ho j hj
      refine stOp_mono (fun a' h3 => ih (listed.setIfInBounds j true) a' ho' hfree' (ready_mono hr (Ne.symm hji)) h3.1 ?_) h2
      rw [Array.setIfInBounds_comm _ _ hji]
      exact h3.2

/-- Number i taken first among reads; the slot that it writes known. -/
theorem wpAnyL_take_at {i d : Nat} {oi : Oper} {v : Value} {L : Array Bool → Act → Prop} {f : Nat} {listed : Array Bool} {tmps : Array Value} {defers : List Deferred} (hi : ops[i]? = some oi) (hdst : oi.dst = some d)
    (hs : Region.noSelect ops = true) (ho : oneLast md ops (f + 1) listed = true) (hf : Region.free md ops listed i = true) (hr : (Region.ready md ops listed).contains i = true)
    (hy : YieldsAt P ops w oi v { tmps := tmps, defers := defers })
    (h : wpAnyL P md ops w ops.size L f (listed.setIfInBounds i true) { tmps := tmps.setIfInBounds d v, defers := defers }) : wpAnyL P md ops w ops.size L (f + 1) listed { tmps := tmps, defers := defers } := by
  refine wpAnyL_first2 hi (Region.noSelect_spec hs) f listed _ ho (Region.free_spec hi hf) (by simpa using hr) hy ?_
  rw [hdst]
  exact h

/-- Reads, and then the rest. -/
theorem wpAny_reads (f g : Nat) {Q : Exit → Act → World → Prop} {listed : Array Bool} {a : Act} (h : wpAnyL P md ops w ops.size (fun listed' a' => wpAny P md ops Q g listed' a' w) f listed a) : wpAny P md ops Q (f + g) listed a w :=
  wpAny_of_head (fun _ _ h => h) f listed a h

end Go.Proofs.YtdojalhaklkegaaDoor

namespace Go.Proofs.YtdojalhaklkegaaDoor
open Go.RowKit
set_option linter.unusedVariables false

variable {P : Program} {Q : Exit → Act → World → Prop} {n : Nat}

theorem rows_wide {row : String} {args : Array Value} {w : World} {R : Value → World → Prop} (h : Rows P row args w R) : RowsIn Fence.wide n P row args w R :=
  fun c cs _ => let ⟨v, w', r, s⟩ := h c cs; ⟨v, w', r, stepsIn_wide.2 s⟩

theorem wpInW_of_wp {o : Oper} {a : Act} {w : World} {K K' : Act → World → Prop} (h : o.wp P a w K (Exit.then K' Q)) : o.wpIn Fence.wide n P a w K Q := by
  refine ⟨fun _ _ => trivial, ?_⟩
  show o.uponIn _ n P a K Q ((execOp a.eval o).run P w)
  unfold Oper.wp at h
  generalize (execOp a.eval o).run P w = r at h
  cases r with
  | ok x w' =>
    cases x <;> simp only [Oper.upon, Oper.uponIn] at h ⊢
    all_goals first
      | exact h
      | exact ⟨fun hh => (by simp [Fence.wide] at hh), callsIn_wide.2 h⟩
      | exact ⟨fun hh => (by simp [Fence.wide] at hh), rows_wide h⟩
  | halt x w' => cases x <;> simp only [Oper.upon, Oper.uponIn] at h ⊢ <;> exact h

theorem wpListInW_split (hlo : ¬ LetsOut Q) {ops : Array Oper} : ∀ (m : Nat) {l : List Oper} {a : Act} {w : World},
    wpList P ops (Exit.then (fun a w => wpListIn Fence.wide n P ops Q (l.drop m) a w) Q) (l.take m) a w → wpListIn Fence.wide n P ops Q l a w
  | 0, _, _, _, h => h
  | m + 1, [], a, w, h => h
  | m + 1, o :: rest, a, w, h => by
    simp only [List.take_succ_cons, List.drop_succ_cons] at h
    unfold wpList at h
    unfold wpListIn
    split
    · rename_i hw
      rw [if_pos hw] at h
      rcases h with h | ⟨_, h⟩
      · exact wpInW_of_wp (Oper.wp_mono (fun a w h => wpListInW_split hlo m h) h)
      · exact absurd h hlo
    · rename_i hw
      rw [if_neg hw] at h
      exact ⟨fun _ _ => trivial, wpListInW_split hlo m h⟩

end Go.Proofs.YtdojalhaklkegaaDoor

namespace Go.Proofs.YtdojalhaklkegaaDoor.M

theorem u_add (x y : UInt64) (h : x.toNat + y.toNat < 18446744073709551616) : (x + y).toNat = x.toNat + y.toNat := by
  rw [UInt64.toNat_add, Nat.mod_eq_of_lt h]

theorem u_mul (x y : UInt64) (h : x.toNat * y.toNat < 18446744073709551616) : (x * y).toNat = x.toNat * y.toNat := by
  rw [UInt64.toNat_mul, Nat.mod_eq_of_lt h]

theorem u_shr (x : UInt64) (k : UInt64) (h : k.toNat < 64) : (x >>> k).toNat = x.toNat / 2 ^ k.toNat := by
  rw [UInt64.toNat_shiftRight, Nat.mod_eq_of_lt h, Nat.shiftRight_eq_div_pow]

theorem u_sum (x y : UInt64) (s t : Nat) (hx : x.toNat = s) (hy : y.toNat = t) (h : s + t < 18446744073709551616) : (x + y).toNat = s + t := by
  rw [u_add _ _ (by omega), hx, hy]

theorem five_rows (x b0 b1 b2 b3 b4 k1 k2 k3 k4 : Nat) : x * (b0 + b1 * k1 + b2 * k2 + b3 * k3 + b4 * k4) = x * b0 + x * b1 * k1 + x * b2 * k2 + x * b3 * k3 + x * b4 * k4 := by
  simp only [Nat.mul_add, Nat.mul_assoc]

theorem five_cols (w a0 a1 a2 a3 a4 k1 k2 k3 k4 : Nat) : (a0 + a1 * k1 + a2 * k2 + a3 * k3 + a4 * k4) * w = a0 * w + a1 * w * k1 + a2 * w * k2 + a3 * w * k3 + a4 * w * k4 := by
  simp only [Nat.add_mul, Nat.mul_right_comm _ _ w]

theorem u_sel0 (x y : UInt64) : x ^^^ ((x ^^^ y) &&& (0 - 0)) = x := by simp

theorem u_sel1 (x y : UInt64) : x ^^^ ((x ^^^ y) &&& (0 - 1)) = y := by
  rw [show (0 - 1 : UInt64) = -1 from rfl, UInt64.and_neg_one, ← UInt64.xor_assoc, UInt64.xor_self, UInt64.zero_xor]

end Go.Proofs.YtdojalhaklkegaaDoor.M

namespace Go.Proofs.YtdojalhaklkegaaDoor
open Go.RowKit
set_option linter.unusedVariables false

/-- A word of 64 bits as a cell. -/
def c64 (x : UInt64) : Value := .int .u64 (x.toNat : Int)

def dc (l : List UInt64) : List Value := l.map c64

theorem dc_length (l : List UInt64) : (dc l).length = l.length := by simp [dc]

theorem dc_oneCell (l : List UInt64) : ∀ v ∈ (dc l).toArray.toList, v.oneCell' = true := by
  intro v hv
  simp [dc] at hv
  obtain ⟨_, _, rfl⟩ := hv
  rfl

theorem dc_get (l : List UInt64) (i : Nat) (h : i < l.length) : (dc l)[i]? = some (.int .u64 ((l.getD i 0).toNat : Int)) := by
  simp [dc, c64, h]

theorem dc_set (s : List UInt64) (i : Nat) (x : UInt64) : (dc s).set i (c64 x) = dc (s.set i x) := by
  rw [dc, dc, List.map_set]

theorem d_lt (x : UInt64) : x.toNat < 18446744073709551616 := x.toNat_lt

theorem d_xor (a b : UInt64) : bits BinOp.xor .u64 (a.toNat : Int) (b.toNat : Int) = ((a ^^^ b).toNat : Int) := by
  rw [u64_xor_nat _ _ (d_lt a) (d_lt b), UInt64.toNat_xor]

theorem d_and (a b : UInt64) : bits BinOp.and .u64 (a.toNat : Int) (b.toNat : Int) = ((a &&& b).toNat : Int) := by
  rw [u64_and_nat _ _ (d_lt a) (d_lt b), UInt64.toNat_and]

theorem d_or (a b : UInt64) : bits BinOp.or .u64 (a.toNat : Int) (b.toNat : Int) = ((a ||| b).toNat : Int) := by
  rw [u64_or_nat _ _ (d_lt a) (d_lt b), UInt64.toNat_or]

theorem d_add (a b : UInt64) : ((a.toNat : Int) + (b.toNat : Int)) % 18446744073709551616 = ((a + b).toNat : Int) := by
  rw [UInt64.toNat_add]
  omega

theorem d_wrap (a b : UInt64) : IntKind.u64.wrap ((a.toNat : Int) + (b.toNat : Int)) = ((a + b).toNat : Int) := d_add a b

theorem d_mul (a b : UInt64) : ((a.toNat : Int) * (b.toNat : Int)) % 18446744073709551616 = ((a * b).toNat : Int) := by
  rw [UInt64.toNat_mul, ← Int.natCast_mul]
  omega

theorem d_mulw (a b : UInt64) : IntKind.u64.wrap ((a.toNat : Int) * (b.toNat : Int)) = ((a * b).toNat : Int) := d_mul a b

theorem d_neg (b : UInt64) : (-(b.toNat : Int)) % 18446744073709551616 = ((0 - b).toNat : Int) := by
  rw [UInt64.toNat_sub]
  have := d_lt b
  simp
  omega

theorem d_negw (b : UInt64) : IntKind.u64.wrap (-(b.toNat : Int)) = ((0 - b).toNat : Int) := d_neg b

theorem below_set {B g i : Nat} {a w : World} (h : Below B a w) (hg : B ≤ g) (u : Value) : Below B a (w.setCell ⟨g, i, none⟩ u) := h.setCell hg u

theorem blk_far {w : World} {g g' i : Nat} {t : TypeId} {cs : List Value} (h : Blk w g t cs) (hg : g ≠ g') (u : Value) : Blk (w.setCell ⟨g', i, none⟩ u) g t cs := h.far hg u

theorem bc_set (l : List UInt8) (i : Nat) (x : UInt8) : (Lib.byteCells l).set i (.int .u8 (x.toNat : Int)) = Lib.byteCells (l.set i x) := by
  rw [Lib.byteCells, Lib.byteCells, List.map_set]

theorem add64_any (x y c : Nat) (hc : c ≤ 1) (w : World) :
    (callFunc 109 #[.int .u64 x, .int .u64 y, .int .u64 c]).run Tryd.prog w =
      .ok (.value (.tuple #[.int .u64 (((x + y + c) % 18446744073709551616 : Nat) : Int), .int .u64 (((x + y + c) / 18446744073709551616 : Nat) : Int)])) w := by
  rw [run_callFunc_extern Tryd.func109 (by kernel_rfl) (by kernel_rfl) (by kernel_rfl) (e := add64Entry) (by kernel_rfl), run_add64 x y c (by omega) (by omega) (by omega) (by omega)]
  simp only [Result.andThen]
  congr 5 <;> omega

/-! Numbers as cells -/

/-- Numbers as cells of 64 bits. -/
def uc (l : List Nat) : List Value := l.map fun (n : Nat) => Value.int .u64 (n : Int)

theorem uc_length (l : List Nat) : (uc l).length = l.length := by simp [uc]

theorem uc_one (l : List Nat) : ∀ v ∈ uc l, v.oneCell' = true := by
  intro v hv
  simp only [uc, List.mem_map] at hv
  obtain ⟨_, _, rfl⟩ := hv
  rfl

theorem uc_get (l : List Nat) (i : Nat) (h : i < l.length) : (uc l)[i]? = some (.int .u64 ((l.getD i 0 : Nat) : Int)) := by
  simp [uc, h]

theorem uc_set (l : List Nat) (i x : Nat) : (uc l).set i (.int .u64 (x : Int)) = uc (l.set i x) := by
  rw [uc, uc, List.map_set]

theorem n_wrap (a : Nat) (h : a < 18446744073709551616) : IntKind.u64.wrap (a : Int) = (a : Int) := by rw [IntKind.wrap_u64]; omega

theorem n_mod (a : Nat) (h : a < 18446744073709551616) : (a : Int) % 18446744073709551616 = (a : Int) := by omega

theorem n_and (a k : Nat) (ha : a < 18446744073709551616) (hk : 2 ^ k - 1 < 18446744073709551616) : bits BinOp.and .u64 (a : Int) ((2 ^ k - 1 : Nat) : Int) = ((a % 2 ^ k : Nat) : Int) := by
  rw [u64_and_nat _ _ ha hk, Nat.and_two_pow_sub_one_eq_mod]

theorem n_or (a b k : Nat) (h : a * 2 ^ k + b < 18446744073709551616) (hb : b < 2 ^ k) : bits BinOp.or .u64 ((a * 2 ^ k : Nat) : Int) (b : Int) = ((a * 2 ^ k + b : Nat) : Int) := by
  rw [u64_or_nat _ _ (by omega) (by omega), Nat.mul_comm, ← Nat.two_pow_add_eq_or_of_lt hb]

set_option maxHeartbeats 1000000 in
/-- math/bits.Mul64: the product's upper half and its lower one. -/
theorem mul64_any (x y : Nat) (hx : x < 18446744073709551616) (hy : y < 18446744073709551616) (w : World) :
    Calls Tryd.prog 110 #[.int .u64 (x : Int), .int .u64 (y : Int)] w fun e w' => e = .returned (.tuple #[.int .u64 ((x * y / 18446744073709551616 : Nat) : Int), .int .u64 ((x * y % 18446744073709551616 : Nat) : Int)]) ∧ w' = w := by
  obtain ⟨b1, b2, b3, b4⟩ := Lib.mul64_hi x y hx hy
  obtain ⟨x0, hx0⟩ : ∃ v, v = x % 4294967296 := ⟨_, rfl⟩
  obtain ⟨x1, hx1⟩ : ∃ v, v = x / 4294967296 := ⟨_, rfl⟩
  obtain ⟨y0, hy0⟩ : ∃ v, v = y % 4294967296 := ⟨_, rfl⟩
  obtain ⟨y1, hy1⟩ : ∃ v, v = y / 4294967296 := ⟨_, rfl⟩
  rw [← hx0, ← hx1, ← hy0, ← hy1] at b4
  rw [← hx0, ← hx1, ← hy0, ← hy1] at b3
  rw [← hx0, ← hx1, ← hy0] at b2
  rw [← hx0, ← hy0] at b1
  have q1 : x1 * y0 ≤ 18446744065119617025 := Lib.half_mul_le (by omega) (by omega)
  have q2 : x0 * y1 ≤ 18446744065119617025 := Lib.half_mul_le (by omega) (by omega)
  have q3 : x1 * y1 ≤ 18446744065119617025 := Lib.half_mul_le (by omega) (by omega)
  obtain ⟨p0, hp0⟩ : ∃ v, v = x0 * y0 := ⟨_, rfl⟩
  obtain ⟨p1, hp1⟩ : ∃ v, v = x1 * y0 := ⟨_, rfl⟩
  obtain ⟨p2, hp2⟩ : ∃ v, v = x0 * y1 := ⟨_, rfl⟩
  obtain ⟨p3, hp3⟩ : ∃ v, v = x1 * y1 := ⟨_, rfl⟩
  obtain ⟨p4, hp4⟩ : ∃ v, v = x * y % 18446744073709551616 := ⟨_, rfl⟩
  obtain ⟨t, ht⟩ : ∃ v, v = p1 + p0 / 4294967296 := ⟨_, rfl⟩
  obtain ⟨r, hr⟩ : ∃ v, v = t % 4294967296 := ⟨_, rfl⟩
  obtain ⟨u, hu⟩ : ∃ v, v = r + p2 := ⟨_, rfl⟩
  obtain ⟨z, hz⟩ : ∃ v, v = x * y / 18446744073709551616 := ⟨_, rfl⟩
  rw [← hp0, ← hp1, ← hp2, ← hp3, ← ht, ← hr, ← hu, ← hz] at b4
  rw [← hp0, ← hp1, ← hp2, ← ht, ← hr, ← hu] at b3
  rw [← hp0, ← hp1, ← ht] at b2
  rw [← hp0] at b1
  rw [← hp1] at q1
  rw [← hp2] at q2
  rw [← hp3] at q3
  rw [← hz, ← hp4]
  have s1 : bits BinOp.and .u64 (x : Int) 4294967295 = (x0 : Int) := by rw [hx0]; exact n_and x 32 hx (by decide)
  have s2 : (x : Int) / 4294967296 = (x1 : Int) := by omega
  have s3 : bits BinOp.and .u64 (y : Int) 4294967295 = (y0 : Int) := by rw [hy0]; exact n_and y 32 hy (by decide)
  have s4 : (y : Int) / 4294967296 = (y1 : Int) := by omega
  have m0 : (x0 : Int) * (y0 : Int) = (p0 : Int) := by rw [hp0]; omega
  have m1 : (x1 : Int) * (y0 : Int) = (p1 : Int) := by rw [hp1]; omega
  have m2 : (x0 : Int) * (y1 : Int) = (p2 : Int) := by rw [hp2]; omega
  have m3 : (x1 : Int) * (y1 : Int) = (p3 : Int) := by rw [hp3]; omega
  have m4 : IntKind.u64.wrap ((x : Int) * (y : Int)) = (p4 : Int) := by rw [IntKind.wrap_u64, hp4]; omega
  have m4' : ((x : Int) * (y : Int)) % 18446744073709551616 = (p4 : Int) := by rw [hp4]; omega
  have w0 : IntKind.u64.wrap (p0 : Int) = (p0 : Int) := n_wrap _ (by omega)
  have w0' : (p0 : Int) % 18446744073709551616 = (p0 : Int) := n_mod _ (by omega)
  have w1 : IntKind.u64.wrap (p1 : Int) = (p1 : Int) := n_wrap _ (by omega)
  have w1' : (p1 : Int) % 18446744073709551616 = (p1 : Int) := n_mod _ (by omega)
  have w2 : IntKind.u64.wrap (p2 : Int) = (p2 : Int) := n_wrap _ (by omega)
  have w2' : (p2 : Int) % 18446744073709551616 = (p2 : Int) := n_mod _ (by omega)
  have w3 : IntKind.u64.wrap (p3 : Int) = (p3 : Int) := n_wrap _ (by omega)
  have w3' : (p3 : Int) % 18446744073709551616 = (p3 : Int) := n_mod _ (by omega)
  have t1 : IntKind.u64.wrap ((p1 : Int) + (p0 : Int) / 4294967296) = (t : Int) := by rw [IntKind.wrap_u64]; omega
  have t1' : ((p1 : Int) + (p0 : Int) / 4294967296) % 18446744073709551616 = (t : Int) := by omega
  have t2 : bits BinOp.and .u64 (t : Int) 4294967295 = (r : Int) := by rw [hr]; exact n_and t 32 (by omega) (by decide)
  have u1 : IntKind.u64.wrap ((r : Int) + (p2 : Int)) = (u : Int) := by rw [IntKind.wrap_u64]; omega
  have u1' : ((r : Int) + (p2 : Int)) % 18446744073709551616 = (u : Int) := by omega
  have v1 : IntKind.u64.wrap ((p3 : Int) + (t : Int) / 4294967296) = (p3 : Int) + (t : Int) / 4294967296 := by rw [IntKind.wrap_u64]; omega
  have v1' : ((p3 : Int) + (t : Int) / 4294967296) % 18446744073709551616 = (p3 : Int) + (t : Int) / 4294967296 := by omega
  have v2 : IntKind.u64.wrap ((p3 : Int) + (t : Int) / 4294967296 + (u : Int) / 4294967296) = (z : Int) := by rw [IntKind.wrap_u64]; omega
  have v2' : ((p3 : Int) + (t : Int) / 4294967296 + (u : Int) / 4294967296) % 18446744073709551616 = (z : Int) := by omega
  clear b1 b2 b3 b4 hx0 hx1 hy0 hy1 hp0 hp1 hp2 hp3 hp4 ht hr hu hz q1 q2 q3
  go_enter Tryd.func110, Tryd.ntmps110
  go_wp2
  go_ret2
  exact ⟨rfl, rfl⟩

end Go.Proofs.YtdojalhaklkegaaDoor
