/-
  ROWS OF THE CALL'S OWN SIDE BY SIDE: 'append' onto one of them, what has turned, where the new row lies. Conditions: the sum of the lengths is at most 2^47.
  CONTRACTS OF orlopref01.Little, Back, Equal, Get, GetBig: the document's own answers on numbers as bytes. Conditions: none but n up to 8, which is all that is asked for.
  CONTRACTS OF word.Equal AND word.Wipe. Conditions: what is wiped is a row of the call's own.
  THINGS THAT LIVE IN SEVERAL BLOCKS: what a call may have turned (a set of blocks), what lies out of it and lasts. Nothing of the program. Conditions: none.
  PLAIN MATHEMATICS OF LAYER 9: what a disk is, and what each call makes of it. Nothing of the program. Conditions: none.
  THE REFERENCE'S DISK IN MEMORY (RefAt): its struct's block, the row of safe blocks, the row of writes that wait; contracts of goes, Arm. Conditions: the disk lies so.
  LAWS FOR REGIONS THAT DRAW THEIR ORDER: a whole row stored and loaded as one step; an operation that yields in every world that meets S, taken first. Nothing of the program. Conditions: as each says.
  REGIONS THAT DRAW THEIR ORDER, WHOSE LAST STORES TURN WHAT WAS READ: a predicate of worlds is kept behind each operation but those of a list (stores that wait for all that read); what reads may still be taken first. Nothing of the program. Conditions: as each says.
-/
import Derived.Test.YtphcbpfpelonaaaGreatDoorPf1
import Derived.Maps.AppendAt
import Derived.Test.YtphcbpfpelonaaaGreatDoorPf2
import Derived.Deep.QuietTactic
import Derived.BigQuiet
import Derived.Lib.SliceRun
import Derived.Lib.Hide
import Derived.Deep.RegionHeld3

namespace Go.Proofs.YtphcbpfpelonaaaGreatDoor
open Go.RowKit
set_option linter.unusedVariables false

theorem IsB.shape {w : World} {v : Value} {bs : List UInt8} (h : IsB w v bs) : ∃ ao cap, v = .slice ao bs.length cap := by
  obtain ⟨ao, cap, e, _⟩ := h
  exact ⟨ao, cap, e⟩

theorem IsB.take {w : World} {ao : Option Addr} {n cap : Nat} {bs : List UInt8} (h : IsB w (.slice ao n cap) bs) (m : Nat) (hm : m ≤ n) : IsB w (.slice ao m cap) (bs.take m) := by
  obtain ⟨ao', cap', e, h1, h2, h3⟩ := h
  injection e with e1 e2 e3
  subst e1 e2 e3
  have hl : (bs.take m).length = m := by rw [List.length_take]; omega
  refine ⟨ao, cap, by rw [hl], by omega, h2, ?_⟩
  rcases h3 with h | ⟨b, off, e, h⟩
  · exact .inl (by rw [h]; simp)
  · refine .inr ⟨b, off, e, fun i hi => ?_⟩
    rw [hl] at hi
    rw [h i (by omega)]
    simp [List.getD_eq_getElem?_getD, hi]

theorem Own.shape' {w : World} {B : Nat} {v : Value} {bs : List UInt8} (h : Own w B v bs) : ∃ ao cap, v = .slice ao bs.length cap := h.isB.shape

/-- As wpList_app; what is appended to is all that has turned. -/
theorem wpList_app2 (w : World) {ops : Array Oper} {rest : List Oper} {o : Oper} {a : Act} {Q : Exit → Act → World → Prop} (hg : o.guard = none) (s x : Operand)
    (ho : o.op = .call { callee := .builtin .append, args := #[s, x], argTypes := #[38, 38] })
    (B : Nat) (v : Value) (bs : List UInt8) (hs : a.eval s = v) (hown : Own w B v bs) (sv : Value) (ys : List UInt8) (hx : a.eval x = sv) (hi : IsB w sv ys) (hnil : ∀ n c, sv = .slice none n c → c = 0)
    (hlen : bs.length + ys.length ≤ 140737488355328) (hB : B ≤ w.heap.size)
    (h : ∀ v' w', Own w' B v' (bs ++ ys) → w.grownBy w' v.ownBlock → wpList Tryz.prog ops Q rest (a.put o.dst v') w') : wpList Tryz.prog ops Q (o :: rest) a w := by
  obtain ⟨i0, h0, hz0, hz1, hz2⟩ := info_parts Tryz.info5
  obtain ⟨ao, cap, rfl⟩ : ∃ ao cap, sv = .slice ao ys.length cap := by
    obtain ⟨ao, cap, e, _⟩ := hi
    exact ⟨ao, cap, e⟩
  obtain ⟨_, hn, hc⟩ := hi.cells
  cases ao with
  | none =>
    obtain rfl := hn rfl
    obtain rfl := hnil _ _ rfl
    exact wpList_append_own_none hg s x _ ho B 5 i0 1 Tryz.underlying38 h0 v bs.length _ hs hown.row hx (h _ _ (by rw [List.append_nil]; exact hown) (World.grownBy.refl _ _))
  | some ad =>
    refine wpList_append_own w hg s x _ ho B 5 i0 (.int .u8 0) 1 1 Tryz.underlying38 h0 hz0 hz1 hz2 rfl (by decide) v bs.length _ hs hown.row ad ys.length cap (Lib.byteCells ys) hx (by rw [byteCells_length, Nat.mul_one]) (hc ad rfl) (byteCells_oneCell _) (by unfold maxLen; omega) (by omega) hB ?_
    intro v' w' hown' hgrow hz
    refine h v' w' ?_ hgrow
    rw [Own, List.length_append, byteCells_append]
    exact hown'

/-- The block of a row of the call's own is there. -/
theorem Own.block_lt {w : World} {B : Nat} {v : Value} {bs : List UInt8} (h : Own w B v bs) : ∀ k, v.ownBlock = some k → B ≤ k ∧ k < w.heap.size := fun k hk => by
  have := h.row.lt k hk
  exact this

theorem Own.far {w w' : World} {B g n cap : Nat} {bs : List UInt8} {row : Option Nat} (h : Own w B (.slice (some ⟨g, 0, none⟩) n cap) bs) (hgrow : w.grownBy w' row) (hne : row ≠ some g) : Own w' B (.slice (some ⟨g, 0, none⟩) n cap) bs :=
  h.row.kept hgrow (.inr fun e => hne e.symm)

/-- As wpList_app2; and where the new row lies. -/
theorem wpList_app3 (w : World) {ops : Array Oper} {rest : List Oper} {o : Oper} {a : Act} {Q : Exit → Act → World → Prop} (hg : o.guard = none) (s x : Operand)
    (ho : o.op = .call { callee := .builtin .append, args := #[s, x], argTypes := #[38, 38] })
    (B : Nat) (v : Value) (bs : List UInt8) (hs : a.eval s = v) (hown : Own w B v bs) (sv : Value) (ys : List UInt8) (hx : a.eval x = sv) (hi : IsB w sv ys) (hnil : ∀ n c, sv = .slice none n c → c = 0)
    (hlen : bs.length + ys.length ≤ 140737488355328) (hB : B ≤ w.heap.size)
    (h : ∀ v' w', Own w' B v' (bs ++ ys) → w.grownBy w' v.ownBlock → (v'.ownBlock = v.ownBlock ∨ v'.ownBlock = some w.heap.size) → wpList Tryz.prog ops Q rest (a.put o.dst v') w') : wpList Tryz.prog ops Q (o :: rest) a w := by
  obtain ⟨i0, h0, hz0, hz1, hz2⟩ := info_parts Tryz.info5
  obtain ⟨ao, cap, rfl⟩ : ∃ ao cap, sv = .slice ao ys.length cap := by
    obtain ⟨ao, cap, e, _⟩ := hi
    exact ⟨ao, cap, e⟩
  obtain ⟨_, hn, hc⟩ := hi.cells
  cases ao with
  | none =>
    obtain rfl := hn rfl
    obtain rfl := hnil _ _ rfl
    exact wpList_append_own_none hg s x _ ho B 5 i0 1 Tryz.underlying38 h0 v bs.length _ hs hown.row hx (h _ _ (by rw [List.append_nil]; exact hown) (World.grownBy.refl _ _) (.inl rfl))
  | some ad =>
    refine wpList_append_own_at w hg s x _ ho B 5 i0 (.int .u8 0) 1 1 Tryz.underlying38 h0 hz0 hz1 hz2 rfl (by decide) v bs.length _ hs hown.row ad ys.length cap (Lib.byteCells ys) hx (by rw [byteCells_length, Nat.mul_one]) (hc ad rfl) (byteCells_oneCell _) (by unfold maxLen; omega) (by omega) hB ?_
    intro v' w' hown' hgrow hz hat
    refine h v' w' ?_ hgrow hat
    rw [Own, List.length_append, byteCells_append]
    exact hown'

theorem Own.kept {w w' : World} {B : Nat} {v : Value} {bs : List UInt8} {row : Option Nat} (h : Own w B v bs) (g : w.grownBy w' row) (hne : ∀ k, v.ownBlock = some k → row ≠ some k) : Own w' B v bs := by
  refine h.row.kept g ?_
  cases hv : v.ownBlock with
  | none => exact .inl rfl
  | some k => exact .inr fun e => hne k hv e.symm

/-- Two rows of the call's own don't lie in one block. -/
def Apart (x y : Value) : Prop := ∀ k, x.ownBlock = some k → y.ownBlock ≠ some k

theorem Apart.symm {x y : Value} (h : Apart x y) : Apart y x := fun k e1 e2 => h k e2 e1

theorem Apart.next {w : World} {B : Nat} {x x' y : Value} {bs : List UInt8} (h : Apart x y) (hy : Own w B y bs) (n : Nat) (hn : w.heap.size ≤ n) (hat : x'.ownBlock = x.ownBlock ∨ x'.ownBlock = some n) : Apart x' y := by
  intro k e1 e2
  rcases hat with hat | hat
  · exact h k (hat ▸ e1) e2
  · rw [hat] at e1
    injection e1 with e1
    have := (hy.block_lt k e2).2
    omega

/-- 'make([]byte, n)'. -/
theorem make_run (n : Nat) (hm : n ≤ 140737488355328) : ∃ C : Array Value, ∀ w : World, (Instr.makeSlice 38 (.int .i64 (n : Int)) (.int .i64 (n : Int))).run Tryz.prog w = .ok (.slice (some ⟨w.heap.size, 0, none⟩) n n) (w.alloc (.cells C 5)) ∧
    Own (w.alloc (.cells C 5)) w.heap.size (.slice (some ⟨w.heap.size, 0, none⟩) n n) (List.replicate n 0) := by
  obtain ⟨i0, h0, hz0, hz1, hz2⟩ := info_parts Tryz.info5
  have hb : (i0.bytes : Int) * (n : Int) ≤ 281474976710656 := by rw [hz2]; omega
  have e : (madeCells (Value.int IntKind.u8 0).cells (n * i0.size)).toList = List.replicate n (.int .u8 0) := by
    rw [hz1, Nat.mul_one]
    exact toList_madeCells_one _ _
  have hsz : (madeCells (Value.int IntKind.u8 0).cells (n * i0.size)).size = n := by rw [← Array.length_toList, e, List.length_replicate]
  refine ⟨madeCells (Value.int IntKind.u8 0).cells (n * i0.size), fun w => ⟨?_, ?_⟩⟩
  · have hrun := run_make (P := Tryz.prog) w 38 5 i0 (.int .u8 0) Tryz.underlying38 h0 hz0 .i64 .i64 n n (by omega) (by omega) hb (by omega)
    simp only [Int.toNat_natCast] at hrun
    exact hrun
  · refine ⟨by rw [byteCells_length, Nat.mul_one], .inr ⟨w.heap.size, n, _, by rw [List.length_replicate], Nat.le_refl _, heap_alloc_new w _, by rw [List.length_replicate]; exact Nat.le_refl _, by unfold maxLen; omega, by rw [hsz, Nat.mul_one], ?_⟩⟩
    rw [e, List.length_replicate, Nat.mul_one, List.take_replicate, Nat.min_eq_left (Nat.le_refl _)]
    simp [Lib.byteCells]

end Go.Proofs.YtphcbpfpelonaaaGreatDoor

namespace Go.Proofs.YtphcbpfpelonaaaGreatDoor
open Go.RowKit

theorem ret_bool {a b : Bool} (h : a = b) : Ending.returned (.bool a) = .returned (.bool b) := by rw [h]

theorem equal_any (v1 v2 : Value) (xs ys : List UInt8) (w : World) (h1 : IsB w v1 xs) (h2 : IsB w v2 ys) :
    Calls Tryz.prog 14 #[v1, v2] w fun e w' => e = .returned (.bool (decide (xs = ys))) ∧ ∃ n, w' = w.drewN n := by
  obtain ⟨ao1, cap1, rfl, hl1, hm1, H1⟩ := h1
  obtain ⟨ao2, cap2, rfl, hl2, hm2, H2⟩ := h2
  unfold maxLen at hm1 hm2
  have H1 : Hid (At w ao1 xs) := H1
  have H2 : Hid (At w ao2 ys) := H2
  by_cases hlen : xs.length = ys.length
  · have HL : Hid (xs.length = ys.length) := hlen
    clear hlen
    rw [HL.out]
    go_enter Tryz.func14, Tryz.ntmps14
    go_wp2
    go_loopw [5] (fun i wr => ∃ k : Nat, k ≤ ys.length ∧ i = .int .i64 k ∧ Hid (xs.take k = ys.take k) ∧ ∃ n, wr = w.drewN n)
      (fun i _ => ys.length - (intOf i).toNat)
    case atStart => exact ⟨0, Nat.zero_le _, rfl, by simp [Hid], 0, rfl⟩
    case round =>
      obtain ⟨k, hk, rfl, hpre, nq, rfl⟩ := hrel
      by_cases hlt : k < ys.length
      · rcases H1.out with h0 | ⟨b1, off1, rfl, hc1⟩
        · have := HL.out; subst h0; simp at this; simp [← this] at hlt
        rcases H2.out with h0 | ⟨b2, off2, rfl, hc2⟩
        · subst h0; simp at hlt
        have g1 := hc1 k (by rw [HL.out]; exact hlt)
        have g2 := hc2 k hlt
        clear hc1 hc2
        obtain ⟨c1, hcc1⟩ : ∃ c, c = (xs.getD k 0).toNat := ⟨_, rfl⟩
        obtain ⟨c2, hcc2⟩ : ∃ c, c = (ys.getD k 0).toNat := ⟨_, rfl⟩
        rw [← hcc1] at g1
        rw [← hcc2] at g2
        have HC1 : Hid (c1 = (xs.getD k 0).toNat) := hcc1
        have HC2 : Hid (c2 = (ys.getD k 0).toNat) := hcc2
        clear hcc1 hcc2
        have hltI : (k : Int) < (ys.length : Int) := by omega
        by_cases hcc : c1 = c2
        · subst hcc
          go_wp2
          go_quiet (fail)
          go_wp2
          go_roundw
          case rel => exact ⟨k + 1, by omega, by go_num, M.take_next xs ys k (by rw [HL.out]; exact hlt) hlt hpre.out (by rw [← HC1.out, ← HC2.out]), _, rfl⟩
          case measure => simp [intOf]; omega
        · go_wp2
          go_quiet (fail)
          go_wp2
          go_ret
          refine ⟨ret_bool ?_, _, World.drewN_drewN _ _ _⟩
          symm
          rw [decide_eq_false_iff_not]
          intro e
          rw [HC1.out, HC2.out, e] at hcc
          exact hcc rfl
      · obtain rfl : k = ys.length := by omega
        go_wp2
        go_ret
        refine ⟨ret_bool ?_, _, rfl⟩
        symm
        rw [decide_eq_true_iff]
        have e := hpre.out
        rw [List.take_length, List.take_of_length_le (by rw [HL.out]; exact Nat.le_refl _)] at e
        exact e
  · have hne : ¬ xs = ys := fun e => hlen (by rw [e])
    have HN : Hid (¬ xs = ys) := hne
    clear hne
    go_enter Tryz.func14, Tryz.ntmps14
    go_wp2
    go_ret
    refine ⟨ret_bool ?_, 0, rfl⟩
    symm
    rw [decide_eq_false_iff_not]
    exact HN.out

theorem horner1 (v c : Nat) (h : v * 256 + 255 < 18446744073709551616) (hc : c < 256) :
    Value.int .u64 (IntKind.u64.wrap (IntKind.u64.wrap ((v : Int) * 256) + IntKind.u64.wrap (c : Int))) = .int .u64 ((v * 256 + c : Nat) : Int) := by
  rw [wraps_u64 ((v : Int) * 256) (by omega) (by omega), wraps_u64 (c : Int) (by omega) (by omega), wraps_u64 _ (by omega) (by omega)]
  congr 1

theorem horner0 (v : Nat) (h : v * 256 + 255 < 18446744073709551616) :
    Value.int .u64 (IntKind.u64.wrap ((v : Int) * 256)) = .int .u64 ((v * 256 : Nat) : Int) := by
  rw [wraps_u64 ((v : Int) * 256) (by omega) (by omega)]
  congr 1

end Go.Proofs.YtphcbpfpelonaaaGreatDoor

namespace Go.Proofs.YtphcbpfpelonaaaGreatDoor
open Go.RowKit

theorem xor_zero_iff (a b : Nat) : a ^^^ b = 0 ↔ a = b := by
  constructor
  · intro h
    apply Nat.eq_of_testBit_eq
    intro i
    have := congrArg (fun n => n.testBit i) h
    simpa using this
  · rintro rfl
    exact Nat.xor_self a

theorem or_zero_iff (a b : Nat) : a ||| b = 0 ↔ a = 0 ∧ b = 0 := by
  constructor
  · intro h
    refine ⟨Nat.eq_of_testBit_eq fun i => ?_, Nat.eq_of_testBit_eq fun i => ?_⟩
    all_goals
      have := congrArg (fun n => n.testBit i) h
      simp at this
      simp [this]
  · rintro ⟨rfl, rfl⟩
    rfl

theorem take_succ_iff (xs ys : List UInt8) (k : Nat) (hx : k < xs.length) (hy : k < ys.length) :
    xs.take (k + 1) = ys.take (k + 1) ↔ xs.take k = ys.take k ∧ (xs.getD k 0).toNat = (ys.getD k 0).toNat := by
  constructor
  · intro h
    refine ⟨?_, ?_⟩
    · have := congrArg (List.take k) h
      simpa [List.take_take, Nat.min_eq_left (Nat.le_succ k)] using this
    · have := congrArg (fun l => (l.getD k 0)) h
      simp [List.getD_eq_getElem?_getD] at this
      simp [List.getD_eq_getElem?_getD, this]
  · rintro ⟨h1, h2⟩
    exact M.take_next xs ys k hx hy h1 h2

theorem requal_b (v1 v2 : Value) (xs ys : List UInt8) (w : World) (h1 : IsB w v1 xs) (h2 : IsB w v2 ys) :
    Calls Tryz.prog 14 #[v1, v2] w fun e w' => e = .returned (.bool (decide (xs = ys))) ∧ Below w.heap.size w w' := by
  refine (equal_any v1 v2 xs ys w h1 h2).mono ?_
  rintro e w' ⟨rfl, n, rfl⟩
  exact ⟨rfl, below_draws w n⟩

/-- Cells written one after the other, from the place o on. -/
def over (xs : List Value) : Nat → List Value → List Value
  | _, [] => xs
  | o, v :: r => over (xs.set o v) (o + 1) r

theorem over_all (z : Value) : ∀ (ys : List Value) (o : Nat), over (List.replicate o z ++ ys) o (List.replicate ys.length z) = List.replicate (o + ys.length) z := by
  intro ys
  induction ys with
  | nil => intro o; simp [over]
  | cons y r ih =>
    intro o
    have e : (List.replicate o z ++ y :: r).set o z = List.replicate (o + 1) z ++ r := by
      rw [List.replicate_succ', List.append_assoc]
      simp
    rw [List.length_cons, List.replicate_succ, over, e, ih (o + 1)]
    congr 1
    omega

/-- Many stores into a row that is owned. -/
theorem stored_many {base g n cap : Nat} {e : TypeId} : ∀ (vs : List Value) (o : Nat) (w : World) (xs : List Value), w.ownsRow base e 1 (.slice (some ⟨g, 0, none⟩) n cap) n xs →
    (w.setCells g o vs).ownsRow base e 1 (.slice (some ⟨g, 0, none⟩) n cap) n (over xs o vs) ∧ w.grownBy (w.setCells g o vs) (some g) := by
  intro vs
  induction vs with
  | nil => intro o w xs h; exact ⟨h, World.grownBy.refl _ _⟩
  | cons v r ih =>
    intro o w xs h
    obtain ⟨h1, g1⟩ := h.stored o v
    obtain ⟨h2, g2⟩ := ih (o + 1) _ _ h1
    refine ⟨h2, ⟨g2.os.trans g1.os, g2.tape.trans g1.tape, g2.output.trans g1.output, Nat.le_trans g1.size g2.size, fun k hk hne => ?_⟩⟩
    exact (g2.block k (Nat.lt_of_lt_of_le hk g1.size) hne).trans (g1.block k hk hne)

end Go.Proofs.YtphcbpfpelonaaaGreatDoor

namespace Go.Proofs.YtphcbpfpelonaaaGreatDoor
open Go.RowKit
set_option linter.unusedVariables false

/-- Only blocks of F, and what is new, have turned. -/
structure Chg (F : Nat → Prop) (w w' : World) : Prop where
  os : w'.os = w.os
  tape : w'.tape = w.tape
  output : w'.output = w.output
  size : w.heap.size ≤ w'.heap.size
  block : ∀ k, k < w.heap.size → ¬ F k → w'.heap[k]? = w.heap[k]?

theorem Chg.refl (F : Nat → Prop) (w : World) : Chg F w w := ⟨rfl, rfl, rfl, Nat.le_refl _, fun _ _ _ => rfl⟩

theorem Chg.mono {F G : Nat → Prop} {w w' : World} (h : Chg F w w') (hs : ∀ k, k < w.heap.size → F k → G k) : Chg G w w' :=
  ⟨h.os, h.tape, h.output, h.size, fun k hk hg => h.block k hk fun hf => hg (hs k hk hf)⟩

theorem Chg.trans {F G : Nat → Prop} {w w1 w2 : World} (h : Chg F w w1) (h2 : Chg G w1 w2) (hs : ∀ k, k < w.heap.size → G k → F k) : Chg F w w2 :=
  ⟨h2.os.trans h.os, h2.tape.trans h.tape, h2.output.trans h.output, Nat.le_trans h.size h2.size, fun k hk hf => (h2.block k (Nat.lt_of_lt_of_le hk h.size) fun hg => hf (hs k hk hg)).trans (h.block k hk hf)⟩

theorem Chg.of_below {F : Nat → Prop} {w w' : World} (h : Below w.heap.size w w') : Chg F w w' := ⟨h.os, h.tape, h.output, h.size, fun k hk _ => h.block k hk⟩

theorem Chg.of_grown {F : Nat → Prop} {w w' : World} {row : Option Nat} (h : w.grownBy w' row) (hr : ∀ k, row = some k → F k) : Chg F w w' :=
  ⟨h.os, h.tape, h.output, h.size, fun k hk hf => h.block k hk fun e => hf (hr k e.symm)⟩

theorem Chg.drew {F : Nat → Prop} {w w' : World} (h : Chg F w w') : Chg F w w'.drew := ⟨h.os, h.tape, h.output, h.size, h.block⟩

theorem Chg.alloc {F : Nat → Prop} {w w' : World} (h : Chg F w w') (o : Obj) : Chg F w (w'.alloc o) :=
  h.trans (Chg.of_below (F := fun _ => False) ((Below.refl _ w').alloc (Nat.le_refl _) o)) (fun _ _ h => h.elim)

theorem Chg.setCell {F : Nat → Prop} {w w' : World} (h : Chg F w w') (p : Addr) (u : Value) (hp : F p.block ∨ w.heap.size ≤ p.block) : Chg F w (w'.setCell p u) :=
  ⟨h.os, h.tape, h.output, by rw [World.size_setCell]; exact h.size, fun k hk hf => by
    rw [Below.heap_setCell w' p u k (by rintro rfl; rcases hp with hp | hp; exact hf hp; omega)]
    exact h.block k hk hf⟩

theorem Chg.cell {g : Nat} {w w' : World} (h : Chg (fun b => b = g) w w') (o : Nat) (u : Value) : Chg (fun b => b = g) w (w'.setCell ⟨g, o, none⟩ u) := h.setCell ⟨g, o, none⟩ u (.inl rfl)

/-- What is below B lasts, where no block of F is. -/
theorem Chg.below {F : Nat → Prop} {w w' : World} {B : Nat} (h : Chg F w w') (hB : B ≤ w.heap.size) (hF : ∀ k, F k → B ≤ k) : Below B w w' :=
  ⟨h.os, h.tape, h.output, h.size, fun k hk => h.block k (by omega) fun hf => by have := hF k hf; omega⟩

theorem Blk.chg {F : Nat → Prop} {w w' : World} {g : Nat} {t : TypeId} {cs : List Value} (h : Blk w g t cs) (k : Chg F w w') (hg : ¬ F g) : Blk w' g t cs := (k.block g h.lt hg).trans h

theorem own_chg {F : Nat → Prop} {w w' : World} {B : Nat} {e : TypeId} {size n : Nat} {v : Value} {xs : List Value} (h : w.ownsRow B e size v n xs) (k : Chg F w w') (hg : ∀ b, v.ownBlock = some b → ¬ F b) : w'.ownsRow B e size v n xs := by
  refine ⟨h.1, ?_⟩
  rcases h.2 with hn | ⟨g, cap, cur, rfl, hb, hgg, rest⟩
  · exact .inl hn
  · exact .inr ⟨g, cap, cur, rfl, hb, (k.block g (Array.getElem?_eq_some_iff.1 hgg).1 (hg g rfl)).trans hgg, rest⟩

/-- A slice lies in blocks of S. -/
def Lies (S : Nat → Prop) (v : Value) : Prop := ∀ ad n c, v = .slice (some ad) n c → S ad.block

theorem Lies.mono {S R : Nat → Prop} {v : Value} (h : Lies S v) (hs : ∀ k, S k → R k) : Lies R v := fun ad n c e => hs _ (h ad n c e)

theorem lies_own {S : Nat → Prop} {w : World} {B n size : Nat} {e : TypeId} {v : Value} {xs : List Value} (h : w.ownsRow B e size v n xs) (hs : ∀ k, B ≤ k → k < w.heap.size → S k) : Lies S v := by
  intro ad n' c e
  have h1 := h.lt ad.block (by rw [e]; rfl)
  exact hs _ h1.1 h1.2

theorem IsB.chg {F : Nat → Prop} {w w' : World} {v : Value} {bs : List UInt8} (h : IsB w v bs) (k : Chg F w w') (hl : Lies (fun b => ¬ F b) v) : IsB w' v bs := by
  obtain ⟨ao, cap, rfl, h1, h2, h3⟩ := h
  refine ⟨ao, cap, rfl, h1, h2, ?_⟩
  rcases h3 with h | ⟨b, off, rfl, h⟩
  · exact .inl h
  · refine .inr ⟨b, off, rfl, fun i hi => ?_⟩
    have hc := h i hi
    have hb := World.block_lt_of_cell? w _ hc
    rw [World.cell?_of_block (k.block b hb (hl _ _ _ rfl)), hc]

/-- A slice of bytes lies in blocks that are there, or it has none. -/
theorem IsB.there {w : World} {v : Value} {bs : List UInt8} (h : IsB w v bs) (hn : bs ≠ []) : Lies (fun k => k < w.heap.size) v := by
  obtain ⟨ao, cap, rfl, h1, h2, h3⟩ := h
  intro ad n c e
  injection e with e1 e2 e3
  rcases h3 with h | ⟨b, off, e4, h⟩
  · exact absurd h hn
  · rw [e4] at e1
    injection e1 with e1
    subst e1
    exact World.block_lt_of_cell? w _ (h 0 (by cases bs; exact absurd rfl hn; simp))

theorem Own.lies {S : Nat → Prop} {w : World} {B : Nat} {v : Value} {bs : List UInt8} (h : Own w B v bs) (hs : ∀ k, B ≤ k → k < w.heap.size → S k) : Lies S v := lies_own h hs

/-- The value is a slice of the bools ks. -/
def IsZ (w : World) (v : Value) (ks : List Bool) : Prop := ∃ ao cap, v = .slice ao ks.length cap ∧ ks.length ≤ cap ∧ cap ≤ maxLen ∧
  (ks = [] ∨ ∃ b off, ao = some ⟨b, off, none⟩ ∧ ∀ i, i < ks.length → w.cell? ⟨b, off + i, none⟩ = some (.bool (ks.getD i false)))

theorem IsZ.chg {F : Nat → Prop} {w w' : World} {v : Value} {ks : List Bool} (h : IsZ w v ks) (k : Chg F w w') (hl : Lies (fun b => ¬ F b) v) : IsZ w' v ks := by
  obtain ⟨ao, cap, rfl, h1, h2, h3⟩ := h
  refine ⟨ao, cap, rfl, h1, h2, ?_⟩
  rcases h3 with h | ⟨b, off, rfl, h⟩
  · exact .inl h
  · refine .inr ⟨b, off, rfl, fun i hi => ?_⟩
    have hc := h i hi
    have hb := World.block_lt_of_cell? w _ hc
    rw [World.cell?_of_block (k.block b hb (hl _ _ _ rfl)), hc]

theorem IsZ.nil (w : World) : IsZ w (.slice none 0 0) [] := ⟨none, 0, rfl, Nat.le_refl _, Nat.zero_le _, .inl rfl⟩

end Go.Proofs.YtphcbpfpelonaaaGreatDoor

namespace Go.Proofs.YtphcbpfpelonaaaGreatDoor.M
set_option linter.unusedVariables false

/-- A disk: its safe blocks, the writes that wait, how many acts till the power goes (0: none), whether it is gone. -/
structure Dsk where
  safe : List (List UInt8)
  wait : List (Nat × List UInt8)
  left : Nat
  down : Bool

/-- All blocks have 256 bytes, and each write is of one of them. -/
structure Dsk.Ok (d : Dsk) : Prop where
  few : d.safe.length ≤ 2176
  full : ∀ b ∈ d.safe, b.length = 256
  wat : ∀ c ∈ d.wait, c.1 < d.safe.length ∧ c.2.length = 256

def zero256 : List UInt8 := List.replicate 256 0

/-- A new disk of n blocks. -/
def dnew (n : Nat) : Dsk := ⟨List.replicate (min n 2176) zero256, [], 0, false⟩

/-- A row of bytes cut into n blocks. -/
def cut256 (b : List UInt8) : Nat → List (List UInt8)
  | 0 => []
  | n + 1 => cut256 b n ++ [(b.drop (256 * n)).take 256]

def dload (b : List UInt8) : Dsk := ⟨cut256 b (b.length / 256), [], 0, false⟩

/-- An act begins: does the power go in it? -/
def Dsk.goes (d : Dsk) : Dsk × Bool :=
  if d.left = 0 then (d, false) else if d.left = 1 then ({ d with left := 0, down := true }, true) else ({ d with left := d.left - 1 }, d.down)

def Dsk.write (d : Dsk) (i : Nat) (b : List UInt8) : Dsk := (({ d with wait := d.wait ++ [(i, b)] } : Dsk).goes).1
def Dsk.wrote (d : Dsk) : Bool := d.goes.2

/-- The blocks with a row of writes laid on them. -/
def laid (s : List (List UInt8)) : List (Nat × List UInt8) → List (List UInt8)
  | [] => s
  | c :: r => laid (s.set c.1 c.2) r

/-- .. the first j of them, those that are kept. -/
def kept (s : List (List UInt8)) (c : List (Nat × List UInt8)) (k : List Bool) : Nat → List (List UInt8)
  | 0 => s
  | j + 1 => if k.getD j false = true then (kept s c k j).set (c.getD j (0, [])).1 (c.getD j (0, [])).2 else kept s c k j

/-- The last write of a block, or else it. -/
def seen (i : Nat) (b : List UInt8) : List (Nat × List UInt8) → List UInt8
  | [] => b
  | c :: r => seen i (if c.1 = i then c.2 else b) r

def Dsk.read (d : Dsk) (i : Nat) : List UInt8 := seen i (d.safe.getD i []) d.wait
def Dsk.synced (d : Dsk) : Dsk := { d with safe := laid d.safe d.wait, wait := [] }
def Dsk.arm (d : Dsk) (n : Int) : Dsk := { d with left := n.toNat }
def Dsk.crash (d : Dsk) (k : List Bool) : Dsk := ⟨kept d.safe d.wait k d.wait.length, [], 0, false⟩

/-- The byte at a place turned. -/
def turned1 (s : List (List UInt8)) (p : Nat) (x : UInt8) : List (List UInt8) := s.set (p / 256) ((s.getD (p / 256) []).set (p % 256) x)

/-- The first j bytes of b laid at the place at on, as far as there are places. -/
def turns (s : List (List UInt8)) (at_ : Int) (b : List UInt8) : Nat → List (List UInt8)
  | 0 => s
  | j + 1 => if 0 ≤ at_ + j ∧ at_ + j < 256 * s.length then turned1 (turns s at_ b j) (at_ + j).toNat (b.getD j 0) else turns s at_ b j

def Dsk.tamper (d : Dsk) (at_ : Int) (b : List UInt8) : Dsk := { d with safe := turns d.safe at_ b b.length }
def Dsk.image (d : Dsk) : List UInt8 := d.safe.flatten

end Go.Proofs.YtphcbpfpelonaaaGreatDoor.M

namespace Go.Proofs.YtphcbpfpelonaaaGreatDoor
open Go.RowKit
set_option linter.unusedVariables false

/-- Writes as cells: a number and a slice each. -/
def chgs : List (Nat × List UInt8) → List Value → List Value
  | c :: r, d :: s => .int .i64 (c.1 : Int) :: d :: chgs r s
  | _, _ => []

theorem chgs_length : ∀ (c : List (Nat × List UInt8)) (d : List Value), d.length = c.length → (chgs c d).length = c.length * 2
  | [], [], _ => rfl
  | c :: r, d :: s, h => by
    have := chgs_length r s (by simpa using h)
    simp only [chgs, List.length_cons, this]
    omega

theorem chgs_append : ∀ (c : List (Nat × List UInt8)) (d : List Value) (x : Nat × List UInt8) (y : Value), d.length = c.length → chgs (c ++ [x]) (d ++ [y]) = chgs c d ++ [.int .i64 (x.1 : Int), y]
  | [], [], _, _, _ => rfl
  | c :: r, d :: s, x, y, h => by
    have := chgs_append r s x y (by simpa using h)
    simp only [chgs, List.cons_append, this]

theorem chgs_get : ∀ (c : List (Nat × List UInt8)) (d : List Value) (j : Nat), d.length = c.length → j < c.length → (chgs c d)[2 * j]? = some (.int .i64 ((c.getD j (0, [])).1 : Int)) ∧ (chgs c d)[2 * j + 1]? = some (d.getD j undef)
  | c :: r, d :: s, 0, h, _ => ⟨rfl, rfl⟩
  | c :: r, d :: s, j + 1, h, hj => by
    have := chgs_get r s j (by simpa using h) (by simpa using hj)
    rw [show 2 * (j + 1) = 2 * j + 1 + 1 by omega, chgs, List.getElem?_cons_succ, List.getElem?_cons_succ, List.getElem?_cons_succ, List.getElem?_cons_succ]
    exact this

/-- The blocks of T but the struct's and the two rows'. -/
def RefS (T : Nat → Prop) (g : Nat) (sv wv : Value) (k : Nat) : Prop := T k ∧ k ≠ g ∧ sv.ownBlock ≠ some k ∧ wv.ownBlock ≠ some k

theorem Chg.one {T : Nat → Prop} {w w' : World} {g : Nat} (h : Chg (fun b => b = g) w w') (hg : T g) : Chg T w w' := h.mono fun k _ e => e ▸ hg

end Go.Proofs.YtphcbpfpelonaaaGreatDoor

namespace Go.Proofs.YtphcbpfpelonaaaGreatDoor
open Go.RowKit
set_option linter.unusedVariables false

/-- A whole array into a block that is known, as one step of a region that draws. -/
theorem step_store_blk {P : Program} {ops : Array Oper} {o : Oper} {a : Act} {w : World} {K : Act → World → Prop} {Q : Exit → Act → World → Prop} {E : Prop} (hgd : o.guard = none) (ty : TypeId) (x y : Operand) (ho : o.op = .store ty x y)
    (g : Nat) (cells : Array Value) (hx : a.eval x = .pointer (some ⟨g, 0, none⟩)) (hy : a.eval y = .agg cells) (t : TypeId) (cs : List Value) (hg : Blk w g t cs)
    (hi : (P.info? ty).map (·.size) = some cells.size) (hl : cs.length = cells.size) (h1 : ∀ v ∈ cells.toList, v.oneCell' = true)
    (h : ∀ w', Blk w' g t cells.toList → Only g w w' → K (a.put o.dst undef) w') : if Region.wanted o (yielded ops a.tmps) = true then Oper.wp P o a w K Q else E := by
  have hw : Region.wanted o (yielded ops a.tmps) = true := by simp [Region.wanted, hgd]
  rw [if_pos hw]
  unfold Oper.wp execOp
  have h1' : cells.all (·.oneCell') = true := Array.all_eq_true_iff_forall_mem.2 fun v hv => h1 v (by simpa using hv)
  simp only [ho, hx, hy, Instr.storeAt, Instr.sureAddr, Sem.run_bind, Sem.run_pure, Result.andThen_ok, run_storeVar_row w g t ty cs.toArray cells hg hi (by simpa using hl) h1']
  refine h _ ?_ ⟨rfl, rfl, rfl, by simp, fun k _ hne => ?_⟩
  · have := setRow_heap w g cs.toArray cells t (0, 0) hg
    simpa [Blk] using this
  · exact setRow_other w g k cells (fun e => hne (by rw [e]))

/-- A whole array out of a block, likewise. -/
theorem step_load_mid {P : Program} {ops : Array Oper} {o : Oper} {a : Act} {w : World} {K : Act → World → Prop} {Q : Exit → Act → World → Prop} {E : Prop} (hgd : o.guard = none) (ty : TypeId) (x : Operand) (ho : o.op = .load ty x)
    (b off : Nat) (hx : a.eval x = .pointer (some ⟨b, off, none⟩)) (cs : List Value) (d : TypeDesc) (hS : w.rangeAt b off cs)
    (hu : P.underlying ty = some d) (hd : d.isRow = true) (hi : (P.info? ty).map (·.size) = some cs.length) (h : K (a.put o.dst (.agg cs.toArray)) w) : if Region.wanted o (yielded ops a.tmps) = true then Oper.wp P o a w K Q else E := by
  have hw : Region.wanted o (yielded ops a.tmps) = true := by simp [Region.wanted, hgd]
  rw [if_pos hw]
  unfold Oper.wp execOp
  simp only [ho, hx, Instr.loadAt, Instr.sureAddr, Sem.run_bind, Sem.run_pure, Result.andThen_ok, run_loadVar_mid w b off ty cs d hS hu hd hi]
  exact h

/-- An operation that yields in every world that meets S, taken first; the slot that it writes known. -/
theorem wpAnyH_take_at {P : Program} {ops : Array Oper} {md : Region.Mode} {Q : Exit → Act → World → Prop} {S : World → Prop} {i d : Nat} {oi : Oper} {v : Value} {fuel : Nat} {listed : Array Bool} {tmps : Array Value} {defers : List Deferred} {w : World} (hi : ops[i]? = some oi) (hdst : oi.dst = some d)
    (hs : Region.noSelect ops = true) (hf : Region.free md ops listed i = true) (hr : (Region.ready md ops listed).contains i = true)
    (hQ : ∀ c a w, Q (.panic c) (a.put oi.dst v) w → Q (.panic c) a w) (hy : YieldsIf P ops S oi v { tmps := tmps, defers := defers }) (hS : S w)
    (h : wpAnyH P md ops Q S fuel (listed.setIfInBounds i true) { tmps := tmps.setIfInBounds d v, defers := defers } w) : wpAnyH P md ops Q S (fuel + 1) listed { tmps := tmps, defers := defers } w := by
  refine wpAnyH_take hi hs hf hr hQ hy hS ?_
  rw [hdst]
  exact h

end Go.Proofs.YtphcbpfpelonaaaGreatDoor

namespace Go.Proofs.YtphcbpfpelonaaaGreatDoor
open Go Go.RowKit
set_option linter.unusedVariables false

section
variable {P : Program} {ops : Array Oper} {Q : Exit → Act → World → Prop} {md : Region.Mode} {S : World → Prop} {Z : List Nat}

/-- Whatever order is picked; S holds behind each operation that is none of Z. -/
def anyT (P : Program) (md : Region.Mode) (ops : Array Oper) (Q : Exit → Act → World → Prop) (S : World → Prop) (Z : List Nat) : Nat → Array Bool → Act → World → Prop
  | 0, listed, a, w => Region.ready md ops listed = [] ∧ Q .normal a w
  | f + 1, listed, a, w =>
    (Region.ready md ops listed = [] → Q .normal a w) ∧
    ∀ i ∈ Region.ready md ops listed, wpOp P ops Q i (fun a' w' => (i ∈ Z ∨ S w') ∧ anyT P md ops Q S Z f (listed.setIfInBounds i true) a' w') a w

theorem any_of_T : ∀ (f : Nat) (listed : Array Bool) (a : Act) (w : World), anyT P md ops Q S Z f listed a w → wpAny P md ops Q f listed a w
  | 0, _, _, _, h => h
  | f + 1, _, _, _, h => ⟨h.1, fun i hi => wpOp_mono (fun a' w' h' => any_of_T f _ a' w' h'.2) (h.2 i hi)⟩

theorem anyT_first {R : World → Prop} {i : Nat} {oi : Oper} {v : Value} (hi : ops[i]? = some oi) (hsel : ∀ (j : Nat) (o : Oper) cs b, ops[j]? = some o → o.op ≠ .select cs b)
    (hQ : ∀ c a w, Q (.panic c) (a.put oi.dst v) w → Q (.panic c) a w)
    (hR : ∀ j oj w', ops[j]? = some oj → (∀ e ∈ oj.after, Region.binds md e = true → e.on ≠ i) → (j ∈ Z ∨ S w') → R w') (hRi : ∀ w, R w → i ∈ Z ∨ S w) :
    ∀ (f : Nat) (listed : Array Bool) (a : Act) (w : World),
      (∀ j oj, ops[j]? = some oj → j ≠ i → listed.getD j true = false → (∀ e ∈ oj.after, Region.binds md e = true → e.on ≠ i) → oi.apart ops oj = true) →
      i ∈ Region.ready md ops listed → YieldsIf P ops R oi v a → R w →
      anyT P md ops Q S Z f (listed.setIfInBounds i true) (a.put oi.dst v) w → anyT P md ops Q S Z (f + 1) listed a w := by
  intro f
  induction f with
  | zero =>
    intro listed a w _ hr hy hS H
    refine ⟨fun h => (by rw [h] at hr; cases hr), fun j hj => ?_⟩
    by_cases hji : j = i
    · subst hji
      exact hy.wpOp hi hS ⟨hRi w hS, H⟩
    · have := ready_mono hj hji
      rw [H.1] at this
      cases this
  | succ f ih =>
    intro listed a w hfree hr hy hS H
    refine ⟨fun h => (by rw [h] at hr; cases hr), fun j hj => ?_⟩
    by_cases hji : j = i
    · subst hji
      exact hy.wpOp hi hS ⟨hRi w hS, H⟩
    · have h1 := H.2 j (ready_mono hj hji)
      obtain ⟨hjun, oj, hoj, hall⟩ := mem_ready.1 hj
      have hnot : ∀ e ∈ oj.after, Region.binds md e = true → e.on ≠ i := fun e he hb heq => by
        have h1 := hall e he hb
        have h0 := (mem_ready.1 hr).1
        rw [heq, getD_both h0] at h1
        cases h1
      have h2 := wpOp_putIf hoj (hfree j oj hoj hji hjun hnot) (fun cs b => hsel i oi cs b hi) (fun cs b => hsel j oj cs b hoj) hQ hy h1
      have hfree' : ∀ k ok, ops[k]? = some ok → k ≠ i → (listed.setIfInBounds j true).getD k true = false →
          (∀ e ∈ ok.after, Region.binds md e = true → e.on ≠ i) → oi.apart ops ok = true := fun k ok hk hki hun hno => by
        refine hfree k ok hk hki ?_ hno
        by_cases hjk : j = k
        · subst hjk; exact hjun
        · rw [getD_set_ne true hjk] at hun; exact hun
      refine wpOp_mono (fun a' w' h3 => ⟨h3.2.1, ih (listed.setIfInBounds j true) a' w' hfree' (ready_mono hr (Ne.symm hji)) h3.1 (hR j oj w' hoj hnot h3.2.1) ?_⟩) h2
      rw [Array.setIfInBounds_comm _ _ hji]
      exact h3.2.2

/-- All of Z wait for number i. -/
def waitFor (md : Region.Mode) (ops : Array Oper) (Z : List Nat) (i : Nat) : Bool :=
  Z.all fun z => match ops[z]? with
    | some o => o.after.any fun e => Region.binds md e && e.on == i
    | none => true

/-- An operation that yields in every world that meets S, taken first: all of Z wait for it. -/
theorem anyT_take_at {i d : Nat} {oi : Oper} {v : Value} {f : Nat} {listed : Array Bool} {tmps : Array Value} {defers : List Deferred} {w : World} (hi : ops[i]? = some oi) (hdst : oi.dst = some d)
    (hs : Region.noSelect ops = true) (hf : Region.free md ops listed i = true) (hr : (Region.ready md ops listed).contains i = true) (hz : waitFor md ops Z i = true)
    (hQ : ∀ c a w, Q (.panic c) (a.put oi.dst v) w → Q (.panic c) a w) (hy : YieldsIf P ops S oi v { tmps := tmps, defers := defers }) (hS : S w)
    (h : anyT P md ops Q S Z f (listed.setIfInBounds i true) { tmps := tmps.setIfInBounds d v, defers := defers } w) : anyT P md ops Q S Z (f + 1) listed { tmps := tmps, defers := defers } w := by
  refine anyT_first (R := S) hi (Region.noSelect_spec hs) hQ ?_ (fun w h => .inr h) f listed _ w (Region.free_spec hi hf) (by simpa using hr) hy hS ?_
  · intro j oj w' hoj hnot h
    rcases h with h | h
    · exfalso
      have := List.all_eq_true.1 hz j h
      simp only [hoj] at this
      rw [Array.any_eq_true] at this
      obtain ⟨n, hn, he⟩ := this
      rw [Bool.and_eq_true] at he
      exact hnot _ (Array.getElem_mem hn) he.1 (by simpa using he.2)
    · exact h
  · rw [hdst]
    exact h

/-- An operation that yields in every world, taken first; behind it S isn't asked (it is named in Z). -/
theorem anyT_free_at {i d : Nat} {oi : Oper} {v : Value} {f : Nat} {listed : Array Bool} {tmps : Array Value} {defers : List Deferred} {w : World} (hi : ops[i]? = some oi) (hdst : oi.dst = some d)
    (hs : Region.noSelect ops = true) (hf : Region.free md ops listed i = true) (hr : (Region.ready md ops listed).contains i = true) (hz : Z.contains i = true)
    (hQ : ∀ c a w, Q (.panic c) (a.put oi.dst v) w → Q (.panic c) a w) (hy : YieldsIf P ops (fun _ => True) oi v { tmps := tmps, defers := defers })
    (h : anyT P md ops Q S Z f (listed.setIfInBounds i true) { tmps := tmps.setIfInBounds d v, defers := defers } w) : anyT P md ops Q S Z (f + 1) listed { tmps := tmps, defers := defers } w := by
  refine anyT_first (R := fun _ => True) hi (Region.noSelect_spec hs) hQ (fun _ _ _ _ _ _ => trivial) (fun w _ => .inl (by simpa using hz)) f listed _ w (Region.free_spec hi hf) (by simpa using hr) hy trivial ?_
  rw [hdst]
  exact h

/-- Those that may come up now. -/
def ReadyT (P : Program) (md : Region.Mode) (ops : Array Oper) (Q : Exit → Act → World → Prop) (S : World → Prop) (Z : List Nat) (f : Nat) (listed : Array Bool) (a : Act) (w : World) (rs : List Nat) : Prop :=
  ∀ i ∈ rs, wpOp P ops Q i (fun a' w' => (i ∈ Z ∨ S w') ∧ anyT P md ops Q S Z f (listed.setIfInBounds i true) a' w') a w

theorem ReadyT.nil {f : Nat} {listed : Array Bool} {a : Act} {w : World} : ReadyT P md ops Q S Z f listed a w [] := fun _ h => by cases h

theorem ReadyT.cons {f : Nat} {listed : Array Bool} {a : Act} {w : World} {i : Nat} {o : Oper} {rs : List Nat} (ho : ops[i]? = some o)
    (h : ∀ K' : Act → World → Prop, Shut (∀ a w, (i ∈ Z ∨ S w) → anyT P md ops Q S Z f (listed.setIfInBounds i true) a w → K' a w) → if Region.wanted o (yielded ops a.tmps) = true then Oper.wp P o a w K' Q else K' (a.put o.dst undef) w)
    (hs : ReadyT P md ops Q S Z f listed a w rs) : ReadyT P md ops Q S Z f listed a w (i :: rs) := fun j hj => by
  rcases List.mem_cons.1 hj with rfl | hj
  · exact wpOp_step ho fun K' hK => h K' fun a w hS hW => hK a w ⟨hS, hW⟩
  · exact hs j hj

theorem anyT_ready {rs : List Nat} {f : Nat} {listed : Array Bool} {a : Act} {w : World} (hr : Region.ready md ops listed = rs) (hne : rs ≠ []) (h : ReadyT P md ops Q S Z f listed a w rs) : anyT P md ops Q S Z (f + 1) listed a w :=
  ⟨fun h0 => absurd (hr ▸ h0) hne, hr ▸ h⟩

theorem anyT_done {listed : Array Bool} {a : Act} {w : World} (hr : Region.ready md ops listed = []) (h : Q .normal a w) : ∀ f, anyT P md ops Q S Z f listed a w
  | 0 => ⟨hr, h⟩
  | _ + 1 => ⟨fun _ => h, by rw [hr]; simp⟩

theorem region_T {id : Nat} {a : Act} {w : World} (S : World → Prop) (Z : List Nat) (hm : P.follows .mixedOrders = true) (h : anyT P .any ops Q S Z ops.size (Array.replicate ops.size false) a w.drew) : (Code.region id ops true).wp P Q a w :=
  wp_region_any hm (any_of_T _ _ _ _ h)

end

end Go.Proofs.YtphcbpfpelonaaaGreatDoor
