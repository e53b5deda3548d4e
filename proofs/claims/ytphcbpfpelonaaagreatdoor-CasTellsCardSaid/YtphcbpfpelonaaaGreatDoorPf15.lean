/-
  CONTRACTS OF package wal's SMALL CALLS: Blocks, has, Read, Write, Sync, emptyHead. Conditions: the Wal lies so (WalIs), the disk too.
  CONTRACT OF orloplaw10.seen, over the face of the code's journal: the blocks behind it. Conditions: WalCalls.
  LISTS OF CHANGES OF THE CALL'S OWN (OwnCL), AND THE CONTRACTS OF orloplaw10.changes AND small. Conditions: the transactions lie so; one has 60 changes at most.
  CONTRACTS OF orloplaw10.small AND awake, the latter over the face of the code's journal. Conditions: WalCalls, WalMath; the transactions lie so.
-/
import Derived.Test.YtphcbpfpelonaaaGreatDoorPf14
import Derived.Test.YtphcbpfpelonaaaGreatDoorPf12

namespace Go.Proofs.YtphcbpfpelonaaaGreatDoor
open Go.RowKit
set_option linter.unusedVariables false
set_option maxRecDepth 100000

/-- A Wal over the disk at g. -/
def WalIs (w : World) (gw g : Nat) : Prop := Blk w gw 98 [.pointer (some ⟨g, 0, none⟩)]

theorem WalIs.below {w w' : World} {gw g : Nat} (h : WalIs w gw g) (k : Below w.heap.size w w') : WalIs w' gw g := Blk.below h k h.lt

section
variable {T : Nat → Prop} {w : World} {gw g : Nat} {m : M.Dsk}

set_option maxHeartbeats 2000000 in
theorem wblocks10 (hD : CodeDk T w g m) (hW : WalIs w gw g) : Calls Tryz.prog 46 #[.pointer (some ⟨gw, 0, none⟩)] w fun e w' => e = .returned (.int .i64 ((m.safe.length : Int) - 42)) ∧ w' = w := by
  have C := Lib.hid (codeDk_blocks hD)
  have c0 : w.cell? ⟨gw, 0, none⟩ = some (.pointer (some ⟨g, 0, none⟩)) := hW.cell 0
  have hf := hD.ok.few
  obtain ⟨n, hn⟩ : ∃ n, n = m.safe.length := ⟨_, rfl⟩
  rw [← hn] at C hf ⊢
  obtain ⟨r, hr⟩ : ∃ r, (n : Int) - 42 = r := ⟨_, rfl⟩
  rw [hr]
  have n1 : wrap64 r = r := by unfold wrap64; omega
  clear hD hW hn hf
  go_enter Tryz.func46, Tryz.ntmps46
  go_wp2_with fail
  refine C.out.mono ?_
  rintro e w1 ⟨rfl, rfl⟩
  go_wp2
  go_ret
  exact ⟨by first | rfl | (show Ending.returned (.int .i64 (wrap64 r)) = _; rw [n1]), rfl⟩

set_option maxHeartbeats 2000000 in
theorem whas10 (hD : CodeDk T w g m) (hW : WalIs w gw g) (i : Int) : Calls Tryz.prog 79 #[.pointer (some ⟨gw, 0, none⟩), .int .i64 i] w fun e w' => e = .returned (.bool (decide (0 ≤ i ∧ i < (m.safe.length : Int) - 42))) ∧ w' = w := by
  have C := Lib.hid (wblocks10 hD hW)
  obtain ⟨n, hn⟩ : ∃ n, n = (m.safe.length : Int) - 42 := ⟨_, rfl⟩
  rw [← hn] at C ⊢
  clear hD hW hn
  by_cases h0 : 0 ≤ i
  · by_cases h1 : i < n
    · have e : decide (0 ≤ i ∧ i < n) = true := decide_eq_true ⟨h0, h1⟩
      have E := Lib.hid e
      clear e
      go_enter Tryz.func79, Tryz.ntmps79
      go_wp2_with fail
      refine C.out.mono ?_
      rintro e w1 ⟨rfl, rfl⟩
      go_wp2
      go_ret
      exact ⟨by first | rfl | (rw [E.out]; rfl) | (rw [E.out]; show Ending.returned (.bool (decide (i < n))) = _; rw [decide_eq_false (by omega)]), rfl⟩
    · have e : decide (0 ≤ i ∧ i < n) = false := decide_eq_false fun h => h1 h.2
      have E := Lib.hid e
      clear e
      go_enter Tryz.func79, Tryz.ntmps79
      go_wp2_with fail
      refine C.out.mono ?_
      rintro e w1 ⟨rfl, rfl⟩
      go_wp2
      go_ret
      exact ⟨by first | rfl | (rw [E.out]; rfl) | (rw [E.out]; show Ending.returned (.bool (decide (i < n))) = _; rw [decide_eq_false (by omega)]), rfl⟩
  · have e : decide (0 ≤ i ∧ i < n) = false := decide_eq_false fun h => h0 h.1
    have E := Lib.hid e
    clear e
    have e2 : decide (0 ≤ i) = false := decide_eq_false h0
    go_enter Tryz.func79, Tryz.ntmps79
    go_wp2
    go_ret
    exact ⟨by first | rfl | (rw [E.out]; rfl) | (rw [E.out]; show Ending.returned (.bool (decide (i < n))) = _; rw [decide_eq_false (by omega)]), rfl⟩

set_option maxHeartbeats 2000000 in
theorem wread10 (hD : CodeDk T w g m) (hW : WalIs w gw g) (hw : m.wait.length < 1000000) (i : Nat) (hi : 42 + i < m.safe.length) : Calls Tryz.prog 49 #[.pointer (some ⟨gw, 0, none⟩), .int .i64 (i : Int)] w fun e w' =>
    ∃ r, e = .returned (.tuple #[r, .int .i64 0]) ∧ Own w' w.heap.size r (m.read (42 + i)) ∧ Below w.heap.size w w' := by
  have H := Lib.hid (whas10 hD hW (i : Int))
  rw [decide_eq_true (show 0 ≤ (i : Int) ∧ (i : Int) < (m.safe.length : Int) - 42 by omega)] at H
  have R := Lib.hid (codeDk_read hD hw ((42 + i : Nat) : Int))
  have e0 : m.doRead ((42 + i : Nat) : Int) = (m.read (42 + i), 0) := by rw [M.Dsk.doRead, if_pos ⟨by omega, by omega⟩, Int.toNat_natCast]
  rw [e0] at R
  have c0 : w.cell? ⟨gw, 0, none⟩ = some (.pointer (some ⟨g, 0, none⟩)) := hW.cell 0
  have hf := hD.ok.few
  obtain ⟨j, hj⟩ : ∃ j, j = 42 + i := ⟨_, rfl⟩
  rw [← hj] at R ⊢
  have n1 : wrap64 (42 + (i : Int)) = (j : Int) := by unfold wrap64; omega
  clear hD hW e0 hf hj hi hw
  go_enter Tryz.func49, Tryz.ntmps49
  go_wp2_with fail
  refine H.out.mono ?_
  rintro e w1 ⟨rfl, rfl⟩
  go_wp2_with fail
  refine R.out.mono ?_
  rintro e w2 ⟨r, rfl, o2, k2⟩
  have O2 := Lib.hid o2
  have K2 := Lib.hid k2
  clear H R o2 k2 n1
  go_wp2
  go_ret2
  exact ⟨_, rfl, O2.out, K2.out⟩

set_option maxHeartbeats 2000000 in
theorem wread10_no (hD : CodeDk T w g m) (hW : WalIs w gw g) (i : Int) (hi : ¬ (0 ≤ i ∧ i < (m.safe.length : Int) - 42)) : Calls Tryz.prog 49 #[.pointer (some ⟨gw, 0, none⟩), .int .i64 i] w fun e w' =>
    e = .returned (.tuple #[.slice none 0 0, .int .i64 1]) ∧ w' = w := by
  have H := Lib.hid (whas10 hD hW i)
  rw [decide_eq_false hi] at H
  clear hD hW hi
  go_enter Tryz.func49, Tryz.ntmps49
  go_wp2_with fail
  refine H.out.mono ?_
  rintro e w1 ⟨rfl, rfl⟩
  go_wp2
  go_ret2
  exact ⟨rfl, rfl⟩

set_option maxHeartbeats 2000000 in
theorem wwrite10 (hD : CodeDk T w g m) (hW : WalIs w gw g) (hw : m.wait.length < 1000000) (i : Nat) (hi : 42 + i < m.safe.length) (bv : Value) (bs : List UInt8) (hb : IsB w bv bs) :
    Calls Tryz.prog 60 #[.pointer (some ⟨gw, 0, none⟩), .int .i64 (i : Int), bv] w fun e w' =>
      e = .returned (.int .i64 (m.doWrite ((42 + i : Nat) : Int) bs).2) ∧ Chg T w w' ∧ ∃ T', CodeDk T' w' g (m.doWrite ((42 + i : Nat) : Int) bs).1 ∧ ∀ k, T' k → T k ∨ w.heap.size ≤ k := by
  have H := Lib.hid (whas10 hD hW (i : Int))
  rw [decide_eq_true (show 0 ≤ (i : Int) ∧ (i : Int) < (m.safe.length : Int) - 42 by omega)] at H
  have R := Lib.hid (codeDk_write hD ((42 + i : Nat) : Int) bv bs hb hw)
  have c0 : w.cell? ⟨gw, 0, none⟩ = some (.pointer (some ⟨g, 0, none⟩)) := hW.cell 0
  have hf := hD.ok.few
  obtain ⟨j, hj⟩ : ∃ j, j = 42 + i := ⟨_, rfl⟩
  rw [← hj] at R ⊢
  have n1 : wrap64 (42 + (i : Int)) = (j : Int) := by unfold wrap64; omega
  obtain ⟨ba, bc, rfl⟩ := hb.shape
  obtain ⟨n, hn⟩ : ∃ n, n = bs.length := ⟨_, rfl⟩
  rw [← hn] at R ⊢
  obtain ⟨q, hq⟩ : ∃ q, q = m.doWrite (j : Int) bs := ⟨_, rfl⟩
  rw [← hq] at R ⊢
  clear hD hW hf hj hi hw hb hn hq
  go_enter Tryz.func60, Tryz.ntmps60
  go_wp2_with fail
  refine H.out.mono ?_
  rintro e w1 ⟨rfl, rfl⟩
  go_wp2_with fail
  refine R.out.mono ?_
  rintro e w2 ⟨rfl, h2⟩
  have H2 := Lib.hid h2
  clear H R h2 n1
  go_wp2
  go_ret
  exact ⟨rfl, H2.out⟩

set_option maxHeartbeats 2000000 in
theorem wwrite10_no (hD : CodeDk T w g m) (hW : WalIs w gw g) (i : Int) (bv : Value) (bs : List UInt8) (hb : IsB w bv bs) (hr : -9223372036854775808 ≤ i ∧ i < 9223372036854775808) (hno : ¬ (0 ≤ i ∧ i < (m.safe.length : Int) - 42 ∧ bs.length = 256)) :
    Calls Tryz.prog 60 #[.pointer (some ⟨gw, 0, none⟩), .int .i64 i, bv] w fun e w' => e = .returned (.int .i64 1) ∧ Below w.heap.size w w' := by
  have H := Lib.hid (whas10 hD hW i)
  obtain ⟨ba, bc, rfl⟩ := hb.shape
  by_cases hi : 0 ≤ i ∧ i < (m.safe.length : Int) - 42
  · rw [decide_eq_true hi] at H
    obtain ⟨sv, wv, dvs, d⟩ := hD
    have R := Lib.hid (write9_no d (42 + i) _ bs hb (by omega))
    have c0 : w.cell? ⟨gw, 0, none⟩ = some (.pointer (some ⟨g, 0, none⟩)) := hW.cell 0
    have hf := d.ok.few
    obtain ⟨j, hj⟩ : ∃ j, j = 42 + i := ⟨_, rfl⟩
    rw [← hj] at R
    have n1 : wrap64 (42 + i) = j := by unfold wrap64; omega
    obtain ⟨n, hn⟩ : ∃ n, n = bs.length := ⟨_, rfl⟩
    rw [← hn] at R ⊢
    clear d hW hf hj hi hb hn hno hr
    go_enter Tryz.func60, Tryz.ntmps60
    go_wp2_with fail
    refine H.out.mono ?_
    rintro e w1 ⟨rfl, rfl⟩
    go_wp2_with fail
    refine R.out.mono ?_
    rintro e w2 ⟨rfl, rfl⟩
    go_wp2
    go_ret
    exact ⟨rfl, Below.refl _ _⟩
  · rw [decide_eq_false hi] at H
    clear hD hW hi hb hno hr
    go_enter Tryz.func60, Tryz.ntmps60
    go_wp2_with fail
    refine H.out.mono ?_
    rintro e w1 ⟨rfl, rfl⟩
    go_wp2
    go_ret
    exact ⟨rfl, Below.refl _ _⟩

set_option maxHeartbeats 2000000 in
theorem wsync10 (hD : CodeDk T w g m) (hW : WalIs w gw g) : Calls Tryz.prog 61 #[.pointer (some ⟨gw, 0, none⟩)] w fun e w' =>
    e = .returned (.int .i64 m.doSync.2) ∧ Chg T w w' ∧ ∃ T', CodeDk T' w' g m.doSync.1 ∧ ∀ k, T' k → T k ∨ w.heap.size ≤ k := by
  have R := Lib.hid (codeDk_sync hD)
  have c0 : w.cell? ⟨gw, 0, none⟩ = some (.pointer (some ⟨g, 0, none⟩)) := hW.cell 0
  obtain ⟨q, hq⟩ : ∃ q, q = m.doSync := ⟨_, rfl⟩
  rw [← hq] at R ⊢
  clear hD hW hq
  go_enter Tryz.func61, Tryz.ntmps61
  go_wp2_with fail
  refine R.out.mono ?_
  rintro e w2 ⟨rfl, h2⟩
  have H2 := Lib.hid h2
  clear R h2
  go_wp2
  go_ret
  exact ⟨rfl, H2.out⟩

theorem emptyHead_any (w : World) : Calls Tryz.prog 74 #[] w (Makes w M.zero256) := by
  obtain ⟨ZC, hZC⟩ := make_run 256 (by decide)
  have hmk : ∀ w : World, (Instr.makeSlice 38 (.int .i64 256) (.int .i64 256)).run Tryz.prog w = .ok (.slice (some ⟨w.heap.size, 0, none⟩) 256 256) (w.alloc (.cells ZC 5)) := fun w => (hZC w).1
  have HMK : Hid (∀ w : World, Own (w.alloc (.cells ZC 5)) w.heap.size (.slice (some ⟨w.heap.size, 0, none⟩) 256 256) M.zero256) := fun w => (hZC w).2
  clear hZC
  go_enter Tryz.func74, Tryz.ntmps74
  go_wp2
  go_ret
  exact ⟨_, rfl, HMK.out w, (Below.refl _ _).alloc (Nat.le_refl _) _⟩

end

end Go.Proofs.YtphcbpfpelonaaaGreatDoor

namespace Go.Proofs.YtphcbpfpelonaaaGreatDoor
open Go.RowKit
set_option linter.unusedVariables false

/-- What is seen behind a journal. -/
def M.Dsk.shows (m : M.Dsk) : List (List UInt8) := (List.range (m.safe.length - 42)).map fun i => m.read (42 + i)

theorem M.shows_len (m : M.Dsk) : m.shows.length = m.safe.length - 42 := by rw [M.Dsk.shows, List.length_map, List.length_range]

theorem M.shows_next (m : M.Dsk) (k : Nat) (h : 42 + k < m.safe.length) : m.shows.take (k + 1) = m.shows.take k ++ [m.read (42 + k)] := by
  have hk : k < m.shows.length := by rw [M.shows_len]; omega
  rw [List.take_add_one, List.getElem?_eq_getElem hk]
  congr 1
  simp [M.Dsk.shows]

theorem M.shows_lit (s : List (List UInt8)) (k : Nat) : (M.lit s k).shows = s.drop 42 := by
  apply List.ext_getElem
  · rw [M.shows_len, List.length_drop]; rfl
  · intro i h1 h2
    have h3 : 42 + i < s.length := by rw [List.length_drop] at h2; omega
    have e : (M.lit s k).read (42 + i) = s.getD (42 + i) [] := rfl
    rw [List.getElem_drop]
    simp only [M.Dsk.shows, List.getElem_map, List.getElem_range, e, List.getD_eq_getElem?_getD, List.getElem?_eq_getElem h3, Option.getD_some]

end Go.Proofs.YtphcbpfpelonaaaGreatDoor

namespace Go.Proofs.YtphcbpfpelonaaaGreatDoor
open Go.RowKit
set_option linter.unusedVariables false

theorem change10 : RowTy 117 146 2 32 (.agg #[.int .i64 0, .slice none 0 0]) := ⟨Tryz.underlying117, by kernel_rfl, rfl, by decide⟩

/-- Changes as cells: a number and a slice each. -/
def chcs : M.CL → List Value → List Value
  | c :: r, d :: s => .int .i64 c.1 :: d :: chcs r s
  | _, _ => []

theorem chcs_length : ∀ (c : M.CL) (d : List Value), d.length = c.length → (chcs c d).length = c.length * 2
  | [], [], _ => rfl
  | c :: r, d :: s, h => by
    have := chcs_length r s (by simpa using h)
    simp only [chcs, List.length_cons, this]
    omega

theorem chcs_append : ∀ (c : M.CL) (d : List Value) (c' : M.CL) (d' : List Value), d.length = c.length → chcs (c ++ c') (d ++ d') = chcs c d ++ chcs c' d'
  | [], [], _, _, _ => rfl
  | c :: r, d :: s, c', d', h => by
    have := chcs_append r s c' d' (by simpa using h)
    simp only [chcs, List.cons_append, this]

theorem chcs_get : ∀ (c : M.CL) (d : List Value) (j : Nat), d.length = c.length → j < c.length → (chcs c d)[j * 2]? = some (.int .i64 (c.getD j (0, [])).1) ∧ (chcs c d)[j * 2 + 1]? = some (d.getD j undef)
  | c :: r, d :: s, 0, h, _ => ⟨rfl, rfl⟩
  | c :: r, d :: s, j + 1, h, hj => by
    have := chcs_get r s j (by simpa using h) (by simpa using hj)
    rw [show (j + 1) * 2 = j * 2 + 1 + 1 by omega, chcs, List.getElem?_cons_succ, List.getElem?_cons_succ, List.getElem?_cons_succ, List.getElem?_cons_succ]
    exact this

/-- A list of changes of the call's own, from block B on; so are its rows. -/
structure OwnCL (w : World) (B : Nat) (v : Value) (l : M.CL) (xs : List Value) : Prop where
  row : w.ownsRow B 146 2 v l.length (chcs l xs)
  len : xs.length = l.length
  each : ∀ i, i < l.length → (IsB w (xs.getD i undef) (l.getD i (0, [])).2 ∧ (∀ n c, xs.getD i undef = .slice none n c → c = 0) ∧ -9223372036854775808 ≤ (l.getD i (0, [])).1 ∧ (l.getD i (0, [])).1 < 9223372036854775808) ∧
    Lies (fun k => B ≤ k ∧ k < w.heap.size ∧ v.ownBlock ≠ some k) (xs.getD i undef)

theorem OwnCL.nil (w : World) (B : Nat) : OwnCL w B (.slice none 0 0) [] [] := ⟨World.ownsRow_nil _ _ _ _, rfl, fun i hi => by cases hi⟩

theorem OwnCL.chg {F : Nat → Prop} {w w' : World} {B : Nat} {v : Value} {l : M.CL} {xs : List Value} (h : OwnCL w B v l xs) (c : Chg F w w') (hF : ∀ k, F k → B ≤ k → k < w.heap.size → False) : OwnCL w' B v l xs where
  row := own_chg h.row c fun b hb hf => hF b hf (h.row.lt b hb).1 (h.row.lt b hb).2
  len := h.len
  each := fun i hi => ⟨⟨(h.each i hi).1.1.chg c ((h.each i hi).2.mono fun k hk hf => hF k hf hk.1 hk.2.1), (h.each i hi).1.2⟩, (h.each i hi).2.mono fun k hk => ⟨hk.1, Nat.lt_of_lt_of_le hk.2.1 c.size, hk.2.2⟩⟩

theorem OwnCL.below {w w' : World} {B : Nat} {v : Value} {l : M.CL} {xs : List Value} (h : OwnCL w B v l xs) (c : Below w.heap.size w w') : OwnCL w' B v l xs :=
  h.chg (Chg.of_below (F := fun _ => False) c) fun _ h _ _ => h

/-- Cells of an owned row of changes read as changes. -/
theorem cl_of_row {w : World} {B : Nat} {v : Value} {l : M.CL} {xs : List Value} (h : w.ownsRow B 146 2 v l.length (chcs l xs)) (hl : xs.length = l.length)
    (each : ∀ i, i < l.length → IsB w (xs.getD i undef) (l.getD i (0, [])).2 ∧ (∀ n c, xs.getD i undef = .slice none n c → c = 0) ∧ -9223372036854775808 ≤ (l.getD i (0, [])).1 ∧ (l.getD i (0, [])).1 < 9223372036854775808) : IsCL w v l xs := by
  obtain ⟨ao, cap, rfl⟩ := ownShape h
  rcases h.2 with ⟨e, hn⟩ | ⟨g, cap', cur, e, hb, hg, hn, hm, hs, ht⟩
  · injection e with e1 e2 e3
    exact ⟨ao, cap, rfl, by omega, by unfold maxLen; omega, hl, each, .inl (by cases l; rfl; simp at hn)⟩
  · injection e with e1 e2 e3
    subst e1 e3
    refine ⟨_, cap, rfl, by omega, hm, hl, each, ?_⟩
    by_cases h0 : l = []
    · exact .inl h0
    · refine .inr ⟨g, 0, rfl, fun i hi => ?_⟩
      obtain ⟨g2, e9, _, cs, _⟩ := ownCells h (by cases l; exact absurd rfl h0; simp)
      injection e9 with e9
      injection e9 with e9
      subst e9
      have cl := chcs_length l xs hl
      have cg := chcs_get l xs i hl hi
      rw [Nat.zero_add, cs _ (by omega), cs _ (by omega)]
      exact cg

theorem OwnCL.isCL {w : World} {B : Nat} {v : Value} {l : M.CL} {xs : List Value} (h : OwnCL w B v l xs) : IsCL w v l xs := cl_of_row h.row h.len fun i hi => (h.each i hi).1

theorem OwnCL.gains {w w' : World} {K : World → Prop} {v : Value} {l : M.CL} {xs : List Value} (h : OwnCL w' w.heap.size v l xs) : Gains w w' K (fun x => IsCL x v l xs) :=
  fun F x c hf _ => (h.chg c fun k h1 h2 h3 => by have := hf k h1; omega).isCL

theorem own_mono {w : World} {B B' n size : Nat} {e : TypeId} {v : Value} {xs : List Value} (h : w.ownsRow B e size v n xs) (hb : B' ≤ B) : w.ownsRow B' e size v n xs :=
  ⟨h.1, h.2.imp_right fun ⟨g, cap, cur, e, hB, rest⟩ => ⟨g, cap, cur, e, Nat.le_trans hb hB, rest⟩⟩

theorem OwnCL.mono {w : World} {B B' : Nat} {v : Value} {l : M.CL} {xs : List Value} (h : OwnCL w B v l xs) (hb : B' ≤ B) : OwnCL w B' v l xs where
  row := own_mono h.row hb
  len := h.len
  each := fun i hi => ⟨(h.each i hi).1, (h.each i hi).2.mono fun k hk => ⟨Nat.le_trans hb hk.1, hk.2⟩⟩

/-- A change more. -/
theorem OwnCL.add {w w2 w4 : World} {B : Nat} {v v' dv : Value} {l : M.CL} {xs : List Value} {p : Int} {bs : List UInt8} (h : OwnCL w B v l xs) (k : Below w.heap.size w w2) (hB : B ≤ w.heap.size) (d : Own w2 w.heap.size dv bs)
    (hp : -9223372036854775808 ≤ p ∧ p < 9223372036854775808) (o : w4.ownsRow B 146 2 v' (l.length + 1) (chcs l xs ++ [.int .i64 p, dv])) (g : w2.grownBy w4 v.ownBlock) (a : v'.ownBlock = v.ownBlock ∨ ∃ j, v'.ownBlock = some j ∧ w2.heap.size ≤ j) :
    OwnCL w4 B v' (l ++ [(p, bs)]) (xs ++ [dv]) where
  row := by
    rw [List.length_append, chcs_append _ _ _ _ h.len]
    exact o
  len := by rw [List.length_append, List.length_append, h.len]; rfl
  each := by
    intro i hi
    have hi' : i < l.length + 1 := by simpa using hi
    have hl := h.len
    have hk := k.size
    have c4 : Chg (fun b => v.ownBlock = some b) w2 w4 := Chg.of_grown g fun k hk => hk
    have hv : ∀ b, v.ownBlock = some b → b < w.heap.size := fun b hb => (h.row.lt b hb).2
    have hne : ∀ b, b < w2.heap.size → v.ownBlock ≠ some b → v'.ownBlock ≠ some b := fun b h1 h2 e => by
      rcases a with a | ⟨j, a, hj⟩
      · exact h2 (a ▸ e)
      · rw [a] at e
        injection e with e
        omega
    have g4 := c4.size
    rw [getD_snoc _ _ _ _ (by rw [hl]; exact hi'), getD_snoc _ _ _ _ hi', hl]
    by_cases hlt : i < l.length
    · rw [if_pos hlt, if_pos hlt]
      obtain ⟨⟨h1, h2⟩, h3⟩ := h.each i hlt
      exact ⟨⟨(h1.below k).chg c4 (h3.mono fun b hb => hb.2.2), h2⟩, h3.mono fun b hb => ⟨hb.1, by omega, hne b (by omega) hb.2.2⟩⟩
    · rw [if_neg hlt, if_neg hlt]
      have ld : Lies (fun b => w.heap.size ≤ b ∧ b < w2.heap.size) dv := d.lies fun k h1 h2 => ⟨h1, h2⟩
      exact ⟨⟨d.isB.chg c4 (ld.mono fun b hb e => by have := hv b e; omega), d.nil0, hp⟩, ld.mono fun b hb => ⟨by omega, by omega, hne b hb.2 fun e => by have := hv b e; omega⟩⟩

theorem isB_trio (w : World) (t : TypeId) (a b c : UInt8) : IsB (w.alloc (.cells #[.int .u8 (a.toNat : Int), .int .u8 (b.toNat : Int), .int .u8 (c.toNat : Int)] t)) (.slice (some ⟨w.heap.size, 0, none⟩) 3 3) [a, b, c] := by
  have B : Blk (w.alloc (.cells #[.int .u8 (a.toNat : Int), .int .u8 (b.toNat : Int), .int .u8 (c.toNat : Int)] t)) w.heap.size t [.int .u8 (a.toNat : Int), .int .u8 (b.toNat : Int), .int .u8 (c.toNat : Int)] := Blk.newAt _ _ _ _ _ rfl rfl
  refine ⟨_, 3, rfl, Nat.le_refl _, by decide, .inr ⟨_, 0, rfl, fun i hi => ?_⟩⟩
  rw [Nat.zero_add, B.cell]
  match i, hi with
  | 0, _ => rfl
  | 1, _ => rfl
  | 2, _ => rfl

theorem M.changes_next (t : M.Tx) (k : Nat) : (List.range (k + 1)).map t.one = (List.range k).map t.one ++ [t.one k] := by rw [List.range_succ, List.map_append]; rfl

end Go.Proofs.YtphcbpfpelonaaaGreatDoor

namespace Go.Proofs.YtphcbpfpelonaaaGreatDoor
open Go.RowKit
set_option linter.unusedVariables false

theorem M.smallTx_step (l : List M.Tx) (k : Nat) (hk : k < l.length) : (l.take (k + 1)).all M.Tx.small = ((l.take k).all M.Tx.small && (l.getD k M.Tx.none).small) := by
  rw [List.take_add_one, List.all_append]
  congr 1
  rw [List.getElem?_eq_getElem hk, List.getD_eq_getElem?_getD, List.getElem?_eq_getElem hk]
  simp

theorem M.smallTx_no (l : List M.Tx) (k : Nat) (hk : k < l.length) (h6 : k < 12) (h : (l.getD k M.Tx.none).small = false) : M.smallTx l = false := by
  rw [M.smallTx, List.all_eq_false]
  refine ⟨l.getD k M.Tx.none, ?_, by rw [h]; simp⟩
  rw [List.getD_eq_getElem?_getD, List.getElem?_eq_getElem hk]
  exact List.mem_take_iff_getElem.2 ⟨k, by omega, rfl⟩

theorem M.smallTx_get (l : List M.Tx) (h : M.smallTx l = true) (k : Nat) (hk : k < l.length) (h6 : k < 12) : (l.getD k M.Tx.none).blocks.length ≤ 60 ∧ (l.getD k M.Tx.none).keep.length ≤ 1000 ∧ (l.getD k M.Tx.none).keep2.length ≤ 1000 := by
  have := List.all_eq_true.1 h (l.getD k M.Tx.none) (by
    rw [List.getD_eq_getElem?_getD, List.getElem?_eq_getElem hk]
    exact List.mem_take_iff_getElem.2 ⟨k, by omega, rfl⟩)
  simpa [M.Tx.small] using this

theorem M.dnew_lit (n : Nat) (h : n ≤ 2176) : M.dnew n = M.lit (List.replicate n M.zero256) 0 := by rw [M.dnew, Nat.min_eq_left h]; rfl
theorem M.lit_crash (s : List (List UInt8)) (k : Nat) (kp : List Bool) : (M.lit s k).crash kp = M.lit s 0 := rfl
theorem M.lit_arm (s : List (List UInt8)) (k : Nat) (n : Int) : (M.lit s k).arm n = M.lit s n.toNat := rfl
theorem M.lit_ok {s : List (List UInt8)} {k : Nat} (h : (M.lit s k).Ok) (j : Nat) : (M.lit s j).Ok := ⟨h.few, h.full, fun c hc => by cases hc⟩

/-- Two changes built in place. -/
theorem isCL_two {w : World} {g : Nat} {t : TypeId} {d e : Value} {p q : Int} {x y : List UInt8} (h : Blk w g t [.int .i64 p, d, .int .i64 q, e]) (hd : IsB w d x) (he : IsB w e y) (nd : ∀ n c, d = .slice none n c → c = 0) (ne : ∀ n c, e = .slice none n c → c = 0)
    (hp : -9223372036854775808 ≤ p ∧ p < 9223372036854775808) (hq : -9223372036854775808 ≤ q ∧ q < 9223372036854775808) : IsCL w (.slice (some ⟨g, 0, none⟩) 2 2) [(p, x), (q, y)] [d, e] := by
  refine ⟨_, 2, rfl, Nat.le_refl _, by decide, rfl, fun i hi => ?_, .inr ⟨g, 0, rfl, fun i hi => ?_⟩⟩
  · match i, hi with
    | 0, _ => exact ⟨hd, nd, hp⟩
    | 1, _ => exact ⟨he, ne, hq⟩
  · match i, hi with
    | 0, _ => exact ⟨h.cell 0, h.cell 1⟩
    | 1, _ => exact ⟨h.cell 2, h.cell 3⟩

theorem isCL_one {w : World} {g : Nat} {t : TypeId} {d : Value} {p : Int} {x : List UInt8} (h : Blk w g t [.int .i64 p, d]) (hd : IsB w d x) (nd : ∀ n c, d = .slice none n c → c = 0)
    (hp : -9223372036854775808 ≤ p ∧ p < 9223372036854775808) : IsCL w (.slice (some ⟨g, 0, none⟩) 1 1) [(p, x)] [d] := by
  refine ⟨_, 1, rfl, Nat.le_refl _, by decide, rfl, fun i hi => ?_, .inr ⟨g, 0, rfl, fun i hi => ?_⟩⟩
  · match i, hi with
    | 0, _ => exact ⟨hd, nd, hp⟩
  · match i, hi with
    | 0, _ => exact ⟨h.cell 0, h.cell 1⟩

section
variable {Ld : World → Prop} {Wl : World → Nat → Nat → Prop} {O : M.Dsk → M.Dsk × Int} {C : M.Dsk → M.CL → M.Dsk × Int} {Clean : List (List UInt8) → Prop} {Rec : List (List UInt8) → List (List UInt8)}

/-- A new disk's journal, opened. -/
theorem open_new (W : WalCalls Ld Wl O C) (X : WalMath O C Clean Rec) {w0 w : World} {g : Nat} {K : World → Prop} {s : List (List UInt8)} (hL : Ld w0) (st : St w0 w g (M.lit s 0) K) (h42 : 42 < s.length) :
    Calls Tryz.prog 25 #[.pointer (some ⟨g, 0, none⟩)] w fun e w' => ∃ gw s', e = .returned (.tuple #[.pointer (some ⟨gw, 0, none⟩), .int .i64 0]) ∧ St w0 w' g (M.lit s' 0) (fun x => K x ∧ Wl x gw g) ∧ s'.length = s.length ∧ s'.drop 42 = Rec s ∧ Clean s' := by
  obtain ⟨s', e1, e2, e3, e4⟩ := X.opens s [] st.okay h42
  refine (st.open_ W hL h42 (by show 0 < 100000; decide)).mono ?_
  have hO : O (M.lit s 0) = (M.lit s' 0, 0) := e1
  rintro e w' (⟨h0, gw, he, t⟩ | ⟨h1, _, _⟩)
  · rw [hO] at t
    exact ⟨gw, s', he, t, e2, e3, e4⟩
  · rw [hO] at h1
    cases h1

end

end Go.Proofs.YtphcbpfpelonaaaGreatDoor
