/-
  CONTRACT OF b64.Text. Conditions: rows of up to 2^40 bytes.
-/
import Derived.Test.YtmheaefpbebgfaaDoorB64Grp
import Derived.Test.YtmheaefpbebgfaaDoorB64Four
import Derived.Test.YtmheaefpbebgfaaDoorB64Lib
import Derived.RangeFuncWrites
import Derived.RangeFuncNested
namespace Go.Proofs.YtmheaefpbebgfaaDoor
open Go.RowKit Go.Shelf
set_option linter.unusedVariables false
set_option maxRecDepth 100000

attribute [local go_sem] Oper.semAt_some

abbrev Bd (B b : Nat) (bs : List UInt8) (w : World) : Prop := Lib.BuilderAt 35 5 B b (.pointer (some ⟨b, 0, none⟩)) (Lib.byteCells bs) w

theorem bd_ownFrom (B B' b : Nat) (f : List Nat → List UInt8) : OwnFrom B' (fun s W => Bd B b (f s) W) := by
  rintro s W W' row ⟨hB, v, hb, hown, hne⟩ hg hr
  have hlt : b < W.heap.size := (Array.getElem?_eq_some_iff.1 hb).1
  refine ⟨hB, v, ?_, ?_, hne⟩
  · rw [hg.block b hlt ?_]
    · exact hb
    · intro e
      obtain ⟨_, o, ho, hc⟩ := hr b e.symm
      rw [hb] at ho
      cases ho
      cases hc
  · refine hown.kept hg ?_
    rcases hown.2 with ⟨h1, _⟩ | ⟨k, cap, cur, rfl, _, hk, _⟩
    · rw [h1]; exact .inl rfl
    · refine .inr fun e => ?_
      obtain ⟨_, o, ho, hc⟩ := hr k e.symm
      rw [hk] at ho
      cases ho
      cases hc

theorem bd_alloc {B b : Nat} {bs : List UInt8} {w : World} (h : Bd B b bs w) (o : Obj) : Bd B b bs (w.alloc o) :=
  bd_ownFrom B 0 b (fun _ => bs) [] w _ none h (World.grownBy_alloc w o none) (fun r e => by cases e)

theorem bd_below {B b : Nat} {bs : List UInt8} {w w' : World} (h : Bd B b bs w) (k : Below w.heap.size w w') : Bd B b bs w' :=
  bd_ownFrom B 0 b (fun _ => bs) [] w w' none h ⟨k.os, k.tape, k.output, k.size, fun i hi _ => k.block i hi⟩ (fun r e => by cases e)

/-- No operation of a written list is a defer statement. -/
def noDefer64 (ops : List Oper) : Bool := ops.all fun o => match o.op with | .defer _ => false | _ => true

theorem noDefer64_spec {ops : List Oper} (h : noDefer64 ops = true) : NoDefer ops := by
  intro o ho c e
  have := List.all_eq_true.1 h o ho
  rw [e] at this
  cases this

theorem keeps_below64 {W W' : World} (k : Below W.heap.size W W') (B : Nat) : KeepsFrom B W W' := ⟨k.size, fun i o _ hi _ => (k.block i (Array.getElem?_eq_some_iff.1 hi).1).trans hi⟩

/-- 'b[:]' of an array of four bytes. -/
theorem slice4_all (g : Nat) : ∀ w, (Instr.sliceAt 41 (.pointer (some ⟨g, 0, none⟩)) none none none).run Tryd.prog w = .ok (.slice (some ⟨g, 0, none⟩) 4 4) w := by
  intro w
  have hal : Tryd.prog.arrayLen 41 = 4 := by simp [Program.arrayLen, Tryd.underlying41]
  have hel : Tryd.prog.elem 41 = 5 := by simp [Program.elem, Tryd.underlying41]
  rw [run_sliceAt_array_all w 41 ⟨g, 0, none⟩ (by rw [hal, hel]; exact Tryd.underlying41), hel, Tryd.sizeOf5]
  simp only [Result.andThen_ok, slicedAt, hal]
  rw [if_neg (by omega), Nat.zero_mul, Addr.add_lit]

set_option maxHeartbeats 4000000 in
theorem text64_any (v : Value) (bs : List UInt8) (w : World) (h : IsB w v bs) (hlen : bs.length ≤ 1099511627776) :
    Calls Tryd.prog 8 #[v] w fun e w' => e = .returned (.string ⟨(M.enc64 bs).toArray⟩) ∧ Below w.heap.size w w' := by
  have HI := Lib.hid h
  have HLEN := Lib.hid hlen
  obtain ⟨a1, c1, rfl, hm1, hm2, _⟩ := h
  obtain ⟨L, hL⟩ : ∃ L, L = bs.length := ⟨_, rfl⟩
  have HL := Lib.hid hL
  rw [← hL] at hm1 hlen HI ⊢
  clear hL
  refine (callsIn_wide (n := 3)).1 ?_
  refine callsIn_of_wp_marks Tryd.func8 rfl trivial ?_ rfl
  simp only [Tryd.ntmps8, List.size_toArray, List.length_cons, List.length_nil, Nat.reduceAdd, Nat.reduceSub, Array.replicate_succ, Array.replicate_zero, List.push_toArray, List.append_toArray, List.nil_append, List.cons_append]
  refine wpIn_wide.2 ?_
  have CG : Hid (Calls Tryd.prog 13 #[.pointer (some ⟨w.heap.size, 0, none⟩), .int .i64 (((L : Int) + 3 - 1) / 3 * 4)] (w.alloc (.cells #[.pointer none, .slice none 0 0] 35)) fun e w' => e = .returned (.tuple #[]) ∧ (Bd w.heap.size w.heap.size [] w' ∧ Below w.heap.size (w.alloc (.cells #[.pointer none, .slice none 0 0] 35)) w')) := by
    have e : ((L : Int) + 3 - 1) / 3 * 4 = (((L + 2) / 3 * 4 : Nat) : Int) := by omega
    rw [Hid, e]
    exact bgrow_fresh w.heap.size w.heap.size _ _ (Nat.le_refl _) (heap_alloc_new w _) (by simp) (by omega)
  go_wp2_with fail
  refine CG.out.mono ?_
  rintro e w1 ⟨rfl, hB, k1⟩
  have HB := Lib.hid hB
  have K1 : Hid (Below w.heap.size w w1) := ((Below.refl _ w).alloc (Nat.le_refl _) _).trans k1
  clear CG k1 hB
  go_wp2_with fail
  refine (groups_any _ _ _ _).mono ?_
  rintro e w4 ⟨rfl, hw4⟩
  obtain ⟨b, hb⟩ : ∃ b, b = w.heap.size := ⟨_, rfl⟩
  obtain ⟨B1, hB1⟩ : ∃ x, x = w1.heap.size := ⟨_, rfl⟩
  have k4 : Below w.heap.size w w4 := by rw [hw4]; exact K1.out.alloc K1.out.size _
  have hbB : b < B1 := by rw [hB1, hb]; exact HB.out.lt
  have hw4s : w4.heap.size = B1 + 1 := by rw [hw4, hB1]; simp
  have IB : Hid (Bd w.heap.size b (M.fours bs []) w4) := by
    rw [hb, hw4]
    exact bd_alloc HB.out _
  have C1 : Hid (w4.cell? ⟨B1, 0, none⟩ = some (.slice a1 L c1)) := by rw [Hid, hw4]; exact (Blk.newAt _ 22 #[.slice a1 L c1] B1 [.slice a1 L c1] hB1 rfl).cell 0
  have HBW : Hid (b = w.heap.size) := hb
  rw [← hb, ← hB1]
  have HBB := Lib.hid hbB
  have HW4 := Lib.hid hw4s
  clear hw4 hb hB1 HB hbB hw4s
  go_wp2
  refine (wpIn_wide (n := 3)).1 ?_
  refine wpIn_rangeFunc_ownG rfl (by omega) (gf := 23) (lb := #[.pointer (some ⟨B1, 0, none⟩)]) rfl trivial (enters_of Tryd.func23 (by kernel_rfl) rfl)
    (groups_stops (3 - 1) B1 (by omega) (.slice a1 L c1) bs w w4 HI.out HLEN.out k4 (by have := HW4.out; omega) C1.out) (fun h k => h.trans k)
    (fun W l o o' hl h1 h2 h3 => belowK_b (w := w4) k4.size W l o o' hl h1 h2 h3) (Below.refl _ _) (fun _ => rfl)
    (fun pre W => Bd w.heap.size b (M.fours bs pre) W ∧ Below w.heap.size w W) (fun _ _ _ => False)
    (OwnFrom.and (bd_ownFrom _ _ _ _) (ownFrom_below (Nat.le_refl _) k4.size)) (fun _ _ _ _ _ hs _ _ => hs) ⟨IB.out, k4⟩ ?a1 ?assign ?body ?done ?stop
  case assign =>
    intro l x W K hK
    gi_wp2
    exact hK
  case stop =>
    rintro D c pre W hD _ h _
    exact h.elim
  case body =>
    rintro l pre x W ⟨hb, hB⟩ hlt
    obtain ⟨C, hC⟩ : ∃ C, C = M.fo bs x := ⟨_, rfl⟩
    have HCL : Hid (C.length = 4) := by rw [hC]; rfl
    have CF : Hid (Calls Tryd.prog 15 #[.int .u32 (M.grp bs x : Int), .int .i64 (M.gn bs x : Int)] W fun e w' => e = .returned (.agg (Lib.byteCells C).toArray) ∧ Below W.heap.size W w') := by
      rw [hC]
      exact four_any _ _ W (M.grp_lt bs x)
    obtain ⟨F, hF⟩ : ∃ F, F = M.fours bs pre := ⟨_, rfl⟩
    have HFN : Hid (M.fours bs (pre ++ [x]) = F ++ C) := by rw [Hid, M.fours_snoc, hF, hC]
    have HFL : Hid (F.length ≤ 4398046511104) := by rw [Hid, hF, M.fours_len]; have := HLEN.out; omega
    rw [← hF] at hb
    have HBD := Lib.hid hb
    have HBB0 := Lib.hid hB
    clear hb hB hC hF hlt
    refine wpIn_block ?_
    refine wpIn_seq ?_
    refine wpIn_region_of_list l (fun ⟨_, _, h⟩ => h) (noDefer64_spec (by kernel_rfl)) ?_
    go_wp2_with (first
      | (go_at_call 15; go_must (refine CF.out.mono ?_); rintro e w7 ⟨rfl, k7⟩)
      | (refine wpList_store_blk rfl 41 (.tmp 6) (.tmp 20) rfl w7.heap.size (Lib.byteCells C).toArray rfl rfl 41 (List.replicate 4 (.int .u8 0)) (Blk.newAt _ _ _ _ _ rfl rfl) (by rw [List.size_toArray, byteCells_length, HCL.out]; kernel_rfl) (by rw [List.size_toArray, byteCells_length, HCL.out, List.length_replicate]) (byteCells_oneCell C) ?_; intro w8 hb8 ho8))
    have k8 : Below W.heap.size W w8 := (k7.alloc k7.size _).trans (ho8.below (by have := k7.size; simp; omega) k7.size)
    obtain ⟨g, hg⟩ : ∃ g, g = w7.heap.size := ⟨_, rfl⟩
    rw [← hg] at hb8 ⊢
    have G8 : Hid (Blk w8 g 41 (Lib.byteCells C)) := hb8
    have B8 : Hid (Bd w.heap.size b F w8) := bd_below HBD.out k8
    have K8 := Lib.hid k8
    have hsl := slice4_all g
    clear hb8 ho8 k8 k7 hg CF HBD
    have CW : Hid (Calls Tryd.prog 16 #[.pointer (some ⟨b, 0, none⟩), .slice (some ⟨g, 0, none⟩) 4 4] w8 fun e w' => e = .returned (.tuple #[.int .i64 (4 : Nat), .nilIface]) ∧
      Bd w.heap.size b (F ++ C) w' ∧ Below w.heap.size w8 w' ∧ KeepsOthers w8 w') := bwrite_any w.heap.size b F g 4 4 C w8 B8.out HCL.out.symm (fun j u hu => by rw [Addr.add_lit, Nat.zero_add, G8.out.cell]; exact hu) (by have := HFL.out; rw [HCL.out]; omega) (Nat.le_trans HBB0.out.size K8.out.size)
    refine wpIn_region_of_list l (fun ⟨_, _, h⟩ => h) (noDefer64_spec (by kernel_rfl)) ?_
    go_wp2_with fail
    refine CW.out.mono ?_
    rintro e w9 ⟨rfl, hb9, k9, o9⟩
    have hb9' := hb9
    go_wp2
    refine ⟨(keeps_below64 K8.out _).trans (o9.from _), (K8.out.mono HBB0.out.size).trans k9, ?_, HBB0.out.trans ((K8.out.mono HBB0.out.size).trans k9)⟩
    rw [HFN.out]
    exact hb9'
  case done =>
    rintro D ys W hD rfl ⟨hb, hB⟩ hK
    rw [M.fours_all] at hb
    have CS := Lib.hid (bstring_keeps w.heap.size b _ (M.enc64 bs) W hb hB.size)
    dsimp only
    have HWD : Hid (w.heap.size ≤ D) := by have := k4.size; rw [Hid]; omega
    have HDK := Lib.hid hK
    have HB := Lib.hid hB
    clear hK hB hb
    go_wp2_with fail
    refine CS.out.mono ?_
    rintro e w6 ⟨rfl, k6, o6⟩
    have hK6 : w6.heap[D]? = some (.deferred (some [])) := o6.same D _ HDK.out rfl
    have kw6 : Below w.heap.size w w6 := HB.out.trans k6
    clear k6 o6 HDK CS
    go_wp2
    refine ⟨by simp, .inl ⟨_, _, rfl, run_takeDeferred hK6, ?_⟩⟩
    exact ⟨_, results_tmp rfl _ _ _, rfl, kw6.trans (belowK_b (w := w) (Nat.le_refl _) w6 D _ _ HWD.out hK6 rfl rfl)⟩

end Go.Proofs.YtmheaefpbebgfaaDoor
