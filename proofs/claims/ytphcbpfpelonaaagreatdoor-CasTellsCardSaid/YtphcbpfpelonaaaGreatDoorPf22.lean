/-
  CONTRACTS OF package file's free (an iterator over the free blocks) and Free. Conditions: as each says.
  CONTRACTS OF slices.AppendSeq and slices.Collect at package file's free blocks, and of slices.Clone at ints. Conditions: as each says.
-/
import Derived.Test.YtphcbpfpelonaaaGreatDoorPf21
import Derived.RangeFuncWrites
import Derived.RangeFuncNested
import Derived.RangeFuncBound
import Derived.RangeFuncLeaves
import Derived.RangeFuncBox
import Derived.Shelf.Abstract
import Derived.OwnWalkIn
import Derived.TacticsInMore
import Derived.LoopNIn
import Derived.LoopIn
import Derived.Test.YtphcbpfpelonaaaGreatDoorPf12

namespace Go.Proofs.YtphcbpfpelonaaaGreatDoor
open Go.RowKit Go.Maps Go.Shelf
set_option linter.unusedVariables false
set_option maxRecDepth 100000

attribute [local go_sem] Oper.semAt_some

/-- The arrays of bools stay. -/
def KeepsTk (W W' : World) : Prop := ∀ k cs, Blk W k 139 cs → Blk W' k 139 cs

theorem KeepsTk.trans {A B C : World} (h : KeepsTk A B) (k : KeepsTk B C) : KeepsTk A C := fun b cs hb => k b cs (h b cs hb)

def M.freeTo (t : M.Tab) (k : Nat) : List Nat := (List.range k).filter fun b => !M.takes t b

theorem M.freeTo_next (t : M.Tab) (k : Nat) : M.freeTo t (k + 1) = if M.takes t k = true then M.freeTo t k else M.freeTo t k ++ [k] := by
  rw [M.freeTo, List.range_succ, List.filter_append]
  cases h : M.takes t k <;> simp [M.freeTo, h]

theorem M.freeTo_le (t : M.Tab) (k : Nat) : (M.freeTo t k).length ≤ k := by
  rw [M.freeTo]
  exact Nat.le_trans (List.length_filter_le _ _) (by rw [List.length_range]; exact Nat.le_refl _)

/-- What lies behind Files, from w on. -/
structure FLies (T : Nat → Prop) (w : World) (gf gw g mb nb : Nat) (m : M.Dsk) (dn : Bool) (t : M.Tab) (vs : List Value) : Prop where
  dk : CodeDk T w g m
  wal : WalIs w gw g
  at_ : FilesAt w gf gw mb dn
  tab : IsTabV w mb t vs
  ok : M.TabOk nb t
  nb : (nb : Int) = min ((m.safe.length : Int) - 42 - 32) 2048

theorem FLies.below {T : Nat → Prop} {w w' : World} {gf gw g mb nb : Nat} {m : M.Dsk} {dn : Bool} {t : M.Tab} {vs : List Value} (h : FLies T w gf gw g mb nb m dn t vs) (k : Below w.heap.size w w') : FLies T w' gf gw g mb nb m dn t vs :=
  ⟨h.dk.below k, h.wal.below k, h.at_.below k, h.tab.below k, h.ok, h.nb⟩

theorem FLies.blocks {T : Nat → Prop} {w : World} {gf gw g mb nb : Nat} {m : M.Dsk} {dn : Bool} {t : M.Tab} {vs : List Value} (h : FLies T w gf gw g mb nb m dn t vs) :
    Calls Tryz.prog 48 #[.pointer (some ⟨gf, 0, none⟩)] w fun e w' => e = .returned (.int .i64 (nb : Int)) ∧ w' = w := fblocks_any (mb := mb) (dn := dn) h.dk h.wal (h.at_.cell 0) _ h.nb

theorem FLies.taken {T : Nat → Prop} {w : World} {gf gw g mb nb : Nat} {m : M.Dsk} {dn : Bool} {t : M.Tab} {vs : List Value} (h : FLies T w gf gw g mb nb m dn t vs) :
    Calls Tryz.prog 86 #[.map (some mb)] w fun e w' => ∃ L, e = .returned (.agg L.toArray) ∧ IsTk L (M.takes t) ∧ Below w.heap.size w w' :=
  taken_any h.tab (fun p hp x hx => by have := h.ok.lt p hp x hx; have := h.ok.n; omega) (fun p hp => by
    have h1 := (h.ok.up p hp)
    have h2 := h.ok.lt p hp
    have h3 := h.ok.n
    exact Nat.le_trans (M.up_le h1 h2) h3)

set_option maxHeartbeats 8000000 in
theorem free1_in (n l B1 : Nat) (hn : 1 ≤ n) {T : Nat → Prop} {gf gw g mb nb : Nat} {m : M.Dsk} {dn : Bool} {t : M.Tab} {vs : List Value} (J Jx : List Nat → World → Prop) (W : World) (hJA : AbidesFrom W.heap.size J)
    (hY : ∀ (pre : List Nat) (x : Nat) W, J pre W → pre.length < nb → YieldAt Fence.wide (n - 1) Tryz.prog l #[.int .i64 (x : Int)] W fun e W' =>
      (e = .returned (.bool true) ∧ J (pre ++ [x]) W' ∧ KeepsTk W W') ∨ (e = .returned (.bool false) ∧ Jx (pre ++ [x]) W'))
    (hF : FLies T W gf gw g mb nb m dn t vs) (h1 : W.cell? ⟨B1, 0, none⟩ = some (.pointer (some ⟨gf, 0, none⟩))) (h0 : J [] W) :
    CallsIn Fence.wide n Tryz.prog 85 #[.func (.yield l) #[] #[], .pointer (some ⟨B1, 0, none⟩)] W fun e W' => (∃ v, e = .returned v) ∧
      ((∃ ys, ys = M.free nb t ∧ J ys W') ∨ (∃ pre, (∃ k, k ≤ nb ∧ pre = M.freeTo t k) ∧ Jx pre W')) := by
  have HY := Lib.hid hY
  have HF := Lib.hid hF
  have CT := Lib.hid hF.taken
  have CB : Hid (∀ y, Below W.heap.size W y → Calls Tryz.prog 48 #[.pointer (some ⟨gf, 0, none⟩)] y fun e w' => e = .returned (.int .i64 (nb : Int)) ∧ w' = y) := fun y hy => (hF.below hy).blocks
  obtain ⟨Z, hZ, hz⟩ := zeroTk
  have HZ := Lib.hid hZ
  have hcm : W.cell? ⟨gf, 1, none⟩ = some (.map (some mb)) := hF.at_.cell 1
  have HJA := Lib.hid hJA
  have HJ0 := Lib.hid h0
  have H1 := Lib.hid h1
  have HB1 : Hid (B1 < W.heap.size) := World.block_lt_of_cell? W _ h1
  have HNB : Hid (nb ≤ 2048) := hF.ok.n
  clear hY hF hZ hJA h0
  refine callsIn_of_wp Tryz.func85 rfl trivial ?_ rfl
  simp only [Tryz.ntmps85, List.size_toArray, List.length_cons, List.length_nil, Nat.reduceAdd, Nat.reduceSub, Array.replicate_succ, Array.replicate_zero, List.push_toArray, List.append_toArray, List.nil_append, List.cons_append]
  refine wpIn_wide.2 ?_
  go_wp2_with fail
  refine CT.out.mono ?_
  rintro e w1 ⟨L, rfl, tk, k1⟩
  have TK := Lib.hid tk
  obtain ⟨ga, hga⟩ : ∃ g, Hid (g = w1.heap.size) := ⟨_, rfl⟩
  have BZ : Hid (Blk (w1.alloc (.cells Z 139)) ga 139 Z.toList) := by exact Blk.newAt _ _ _ _ _ hga.out rfl
  have K1 := Lib.hid k1
  clear tk k1 CT
  go_upto_region 1 with (rw [← hga.out]; refine wpList_store_blk rfl 139 (.tmp 3) (.tmp 9) rfl ga L.toArray rfl rfl 139 Z.toList BZ.out (by rw [List.size_toArray, TK.out.1]; kernel_rfl) (by rw [List.size_toArray, TK.out.1, HZ.out.1]) (by rw [List.toList_toArray]; exact TK.out.one) ?_; intro w2 hb2 ho2)
  have BA : Hid (Blk w2 ga 139 L) := by rw [List.toList_toArray] at hb2; exact hb2
  have K2 : Hid (Below W.heap.size W w2) := (K1.out.alloc K1.out.size _).trans (ho2.below (by have := K1.out.size; simp; omega) (by rw [hga.out]; exact K1.out.size))
  have JG : W.grownBy w2 none := ⟨K2.out.os, K2.out.tape, K2.out.output, K2.out.size, fun i hi _ => K2.out.block i hi⟩
  have J2 : Hid (J [] w2) := HJA.out [] W w2 none HJ0.out JG fun r e => by cases e
  have c1 : w2.cell? ⟨B1, 0, none⟩ = some (.pointer (some ⟨gf, 0, none⟩)) := (K2.out.cell (p := ⟨B1, 0, none⟩) HB1.out).trans H1.out
  clear hb2 ho2 JG BZ K1 HJ0
  go_wp2_with fail
  refine (CB.out w2 K2.out).mono ?_
  rintro e w3 ⟨rfl, rfl⟩
  clear c1 CB
  go_wp2
  go_loopw [12] (fun i wr => ∃ k : Nat, i = .int .i64 (k : Int) ∧ Hid (k ≤ nb) ∧ Hid (J (M.freeTo t k) wr) ∧ Hid (Blk wr ga 139 L))
    (fun i _ => nb - numOf i)
  case atStart => exact ⟨0, rfl, Nat.zero_le _, J2.out, BA.out⟩
  case round =>
    clear J2 BA K2
    obtain ⟨wz, rfl⟩ : ∃ x, x = wr := ⟨_, rfl⟩
    obtain ⟨k, rfl, hk, hJ, ba⟩ := hrel
    by_cases hlt : k < nb
    · have b1 : (k : Int) < (nb : Int) := by omega
      have hk48 : k < 2048 := by have := HNB.out; omega
      have hc := TK.out.2 k hk48
      have c2 : wz.cell? ⟨ga, k, none⟩ = some (.bool (M.takes t k)) := by rw [ba.out.cell, hc]
      have g2 : (0 : Int) ≤ (k : Int) := Int.natCast_nonneg k
      have g3 : ((k : Int)).toNat = k := Int.toNat_natCast k
      have g4 : (k : Int) < 2048 := by omega
      have HK := Lib.hid hlt
      have n3 : wrap64 ((k : Int) + 1) = ((k + 1 : Nat) : Int) := by unfold wrap64; omega
      have N3 := Lib.hid n3
      have HNX := Lib.hid (M.freeTo_next t k)
      obtain ⟨tk, htk⟩ : ∃ b, b = M.takes t k := ⟨_, rfl⟩
      rw [← htk] at c2 HNX
      clear hc n3 htk hlt
      cases tk with
      | true =>
        have JN : Hid (J (M.freeTo t (k + 1)) wz) := by rw [HNX.out, if_pos rfl]; exact hJ.out
        clear HNX hJ
        go_wp2
        go_roundw
        case rel => exact ⟨k + 1, by first | rw [N3.out] | rfl, HK.out, JN.out, ba.out⟩
        case measure =>
          first | rw [N3.out] | skip
          exact step_down HK.out
      | false =>
        have HNX2 : Hid (M.freeTo t (k + 1) = M.freeTo t k ++ [k]) := by rw [Hid, HNX.out, if_neg Bool.false_ne_true]
        obtain ⟨fn, tmps, assign, body, hy, hR⟩ := HY.out (M.freeTo t k) k wz hJ.out (by have := M.freeTo_le t k; have := HK.out; omega)
        clear HNX hJ
        go_upto_region 4 with fail
        refine (wpIn_wide (n := n)).1 ?_
        refine wpIn_region_lit (wpListInW_split (fun hlo => by obtain ⟨_, _, ⟨_, hlo⟩, _⟩ := hlo; cases hlo) 7 ?_)
        simp only [List.take_succ_cons, List.take_zero, List.drop_succ_cons, List.drop_zero]
        go_wp2
        gi_wp2
        refine hR.mono ?_
        rintro e w6 (⟨rfl, hJ6, hk6⟩ | ⟨rfl, hJx6⟩)
        · have BA6 : Hid (Blk w6 ga 139 L) := hk6 _ _ ba.out
          have JN : Hid (J (M.freeTo t (k + 1)) w6) := by rw [HNX2.out]; exact hJ6
          clear hR hy hJ6 hk6 c2
          gi_wp2
          go_wp2
          go_roundw
          case rel => exact ⟨k + 1, by first | rw [N3.out] | rfl, HK.out, JN.out, BA6.out⟩
          case measure =>
            first | rw [N3.out] | skip
            exact step_down HK.out
        · gi_wp2
          go_wp2
          exact bodyPost_ret (results_none rfl _ _ _) rfl ⟨⟨_, rfl⟩, .inr ⟨_, ⟨k + 1, HK.out, rfl⟩, by rw [HNX2.out]; exact hJx6⟩⟩
    · have b1 : ¬ (k : Int) < (nb : Int) := by omega
      obtain rfl : k = nb := by have := hk.out; omega
      clear hlt
      go_wp2
      go_end0
      exact ⟨⟨_, rfl⟩, .inl (by first | exact hJ.out | exact ⟨_, rfl, hJ.out⟩)⟩

theorem free_any (gf : Nat) (w : World) : Calls Tryz.prog 59 #[.pointer (some ⟨gf, 0, none⟩)] w fun e w' =>
    e = .returned (.func (.func 85) #[] #[.pointer (some ⟨w.heap.size, 0, none⟩)]) ∧ w' = w.alloc (.cells #[.pointer (some ⟨gf, 0, none⟩)] 26) := by
  have hmf : ∀ (fn : Fn) (first cap : Array Value) (w : World), (Instr.makeFunc fn first cap).run Tryz.prog w = .ok (.func fn first cap) w := fun _ _ _ _ => rfl
  go_enter Tryz.func59, Tryz.ntmps59
  go_wp2
  go_ret
  exact ⟨rfl, rfl⟩

theorem free_stops (n B1 : Nat) (hn : 1 ≤ n) {T : Nat → Prop} {gf gw g mb nb : Nat} {m : M.Dsk} {dn : Bool} {t : M.Tab} {vs : List Value} (w : World) (hF : FLies T w gf gw g mb nb m dn t vs) (h1 : w.cell? ⟨B1, 0, none⟩ = some (.pointer (some ⟨gf, 0, none⟩))) :
    SeqStopsK Fence.wide n Tryz.prog 85 #[.pointer (some ⟨B1, 0, none⟩)] (fun x : Nat => #[.int .i64 (x : Int)]) KeepsTk
      (fun ys => ys = M.free nb t) (fun pre => ∃ k, k ≤ nb ∧ pre = M.freeTo t k) nb w := by
  intro l J Jx W hW hJ hJx hY h0
  exact free1_in n l B1 hn J Jx W hJ hY (hF.below hW) ((hW.cell (p := ⟨B1, 0, none⟩) (World.block_lt_of_cell? w _ h1)).trans h1) h0

theorem keepsTk_loop (W : World) (l : Nat) (o o' : Obj) (hl : W.heap[l]? = some o) (hc : o.isCells = false) : KeepsTk W (W.putObj l o') := fun k cs hb => by
  have hne : l ≠ k := by
    rintro rfl
    rw [show W.heap[l]? = _ from hb] at hl
    cases hl
    cases hc
  show (W.putObj l o').heap[k]? = _
  rw [World.putObj]
  simp only [Array.getElem?_setIfInBounds_ne hne]
  exact hb

theorem not_cells_ne9 {W : World} {g : Nat} {t : TypeId} {cs : List Value} {row : Option Nat} {B : Nat} (h : Blk W g t cs) (hr : ∀ r, row = some r → B ≤ r ∧ ∃ o : Obj, W.heap[r]? = some o ∧ o.isCells = false) : some g ≠ row := by
  intro e
  obtain ⟨_, o, ho, hc⟩ := hr g e.symm
  rw [show W.heap[g]? = _ from h] at ho
  cases ho
  cases hc

theorem KeepsTk.of_set (W : World) (b : Nat) (u : Value) {ty : TypeId} {cs : List Value} (hb : Blk W b ty cs) (ht : ty ≠ 139) : KeepsTk W (W.setCell ⟨b, 0, none⟩ u) := fun k cs' h => by
  refine h.far (fun e => ?_) u
  have e' : k = b := e
  subst e'
  have e2 := (Option.some.inj ((show W.heap[k]? = _ from hb).symm.trans (show W.heap[k]? = _ from h)))
  injection e2 with _ e2 _
  exact ht e2

set_option maxHeartbeats 8000000 in
theorem ffree_any {T : Nat → Prop} {w : World} {gf gw g mb nb : Nat} {m : M.Dsk} {dn : Bool} {t : M.Tab} {vs : List Value} (hF : FLies T w gf gw g mb nb m dn t vs) :
    Calls Tryz.prog 56 #[.pointer (some ⟨gf, 0, none⟩)] w fun e w' => e = .returned (.int .i64 ((M.free nb t).length : Int)) ∧ Below w.heap.size w w' := by
  have HF := Lib.hid hF
  have HNB : Hid (nb ≤ 2048) := hF.ok.n
  clear hF
  refine (callsIn_wide (n := 3)).1 ?_
  refine callsIn_of_wp_marks Tryz.func56 rfl trivial ?_ rfl
  simp only [Tryz.ntmps56, List.size_toArray, List.length_cons, List.length_nil, Nat.reduceAdd, Nat.reduceSub, Array.replicate_succ, Array.replicate_zero, List.push_toArray, List.append_toArray, List.nil_append, List.cons_append]
  refine wpIn_wide.2 ?_
  go_wp2_with fail
  refine (free_any gf _).mono ?_
  rintro e w4 ⟨rfl, hw4⟩
  obtain ⟨x0, hx0⟩ : ∃ x, x = w.heap.size := ⟨_, rfl⟩
  obtain ⟨B1, hB1⟩ : ∃ x, x = (w.alloc (.cells #[.int .i64 0] 3)).heap.size := ⟨_, rfl⟩
  have k4 : Below w.heap.size w w4 := by rw [hw4]; exact ((Below.refl _ w).alloc (Nat.le_refl _) _).alloc (by simp) _
  have I0 : Blk w4 x0 3 [.int .i64 0] := by rw [hw4, hx0]; exact (Blk.newAt _ _ _ _ _ rfl rfl).alloc _
  have IB : Blk w4 B1 26 [.pointer (some ⟨gf, 0, none⟩)] := by rw [hw4, hB1]; exact Blk.newAt _ _ _ _ _ rfl rfl
  have HX0 : Hid (x0 = w.heap.size) := hx0
  have HS4 : Hid (w4.heap.size = w.heap.size + 2) := by rw [Hid, hw4]; simp
  rw [← hx0, ← hB1]
  clear hw4 hB1 hx0
  go_wp2
  refine (wpIn_wide (n := 3)).1 ?_
  refine wpIn_rangeFunc_ownG rfl (by omega) (gf := 85) (lb := #[.pointer (some ⟨B1, 0, none⟩)]) rfl trivial (enters_of Tryz.func85 (by kernel_rfl) rfl)
    (free_stops (3 - 1) B1 (by omega) w4 (HF.out.below k4) (IB.cell 0)) (fun h k => h.trans k)
    (fun W l o o' hl h1 h2 h3 => keepsTk_loop W l o o' h1 h2) (Below.refl _ _) (fun _ => rfl)
    (fun pre W => Blk W x0 3 [.int .i64 (pre.length : Int)] ∧ Below w.heap.size w W) (fun _ _ _ => False)
    (OwnFrom.and (fun s W W' row hs hg hr => hs.grown hg (not_cells_ne9 hs hr)) (ownFrom_below (Nat.le_refl _) k4.size)) (fun _ _ _ _ _ hs _ _ => hs) ⟨I0, k4⟩ ?a1 ?assign ?body ?done ?stop
  case assign =>
    intro l x W K hK
    gi_wp2
    exact hK
  case stop =>
    rintro D c pre W hD _ h _
    exact h.elim
  case done =>
    rintro D ys W hD rfl ⟨hb, hB⟩ hK
    have hc : W.cell? ⟨x0, 0, none⟩ = some (.int .i64 ((M.free nb t).length : Int)) := hb.cell 0
    dsimp only
    go_wp2
    refine ⟨by simp, .inl ⟨_, _, rfl, run_takeDeferred hK, ?_⟩⟩
    exact ⟨_, results_tmp rfl _ _ _, rfl, hB.trans (belowK_b (w := w) (Nat.le_refl _) W D _ _ (by have := HS4.out; omega) hK rfl rfl)⟩
  case body =>
    rintro l pre x W ⟨hb, hB⟩ hlt
    have hc : W.cell? ⟨x0, 0, none⟩ = some (.int .i64 (pre.length : Int)) := hb.cell 0
    have hf : W.frozen? ⟨x0, 0, none⟩ = false := hb.frozen 0
    obtain ⟨q, hq⟩ : ∃ q, q = pre.length := ⟨_, rfl⟩
    have hq2 : (pre ++ [x]).length = q + 1 := by simp [hq]
    rw [← hq] at hc hb hlt
    have n3 : wrap64 ((q : Int) + 1) = ((q + 1 : Nat) : Int) := by have := HNB.out; unfold wrap64; omega
    have HB := Lib.hid hB
    have HBB := Lib.hid hb
    have HQ2 := Lib.hid hq2
    clear hB hb hlt hq hq2
    gi_wp2
    refine ⟨(KeepsOthers.setCell _ _ _).from _, KeepsTk.of_set W x0 _ HBB.out (by decide), ?_, HB.out.setCell (p := ⟨x0, 0, none⟩) (by have := HX0.out; show w.heap.size ≤ x0; omega) _⟩
    rw [HQ2.out, show (((q + 1 : Nat)) : Int) = (q : Int) + 1 by omega]
    exact HBB.out.set_ 0 _

end Go.Proofs.YtphcbpfpelonaaaGreatDoor

namespace Go.Proofs.YtphcbpfpelonaaaGreatDoor
open Go.RowKit Go.Maps Go.Shelf
set_option linter.unusedVariables false
set_option maxRecDepth 100000

attribute [local go_sem] Oper.semAt_some

/-- No operation of a written list is a defer statement. -/
def noDefer9 (ops : List Oper) : Bool := ops.all fun o => match o.op with | .defer _ => false | _ => true

theorem noDefer_spec9 {ops : List Oper} (h : noDefer9 ops = true) : NoDefer ops := by
  intro o ho c e
  have := List.all_eq_true.1 h o ho
  rw [e] at this
  cases this

theorem row_shape {w : World} {B n size : Nat} {e : TypeId} {v : Value} {xs : List Value} (h : w.ownsRow B e size v n xs) : ∃ a n c, v = .slice a n c := by
  rcases h.2 with ⟨h, _⟩ | ⟨k', cap, cur, h, _⟩
  · exact ⟨_, _, _, h⟩
  · exact ⟨_, _, _, h⟩

theorem row_ne {w : World} {B n size k : Nat} {e ty : TypeId} {v : Value} {xs cs : List Value} (h : w.ownsRow B e size v n xs) (hb : Blk w k ty cs) (ht : e ≠ ty) : some k ≠ v.ownBlock := by
  intro e1
  rcases h.2 with ⟨rfl, _⟩ | ⟨k', cap, cur, rfl, hb', hg', _⟩
  · simp [Value.ownBlock] at e1
  · have e' : k = k' := by simpa [Value.ownBlock] using e1
    subst e'
    have e2 := (Option.some.inj (hg'.symm.trans (show w.heap[k]? = _ from hb)))
    injection e2 with _ e2 _
    exact ht e2

theorem ints11 : RowTy 108 3 1 8 (.int .i64 0) := ⟨Tryz.underlying108, by kernel_rfl, rfl, by decide⟩

theorem owns_last {w w' : World} {B n size : Nat} {e : TypeId} {v : Value} {xs : List Value} {row : Option Nat} (h : w.ownsRow B e size v n xs) (g : w.grownBy w' row) (hne : ∀ k, v.ownBlock = some k → row ≠ some k) : w'.ownsRow B e size v n xs := by
  refine ⟨h.1, ?_⟩
  rcases h.2 with hn | ⟨k, cap, cur, rfl, hb, hg, rest⟩
  · exact .inl hn
  · refine .inr ⟨k, cap, cur, rfl, hb, ?_, rest⟩
    rw [g.block k (Array.getElem?_eq_some_iff.1 hg).1 (fun e => hne k rfl e.symm)]
    exact hg

theorem row_cells {w : World} {B n size : Nat} {e : TypeId} {v : Value} {xs : List Value} {B' : Nat} {row : Option Nat} (h : w.ownsRow B e size v n xs) (hr : ∀ r, row = some r → B' ≤ r ∧ ∃ o : Obj, w.heap[r]? = some o ∧ o.isCells = false) : ∀ k, v.ownBlock = some k → row ≠ some k := by
  intro k hk e
  obtain ⟨_, o, h1, h2⟩ := hr k e
  rcases h.2 with ⟨rfl, _⟩ | ⟨k', cap, cur, rfl, hb', hg', _⟩
  · simp [Value.ownBlock] at hk
  · obtain rfl : k' = k := by simpa [Value.ownBlock] using hk
    rw [hg'] at h1
    cases h1
    cases h2

/-- An append onto a row of ints leaves the arrays of bools alone. -/
theorem KeepsTk.of_row {w w' : World} {B n size : Nat} {v : Value} {xs : List Value} (h : w.ownsRow B 3 size v n xs) (g : w.grownBy w' v.ownBlock) : KeepsTk w w' := fun k cs hb => by
  refine hb.grown g fun e => ?_
  rcases h.2 with ⟨rfl, _⟩ | ⟨k', cap, cur, rfl, hb', hg', _⟩
  · simp [Value.ownBlock] at e
  · have e' : k = k' := by simpa [Value.ownBlock] using e
    subst e'
    have e2 := (Option.some.inj (hg'.symm.trans (show w.heap[k]? = _ from hb)))
    injection e2 with _ e2 _
    exact absurd e2 (by decide)

theorem KeepsTk.of_below {w w' : World} (h : Below w.heap.size w w') : KeepsTk w w' := fun k cs hb => hb.below h hb.lt

set_option maxHeartbeats 8000000 in
theorem appendSeq_any {T : Nat → Prop} {w : World} {gf gw g mb nb : Nat} {m : M.Dsk} {dn : Bool} {t : M.Tab} {vs : List Value} (hF : FLies T w gf gw g mb nb m dn t vs) (B1 B : Nat) (h1 : w.cell? ⟨B1, 0, none⟩ = some (.pointer (some ⟨gf, 0, none⟩))) (v0 : Value) (l0 : List Nat) (o0 : OwnI w B v0 l0) (hB : B ≤ w.heap.size) (hl0 : l0.length ≤ 4096) :
    Calls Tryz.prog 84 #[v0, .func (.func 85) #[] #[.pointer (some ⟨B1, 0, none⟩)]] w fun e w' => ∃ v, e = .returned v ∧ OwnI w' B v (l0 ++ M.free nb t) ∧ Below B w w' := by
  have HNB : Hid (nb ≤ 2048) := hF.ok.n
  obtain ⟨w4, hw4⟩ : ∃ x, Hid (x = w.alloc (.cells #[v0] 108)) := ⟨_, rfl⟩
  obtain ⟨x0, hx0⟩ : ∃ x, Hid (x = w.heap.size) := ⟨_, rfl⟩
  have k4 : Below w.heap.size w w4 := by rw [hw4.out]; exact (Below.refl _ w).alloc (Nat.le_refl _) _
  have I0 : Blk w4 x0 108 [v0] := by rw [hw4.out]; exact Blk.newAt _ _ _ _ _ hx0.out rfl
  have O4 : OwnI w4 B v0 l0 := o0.below k4
  have HF4 := Lib.hid (hF.below k4)
  have H14 : Hid (w4.cell? ⟨B1, 0, none⟩ = some (.pointer (some ⟨gf, 0, none⟩))) := (k4.cell (p := ⟨B1, 0, none⟩) (World.block_lt_of_cell? w _ h1)).trans h1
  have KB4 : Hid (Below B w w4) := k4.mono hB
  have HBX : Hid (B ≤ x0 ∧ x0 < w4.heap.size ∧ B ≤ w4.heap.size ∧ w.heap.size ≤ w4.heap.size) := by have := I0.lt; have := hx0.out; rw [Hid]; omega
  have HB := Lib.hid hB
  have HL0 := Lib.hid hl0
  have hsh : ∃ a n c, v0 = .slice a n c := by
    rcases o0.2 with ⟨rfl, _⟩ | ⟨k', cap, cur, rfl, _⟩
    · exact ⟨_, _, _, rfl⟩
    · exact ⟨_, _, _, rfl⟩
  obtain ⟨a0, n0, c0, rfl⟩ := hsh
  have I0H := Lib.hid I0
  have O4H := Lib.hid O4
  clear hF h1 o0 k4 I0 O4 hB hl0
  refine (callsIn_wide (n := 3)).1 ?_
  refine callsIn_of_wp_marks Tryz.func84 rfl trivial ?_ rfl
  simp only [Tryz.ntmps84, List.size_toArray, List.length_cons, List.length_nil, Nat.reduceAdd, Nat.reduceSub, Array.replicate_succ, Array.replicate_zero, List.push_toArray, List.append_toArray, List.nil_append, List.cons_append]
  refine wpIn_wide.2 ?_
  go_wp2
  rw [← hx0.out, ← hw4.out]
  clear hw4 hx0
  refine (wpIn_wide (n := 3)).1 ?_
  refine wpIn_rangeFunc_ownG rfl (by omega) (gf := 85) (lb := #[.pointer (some ⟨B1, 0, none⟩)]) rfl trivial (enters_of Tryz.func85 (by kernel_rfl) rfl)
    (free_stops (3 - 1) B1 (by omega) w4 HF4.out H14.out) (fun h k => h.trans k)
    (fun W l o o' hl h1 h2 h3 => keepsTk_loop W l o o' h1 h2) (Below.refl _ _) (fun _ => rfl)
    (fun pre W => (∃ v, Blk W x0 108 [v] ∧ OwnI W B v (l0 ++ pre)) ∧ Below B w W) (fun _ _ _ => False)
    (OwnFrom.and (fun s W W' row hs hg hr => by
      obtain ⟨v, hb, ho⟩ := hs
      exact ⟨v, hb.grown hg (not_cells_ne9 hb hr), owns_last ho hg (row_cells ho hr)⟩) (ownFrom_below HB.out HBX.out.2.2.1)) (fun _ _ _ _ _ hs _ _ => hs) ⟨⟨_, I0H.out, by rw [List.append_nil]; exact O4H.out⟩, KB4.out⟩ ?a1 ?assign ?body ?done ?stop
  case assign =>
    intro l x W K hK
    gi_wp2
    exact hK
  case stop =>
    rintro D c pre W hD _ h _
    exact h.elim
  case done =>
    rintro D ys W hD rfl ⟨⟨v, hb, ho⟩, hB2⟩ hK
    have hc : W.cell? ⟨x0, 0, none⟩ = some v := hb.cell 0
    dsimp only
    go_wp2
    refine ⟨by simp, .inl ⟨_, _, rfl, run_takeDeferred hK, ?_⟩⟩
    exact ⟨_, results_tmp rfl _ _ _, v, rfl, owns_last ho (grownBy_putObj' W D _) (fun k hk e => by
      injection e with e
      subst e
      rcases ho.2 with ⟨rfl, _⟩ | ⟨k', cap, cur, rfl, hb', hg', _⟩
      · simp [Value.ownBlock] at hk
      · obtain rfl : k' = D := by simpa [Value.ownBlock] using hk
        rw [hg'] at hK
        cases hK), hB2.trans (belowK_b (w := w) HB.out W D _ _ (by have := HBX.out; omega) hK rfl rfl)⟩
  case body =>
    rintro l pre x W ⟨⟨v, hb, ho⟩, hB2⟩ hlt
    obtain ⟨va, vn, vc, rfl⟩ := row_shape ho
    have HBK := Lib.hid hb
    have HO := Lib.hid ho
    have HB2 := Lib.hid hB2
    have HLT := Lib.hid hlt
    have hc : W.cell? ⟨x0, 0, none⟩ = some (.slice va vn vc) := hb.cell 0
    clear hb ho hB2 hlt
    refine wpIn_block ?_
    refine wpIn_region_of_list l (fun ⟨_, _, h⟩ => h) (noDefer_spec9 (by kernel_rfl)) ?_
    obtain ⟨w1, hw1⟩ : ∃ y, Hid (y = W.alloc (.cells #[.int .i64 (x : Int)] 3)) := ⟨_, rfl⟩
    obtain ⟨g1, hg1⟩ : ∃ y, Hid (y = W.heap.size) := ⟨_, rfl⟩
    have k1 : Below W.heap.size W w1 := by rw [hw1.out]; exact (Below.refl _ _).alloc (Nat.le_refl _) _
    have b1 : Blk w1 g1 3 [.int .i64 (x : Int)] := by rw [hw1.out]; exact Blk.newAt _ _ _ _ _ hg1.out rfl
    have O1 := Lib.hid (HO.out.below k1)
    have B1X := Lib.hid (HBK.out.below k1 HBK.out.lt)
    have K1 := Lib.hid k1
    have BB1 := Lib.hid b1
    have KO1 : Hid (KeepsOthers W w1) := by rw [hw1.out]; exact KeepsOthers.alloc _ _
    have HLEN : Hid ((l0 ++ pre).length ≤ 10000) := by rw [Hid, List.length_append]; have := HLT.out; have := HNB.out; have := HL0.out; omega
    clear k1 b1
    go_wp2_with (rw [← hw1.out, ← hg1.out]; refine wpList_app_row ints11 _ rfl (.tmp 8) (.tmp 10) rfl B (.slice va vn vc) (l0 ++ pre).length _ rfl O1.out ⟨g1, 0, none⟩ 1 1 [.int .i64 (x : Int)] rfl rfl (fun j u hj => by rw [Addr.add_lit, Nat.zero_add, BB1.out.cell]; exact hj) (by intro u hu; simp only [List.mem_cons, List.not_mem_nil, or_false] at hu; rw [hu]; rfl) (by have := HLEN.out; unfold maxLen; omega) (by have := HLEN.out; omega) (Nat.le_trans HB2.out.size (Nat.le_trans (Nat.le_refl _) K1.out.size) |> Nat.le_trans (by have := HB.out; omega)) ?_; intro v6 w6 o6 g6 a6; obtain ⟨xa, xn, xc, rfl⟩ := row_shape o6; have b6 := B1X.out.grown g6 (row_ne O1.out B1X.out (by decide)); have c6 := b6.cell 0; have f6 := b6.frozen 0; simp only [List.getElem?_cons_zero] at c6)
    have hsz : W.heap.size ≤ w1.heap.size := K1.out.size
    have hBW : B ≤ W.heap.size := Nat.le_trans (by have := HB.out; omega) HB2.out.size
    have OO : OwnI w6 B (.slice xa xn xc) (l0 ++ (pre ++ [x])) := by
      have := o6
      rw [OwnI, ← List.append_assoc, List.length_append, ic_append]
      exact this
    have hg : w6.grownBy (w6.setCell ⟨x0, 0, none⟩ (.slice xa xn xc)) (some x0) := (Only.refl x0 w6).setCell (.inl rfl) _
    refine ⟨((KO1.out.trans (KeepsOthers.of_grownBy g6 fun j o ej hj => ?_)).trans (KeepsOthers.setCell _ _ _)).from _, ((KeepsTk.of_below K1.out).trans (KeepsTk.of_row O1.out g6)).trans (KeepsTk.of_set w6 x0 _ b6 (by decide)), ⟨_, b6.set_ 0 _, owns_last OO hg fun k hk e => ?_⟩, (((HB2.out.trans (K1.out.mono hBW)).grown g6 (Nat.le_trans hBW hsz) fun k hk => (O1.out.lt k hk).1)).setCell (p := ⟨x0, 0, none⟩) HBX.out.1 _⟩
    · rcases O1.out.2 with ⟨h, _⟩ | ⟨k', cap, cur, h, hb', hg', _⟩
      · rw [h] at ej
        simp [Value.ownBlock] at ej
      · rw [h] at ej
        have e' : k' = j := by simpa [Value.ownBlock] using ej
        subst e'
        rw [hg'] at hj
        cases hj
        rfl
    · exact row_ne OO b6 (by decide) (e.trans hk.symm)

theorem yes_nilI (n cap : Nat) (w : World) : (binOp .eql 108 (.slice none n cap) (.slice none 0 0)).run Tryz.prog w = .ok (.bool true) w := rfl

theorem not_nilI (ad : Addr) (n cap : Nat) (w : World) : (binOp .eql 108 (.slice (some ad) n cap) (.slice none 0 0)).run Tryz.prog w = .ok (.bool false) w := rfl

theorem collect_any {T : Nat → Prop} {w : World} {gf gw g mb nb : Nat} {m : M.Dsk} {dn : Bool} {t : M.Tab} {vs : List Value} (hF : FLies T w gf gw g mb nb m dn t vs) (B1 : Nat) (h1 : w.cell? ⟨B1, 0, none⟩ = some (.pointer (some ⟨gf, 0, none⟩))) :
    Calls Tryz.prog 58 #[.func (.func 85) #[] #[.pointer (some ⟨B1, 0, none⟩)]] w (MakesI w (M.free nb t)) := by
  have C := Lib.hid (appendSeq_any hF B1 w.heap.size h1 (.slice none 0 0) [] (ownI_nil _ _) (Nat.le_refl _) (Nat.zero_le _))
  clear hF h1
  go_enter Tryz.func58, Tryz.ntmps58
  go_wp2_with fail
  refine C.out.mono ?_
  rintro e w1 ⟨v, rfl, o1, k1⟩
  go_wp2
  go_ret
  exact ⟨v, rfl, o1, k1⟩

end Go.Proofs.YtphcbpfpelonaaaGreatDoor
