/-
  CONTRACT OF orlopref08.Clamp. Conditions: the scalar has 32 bytes; what is nil has no spare room.
  CONTRACTS OF orlopref08.Shared AND Public. Conditions: as each says.
  WHAT PACKAGE curve OWES, AS ONE PREMISE (CurveOk), AND WHAT FOLLOWS: orloplaw08.awake. Conditions: CurveOk (proved of the code elsewhere).
  CONTRACT OF curve.told: the first fraction. Conditions: FieldOk; the ladder lies in its block.
  CONTRACT OF curve.swap: the two fractions changed about, if the bit is 1. Conditions: FieldOk; the ladder lies in its block. (Written by gen_swap.py.)
  CONTRACT OF curve.begun: the ladder ahead of the first bit. Conditions: FieldOk.
  CONTRACTS OF bytes.Clone (of 32 bytes) AND curve.Clamp. Conditions: what is handed in is bytes.
  CONTRACTS OF (field.Elem).Add AND Sub. Conditions: the cells are elements'.
-/
import Derived.Test.YtdojalhaklkegaaDoorPn8
import Derived.Test.YtdojalhaklkegaaDoorPn1
import Derived.Test.YtdojalhaklkegaaDoorPn13
import Derived.Test.YtdojalhaklkegaaDoorPn24
import Derived.Test.YtdojalhaklkegaaDoorPn25
import Derived.Test.YtdojalhaklkegaaDoorPn15
import Derived.Test.YtdojalhaklkegaaDoorPn21
import Derived.Test.YtdojalhaklkegaaDoorPn20

namespace Go.Proofs.YtdojalhaklkegaaDoor
open Go.RowKit
set_option linter.unusedVariables false

namespace M

/-- A scalar clamped. -/
def clampB (ks : List UInt8) : List UInt8 := (ks.set 0 (UInt8.ofNat ((ks.getD 0 0).toNat / 8 * 8))).set 31 (UInt8.ofNat ((ks.getD 31 0).toNat % 64 + 64))

theorem clampB_length (ks : List UInt8) : (clampB ks).length = ks.length := by simp [clampB]

theorem of_nat8 (n : Nat) (h : n < 256) : (UInt8.ofNat n).toNat = n := by rw [UInt8.toNat_ofNat', Nat.mod_eq_of_lt (show n < 2 ^ 8 from h)]

end M

end Go.Proofs.YtdojalhaklkegaaDoor

namespace Go.Proofs.YtdojalhaklkegaaDoor
open Go.RowKit
set_option linter.unusedVariables false

namespace M

/-- What the ladder tells of a scalar and a point's bytes. -/
def secret (ks ps : List UInt8) : Nat := ladder Q (clampB ks) (told ps % Q)

/-- .. of a scalar and the element 9. -/
def point (ks : List UInt8) : Nat := ladder Q (clampB ks) 9

theorem ladder_lt (ks : List UInt8) (u : Nat) : ladder Q ks u < Q := Nat.mod_lt _ Q_pos

end M

/-- The call hands back the bytes bs in memory of its own, and OK. -/
def MakesOk (w : World) (bs : List UInt8) (e : Ending) (w' : World) : Prop := ∃ r, e = .returned (.tuple #[r, .int .i64 0]) ∧ Own w' w.heap.size r bs ∧ Below w.heap.size w w'

/-- .. or no bytes, and a code. -/
def Refuses (w : World) (c : Nat) (e : Ending) (w' : World) : Prop := e = .returned (.tuple #[.slice none 0 0, .int .i64 (c : Int)]) ∧ Below w.heap.size w w'

end Go.Proofs.YtdojalhaklkegaaDoor

namespace Go.Proofs.YtdojalhaklkegaaDoor
open Go.RowKit
set_option linter.unusedVariables false

/-- What package curve owes. -/
structure CurveOk : Prop where
  clamp_ : ∀ (kv : Value) (ks : List UInt8) (w : World), IsB w kv ks → ks.length = 32 → Calls Tryd.prog 28 #[kv] w (MakesOk w (M.clampB ks))
  clampNo : ∀ (kv : Value) (ks : List UInt8) (w : World), IsB w kv ks → ¬ ks.length = 32 → Calls Tryd.prog 28 #[kv] w (Refuses w 1)
  shared_ : ∀ (kv pv : Value) (ks ps : List UInt8) (w : World), IsB w kv ks → IsB w pv ps → ks.length = 32 → ps.length = 32 → ¬ M.secret ks ps = 0 → Calls Tryd.prog 14 #[kv, pv] w (MakesOk w (M.le (M.secret ks ps) 32))
  sharedLow : ∀ (kv pv : Value) (ks ps : List UInt8) (w : World), IsB w kv ks → IsB w pv ps → ks.length = 32 → ps.length = 32 → M.secret ks ps = 0 → Calls Tryd.prog 14 #[kv, pv] w (Refuses w 10)
  sharedNo : ∀ (kv pv : Value) (ks ps : List UInt8) (w : World), IsB w kv ks → IsB w pv ps → ¬ (ks.length = 32 ∧ ps.length = 32) → Calls Tryd.prog 14 #[kv, pv] w (Refuses w 1)
  public_ : ∀ (kv : Value) (ks : List UInt8) (w : World), IsB w kv ks → ks.length = 32 → Calls Tryd.prog 13 #[kv] w (MakesOk w (M.le (M.point ks) 32))
  publicNo : ∀ (kv : Value) (ks : List UInt8) (w : World), IsB w kv ks → ¬ ks.length = 32 → Calls Tryd.prog 13 #[kv] w (Refuses w 1)

namespace M

end M

end Go.Proofs.YtdojalhaklkegaaDoor

set_option maxRecDepth 100000
namespace Go.Proofs.YtdojalhaklkegaaDoor
open Go.RowKit
set_option linter.unusedVariables false

set_option maxHeartbeats 4000000 in
theorem told_any {Fe : List Value → Nat → Prop} (F : FieldOk Fe) (g : Nat) (A B C D E : List Value) (x z : Nat) (w : World) (hL : LadB w g A B C D E) (hB : Fe B x) (hC : Fe C z) :
    Calls Tryd.prog 32 #[.pointer (some ⟨g, 0, none⟩)] w (GivesE Fe w (x * (z ^ (M.Q - 2) % M.Q) % M.Q)) := by
  obtain ⟨r1, hr1⟩ : ∃ r, Hid (z ^ (M.Q - 2) % M.Q = r) := ⟨z ^ (M.Q - 2) % M.Q, rfl⟩
  rw [hr1.out]
  obtain ⟨r2, hr2⟩ : ∃ r, Hid (x * r1 % M.Q = r) := ⟨x * r1 % M.Q, rfl⟩
  rw [hr2.out]
  have HB := Lib.hid hB
  have HC := Lib.hid hC
  have C1 := Lib.hid (fun w => F.invert_at w HC hr1)
  have C2 : Hid (∀ w L, Fe L r1 → Calls Tryd.prog 61 #[.agg B.toArray, .agg L.toArray] w (GivesE Fe w r2)) := fun w L h => F.mul_at w HB (Lib.hid h) hr2
  have HB5 : Hid (B.length = 5) := F.len hB
  have HC5 : Hid (C.length = 5) := F.len hC
  have FL : Hid (∀ {L n}, Fe L n → L.length = 5 ∧ ∀ u ∈ L, u.oneCell' = true) := fun h => ⟨F.len h, F.one h⟩
  obtain ⟨gr, hgr⟩ : ∃ v, v = w.heap.size := ⟨_, rfl⟩
  have N0 : Hid (Blk (w.alloc (.cells z5.toArray 62)) gr 62 z5) := Blk.newAt _ _ _ _ _ hgr rfl
  have L0 : Hid (LadB (w.alloc (.cells z5.toArray 62)) g A B C D E) := hL.below ((Below.refl _ _).alloc (Nat.le_refl _) _) hL.lt
  have K0 : Hid (Below w.heap.size w (w.alloc (.cells z5.toArray 62))) := (Below.refl _ _).alloc (Nat.le_refl _) _
  have HG : Hid (w.heap.size ≤ gr) := by rw [Hid]; omega
  have HGG : Hid (g < gr) := by have := hL.lt; rw [Hid]; omega
  clear hL hB hC F HB HC hr1 hr2
  go_enter Tryd.func32, Tryd.ntmps32
  go_upto_region 1 with fail
  rw [← z5_arr, ← hgr]
  obtain ⟨W, hW⟩ : ∃ W, W = w.alloc (.cells z5.toArray 62) := ⟨_, rfl⟩
  rw [← hW] at N0 L0 K0 ⊢
  clear hW hgr
  refine wp_region_any (by kernel_rfl) ?_
  change wpAny _ _ _ _ _ _ _ (World.drew _)
  refine wpAny_of_held (S := fun w' => LadB w' g A B C D E) _ _ _ _ ?_
  have S0 : LadB W.drew g A B C D E := L0.out.below (below_draws W 1) L0.out.lt
  refine wpAnyH_take_at (i := 0) (v := .pointer (some ⟨g, 0, none⟩)) rfl rfl (by kernel_rfl) (by kernel_rfl) (by kernel_rfl) (fun _ _ _ h => h) (Or.inl ⟨by rfl, fun w hS => by go_simp⟩) S0 ?_
  simp only [List.setIfInBounds_toArray, List.set_cons_zero, List.set_cons_succ]
  refine wpAnyH_take_at (i := 1) (v := .pointer (some ⟨g, 0, none⟩)) rfl rfl (by kernel_rfl) (by kernel_rfl) (by kernel_rfl) (fun _ _ _ h => h) (Or.inl ⟨by rfl, fun w hS => by go_simp⟩) S0 ?_
  simp only [List.setIfInBounds_toArray, List.set_cons_zero, List.set_cons_succ]
  refine wpAnyH_take_at (i := 2) (v := .pointer (some ⟨g, 5, none⟩)) rfl rfl (by kernel_rfl) (by kernel_rfl) (by kernel_rfl) (fun _ _ _ h => h) (Or.inl ⟨by rfl, fun w hS => by go_simp⟩) S0 ?_
  simp only [List.setIfInBounds_toArray, List.set_cons_zero, List.set_cons_succ]
  refine wpAnyH_take_at (i := 3) (v := .agg B.toArray) rfl rfl (by kernel_rfl) (by kernel_rfl) (by kernel_rfl) (fun _ _ _ h => h) (yieldsIf_load_mid (by rfl) 62 (.tmp 5) rfl g 5 rfl B _ (fun w h => h.at1) Tryd.underlying62 rfl (by rw [HB5.out]; kernel_rfl)) S0 ?_
  simp only [List.setIfInBounds_toArray, List.set_cons_zero, List.set_cons_succ]
  refine wpAnyH_take_at (i := 4) (v := .pointer (some ⟨g, 0, none⟩)) rfl rfl (by kernel_rfl) (by kernel_rfl) (by kernel_rfl) (fun _ _ _ h => h) (Or.inl ⟨by rfl, fun w hS => by go_simp⟩) S0 ?_
  simp only [List.setIfInBounds_toArray, List.set_cons_zero, List.set_cons_succ]
  refine wpAnyH_take_at (i := 5) (v := .pointer (some ⟨g, 0, none⟩)) rfl rfl (by kernel_rfl) (by kernel_rfl) (by kernel_rfl) (fun _ _ _ h => h) (Or.inl ⟨by rfl, fun w hS => by go_simp⟩) S0 ?_
  simp only [List.setIfInBounds_toArray, List.set_cons_zero, List.set_cons_succ]
  refine wpAnyH_take_at (i := 6) (v := .pointer (some ⟨g, 10, none⟩)) rfl rfl (by kernel_rfl) (by kernel_rfl) (by kernel_rfl) (fun _ _ _ h => h) (Or.inl ⟨by rfl, fun w hS => by go_simp⟩) S0 ?_
  simp only [List.setIfInBounds_toArray, List.set_cons_zero, List.set_cons_succ]
  refine wpAnyH_take_at (i := 7) (v := .agg C.toArray) rfl rfl (by kernel_rfl) (by kernel_rfl) (by kernel_rfl) (fun _ _ _ h => h) (yieldsIf_load_mid (by rfl) 62 (.tmp 9) rfl g 10 rfl C _ (fun w h => h.at2) Tryd.underlying62 rfl (by rw [HC5.out]; kernel_rfl)) S0 ?_
  simp only [List.setIfInBounds_toArray, List.set_cons_zero, List.set_cons_succ]
  refine wpAnyH_ready (rs := [8]) (by kernel_rfl) (by simp) ?_
  refine AllReadyH.cons rfl (fun KC hK => ?_) AllReadyH.nil
  go_simp
  refine (C1.out W.drew).mono ?_
  rintro e w1 ⟨T1, rfl, h1, k1⟩
  have Y1 : Below W.heap.size W w1 := (below_draws W 1).trans k1
  refine hK.out _ _ (L0.out.below Y1 L0.out.lt) (fun _ => ?_)
  clear hK KC
  refine wpAnyH_ready (rs := [9]) (by kernel_rfl) (by simp) ?_
  refine AllReadyH.cons rfl (fun KC hK => ?_) AllReadyH.nil
  go_simp
  refine (C2.out w1 T1 h1).mono ?_
  rintro e w2 ⟨T2, rfl, h2, k2⟩
  have Y2 : Below W.heap.size W w2 := Y1.trans (k2.mono Y1.size)
  refine hK.out _ _ (L0.out.below Y2 L0.out.lt) (fun _ => ?_)
  clear hK KC
  refine wpAnyH_ready (rs := [10]) (by kernel_rfl) (by simp) ?_
  refine AllReadyH.cons rfl (fun KC hK => ?_) AllReadyH.nil
  have f2 := FL.out h2
  refine step_store_blk rfl 62 (.tmp 2) (.tmp 12) rfl gr T2.toArray rfl rfl 62 z5 (N0.out.below Y2 N0.out.lt) (by rw [List.size_toArray, f2.1]; kernel_rfl) (by rw [List.size_toArray, f2.1]; rfl) f2.2 ?_
  intro w3 hb3 ho3
  have K3 : Below w.heap.size w w3 := by
    have h1 := K0.out.trans (Y2.mono K0.out.size)
    exact h1.trans (ho3.below h1.size HG.out)
  refine hK.out _ _ ((L0.out.below Y2 L0.out.lt).grown ho3 (by intro e; injection e with e; have := HGG.out; omega)) (fun _ => ?_)
  clear hK KC
  refine wpAnyH_done (by kernel_rfl) ?_ _
  go_wp2
  exact bodyPost_ret (results_cell_row rfl _ _ gr _ _ _ _ rfl hb3 Tryd.underlying62 rfl (by rw [List.size_toArray, f2.1]; kernel_rfl)) rfl ⟨T2, rfl, h2, K3⟩

end Go.Proofs.YtdojalhaklkegaaDoor

namespace Go.Proofs.YtdojalhaklkegaaDoor
open Go.RowKit
set_option linter.unusedVariables false

/-- A load out of the middle of a block, of the world at hand. -/
theorem yieldsAt_load_part {ops : Array Oper} {w : World} {op : Oper} {a : Act} (hw : Region.wanted op (yielded ops a.tmps) = true) (x : Operand) (ho : op.op = .load 62 x)
    (b off : Nat) (hx : a.eval x = .pointer (some ⟨b, off, none⟩)) (M : List Value) (hm : M.length = 5) (hc : w.rangeAt b off M) : YieldsAt Tryd.prog ops w op (.agg M.toArray) a :=
  .inl ⟨hw, .inl (by
    unfold execOp
    simp only [ho, hx, Instr.loadAt, Instr.sureAddr, Sem.run_bind, Sem.run_pure, Result.andThen_ok, run_loadVar_mid (P := Tryd.prog) w b off _ M _ hc Tryd.underlying62 rfl (by rw [hm]; kernel_rfl)])⟩

set_option maxRecDepth 100000 in
set_option maxHeartbeats 16000000 in
theorem cswap_any {Fe : List Value → Nat → Prop} (F : FieldOk Fe) (g : Nat) (A B C D E : List Value) (bit x2 z2 x3 z3 : Nat) (w : World) (hL : LadB w g A B C D E) (hb : bit < 18446744073709551616) (hB : Fe B x2) (hC : Fe C z2) (hD : Fe D x3) (hE : Fe E z3) :
    Calls Tryd.prog 59 #[.pointer (some ⟨g, 0, none⟩), .int .u64 (bit : Int)] w fun e w' => e = .returned (.tuple #[]) ∧ Only g w w' ∧ ∃ B' C' D' E' : List Value, LadB w' g A B' C' D' E' ∧
      Fe B' (if bit % 2 = 1 then x3 else x2) ∧ Fe C' (if bit % 2 = 1 then z3 else z2) ∧ Fe D' (if bit % 2 = 1 then x2 else x3) ∧ Fe E' (if bit % 2 = 1 then z2 else z3) := by
  have FL : Hid (∀ {L n}, Fe L n → L.length = 5 ∧ ∀ u ∈ L, u.oneCell' = true) := fun h => ⟨F.len h, F.one h⟩
  obtain ⟨y2, hy2⟩ : ∃ y, (if bit % 2 = 1 then x3 else x2) = y := ⟨_, rfl⟩
  obtain ⟨y3, hy3⟩ : ∃ y, (if bit % 2 = 1 then x2 else x3) = y := ⟨_, rfl⟩
  obtain ⟨v2, hv2⟩ : ∃ y, (if bit % 2 = 1 then z3 else z2) = y := ⟨_, rfl⟩
  obtain ⟨v3, hv3⟩ : ∃ y, (if bit % 2 = 1 then z2 else z3) = y := ⟨_, rfl⟩
  have c1 : Hid (∀ w, Calls Tryd.prog 84 #[.int .u64 (bit : Int), .agg B.toArray, .agg D.toArray] w (GivesEE Fe w y2 y3)) := fun w => by rw [← hy2, ← hy3]; exact F.swap_ bit B D x2 x3 w hb hB hD
  have c2 : Hid (∀ w, Calls Tryd.prog 84 #[.int .u64 (bit : Int), .agg C.toArray, .agg E.toArray] w (GivesEE Fe w v2 v3)) := fun w => by rw [← hv2, ← hv3]; exact F.swap_ bit C E z2 z3 w hb hC hE
  rw [hy2, hy3, hv2, hv3]
  have B5 : Hid (B.length = 5) := F.len hB
  have C5 : Hid (C.length = 5) := F.len hC
  have D5 : Hid (D.length = 5) := F.len hD
  have E5 : Hid (E.length = 5) := F.len hE
  have l0 := Lib.hid hL
  have KO0 : Hid (Only g w w) := Only.refl g w
  clear hL hb hB hC hD hE F hy2 hy3 hv2 hv3
  go_enter Tryd.func59, Tryd.ntmps59
  go_upto_region 0 with fail
  refine wp_region_any (by kernel_rfl) ?_
  change wpAny _ _ _ _ _ _ _ (World.drew _)
  refine wpAny_take_at (i := 0) (v := .pointer (some ⟨g, 0, none⟩)) rfl rfl (by kernel_rfl) (by kernel_rfl) (by kernel_rfl) (fun _ _ _ h => h) (Or.inl ⟨by rfl, fun w => by go_simp⟩) ?_
  simp only [List.setIfInBounds_toArray, List.set_cons_zero, List.set_cons_succ]
  refine wpAny_take_at (i := 1) (v := .pointer (some ⟨g, 0, none⟩)) rfl rfl (by kernel_rfl) (by kernel_rfl) (by kernel_rfl) (fun _ _ _ h => h) (Or.inl ⟨by rfl, fun w => by go_simp⟩) ?_
  simp only [List.setIfInBounds_toArray, List.set_cons_zero, List.set_cons_succ]
  refine wpAny_take_at (i := 2) (v := .int .u64 (bit : Int)) rfl rfl (by kernel_rfl) (by kernel_rfl) (by kernel_rfl) (fun _ _ _ h => h) (Or.inl ⟨by rfl, fun w => by go_simp⟩) ?_
  simp only [List.setIfInBounds_toArray, List.set_cons_zero, List.set_cons_succ]
  refine wpAny_take_at (i := 3) (v := .pointer (some ⟨g, 0, none⟩)) rfl rfl (by kernel_rfl) (by kernel_rfl) (by kernel_rfl) (fun _ _ _ h => h) (Or.inl ⟨by rfl, fun w => by go_simp⟩) ?_
  simp only [List.setIfInBounds_toArray, List.set_cons_zero, List.set_cons_succ]
  refine wpAny_take_at (i := 4) (v := .pointer (some ⟨g, 0, none⟩)) rfl rfl (by kernel_rfl) (by kernel_rfl) (by kernel_rfl) (fun _ _ _ h => h) (Or.inl ⟨by rfl, fun w => by go_simp⟩) ?_
  simp only [List.setIfInBounds_toArray, List.set_cons_zero, List.set_cons_succ]
  refine wpAny_take_at (i := 5) (v := .pointer (some ⟨g, 5, none⟩)) rfl rfl (by kernel_rfl) (by kernel_rfl) (by kernel_rfl) (fun _ _ _ h => h) (Or.inl ⟨by rfl, fun w => by go_simp⟩) ?_
  simp only [List.setIfInBounds_toArray, List.set_cons_zero, List.set_cons_succ]
  refine wpAny_take_at (i := 7) (v := .pointer (some ⟨g, 0, none⟩)) rfl rfl (by kernel_rfl) (by kernel_rfl) (by kernel_rfl) (fun _ _ _ h => h) (Or.inl ⟨by rfl, fun w => by go_simp⟩) ?_
  simp only [List.setIfInBounds_toArray, List.set_cons_zero, List.set_cons_succ]
  refine wpAny_take_at (i := 8) (v := .pointer (some ⟨g, 0, none⟩)) rfl rfl (by kernel_rfl) (by kernel_rfl) (by kernel_rfl) (fun _ _ _ h => h) (Or.inl ⟨by rfl, fun w => by go_simp⟩) ?_
  simp only [List.setIfInBounds_toArray, List.set_cons_zero, List.set_cons_succ]
  refine wpAny_take_at (i := 9) (v := .pointer (some ⟨g, 15, none⟩)) rfl rfl (by kernel_rfl) (by kernel_rfl) (by kernel_rfl) (fun _ _ _ h => h) (Or.inl ⟨by rfl, fun w => by go_simp⟩) ?_
  simp only [List.setIfInBounds_toArray, List.set_cons_zero, List.set_cons_succ]
  refine wpAny_reads 2 10 ?_
  refine wpAnyL_take_at (i := 6) (v := .agg B.toArray) rfl rfl (by kernel_rfl) (by kernel_rfl) (by kernel_rfl) (by kernel_rfl) (yieldsAt_load_part (by rfl) (.tmp 10) rfl g 5 rfl B B5.out ((l0.out.below (below_draws w 1) l0.out.lt).at1)) ?_
  simp only [List.setIfInBounds_toArray, List.set_cons_zero, List.set_cons_succ]
  refine wpAnyL_take_at (i := 10) (v := .agg D.toArray) rfl rfl (by kernel_rfl) (by kernel_rfl) (by kernel_rfl) (by kernel_rfl) (yieldsAt_load_part (by rfl) (.tmp 14) rfl g 15 rfl D D5.out ((l0.out.below (below_draws w 1) l0.out.lt).at3)) ?_
  simp only [List.setIfInBounds_toArray, List.set_cons_zero, List.set_cons_succ]
  change wpAny _ _ _ _ _ _ _ _
  refine wpAny_ready (rs := [11]) (by kernel_rfl) (by simp) ?_
  refine AllReady.cons rfl (fun K hK => ?_) AllReady.nil
  go_simp
  refine (c1.out _).mono ?_
  rintro e w0 ⟨S0, T0, rfl, hS0, hT0, k0⟩
  have y0 : Below w.heap.size w w0 := (below_draws w 1).trans k0
  refine hK _ _ ?_
  clear hK K
  refine wpAny_take_at (i := 12) (v := .tuple #[.agg S0.toArray, .agg T0.toArray]) rfl rfl (by kernel_rfl) (by kernel_rfl) (by kernel_rfl) (fun _ _ _ h => h) (Or.inl ⟨by rfl, fun w => by go_simp⟩) ?_
  simp only [List.setIfInBounds_toArray, List.set_cons_zero, List.set_cons_succ]
  refine wpAny_take_at (i := 13) (v := .agg S0.toArray) rfl rfl (by kernel_rfl) (by kernel_rfl) (by kernel_rfl) (fun _ _ _ h => h) (Or.inl ⟨by rfl, fun w => by go_simp⟩) ?_
  simp only [List.setIfInBounds_toArray, List.set_cons_zero, List.set_cons_succ]
  refine wpAny_take_at (i := 14) (v := .agg T0.toArray) rfl rfl (by kernel_rfl) (by kernel_rfl) (by kernel_rfl) (fun _ _ _ h => h) (Or.inl ⟨by rfl, fun w => by go_simp⟩) ?_
  simp only [List.setIfInBounds_toArray, List.set_cons_zero, List.set_cons_succ]
  have m0 := Lib.hid (l0.out.below y0 l0.out.lt)
  refine wpAny_take_at (i := 15) (v := .pointer (some ⟨g, 0, none⟩)) rfl rfl (by kernel_rfl) (by kernel_rfl) (by kernel_rfl) (fun _ _ _ h => h) (Or.inl ⟨by rfl, fun w => by go_simp⟩) ?_
  simp only [List.setIfInBounds_toArray, List.set_cons_zero, List.set_cons_succ]
  refine wpAny_take_at (i := 16) (v := .pointer (some ⟨g, 5, none⟩)) rfl rfl (by kernel_rfl) (by kernel_rfl) (by kernel_rfl) (fun _ _ _ h => h) (Or.inl ⟨by rfl, fun w => by go_simp⟩) ?_
  simp only [List.setIfInBounds_toArray, List.set_cons_zero, List.set_cons_succ]
  refine wpAny_ready (rs := [17]) (by kernel_rfl) (by simp) ?_
  refine AllReady.cons rfl (fun K hK => ?_) AllReady.nil
  refine step_store_part rfl (.tmp 20) (.tmp 17) rfl g 5 S0 rfl rfl (FL.out hS0).1 (FL.out hS0).2 (m0.out.there 5 (by decide)) ?_
  intro p0 hp0 op0
  refine hK _ _ ?_
  clear hK K
  have q0 : Hid (LadB p0 g A S0 C D E) := by rw [hp0]; exact m0.out.set1 (FL.out hS0).1
  refine wpAny_take_at (i := 18) (v := .pointer (some ⟨g, 0, none⟩)) rfl rfl (by kernel_rfl) (by kernel_rfl) (by kernel_rfl) (fun _ _ _ h => h) (Or.inl ⟨by rfl, fun w => by go_simp⟩) ?_
  simp only [List.setIfInBounds_toArray, List.set_cons_zero, List.set_cons_succ]
  refine wpAny_take_at (i := 19) (v := .pointer (some ⟨g, 15, none⟩)) rfl rfl (by kernel_rfl) (by kernel_rfl) (by kernel_rfl) (fun _ _ _ h => h) (Or.inl ⟨by rfl, fun w => by go_simp⟩) ?_
  simp only [List.setIfInBounds_toArray, List.set_cons_zero, List.set_cons_succ]
  refine wpAny_ready (rs := [20]) (by kernel_rfl) (by simp) ?_
  refine AllReady.cons rfl (fun K hK => ?_) AllReady.nil
  refine step_store_part rfl (.tmp 22) (.tmp 18) rfl g 15 T0 rfl rfl (FL.out hT0).1 (FL.out hT0).2 (q0.out.there 15 (by decide)) ?_
  intro X0 hX0 oX0
  refine hK _ _ ?_
  clear hK K
  have L0 : Hid (LadB X0 g A S0 C T0 E) := by rw [hX0]; exact q0.out.set3 (FL.out hT0).1
  have KO1 : Hid (Only g w X0) := ((KO0.out.trans (Only.of_below y0)).trans op0).trans oX0
  have HS0 := Lib.hid hS0
  have HT0 := Lib.hid hT0
  clear hS0 hT0 m0 q0 hp0 hX0 op0 oX0 y0 k0 l0 KO0
  refine wpAny_done (by kernel_rfl) ?_ _
  go_upto_region 1 with fail
  refine wp_region_any (by kernel_rfl) ?_
  change wpAny _ _ _ _ _ _ _ (World.drew _)
  refine wpAny_take_at (i := 0) (v := .pointer (some ⟨g, 0, none⟩)) rfl rfl (by kernel_rfl) (by kernel_rfl) (by kernel_rfl) (fun _ _ _ h => h) (Or.inl ⟨by rfl, fun w => by go_simp⟩) ?_
  simp only [List.setIfInBounds_toArray, List.set_cons_zero, List.set_cons_succ]
  refine wpAny_take_at (i := 1) (v := .pointer (some ⟨g, 0, none⟩)) rfl rfl (by kernel_rfl) (by kernel_rfl) (by kernel_rfl) (fun _ _ _ h => h) (Or.inl ⟨by rfl, fun w => by go_simp⟩) ?_
  simp only [List.setIfInBounds_toArray, List.set_cons_zero, List.set_cons_succ]
  refine wpAny_take_at (i := 2) (v := .int .u64 (bit : Int)) rfl rfl (by kernel_rfl) (by kernel_rfl) (by kernel_rfl) (fun _ _ _ h => h) (Or.inl ⟨by rfl, fun w => by go_simp⟩) ?_
  simp only [List.setIfInBounds_toArray, List.set_cons_zero, List.set_cons_succ]
  refine wpAny_take_at (i := 3) (v := .pointer (some ⟨g, 0, none⟩)) rfl rfl (by kernel_rfl) (by kernel_rfl) (by kernel_rfl) (fun _ _ _ h => h) (Or.inl ⟨by rfl, fun w => by go_simp⟩) ?_
  simp only [List.setIfInBounds_toArray, List.set_cons_zero, List.set_cons_succ]
  refine wpAny_take_at (i := 4) (v := .pointer (some ⟨g, 0, none⟩)) rfl rfl (by kernel_rfl) (by kernel_rfl) (by kernel_rfl) (fun _ _ _ h => h) (Or.inl ⟨by rfl, fun w => by go_simp⟩) ?_
  simp only [List.setIfInBounds_toArray, List.set_cons_zero, List.set_cons_succ]
  refine wpAny_take_at (i := 5) (v := .pointer (some ⟨g, 10, none⟩)) rfl rfl (by kernel_rfl) (by kernel_rfl) (by kernel_rfl) (fun _ _ _ h => h) (Or.inl ⟨by rfl, fun w => by go_simp⟩) ?_
  simp only [List.setIfInBounds_toArray, List.set_cons_zero, List.set_cons_succ]
  refine wpAny_take_at (i := 7) (v := .pointer (some ⟨g, 0, none⟩)) rfl rfl (by kernel_rfl) (by kernel_rfl) (by kernel_rfl) (fun _ _ _ h => h) (Or.inl ⟨by rfl, fun w => by go_simp⟩) ?_
  simp only [List.setIfInBounds_toArray, List.set_cons_zero, List.set_cons_succ]
  refine wpAny_take_at (i := 8) (v := .pointer (some ⟨g, 0, none⟩)) rfl rfl (by kernel_rfl) (by kernel_rfl) (by kernel_rfl) (fun _ _ _ h => h) (Or.inl ⟨by rfl, fun w => by go_simp⟩) ?_
  simp only [List.setIfInBounds_toArray, List.set_cons_zero, List.set_cons_succ]
  refine wpAny_take_at (i := 9) (v := .pointer (some ⟨g, 20, none⟩)) rfl rfl (by kernel_rfl) (by kernel_rfl) (by kernel_rfl) (fun _ _ _ h => h) (Or.inl ⟨by rfl, fun w => by go_simp⟩) ?_
  simp only [List.setIfInBounds_toArray, List.set_cons_zero, List.set_cons_succ]
  refine wpAny_reads 2 10 ?_
  refine wpAnyL_take_at (i := 6) (v := .agg C.toArray) rfl rfl (by kernel_rfl) (by kernel_rfl) (by kernel_rfl) (by kernel_rfl) (yieldsAt_load_part (by rfl) (.tmp 29) rfl g 10 rfl C C5.out ((L0.out.below (below_draws X0 1) L0.out.lt).at2)) ?_
  simp only [List.setIfInBounds_toArray, List.set_cons_zero, List.set_cons_succ]
  refine wpAnyL_take_at (i := 10) (v := .agg E.toArray) rfl rfl (by kernel_rfl) (by kernel_rfl) (by kernel_rfl) (by kernel_rfl) (yieldsAt_load_part (by rfl) (.tmp 33) rfl g 20 rfl E E5.out ((L0.out.below (below_draws X0 1) L0.out.lt).at4)) ?_
  simp only [List.setIfInBounds_toArray, List.set_cons_zero, List.set_cons_succ]
  change wpAny _ _ _ _ _ _ _ _
  refine wpAny_ready (rs := [11]) (by kernel_rfl) (by simp) ?_
  refine AllReady.cons rfl (fun K hK => ?_) AllReady.nil
  go_simp
  refine (c2.out _).mono ?_
  rintro e w1 ⟨S1, T1, rfl, hS1, hT1, k1⟩
  have y1 : Below X0.heap.size X0 w1 := (below_draws X0 1).trans k1
  refine hK _ _ ?_
  clear hK K
  refine wpAny_take_at (i := 12) (v := .tuple #[.agg S1.toArray, .agg T1.toArray]) rfl rfl (by kernel_rfl) (by kernel_rfl) (by kernel_rfl) (fun _ _ _ h => h) (Or.inl ⟨by rfl, fun w => by go_simp⟩) ?_
  simp only [List.setIfInBounds_toArray, List.set_cons_zero, List.set_cons_succ]
  refine wpAny_take_at (i := 13) (v := .agg S1.toArray) rfl rfl (by kernel_rfl) (by kernel_rfl) (by kernel_rfl) (fun _ _ _ h => h) (Or.inl ⟨by rfl, fun w => by go_simp⟩) ?_
  simp only [List.setIfInBounds_toArray, List.set_cons_zero, List.set_cons_succ]
  refine wpAny_take_at (i := 14) (v := .agg T1.toArray) rfl rfl (by kernel_rfl) (by kernel_rfl) (by kernel_rfl) (fun _ _ _ h => h) (Or.inl ⟨by rfl, fun w => by go_simp⟩) ?_
  simp only [List.setIfInBounds_toArray, List.set_cons_zero, List.set_cons_succ]
  have m1 := Lib.hid (L0.out.below y1 L0.out.lt)
  refine wpAny_take_at (i := 15) (v := .pointer (some ⟨g, 0, none⟩)) rfl rfl (by kernel_rfl) (by kernel_rfl) (by kernel_rfl) (fun _ _ _ h => h) (Or.inl ⟨by rfl, fun w => by go_simp⟩) ?_
  simp only [List.setIfInBounds_toArray, List.set_cons_zero, List.set_cons_succ]
  refine wpAny_take_at (i := 16) (v := .pointer (some ⟨g, 10, none⟩)) rfl rfl (by kernel_rfl) (by kernel_rfl) (by kernel_rfl) (fun _ _ _ h => h) (Or.inl ⟨by rfl, fun w => by go_simp⟩) ?_
  simp only [List.setIfInBounds_toArray, List.set_cons_zero, List.set_cons_succ]
  refine wpAny_ready (rs := [17]) (by kernel_rfl) (by simp) ?_
  refine AllReady.cons rfl (fun K hK => ?_) AllReady.nil
  refine step_store_part rfl (.tmp 39) (.tmp 36) rfl g 10 S1 rfl rfl (FL.out hS1).1 (FL.out hS1).2 (m1.out.there 10 (by decide)) ?_
  intro p1 hp1 op1
  refine hK _ _ ?_
  clear hK K
  have q1 : Hid (LadB p1 g A S0 S1 T0 E) := by rw [hp1]; exact m1.out.set2 (FL.out hS1).1
  refine wpAny_take_at (i := 18) (v := .pointer (some ⟨g, 0, none⟩)) rfl rfl (by kernel_rfl) (by kernel_rfl) (by kernel_rfl) (fun _ _ _ h => h) (Or.inl ⟨by rfl, fun w => by go_simp⟩) ?_
  simp only [List.setIfInBounds_toArray, List.set_cons_zero, List.set_cons_succ]
  refine wpAny_take_at (i := 19) (v := .pointer (some ⟨g, 20, none⟩)) rfl rfl (by kernel_rfl) (by kernel_rfl) (by kernel_rfl) (fun _ _ _ h => h) (Or.inl ⟨by rfl, fun w => by go_simp⟩) ?_
  simp only [List.setIfInBounds_toArray, List.set_cons_zero, List.set_cons_succ]
  refine wpAny_ready (rs := [20]) (by kernel_rfl) (by simp) ?_
  refine AllReady.cons rfl (fun K hK => ?_) AllReady.nil
  refine step_store_part rfl (.tmp 41) (.tmp 37) rfl g 20 T1 rfl rfl (FL.out hT1).1 (FL.out hT1).2 (q1.out.there 20 (by decide)) ?_
  intro X1 hX1 oX1
  refine hK _ _ ?_
  clear hK K
  have L1 : Hid (LadB X1 g A S0 S1 T0 T1) := by rw [hX1]; exact q1.out.set4 (FL.out hT1).1
  have KO2 : Hid (Only g w X1) := ((KO1.out.trans (Only.of_below y1)).trans op1).trans oX1
  have HS1 := Lib.hid hS1
  have HT1 := Lib.hid hT1
  clear hS1 hT1 m1 q1 hp1 hX1 op1 oX1 y1 k1 L0 KO1
  refine wpAny_done (by kernel_rfl) ?_ _
  go_wp2
  go_end0
  exact ⟨rfl, KO2.out, S0, S1, T0, T1, L1.out, HS0.out, HS1.out, HT0.out, HT1.out⟩

end Go.Proofs.YtdojalhaklkegaaDoor

namespace Go.Proofs.YtdojalhaklkegaaDoor
open Go.RowKit
set_option linter.unusedVariables false

theorem five {L : List Value} (h : L.length = 5) : ∃ a b c d e, L = [a, b, c, d, e] := by
  match L, h with
  | [a, b, c, d, e], _ => exact ⟨a, b, c, d, e, rfl⟩

/-- An operation that yields a value. -/
theorem wpList_valueL {P : Program} {ops : Array Oper} {rest : List Oper} {o : Oper} {a : Act} {w : World} {Q : Exit → Act → World → Prop} (hg : o.guard = none) (v : Value)
    (h : (execOp a.eval o).run P w = .ok (.value v) w) (hk : wpList P ops Q rest (a.put o.dst v) w) : wpList P ops Q (o :: rest) a w := by
  refine wpList_plain hg fun K hK => ?_
  unfold Oper.wp
  rw [h]
  exact hK _ _ hk

theorem built_lad {A C D : List Value} (hA : A.length = 5) (hC : C.length = 5) (hD : D.length = 5) {o : Oper} {a : Act} (w : World) (x0 x1 x2 x3 x4 : Operand) (ho : o.op = .build 64 #[(0, x0), (1, x1), (2, x2), (3, x3), (4, x4)])
   (h0 : a.eval x0 = .agg A.toArray) (h1 : a.eval x1 = .agg D.toArray) (h2 : a.eval x2 = .agg C.toArray) (h3 : a.eval x3 = .agg A.toArray) (h4 : a.eval x4 = .agg D.toArray) :
   (execOp a.eval o).run Tryd.prog w = .ok (.value (.agg (A ++ (D ++ (C ++ (A ++ D)))).toArray)) w := by
  obtain ⟨a0, a1, a2, a3, a4, rfl⟩ := five hA
  obtain ⟨c0, c1, c2, c3, c4, rfl⟩ := five hC
  obtain ⟨d0, d1, d2, d3, d4, rfl⟩ := five hD
  unfold execOp
  simp only [ho]
  simp only [List.map_toArray, List.map_cons, List.map_nil, h0, h1, h2, h3, h4]
  rw [Sem.run_bind, run_build (P := Tryd.prog) w _ _ _ (by kernel_rfl)]
  rfl

theorem M.told_none8 : M.told [] % M.Q = 0 := by decide +kernel
theorem M.told_one8 : M.told [1] % M.Q = 1 := by decide +kernel

set_option maxRecDepth 100000 in
set_option maxHeartbeats 4000000 in
theorem begun_any {Fe : List Value → Nat → Prop} (F : FieldOk Fe) (A : List Value) (u : Nat) (w : World) (hA : Fe A u) :
    Calls Tryd.prog 29 #[.agg A.toArray] w fun e w' => ∃ B C D : List Value, e = .returned (.agg (A ++ (B ++ (C ++ (A ++ D)))).toArray) ∧ Fe B 1 ∧ Fe C 0 ∧ Fe D 1 ∧ Below w.heap.size w w' := by
  have FL : Hid (∀ {L n}, Fe L n → L.length = 5 ∧ ∀ u ∈ L, u.oneCell' = true) := fun h => ⟨F.len h, F.one h⟩
  have C0 : Hid (∀ w, Calls Tryd.prog 30 #[.slice none 0 0] w (GivesE Fe w 0)) := fun w => by have := F.from_ (.slice none 0 0) [] w (IsB.nil w); rwa [M.told_none8] at this
  have C1 : Hid (∀ w v, IsB w v [1] → Calls Tryd.prog 30 #[v] w (GivesE Fe w 1)) := fun w v h => by have := F.from_ v [1] w h; rwa [M.told_one8] at this
  have HA := Lib.hid hA
  obtain ⟨g, hg⟩ : ∃ v, v = w.heap.size := ⟨_, rfl⟩
  obtain ⟨W, hW⟩ : ∃ W, Hid (W = (w.alloc (.cells A.toArray 62)).alloc (.cells (z5 ++ (z5 ++ (z5 ++ (z5 ++ z5)))).toArray 64)) := ⟨_, rfl⟩
  have B0 : Hid (Blk W g 62 A) := by rw [hW.out, hg]; exact (Blk.newAt _ _ _ _ _ rfl rfl).alloc _
  have B1 : Hid (Blk W (g + 1) 64 (z5 ++ (z5 ++ (z5 ++ (z5 ++ z5))))) := by rw [hW.out, hg]; exact Blk.newAt _ _ _ _ _ (by simp) rfl
  have K0 : Hid (Below w.heap.size w W) := by rw [hW.out]; exact ((Below.refl _ _).alloc (Nat.le_refl _) _).alloc (by simp) _
  have HG : Hid (w.heap.size ≤ g) := by rw [Hid]; omega
  have ez : (z5 ++ (z5 ++ (z5 ++ (z5 ++ z5)))).toArray = #[Value.int .u64 0, Value.int .u64 0, Value.int .u64 0, Value.int .u64 0, Value.int .u64 0, Value.int .u64 0, Value.int .u64 0, Value.int .u64 0, Value.int .u64 0, Value.int .u64 0, Value.int .u64 0, Value.int .u64 0, Value.int .u64 0, Value.int .u64 0, Value.int .u64 0, Value.int .u64 0, Value.int .u64 0, Value.int .u64 0, Value.int .u64 0, Value.int .u64 0, Value.int .u64 0, Value.int .u64 0, Value.int .u64 0, Value.int .u64 0, Value.int .u64 0] := rfl
  clear hA F
  go_enter Tryd.func29, Tryd.ntmps29
  go_upto_region 1 with fail
  rw [← ez, ← hW.out, ← hg]
  clear hW hg ez
  go_wp2_with fail
  refine (C0.out W).mono ?_
  rintro e w1 ⟨C, rfl, hC, k1⟩
  have A1 : IsB (w1.alloc (.cells #[.int .u8 1] 5)) (.slice (some ⟨w1.heap.size, 0, none⟩) 1 1) [1] := isB_one w1 5 1 1 rfl
  have D1 := Lib.hid (C1.out _ _ A1)
  have y1 : Below W.heap.size W (w1.alloc (.cells #[.int .u8 1] 5)) := k1.alloc k1.size _
  clear A1 C0 C1
  go_wp2_with fail
  refine D1.out.mono ?_
  rintro e w2 ⟨D, rfl, hD, k2⟩
  have y2 : Below W.heap.size W w2 := y1.trans (k2.mono y1.size)
  have b0 := Lib.hid (B0.out.below y2 B0.out.lt)
  have b1 := Lib.hid (B1.out.below y2 B1.out.lt)
  have KK := Lib.hid (K0.out.trans (y2.mono K0.out.size))
  have HC := Lib.hid hC
  have HD := Lib.hid hD
  have HGE : Hid (g + 1 < w2.heap.size) := b1.out.lt
  clear hC hD y1 y2 k1 k2 D1 B0 B1 K0
  obtain ⟨p, hp⟩ : ∃ v, v = w2.heap.size := ⟨_, rfl⟩
  obtain ⟨V, hV⟩ : ∃ V, V = (w2.alloc (.cells z5.toArray 62)).alloc (.cells z5.toArray 62) := ⟨_, rfl⟩
  have N3 : Blk V p 62 z5 := by rw [hV, hp]; exact (Blk.newAt _ _ _ _ _ rfl rfl).alloc _
  have N4 : Blk V (p + 1) 62 z5 := by rw [hV, hp]; exact Blk.newAt _ _ _ _ _ (by simp) rfl
  have kv : Below w2.heap.size w2 V := by rw [hV]; exact ((Below.refl _ _).alloc (Nat.le_refl _) _).alloc (by simp) _
  go_upto_region 2 with (first
    | (rw [← z5_arr, ← hV, ← hp]; refine wpList_store_el rfl rfl (.tmp 3) (.tmp 5) rfl p rfl C z5 rfl N3 z5_len (FL.out HC.out).1 (FL.out HC.out).2 ?_; intro V1 hb1 ho1)
    | (refine wpList_store_el rfl rfl (.tmp 4) (.tmp 7) rfl (p + 1) rfl D z5 rfl (N4.grown ho1 (by intro e; injection e with e; omega)) z5_len (FL.out HD.out).1 (FL.out HD.out).2 ?_; intro V2 hb2 ho2))
  have q0 : Hid (Blk V2 g 62 A) := ((b0.out.below kv b0.out.lt).grown ho1 (by intro e; injection e with e; have := HGE.out; omega)).grown ho2 (by intro e; injection e with e; have := HGE.out; omega)
  have q1 : Hid (Blk V2 (g + 1) 64 (z5 ++ (z5 ++ (z5 ++ (z5 ++ z5))))) := ((b1.out.below kv b1.out.lt).grown ho1 (by intro e; injection e with e; have := HGE.out; omega)).grown ho2 (by intro e; injection e with e; have := HGE.out; omega)
  have q3 : Hid (Blk V2 p 62 C) := (show Blk V1 p 62 C from hb1).grown ho2 (by intro e; injection e with e; omega)
  have q4 : Hid (Blk V2 (p + 1) 62 D) := hb2
  have KV : Hid (Below w.heap.size w V2) := by
    have h1 := KK.out.trans (kv.mono KK.out.size)
    have h2 := h1.trans (ho1.below h1.size (by have := KK.out.size; omega))
    exact h2.trans (ho2.below h2.size (by have := KK.out.size; omega))
  obtain ⟨a0, a1, a2, a3, a4, ea⟩ := five (FL.out HA.out).1
  obtain ⟨c0, c1, c2, c3, c4, ec⟩ := five (FL.out HC.out).1
  obtain ⟨d0, d1, d2, d3, d4, ed⟩ := five (FL.out HD.out).1
  have EA := Lib.hid ea
  have EC := Lib.hid ec
  have ED := Lib.hid ed
  obtain ⟨R, hR⟩ : ∃ R, Hid (R = A ++ (D ++ (C ++ (A ++ D)))) := ⟨_, rfl⟩
  have HLN : Hid (R.length = 25) := by rw [hR.out, ea, ec, ed]; rfl
  have HON : Hid (∀ v ∈ R, v.oneCell' = true) := by
    rw [hR.out]
    intro v hv
    simp only [List.mem_append] at hv
    rcases hv with h | h | h | h | h
    · exact (FL.out HA.out).2 v h
    · exact (FL.out HD.out).2 v h
    · exact (FL.out HC.out).2 v h
    · exact (FL.out HA.out).2 v h
    · exact (FL.out HD.out).2 v h
  clear hb1 ho1 hb2 ho2 N3 N4 kv hV hp b0 b1 KK ea ec ed
  refine wp_region_lit ?_
  refine wpList_load_el rfl (.tmp 1) rfl g rfl A q0.out (FL.out HA.out).1 ?_
  refine wpList_load_el rfl (.tmp 4) rfl (p + 1) rfl D q4.out (FL.out HD.out).1 ?_
  refine wpList_load_el rfl (.tmp 3) rfl p rfl C q3.out (FL.out HC.out).1 ?_
  refine wpList_load_el rfl (.tmp 1) rfl g rfl A q0.out (FL.out HA.out).1 ?_
  refine wpList_load_el rfl (.tmp 4) rfl (p + 1) rfl D q4.out (FL.out HD.out).1 ?_
  refine wpList_valueL rfl (.agg R.toArray) (by rw [hR.out]; exact built_lad (FL.out HA.out).1 (FL.out HC.out).1 (FL.out HD.out).1 _ (.tmp 8) (.tmp 9) (.tmp 10) (.tmp 11) (.tmp 12) rfl rfl rfl rfl rfl rfl) ?_
  refine wpList_store_blk rfl 64 (.tmp 2) (.tmp 13) rfl (g + 1) R.toArray rfl rfl 64 (z5 ++ (z5 ++ (z5 ++ (z5 ++ z5)))) q1.out (by rw [List.size_toArray, HLN.out]; kernel_rfl) (by rw [List.size_toArray, HLN.out]; rfl) HON.out ?_
  intro V3 hb3 ho3
  refine wpList_nil ?_
  go_wp2
  exact bodyPost_ret (results_cell_row rfl _ _ (g + 1) _ _ _ _ rfl hb3 Tryd.underlying64 rfl (by rw [List.size_toArray, HLN.out]; kernel_rfl)) rfl ⟨D, C, D, by rw [hR.out], HD.out, HC.out, HD.out, KV.out.trans (ho3.below KV.out.size (by have := HG.out; omega))⟩

end Go.Proofs.YtdojalhaklkegaaDoor

namespace Go.Proofs.YtdojalhaklkegaaDoor
open Go.RowKit
set_option linter.unusedVariables false

theorem not_nil (ad : Addr) (n cap : Nat) (w : World) : (binOp .eql 24 (.slice (some ad) n cap) (.slice none 0 0)).run Tryd.prog w = .ok (.bool false) w := rfl

set_option maxHeartbeats 2000000 in
theorem clone_any (kv : Value) (ks : List UInt8) (w : World) (hk : IsB w kv ks) (hkl : ks.length = 32) :
    Calls Tryd.prog 50 #[kv] w (Makes w ks) := by
  have HK := Lib.hid hk
  have HKL := Lib.hid hkl
  have HNIL : Hid (∀ n c, kv = .slice none n c → c = 0) := by
    intro n c e
    obtain ⟨ao, cap, e2, h1, h2, h3⟩ := hk
    rcases h3 with h | ⟨b, off, h4, h⟩
    · rw [h] at hkl; simp at hkl
    · rw [h4] at e2; rw [e2] at e; cases e
  obtain ⟨ad, cap, rfl⟩ : ∃ ad cap, kv = .slice (some ad) 32 cap := by
    obtain ⟨ao, cap, e2, h1, h2, h3⟩ := hk
    rcases h3 with h | ⟨b, off, h4, h⟩
    · rw [h] at hkl; simp at hkl
    · rw [h4, hkl] at e2; exact ⟨_, cap, e2⟩
  have hnn := not_nil ad 32 cap
  clear hk hkl
  go_enter Tryd.func50, Tryd.ntmps50
  go_wp2_with (at_builtin; go_must (refine wpList_app _ rfl _ _ rfl w.heap.size _ [] rfl ?c1 _ ks rfl ?c2 HNIL.out (by rw [HKL.out]; simp) (by simp) ?_))
  case c1 => exact own_empty w
  case c2 => exact HK.out.below ((Below.refl _ _).alloc (Nat.le_refl _) _)
  intro r1 w1 o1 b1 z1
  have K1 : Below w.heap.size w w1 := ((Below.refl _ _).alloc (Nat.le_refl _) (.cells #[] 5)).trans b1
  clear z1 b1
  go_wp2
  go_ret
  exact ⟨r1, rfl, o1, K1⟩

theorem not7 (x : Nat) (h : x < 256) : bits BinOp.andNot .u8 (x : Int) 7 = ((x / 8 * 8 : Nat) : Int) := by
  have : ∀ x : Fin 256, bits BinOp.andNot .u8 (x.val : Int) 7 = ((x.val / 8 * 8 : Nat) : Int) := by decide +kernel
  exact this ⟨x, h⟩

theorem not128 (x : Nat) (h : x < 256) : bits BinOp.andNot .u8 (x : Int) 128 = ((x % 128 : Nat) : Int) := by
  have : ∀ x : Fin 256, bits BinOp.andNot .u8 (x.val : Int) 128 = ((x.val % 128 : Nat) : Int) := by decide +kernel
  exact this ⟨x, h⟩

theorem or64 (x : Nat) (h : x < 128) : bits BinOp.or .u8 (x : Int) 64 = ((x % 64 + 64 : Nat) : Int) := by
  have : ∀ x : Fin 128, bits BinOp.or .u8 (x.val : Int) 64 = ((x.val % 64 + 64 : Nat) : Int) := by decide +kernel
  exact this ⟨x, h⟩

set_option maxHeartbeats 2000000 in
theorem clamp_any (kv : Value) (ks : List UInt8) (w : World) (hk : IsB w kv ks) (hkl : ks.length = 32) :
    Calls Tryd.prog 28 #[kv] w (MakesOk w (M.clampB ks)) := by
  have HC := Lib.hid (clone_any kv ks w hk hkl)
  have HKL := Lib.hid hkl
  obtain ⟨ao, cap, rfl⟩ := hk.shape
  rw [hkl] at HC ⊢
  obtain ⟨x, hx⟩ : ∃ x, Hid (x = (ks.getD 0 0).toNat) := ⟨_, rfl⟩
  obtain ⟨y, hy⟩ : ∃ x, Hid (x = (ks.getD 31 0).toNat) := ⟨_, rfl⟩
  have hxb : x < 256 := by rw [hx.out]; exact UInt8.toNat_lt _
  have hyb : y < 256 := by rw [hy.out]; exact UInt8.toNat_lt _
  obtain ⟨u, hu⟩ : ∃ v, v = x / 8 * 8 := ⟨_, rfl⟩
  obtain ⟨y7, hy7⟩ : ∃ v, v = y % 128 := ⟨_, rfl⟩
  obtain ⟨v, hv⟩ : ∃ v, v = y7 % 64 + 64 := ⟨_, rfl⟩
  have s1 : bits BinOp.andNot .u8 (x : Int) 7 = (u : Int) := by rw [not7 x hxb, hu]
  have s2 : bits BinOp.andNot .u8 (y : Int) 128 = (y7 : Int) := by rw [not128 y hyb, hy7]
  have s3 : bits BinOp.or .u8 (y7 : Int) 64 = (v : Int) := by rw [or64 y7 (by omega), hv]
  have HU : Hid ((UInt8.ofNat u).toNat = u ∧ u = (ks.getD 0 0).toNat / 8 * 8) := ⟨M.of_nat8 u (by omega), by rw [hu, hx.out]⟩
  have HV : Hid ((UInt8.ofNat v).toNat = v ∧ v = (ks.getD 31 0).toNat % 64 + 64) := ⟨M.of_nat8 v (by omega), by rw [← hy.out]; omega⟩
  clear hk hkl hxb hyb hu hy7 hv
  go_enter Tryd.func28, Tryd.ntmps28
  go_wp2_with fail
  refine HC.out.mono ?_
  rintro e w1 ⟨r1, rfl, o2, k1⟩
  have K1 : Hid (Below w.heap.size w w1) := k1
  obtain ⟨g, cap2, rfl, hg⟩ := o2.shape (by rw [HKL.out]; decide)
  have hrow : w1.ownsRow w.heap.size 5 1 (.slice (some ⟨g, 0, none⟩) 32 cap2) 32 (Lib.byteCells ks) := by
    have h := o2
    rw [HKL.out] at h
    rwa [Own, HKL.out] at h
  rw [HKL.out]
  clear o2 k1 HC
  have c0 : w1.cell? ⟨g, 0, none⟩ = some (.int .u8 (x : Int)) := by rw [hrow.cellAt 0 (by decide), byteCells_getElem? _ _ (by rw [HKL.out]; decide), hx.out]
  have f0 : w1.frozen? ⟨g, 0, none⟩ = false := hrow.frozenAt 0
  have r2 := (hrow.stored 0 (.int .u8 (u : Int))).1
  have e2 : (Lib.byteCells ks).set 0 (.int .u8 (u : Int)) = Lib.byteCells (ks.set 0 (UInt8.ofNat u)) := by rw [← bc_set, HU.out.1]
  rw [e2] at r2
  obtain ⟨w2, hw2⟩ : ∃ v, v = w1.setCell ⟨g, 0, none⟩ (.int .u8 (u : Int)) := ⟨_, rfl⟩
  rw [← hw2] at r2
  have K2 : Hid (Below w.heap.size w w2) := by rw [hw2]; exact K1.out.setCell hg _
  have c31 : w2.cell? ⟨g, 31, none⟩ = some (.int .u8 (y : Int)) := by rw [r2.cellAt 31 (by decide), byteCells_getElem? _ _ (by rw [List.length_set, HKL.out]; decide), hy.out]; simp [List.getD_eq_getElem?_getD]
  have f31 : w2.frozen? ⟨g, 31, none⟩ = false := r2.frozenAt 31
  have r3 := (r2.stored 31 (.int .u8 (v : Int))).1
  have e3 : (Lib.byteCells (ks.set 0 (UInt8.ofNat u))).set 31 (.int .u8 (v : Int)) = Lib.byteCells (M.clampB ks) := by rw [M.clampB, ← HU.out.2, ← HV.out.2, ← bc_set (ks.set 0 (UInt8.ofNat u)) 31, HV.out.1]
  rw [e3] at r3
  have R3 := Lib.hid r3
  clear r2 r3 hrow e2 e3
  go_upto_region 5 with fail
  rw [← hw2]
  clear hw2 c0 f0
  go_wp2
  go_ret2
  exact ⟨_, rfl, by rw [Own, M.clampB_length, HKL.out]; exact R3.out, K2.out.setCell hg _⟩

end Go.Proofs.YtdojalhaklkegaaDoor

namespace Go.Proofs.YtdojalhaklkegaaDoor
open Go.RowKit
set_option linter.unusedVariables false

namespace M
theorem sub_mod {v a b x y : Nat} (h : v + b = a + 2 * Q) (hx : a % Q = x) (hy : b % Q = y) : v % Q = (x + (Q - y)) % Q := by
  subst hx hy
  unfold Q at *
  omega
end M

set_option maxHeartbeats 2000000 in
theorem fadd_any (A B : List Value) (x y : Nat) (w : World) (hA : Fl A x) (hB : Fl B y) :
    Calls Tryd.prog 85 #[.agg A.toArray, .agg B.toArray] w (GivesE Fl w ((x + y) % M.Q)) := by
  have hAl := hA.len
  have hBl := hB.len
  have hy := hB.lt
  obtain ⟨a0, a1, a2, a3, a4, ha, ⟨la0, la1, la2, la3, la4⟩, hx⟩ := hA
  obtain ⟨b0, b1, b2, b3, b4, hb, ⟨lb0, lb1, lb2, lb3, lb4⟩, hyy⟩ := hB
  obtain ⟨n0, hn0⟩ : ∃ v, v = a0 + b0 := ⟨_, rfl⟩
  obtain ⟨n1, hn1⟩ : ∃ v, v = a1 + b1 := ⟨_, rfl⟩
  obtain ⟨n2, hn2⟩ : ∃ v, v = a2 + b2 := ⟨_, rfl⟩
  obtain ⟨n3, hn3⟩ : ∃ v, v = a3 + b3 := ⟨_, rfl⟩
  obtain ⟨n4, hn4⟩ : ∃ v, v = a4 + b4 := ⟨_, rfl⟩
  obtain ⟨r, hr⟩ : ∃ r, r = (x + y) % M.Q := ⟨_, rfl⟩
  rw [← hr]
  have hv : M.V5 n0 n1 n2 n3 n4 % M.Q = r := by
    rw [hn0, hn1, hn2, hn3, hn4, M.add_ok, hr, Nat.add_mod, hx, hyy]
  have C := Lib.hid (fun w => fcarried_any n0 n1 n2 n3 n4 w (by omega) (by omega) (by omega) (by omega) (by omega) r hv)
  have s0 : IntKind.u64.wrap ((a0 : Int) + (b0 : Int)) = (n0 : Int) := by rw [IntKind.wrap_u64]; omega
  have s0' : ((a0 : Int) + (b0 : Int)) % 18446744073709551616 = (n0 : Int) := by omega
  have s1 : IntKind.u64.wrap ((a1 : Int) + (b1 : Int)) = (n1 : Int) := by rw [IntKind.wrap_u64]; omega
  have s1' : ((a1 : Int) + (b1 : Int)) % 18446744073709551616 = (n1 : Int) := by omega
  have s2 : IntKind.u64.wrap ((a2 : Int) + (b2 : Int)) = (n2 : Int) := by rw [IntKind.wrap_u64]; omega
  have s2' : ((a2 : Int) + (b2 : Int)) % 18446744073709551616 = (n2 : Int) := by omega
  have s3 : IntKind.u64.wrap ((a3 : Int) + (b3 : Int)) = (n3 : Int) := by rw [IntKind.wrap_u64]; omega
  have s3' : ((a3 : Int) + (b3 : Int)) % 18446744073709551616 = (n3 : Int) := by omega
  have s4 : IntKind.u64.wrap ((a4 : Int) + (b4 : Int)) = (n4 : Int) := by rw [IntKind.wrap_u64]; omega
  have s4' : ((a4 : Int) + (b4 : Int)) % 18446744073709551616 = (n4 : Int) := by omega
  obtain ⟨g, hg⟩ : ∃ g, g = w.heap.size := ⟨_, rfl⟩
  obtain ⟨W, hW⟩ : ∃ W, Hid (W = ((w.alloc (.cells A.toArray 62)).alloc (.cells B.toArray 62)).alloc (.cells z5.toArray 62)) := ⟨_, rfl⟩
  have A0 : Blk W g 62 A := by rw [hW.out, hg]; exact ((Blk.newAt _ _ _ _ _ rfl (by simp)).alloc _).alloc _
  have A1 : Blk W (g + 1) 62 B := by rw [hW.out, hg]; exact (Blk.newAt _ _ _ _ _ (by simp) (by simp)).alloc _
  have A2 : Hid (Blk W (g + 1 + 1) 62 z5) := by rw [hW.out, hg]; exact Blk.newAt _ _ _ _ _ (by simp) (by simp)
  have K0 : Hid (Below w.heap.size w W) := by rw [hW.out]; exact (((Below.refl _ _).alloc (Nat.le_refl _) _).alloc (by simp) _).alloc (by simp; omega) _
  have HG : Hid (w.heap.size ≤ g + 1 + 1) := by rw [Hid]; omega
  have c0 : W.cell? ⟨g, 0, none⟩ = some (.int .u64 (a0 : Int)) := by rw [A0.cell, ha]; rfl
  have d0 : W.cell? ⟨g + 1, 0, none⟩ = some (.int .u64 (b0 : Int)) := by rw [A1.cell, hb]; rfl
  have c1 : W.cell? ⟨g, 1, none⟩ = some (.int .u64 (a1 : Int)) := by rw [A0.cell, ha]; rfl
  have d1 : W.cell? ⟨g + 1, 1, none⟩ = some (.int .u64 (b1 : Int)) := by rw [A1.cell, hb]; rfl
  have c2 : W.cell? ⟨g, 2, none⟩ = some (.int .u64 (a2 : Int)) := by rw [A0.cell, ha]; rfl
  have d2 : W.cell? ⟨g + 1, 2, none⟩ = some (.int .u64 (b2 : Int)) := by rw [A1.cell, hb]; rfl
  have c3 : W.cell? ⟨g, 3, none⟩ = some (.int .u64 (a3 : Int)) := by rw [A0.cell, ha]; rfl
  have d3 : W.cell? ⟨g + 1, 3, none⟩ = some (.int .u64 (b3 : Int)) := by rw [A1.cell, hb]; rfl
  have c4 : W.cell? ⟨g, 4, none⟩ = some (.int .u64 (a4 : Int)) := by rw [A0.cell, ha]; rfl
  have d4 : W.cell? ⟨g + 1, 4, none⟩ = some (.int .u64 (b4 : Int)) := by rw [A1.cell, hb]; rfl
  clear A0 A1 ha hb hv hr hx hyy hy hn0 la0 lb0 hn1 la1 lb1 hn2 la2 lb2 hn3 la3 lb3 hn4 la4 lb4
  go_enter Tryd.func85, Tryd.ntmps85
  go_upto_region 1 with fail
  rw [← z5_arr, ← hW.out, ← hg]
  clear hW hg
  go_wp2_with fail
  refine (C.out _).mono ?_
  rintro e w1 ⟨L, rfl, hL, k1⟩
  have B2 : Hid (Blk w1 (g + 1 + 1) 62 z5) := A2.out.below k1 A2.out.lt
  have K1 : Hid (Below w.heap.size w w1) := K0.out.trans (k1.mono K0.out.size)
  go_wp2_with (refine wpList_store_el rfl rfl (.tmp 4) (.tmp 40) rfl (g + 1 + 1) rfl L z5 rfl B2.out z5_len hL.len hL.one ?_; intro w3 hb3 ho3)
  exact bodyPost_ret (results_cell_row rfl _ _ (g + 1 + 1) _ _ _ _ rfl hb3 Tryd.underlying62 rfl (by rw [List.size_toArray, hL.len]; kernel_rfl)) rfl ⟨L, rfl, hL, K1.out.trans (ho3.below K1.out.size HG.out)⟩

set_option maxHeartbeats 2000000 in
theorem fsub_any (A B : List Value) (x y : Nat) (w : World) (hA : Fl A x) (hB : Fl B y) :
    Calls Tryd.prog 86 #[.agg A.toArray, .agg B.toArray] w (GivesE Fl w ((x + (M.Q - y)) % M.Q)) := by
  have hAl := hA.len
  have hBl := hB.len
  have hy := hB.lt
  obtain ⟨a0, a1, a2, a3, a4, ha, ⟨la0, la1, la2, la3, la4⟩, hx⟩ := hA
  obtain ⟨b0, b1, b2, b3, b4, hb, ⟨lb0, lb1, lb2, lb3, lb4⟩, hyy⟩ := hB
  obtain ⟨u0, hu0⟩ : ∃ v, v = a0 + 4503599627370458 := ⟨_, rfl⟩
  obtain ⟨n0, hn0⟩ : ∃ v, v = u0 - b0 := ⟨_, rfl⟩
  obtain ⟨u1, hu1⟩ : ∃ v, v = a1 + 4503599627370494 := ⟨_, rfl⟩
  obtain ⟨n1, hn1⟩ : ∃ v, v = u1 - b1 := ⟨_, rfl⟩
  obtain ⟨u2, hu2⟩ : ∃ v, v = a2 + 4503599627370494 := ⟨_, rfl⟩
  obtain ⟨n2, hn2⟩ : ∃ v, v = u2 - b2 := ⟨_, rfl⟩
  obtain ⟨u3, hu3⟩ : ∃ v, v = a3 + 4503599627370494 := ⟨_, rfl⟩
  obtain ⟨n3, hn3⟩ : ∃ v, v = u3 - b3 := ⟨_, rfl⟩
  obtain ⟨u4, hu4⟩ : ∃ v, v = a4 + 4503599627370494 := ⟨_, rfl⟩
  obtain ⟨n4, hn4⟩ : ∃ v, v = u4 - b4 := ⟨_, rfl⟩
  obtain ⟨r, hr⟩ : ∃ r, r = (x + (M.Q - y)) % M.Q := ⟨_, rfl⟩
  rw [← hr]
  have hv : M.V5 n0 n1 n2 n3 n4 % M.Q = r := by
    have h := M.sub_ok a0 a1 a2 a3 a4 b0 b1 b2 b3 b4 (by omega) (by omega) (by omega) (by omega) (by omega)
    rw [← hu0, ← hu1, ← hu2, ← hu3, ← hu4, ← hn0, ← hn1, ← hn2, ← hn3, ← hn4] at h
    rw [hr]
    exact M.sub_mod h hx hyy
  have C := Lib.hid (fun w => fcarried_any n0 n1 n2 n3 n4 w (by omega) (by omega) (by omega) (by omega) (by omega) r hv)
  have s0 : IntKind.u64.wrap ((a0 : Int) + 4503599627370458) = (u0 : Int) := by rw [IntKind.wrap_u64]; omega
  have s0' : ((a0 : Int) + 4503599627370458) % 18446744073709551616 = (u0 : Int) := by omega
  have t0 : IntKind.u64.wrap ((u0 : Int) - (b0 : Int)) = (n0 : Int) := by rw [IntKind.wrap_u64]; omega
  have t0' : ((u0 : Int) - (b0 : Int)) % 18446744073709551616 = (n0 : Int) := by omega
  have s1 : IntKind.u64.wrap ((a1 : Int) + 4503599627370494) = (u1 : Int) := by rw [IntKind.wrap_u64]; omega
  have s1' : ((a1 : Int) + 4503599627370494) % 18446744073709551616 = (u1 : Int) := by omega
  have t1 : IntKind.u64.wrap ((u1 : Int) - (b1 : Int)) = (n1 : Int) := by rw [IntKind.wrap_u64]; omega
  have t1' : ((u1 : Int) - (b1 : Int)) % 18446744073709551616 = (n1 : Int) := by omega
  have s2 : IntKind.u64.wrap ((a2 : Int) + 4503599627370494) = (u2 : Int) := by rw [IntKind.wrap_u64]; omega
  have s2' : ((a2 : Int) + 4503599627370494) % 18446744073709551616 = (u2 : Int) := by omega
  have t2 : IntKind.u64.wrap ((u2 : Int) - (b2 : Int)) = (n2 : Int) := by rw [IntKind.wrap_u64]; omega
  have t2' : ((u2 : Int) - (b2 : Int)) % 18446744073709551616 = (n2 : Int) := by omega
  have s3 : IntKind.u64.wrap ((a3 : Int) + 4503599627370494) = (u3 : Int) := by rw [IntKind.wrap_u64]; omega
  have s3' : ((a3 : Int) + 4503599627370494) % 18446744073709551616 = (u3 : Int) := by omega
  have t3 : IntKind.u64.wrap ((u3 : Int) - (b3 : Int)) = (n3 : Int) := by rw [IntKind.wrap_u64]; omega
  have t3' : ((u3 : Int) - (b3 : Int)) % 18446744073709551616 = (n3 : Int) := by omega
  have s4 : IntKind.u64.wrap ((a4 : Int) + 4503599627370494) = (u4 : Int) := by rw [IntKind.wrap_u64]; omega
  have s4' : ((a4 : Int) + 4503599627370494) % 18446744073709551616 = (u4 : Int) := by omega
  have t4 : IntKind.u64.wrap ((u4 : Int) - (b4 : Int)) = (n4 : Int) := by rw [IntKind.wrap_u64]; omega
  have t4' : ((u4 : Int) - (b4 : Int)) % 18446744073709551616 = (n4 : Int) := by omega
  obtain ⟨g, hg⟩ : ∃ g, g = w.heap.size := ⟨_, rfl⟩
  obtain ⟨W, hW⟩ : ∃ W, Hid (W = ((w.alloc (.cells A.toArray 62)).alloc (.cells B.toArray 62)).alloc (.cells z5.toArray 62)) := ⟨_, rfl⟩
  have A0 : Blk W g 62 A := by rw [hW.out, hg]; exact ((Blk.newAt _ _ _ _ _ rfl (by simp)).alloc _).alloc _
  have A1 : Blk W (g + 1) 62 B := by rw [hW.out, hg]; exact (Blk.newAt _ _ _ _ _ (by simp) (by simp)).alloc _
  have A2 : Hid (Blk W (g + 1 + 1) 62 z5) := by rw [hW.out, hg]; exact Blk.newAt _ _ _ _ _ (by simp) (by simp)
  have K0 : Hid (Below w.heap.size w W) := by rw [hW.out]; exact (((Below.refl _ _).alloc (Nat.le_refl _) _).alloc (by simp) _).alloc (by simp; omega) _
  have HG : Hid (w.heap.size ≤ g + 1 + 1) := by rw [Hid]; omega
  have c0 : W.cell? ⟨g, 0, none⟩ = some (.int .u64 (a0 : Int)) := by rw [A0.cell, ha]; rfl
  have d0 : W.cell? ⟨g + 1, 0, none⟩ = some (.int .u64 (b0 : Int)) := by rw [A1.cell, hb]; rfl
  have c1 : W.cell? ⟨g, 1, none⟩ = some (.int .u64 (a1 : Int)) := by rw [A0.cell, ha]; rfl
  have d1 : W.cell? ⟨g + 1, 1, none⟩ = some (.int .u64 (b1 : Int)) := by rw [A1.cell, hb]; rfl
  have c2 : W.cell? ⟨g, 2, none⟩ = some (.int .u64 (a2 : Int)) := by rw [A0.cell, ha]; rfl
  have d2 : W.cell? ⟨g + 1, 2, none⟩ = some (.int .u64 (b2 : Int)) := by rw [A1.cell, hb]; rfl
  have c3 : W.cell? ⟨g, 3, none⟩ = some (.int .u64 (a3 : Int)) := by rw [A0.cell, ha]; rfl
  have d3 : W.cell? ⟨g + 1, 3, none⟩ = some (.int .u64 (b3 : Int)) := by rw [A1.cell, hb]; rfl
  have c4 : W.cell? ⟨g, 4, none⟩ = some (.int .u64 (a4 : Int)) := by rw [A0.cell, ha]; rfl
  have d4 : W.cell? ⟨g + 1, 4, none⟩ = some (.int .u64 (b4 : Int)) := by rw [A1.cell, hb]; rfl
  clear A0 A1 ha hb hv hr hx hyy hy hn0 la0 lb0 hu0 hn1 la1 lb1 hu1 hn2 la2 lb2 hu2 hn3 la3 lb3 hu3 hn4 la4 lb4 hu4
  go_enter Tryd.func86, Tryd.ntmps86
  go_upto_region 1 with fail
  rw [← z5_arr, ← hW.out, ← hg]
  clear hW hg
  go_wp2_with fail
  refine (C.out _).mono ?_
  rintro e w1 ⟨L, rfl, hL, k1⟩
  have B2 : Hid (Blk w1 (g + 1 + 1) 62 z5) := A2.out.below k1 A2.out.lt
  have K1 : Hid (Below w.heap.size w w1) := K0.out.trans (k1.mono K0.out.size)
  go_wp2_with (refine wpList_store_el rfl rfl (.tmp 4) (.tmp 45) rfl (g + 1 + 1) rfl L z5 rfl B2.out z5_len hL.len hL.one ?_; intro w3 hb3 ho3)
  exact bodyPost_ret (results_cell_row rfl _ _ (g + 1 + 1) _ _ _ _ rfl hb3 Tryd.underlying62 rfl (by rw [List.size_toArray, hL.len]; kernel_rfl)) rfl ⟨L, rfl, hL, K1.out.trans (ho3.below K1.out.size HG.out)⟩

end Go.Proofs.YtdojalhaklkegaaDoor
