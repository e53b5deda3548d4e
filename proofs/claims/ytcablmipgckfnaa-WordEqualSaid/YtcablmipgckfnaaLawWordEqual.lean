/-
  orloplaw01.WordEqual returns true for every two rows of bytes and every turn, and leaves what was there: 'Rows.WordEqualSaid'. Conditions: none.
-/
import Derived.Test.YtcablmipgckfnaaRows
import Derived.WalkKit
import Derived.ProofKit
import Derived.OpenShut
import Derived.ShutString
import Derived.ChangeOld
import Derived.Below
import Derived.Test.YtcablmipgckfnaaOpen
import Derived.Test.YtcablmipgckfnaaLawEqualWalk
namespace Go.Proofs.Ytcablmipgckfnaa.wordEqual
open Go.ChangeShapes Go.WideShapes Go.ChangeAt Go.RowKit
open Go.ChangeMaps (open_string shut_string)
set_option linter.unusedVariables false

theorem own : ownKnob Try.prog.godebug = none := by kernel_rfl
theorem laidOut : laidOutB Try.prog = true := by kernel_rfl

set_option maxRecDepth 100000 in
theorem lifted (os : Os) (started : os.Started) (H : Type) (enc : TypeId × Value → H) :
    ReturnsInHanded {} Try.checked os 5 .any (Rows.wordEqualSpec.pre6 enc Try.prog Try.f5 Rows.wordEqualRow.domain false) (Rows.wordEqualSpec.post enc Try.prog Try.f5 false true false false) := by
  refine returnsInHanded_of_change (C := Try.checked) own started (by kernel_rfl) Try.func5
    (ChangeSpec.witness6 (enc := enc) (C := Try.checked) false ⟨#[], #[.slice none 0 0, .slice none 0 0, .agg #[.int .u16 0, .int .u16 0]], []⟩ 8 (by kernel_rfl) (by kernel_rfl) (by kernel_rfl) (by kernel_rfl)) ?_
  intro W base args ds gs before hval0 hW hcnd _
  have hval : ∀ (j : Nat) t v, Try.f5.params[j]? = some t → args[j]? = some v → Value.okWide Try.prog W .any base t v := hval0
  have hW' := hW
  obtain ⟨p, q, hA0, hV, rfl, hfz, hnd⟩ := hW
  have hA : DataW.TrodAll enc Try.prog W 0 (fun _ => true) true Try.f5.params.toList args.toList ds p := hA0
  rw [Try.params5] at hA hval
  obtain ⟨v0, vs0, d0, ds0, p0, q0, hargs, rfl, rfl, h0, r0⟩ := trodAll_cons hA
  obtain ⟨v1, vs1, d1, ds1, p1, q1, rfl, rfl, rfl, h1, r1⟩ := trodAll_cons r0
  obtain ⟨v2, vs2, d2, ds2, p2, q2, rfl, rfl, rfl, h2, r2⟩ := trodAll_cons r1
  obtain ⟨rfl, rfl, rfl⟩ := trodAll_nil r2
  obtain rfl : args = #[v0, v1, v2] := by cases args; simp_all
  obtain ⟨rfl, rfl⟩ := trodVars_none hV
  obtain ⟨a0, len0, cap0, rfl⟩ := okWide_slice Try.underlying25 (hval 0 25 v0 rfl rfl)
  have k0 := h0
  have lt0 : ∀ x ∈ p0, x.block < W.heap.size := by obtain ⟨m, hm⟩ := k0; exact DataW.trod_lt m _ _ _ hm
  obtain ⟨bs0, i0, z0⟩ : ∃ bs, IsB W (.slice a0 len0 cap0) bs ∧ ∀ n c, Value.slice a0 len0 cap0 = .slice none n c → c = 0 := by
    obtain ⟨fuel, hf⟩ := h0
    rcases open_ints Try.underlying25 Try.underlying5 (by kernel_rfl) hf with ⟨hcs, _⟩ | ⟨x, l, c, zs, hcs, _, hl, hm, hz, _, hcell, hwz⟩
    · simp [Value.cells] at hcs
      obtain ⟨rfl, rfl, rfl⟩ := hcs
      exact ⟨[], IsB.nil W, fun n c h => by cases h; rfl⟩
    · simp [Value.cells] at hcs
      obtain ⟨rfl, rfl, rfl⟩ := hcs
      obtain ⟨bs, _, hb⟩ := isB_of_ints hl hm (by simpa using hz) hcell hwz
      exact ⟨bs, hb, fun n c h => by cases h⟩
  obtain ⟨a1, len1, cap1, rfl⟩ := okWide_slice Try.underlying25 (hval 1 25 v1 rfl rfl)
  have k1 := h1
  have lt1 : ∀ x ∈ p1, x.block < W.heap.size := by obtain ⟨m, hm⟩ := k1; exact DataW.trod_lt m _ _ _ hm
  obtain ⟨bs1, i1⟩ : ∃ bs, IsB W (.slice a1 len1 cap1) bs := by
    obtain ⟨fuel, hf⟩ := h1
    rcases open_ints Try.underlying25 Try.underlying5 (by kernel_rfl) hf with ⟨hcs, _⟩ | ⟨x, l, c, zs, hcs, _, hl, hm, hz, _, hcell, hwz⟩
    · simp [Value.cells] at hcs
      obtain ⟨rfl, rfl, rfl⟩ := hcs
      exact ⟨[], IsB.nil W⟩
    · simp [Value.cells] at hcs
      obtain ⟨rfl, rfl, rfl⟩ := hcs
      obtain ⟨bs, _, hb⟩ := isB_of_ints hl hm (by simpa using hz) hcell hwz
      exact ⟨bs, hb⟩
  have k2 := h2
  have lt2 : ∀ x ∈ p2, x.block < W.heap.size := by obtain ⟨m, hm⟩ := k2; exact DataW.trod_lt m _ _ _ hm
  obtain ⟨c0, c1, rfl⟩ := WideMaps.okWide_pair ⟨Try.underlying37, by kernel_rfl, by kernel_rfl, by kernel_rfl⟩ (hval 2 37 v2 rfl rfl)
  obtain ⟨n0, n1, rfl, rfl, u0, u1⟩ : ∃ n0 n1 : Nat, c0 = .int .u16 n0 ∧ c1 = .int .u16 n1 ∧ n0 < 65536 ∧ n1 < 65536 := by
    obtain ⟨fuel, hf⟩ := h2
    obtain ⟨ys, m, rfl, _, _, hn, hi⟩ := DataW.trod_array Try.underlying37 hf
    have hc : Try.prog.cellsOf 36 = 1 := by kernel_rfl
    match ys, hn with
    | [y0, y1], _ =>
      have g0 := hi 0 (by omega)
      have g1 := hi 1 (by omega)
      rw [hc] at g0 g1
      simp [Value.cells] at g0 g1
      obtain ⟨x, e0, _, wx⟩ := DataW.trod_int Try.underlying36 g0
      obtain ⟨y, e1, _, wy⟩ := DataW.trod_int Try.underlying36 g1
      simp at e0 e1
      subst e0 e1
      have bx := bounds_u16 wx
      have by' := bounds_u16 wy
      obtain ⟨n0, rfl⟩ := Int.eq_ofNat_of_zero_le bx.1
      obtain ⟨n1, rfl⟩ := Int.eq_ofNat_of_zero_le by'.1
      exact ⟨n0, n1, rfl, rfl, by omega, by omega⟩
  clear hA0 hval0
  refine (wordEqual_walk W _ bs0 i0 z0 _ bs1 i1 n0 n1 u0 u1).mono fun e W' ⟨he, bel⟩ => ?_
  subst he
  exact ⟨_, rfl, _, _, _, [], _, [], hW', trodAll_mk1 (shut_bool Try.underlying4 _), (trodAll_cons_mk (Below.trod laidOut (by kernel_rfl) (of_decide_eq_true (by kernel_rfl)) k0 bel lt0) (trodAll_cons_mk (Below.trod laidOut (by kernel_rfl) (of_decide_eq_true (by kernel_rfl)) k1 bel lt1) (trodAll_cons_mk (Below.trod laidOut (by kernel_rfl) (of_decide_eq_true (by kernel_rfl)) k2 bel lt2) trodAll_mk0))), rfl, bel.frame _, fun h => by cases h⟩

theorem over : Rows.wordEqualRow.holds Try.pinned (OpenSpec.ofChange Rows.wordEqualSpec) :=
  OpenClaim.holds_of_wide 5 Try.f5 rfl rfl rfl rfl rfl rfl rfl ⟨rfl, rfl, rfl, rfl, rfl⟩ rfl rfl rfl rfl rfl (by kernel_rfl) Try.func5 (by kernel_rfl)
    (of_decide_eq_true (by kernel_rfl)) (by unfold Func.isWrapper; first | (rw [if_pos (by decide +kernel)]; kernel_rfl) | (rw [if_neg (by decide +kernel)]; exact ⟨rfl, rfl⟩))
    (fun os started H enc _ => lifted os started H enc)

/-- THE STATEMENT -/
theorem proved : Rows.WordEqualSaid := over

end Go.Proofs.Ytcablmipgckfnaa.wordEqual
