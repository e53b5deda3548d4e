/-
  CONTRACT OF curve.climb: a step for each bit. Conditions: FieldOk; the ladder lies in its block, the number's 32 bytes elsewhere.
  CONTRACTS OF curve.Shared, over those of the ladder's methods. Conditions: FieldOk.
  PLAIN MATHEMATICS OF LAYER 8: a scalar's point is never 0. Nothing of the program. Conditions: as each says.
  PACKAGE curve KEEPS WHAT IT OWES (CurveOk): contracts of Public, and all of them over package field's. Conditions: none.
-/
import Derived.Test.YteombilmndlhjaaCurveStep
import Derived.Test.YteombilmndlhjaaCurveParts
import Derived.Test.YteombilmndlhjaaRefCurve
import Derived.Test.YteombilmndlhjaaFieldIs
import Derived.Test.YteombilmndlhjaaEdLadder

namespace Go.Proofs.Yteombilmndlhjaa
open Go.RowKit
set_option linter.unusedVariables false

/-- The ladder's state lies in block g, u in front of it. -/
def LadIs (Fe : List Value → Nat → Prop) (w : World) (g u : Nat) (s : Nat × Nat × Nat × Nat) : Prop :=
  ∃ A B C D E : List Value, LadB w g A B C D E ∧ Fe A u ∧ Fe B s.1 ∧ Fe C s.2.1 ∧ Fe D s.2.2.1 ∧ Fe E s.2.2.2

/-- A state changed about, if the bit is 1. -/
def M.turn (b : Nat) (s : Nat × Nat × Nat × Nat) : Nat × Nat × Nat × Nat :=
  ((if b % 2 = 1 then s.2.2.1 else s.1), (if b % 2 = 1 then s.2.2.2 else s.2.1), (if b % 2 = 1 then s.1 else s.2.2.1), (if b % 2 = 1 then s.2.1 else s.2.2.2))

def M.stp (q u : Nat) (s : Nat × Nat × Nat × Nat) : Nat × Nat × Nat × Nat := M.lstep q u s.1 s.2.1 s.2.2.1 s.2.2.2

theorem M.turn_bit (q u b k : Nat) (h : b % 2 = k) (s : Nat × Nat × Nat × Nat) : M.turn b (M.stp q u (M.turn b s)) = M.lbit q u k s := by
  obtain ⟨x, z, v, y⟩ := s
  have h2 : k = 0 ∨ k = 1 := by omega
  rcases h2 with rfl | rfl
  · simp only [M.turn, h, if_neg (show ¬ (0 = 1) by decide)]
    rfl
  · simp only [M.turn, h, if_true]
    rfl

theorem swap_is {Fe : List Value → Nat → Prop} (F : FieldOk Fe) (g b u : Nat) (s : Nat × Nat × Nat × Nat) (w : World) (h : LadIs Fe w g u s) (hb : b < 18446744073709551616) :
    Calls Try.prog 29 #[.pointer (some ⟨g, 0, none⟩), .int .u64 (b : Int)] w fun e w' => e = .returned (.tuple #[]) ∧ Only g w w' ∧ LadIs Fe w' g u (M.turn b s) := by
  obtain ⟨A, B, C, D, E, hL, hA, hB, hC, hD, hE⟩ := h
  refine (cswap_any F g A B C D E b _ _ _ _ w hL hb hB hC hD hE).mono ?_
  rintro e w' ⟨h1, h2, B', C', D', E', hL', hB', hC', hD', hE'⟩
  exact ⟨h1, h2, A, B', C', D', E', hL', hA, hB', hC', hD', hE'⟩

theorem step_is {Fe : List Value → Nat → Prop} (F : FieldOk Fe) (g u : Nat) (s : Nat × Nat × Nat × Nat) (w : World) (h : LadIs Fe w g u s) :
    Calls Try.prog 30 #[.pointer (some ⟨g, 0, none⟩)] w fun e w' => e = .returned (.tuple #[]) ∧ Only g w w' ∧ LadIs Fe w' g u (M.stp M.Q u s) := by
  obtain ⟨A, B, C, D, E, hL, hA, hB, hC, hD, hE⟩ := h
  refine (step_any F g A B C D E u _ _ _ _ w hL hA hB hC hD hE).mono ?_
  rintro e w' ⟨h1, h2, B', C', D', E', hL', hB', hC', hD', hE'⟩
  exact ⟨h1, h2, A, B', C', D', E', hL', hA, hB', hC', hD', hE'⟩

set_option maxHeartbeats 4000000 in
theorem climb_any {Fe : List Value → Nat → Prop} (F : FieldOk Fe) (g u : Nat) (kv : Value) (ks : List UInt8) (w : World) (hL : LadIs Fe w g u (1, 0, u, 1)) (hk : IsB w kv ks) (hkl : ks.length = 32) (hoff : Off kv g) :
    Calls Try.prog 18 #[.pointer (some ⟨g, 0, none⟩), kv] w fun e w' => e = .returned (.tuple #[]) ∧ Only g w w' ∧ LadIs Fe w' g u (M.lad M.Q ks u 255) := by
  have CSW : Hid (∀ (b : Nat) s w, LadIs Fe w g u s → b < 18446744073709551616 → Calls Try.prog 29 #[.pointer (some ⟨g, 0, none⟩), .int .u64 (b : Int)] w fun e w' => e = .returned (.tuple #[]) ∧ Only g w w' ∧ LadIs Fe w' g u (M.turn b s)) := fun b s w h hb => swap_is F g b u s w h hb
  have CST : Hid (∀ s w, LadIs Fe w g u s → Calls Try.prog 30 #[.pointer (some ⟨g, 0, none⟩)] w fun e w' => e = .returned (.tuple #[]) ∧ Only g w w' ∧ LadIs Fe w' g u (M.stp M.Q u s)) := fun s w h => step_is F g u s w h
  obtain ⟨ao, cap, rfl, h1, h2, hat⟩ := hk
  obtain ⟨kb, ko, rfl, hc⟩ : ∃ b off, ao = some ⟨b, off, none⟩ ∧ ∀ i, i < ks.length → w.cell? ⟨b, off + i, none⟩ = some (.int .u8 ((ks.getD i 0).toNat : Int)) := by
    rcases hat with h | h
    · rw [h] at hkl; simp at hkl
    · exact h
  have hne : kb ≠ g := hoff _ _ _ rfl (by omega)
  have HC : Hid (∀ W, Only g w W → ∀ i, i < 32 → W.cell? ⟨kb, ko + i, none⟩ = some (.int .u8 ((ks.getD i 0).toNat : Int))) := by
    intro W kW i hi
    exact kW.cell (hc i (by omega)) (by intro e; injection e with e; exact hne e)
  rw [hkl]
  have L0 : Hid (LadIs Fe w g u (M.lad M.Q ks u 0)) := hL
  clear hkl hat hc h1 h2 F hL hoff hne
  go_enter Try.func18, Try.ntmps18
  go_wp2
  go_loopw [7] (fun i wr => ∃ j : Nat, j ≤ 255 ∧ i = .int .i64 (j : Int) ∧ Hid (LadIs Fe wr g u (M.lad M.Q ks u j)) ∧ Hid (Only g w wr))
    (fun i _ => 255 - (intOf i).toNat)
  case atStart => exact ⟨0, by omega, rfl, L0, Only.refl g w⟩
  case round =>
    clear L0
    obtain ⟨wz, rfl⟩ : ∃ x, x = wr := ⟨_, rfl⟩
    obtain ⟨j, hj, rfl, hlad, kk⟩ := hrel
    by_cases hlt : j < 255
    · obtain ⟨p, hp⟩ : ∃ p, p = 254 - j := ⟨_, rfl⟩
      have c0 : (j : Int) < 255 := by omega
      have c1 : (254 - (j : Int)) = (p : Int) := by omega
      obtain ⟨pq, hpq⟩ : ∃ v, v = p / 8 := ⟨_, rfl⟩
      obtain ⟨pr, hpr⟩ : ∃ v, v = p % 8 := ⟨_, rfl⟩
      have hpq32 : pq < 32 := by omega
      have hpr8 : pr < 8 := by omega
      obtain ⟨by_, hby⟩ : ∃ v, v = (ks.getD pq 0).toNat := ⟨_, rfl⟩
      have hb256 : by_ < 256 := by rw [hby]; exact UInt8.toNat_lt _
      obtain ⟨sh, hsh⟩ : ∃ v, v = by_ / 2 ^ pr := ⟨_, rfl⟩
      have HSH : Hid (sh < 256) := by rw [hsh]; exact Nat.lt_of_le_of_lt (Nat.div_le_self _ _) hb256
      have HBIT : Hid (sh % 2 = M.kbit ks (254 - j)) := by rw [Hid, M.kbit, hsh, hby, hpq, hpr, hp]
      have ck := HC.out wz kk.out pq hpq32
      rw [← hby] at ck
      have t1 : (p : Int).tdiv 8 = (pq : Int) := by rw [Int.tdiv_eq_ediv_of_nonneg (by omega)]; omega
      have t1' : (p : Int) / 8 = (pq : Int) := by omega
      have t2 : (p : Int).tmod 8 = (pr : Int) := by rw [Int.tmod_eq_emod_of_nonneg (by omega)]; omega
      have t2' : (p : Int) % 8 = (pr : Int) := by omega
      have t3 : ((by_ : Int) / 2 ^ pr) = (sh : Int) := by rw [hsh, Int.natCast_ediv, Int.natCast_pow]; rfl
      have t4 : IntKind.u64.wrap (sh : Int) = (sh : Int) := by rw [IntKind.wrap_u64]; have := HSH.out; omega
      have t4' : (sh : Int) % 18446744073709551616 = (sh : Int) := by have := HSH.out; omega
      have HJ : Hid (j < 255) := hlt
      have S64 : Hid (sh < 18446744073709551616) := by have := HSH.out; rw [Hid]; omega
      clear hp hpq hpr hby hj hlt hsh hb256
      go_wp2_with fail
      refine (CSW.out sh _ wz hlad.out S64.out).mono ?_
      rintro e w1 ⟨rfl, o1, l1⟩
      have O1 : Hid (Only g w w1) := kk.out.trans o1
      have L1 := Lib.hid l1
      clear o1 l1 ck
      go_wp2_with fail
      refine (CST.out _ w1 L1.out).mono ?_
      rintro e w2 ⟨rfl, o2, l2⟩
      have O2 : Hid (Only g w w2) := O1.out.trans o2
      have L2 := Lib.hid l2
      clear o2 l2
      go_wp2_with fail
      refine (CSW.out sh _ w2 L2.out S64.out).mono ?_
      rintro e w3 ⟨rfl, o3, l3⟩
      have O3 : Hid (Only g w w3) := O2.out.trans o3
      rw [M.turn_bit M.Q u sh _ HBIT.out] at l3
      have L3 : Hid (LadIs Fe w3 g u (M.lad M.Q ks u (j + 1))) := l3
      clear o3 l3
      go_wp2
      go_roundw
      case rel => exact ⟨j + 1, by have := HJ.out; omega, by have h2 := HJ.out; go_num, L3, O3⟩
      case measure => have h2 := HJ.out; simp [intOf]; omega
    · obtain rfl : j = 255 := by omega
      clear hlt hj
      go_wp2
      go_end0
      exact ⟨rfl, kk.out, hlad.out⟩

end Go.Proofs.Yteombilmndlhjaa

namespace Go.Proofs.Yteombilmndlhjaa
open Go.RowKit
set_option linter.unusedVariables false

namespace M
theorem le_zero8 : le 0 32 = List.replicate 32 0 := by decide +kernel
theorem gl_zero8 : gl (List.replicate 32 0) 32 = 0 := by decide +kernel
theorem Q_256 : Q < 256 ^ 32 := by decide +kernel

theorem le_is_zero {x : Nat} (hx : x < Q) : le x 32 = List.replicate 32 0 ↔ x = 0 := by
  constructor
  · intro h
    have h1 := gl_of_le x 32 (by have := Q_256; omega)
    rw [h, gl_zero8] at h1
    exact h1.symm
  · rintro rfl
    exact le_zero8
end M

theorem climbed {Fe : List Value → Nat → Prop} {w : World} {g u : Nat} {s : Nat × Nat × Nat × Nat} (h : LadIs Fe w g u s) : ∃ A B C D E : List Value, LadB w g A B C D E ∧ Fe B s.1 ∧ Fe C s.2.1 := by
  obtain ⟨A, B, C, D, E, hL, _, hB, hC, _⟩ := h
  exact ⟨A, B, C, D, E, hL, hB, hC⟩

theorem told_is {Fe : List Value → Nat → Prop} (F : FieldOk Fe) (g u : Nat) (ks : List UInt8) (w : World) (h : LadIs Fe w g u (M.lad M.Q ks u 255)) :
    Calls Try.prog 19 #[.pointer (some ⟨g, 0, none⟩)] w (GivesE Fe w (M.ladder M.Q ks u)) := by
  obtain ⟨A, B, C, D, E, hL, hB, hC⟩ := climbed h
  have := told_any F g A B C D E _ _ w hL hB hC
  rw [M.ladder]
  exact this

set_option maxRecDepth 100000 in
set_option maxHeartbeats 4000000 in
theorem shared_any {Fe : List Value → Nat → Prop} (F : FieldOk Fe) (kv pv : Value) (ks ps : List UInt8) (w : World) (hk : IsB w kv ks) (hp : IsB w pv ps) (hkl : ks.length = 32) (hpl : ps.length = 32) :
    Calls Try.prog 8 #[kv, pv] w fun e w' => (M.secret ks ps = 0 → Refuses w 10 e w') ∧ (¬ M.secret ks ps = 0 → MakesOk w (M.le (M.secret ks ps) 32) e w') := by
  obtain ⟨x, hx⟩ : ∃ x, Hid (x = M.secret ks ps) := ⟨_, rfl⟩
  have HXQ : Hid (x < M.Q) := by rw [hx.out]; exact M.ladder_lt _ _
  obtain ⟨u, hu⟩ : ∃ u, Hid (M.told ps % M.Q = u) := ⟨_, rfl⟩
  obtain ⟨cs, hcs⟩ : ∃ cs, Hid (cs = M.clampB ks) := ⟨_, rfl⟩
  have HCL : Hid (cs.length = 32) := by rw [Hid, hcs.out, M.clampB_length]; exact hkl
  have HX : Hid (M.ladder M.Q cs u = x) := by rw [Hid, hx.out, M.secret, hcs.out, hu.out]
  rw [← hx.out]
  have HP := Lib.hid hp
  have FL : Hid (∀ {L n}, Fe L n → L.length = 5 ∧ ∀ u ∈ L, u.oneCell' = true) := fun h => ⟨F.len h, F.one h⟩
  have CC : Hid (Calls Try.prog 13 #[kv] w (MakesOk w cs)) := by rw [hcs.out]; exact clamp_any kv ks w hk hkl
  have CF : Hid (∀ w, IsB w pv ps → Calls Try.prog 17 #[pv] w (GivesE Fe w u)) := fun w h => by rw [← hu.out]; exact F.from_ pv ps w h
  have CB : Hid (∀ A w, Fe A u → Calls Try.prog 16 #[.agg A.toArray] w fun e w' => ∃ B C D : List Value, e = .returned (.agg (A ++ (B ++ (C ++ (A ++ D)))).toArray) ∧ Fe B 1 ∧ Fe C 0 ∧ Fe D 1 ∧ Below w.heap.size w w') := fun A w h => begun_any F A u w h
  have CL : Hid (∀ g kv w, LadIs Fe w g u (1, 0, u, 1) → IsB w kv cs → Off kv g → Calls Try.prog 18 #[.pointer (some ⟨g, 0, none⟩), kv] w fun e w' => e = .returned (.tuple #[]) ∧ Only g w w' ∧ LadIs Fe w' g u (M.lad M.Q cs u 255)) := fun g kv w h1 h2 h3 => climb_any F g u kv cs w h1 h2 HCL.out h3
  have CT : Hid (∀ g w, LadIs Fe w g u (M.lad M.Q cs u 255) → Calls Try.prog 19 #[.pointer (some ⟨g, 0, none⟩)] w (GivesE Fe w x)) := fun g w h => by rw [← HX.out]; exact told_is F g u cs w h
  obtain ⟨bs, hbs⟩ : ∃ bs, Hid (bs = M.le x 32) := ⟨_, rfl⟩
  have HBL : Hid (bs.length = 32) := by rw [hbs.out, Hid, M.le_length]
  have CY : Hid (∀ L w, Fe L x → Calls Try.prog 20 #[.agg L.toArray] w (Makes w bs)) := fun L w h => by rw [hbs.out]; exact F.bytes_ L x w h
  have HB0 : Hid (bs = List.replicate 32 0 ↔ x = 0) := by rw [hbs.out]; exact M.le_is_zero HXQ.out
  rw [← hbs.out]
  obtain ⟨ZC, hZC⟩ := make_run 32 (by decide)
  have hmk : ∀ w : World, (Instr.makeSlice 22 (.int .i64 32) (.int .i64 32)).run Try.prog w = .ok (.slice (some ⟨w.heap.size, 0, none⟩) 32 32) (w.alloc (.cells ZC 5)) := fun w => (hZC w).1
  have HMK : Hid (∀ w : World, Own (w.alloc (.cells ZC 5)) w.heap.size (.slice (some ⟨w.heap.size, 0, none⟩) 32 32) (List.replicate 32 0)) := fun w => (hZC w).2
  obtain ⟨ao, cap, rfl⟩ := hk.shape
  obtain ⟨ap, cap2, rfl⟩ := hp.shape
  rw [hkl] at CC ⊢
  rw [hpl] at HP CF ⊢
  clear hk hp hkl hpl hcs hx hu F HX HXQ hZC hbs
  go_enter Try.func8, Try.ntmps8
  go_wp2_with fail
  refine CC.out.mono ?_
  rintro e w1 ⟨r1, rfl, o1, k1⟩
  have I1 := Lib.hid o1.isB
  have K1 := Lib.hid k1
  clear o1 k1 CC
  go_wp2_with fail
  refine (CF.out w1 (HP.out.below K1.out)).mono ?_
  rintro e w2 ⟨A, rfl, hA, k2⟩
  have HA := Lib.hid hA
  have I2 := Lib.hid (I1.out.below k2)
  have K2 : Hid (Below w.heap.size w w2) := K1.out.trans (k2.mono K1.out.size)
  clear hA k2 I1 K1 CF HP
  go_wp2_with fail
  refine (CB.out A w2 HA.out).mono ?_
  rintro e w3 ⟨B, C, D, rfl, hB, hC, hD, k3⟩
  have K3 : Hid (Below w.heap.size w w3) := K2.out.trans (k3.mono K2.out.size)
  have I3 := Lib.hid (I2.out.below k3)
  obtain ⟨R, hR⟩ : ∃ R, Hid (R = A ++ (B ++ (C ++ (A ++ D)))) := ⟨_, rfl⟩
  rw [← hR.out]
  have HLN : Hid (R.length = 25) := by rw [hR.out]; simp only [Hid, List.length_append, (FL.out HA.out).1, (FL.out hB).1, (FL.out hC).1, (FL.out hD).1]
  have HON : Hid (∀ v ∈ R, v.oneCell' = true) := by
    rw [hR.out]
    intro v hv
    simp only [List.mem_append] at hv
    rcases hv with h | h | h | h | h
    · exact (FL.out HA.out).2 v h
    · exact (FL.out hB).2 v h
    · exact (FL.out hC).2 v h
    · exact (FL.out HA.out).2 v h
    · exact (FL.out hD).2 v h
  have HST : Hid (∀ w g, Blk w g 42 R → LadIs Fe w g u (1, 0, u, 1)) := by
    intro w g h
    rw [hR.out] at h
    exact ⟨A, B, C, A, D, ⟨h, (FL.out HA.out).1, (FL.out hB).1, (FL.out hC).1, (FL.out HA.out).1, (FL.out hD).1⟩, HA.out, hB, hC, HA.out, hD⟩
  obtain ⟨g, hg⟩ : ∃ v, v = w3.heap.size := ⟨_, rfl⟩
  have N6 : Blk (w3.alloc (.cells (z5 ++ (z5 ++ (z5 ++ (z5 ++ z5)))).toArray 42)) g 42 (z5 ++ (z5 ++ (z5 ++ (z5 ++ z5)))) := Blk.newAt _ _ _ _ _ hg rfl
  have ez : (z5 ++ (z5 ++ (z5 ++ (z5 ++ z5)))).toArray = #[Value.int .u64 0, Value.int .u64 0, Value.int .u64 0, Value.int .u64 0, Value.int .u64 0, Value.int .u64 0, Value.int .u64 0, Value.int .u64 0, Value.int .u64 0, Value.int .u64 0, Value.int .u64 0, Value.int .u64 0, Value.int .u64 0, Value.int .u64 0, Value.int .u64 0, Value.int .u64 0, Value.int .u64 0, Value.int .u64 0, Value.int .u64 0, Value.int .u64 0, Value.int .u64 0, Value.int .u64 0, Value.int .u64 0, Value.int .u64 0, Value.int .u64 0] := rfl
  clear hB hC hD k3 I2 K2 HA CB hR
  go_upto_region 5 with (rw [← ez, ← hg]; refine wpList_store_blk rfl 42 (.tmp 8) (.tmp 24) rfl g R.toArray rfl rfl 42 (z5 ++ (z5 ++ (z5 ++ (z5 ++ z5)))) N6 (by rw [List.size_toArray, HLN.out]; kernel_rfl) (by rw [List.size_toArray, HLN.out]; rfl) HON.out ?_; intro w4 hb4 ho4)
  have L4 : Hid (LadIs Fe w4 g u (1, 0, u, 1)) := HST.out _ _ hb4
  have k4 : Below w3.heap.size w3 w4 := ((Below.refl _ _).alloc (Nat.le_refl _) _).trans (ho4.below (by simp) (by omega))
  have HOF : Hid (Off r1 g) := I3.out.off (by omega)
  have I4 := Lib.hid (I3.out.below k4)
  have K4 : Hid (Below w.heap.size w w4) := K3.out.trans (k4.mono K3.out.size)
  have HGW : Hid (w.heap.size ≤ g) := by rw [Hid, hg]; exact K3.out.size
  clear hb4 ho4 N6 hg K3 k4 I3 ez HST HLN HON
  go_wp2_with fail
  refine (CL.out g r1 w4 L4.out I4.out HOF.out).mono ?_
  rintro e w5 ⟨rfl, o5, l5⟩
  have L5 := Lib.hid l5
  have K5 : Hid (Below w.heap.size w w5) := K4.out.trans (o5.below K4.out.size HGW.out)
  clear o5 l5 L4 I4 K4 CL HOF
  go_wp2_with fail
  refine (CT.out g w5 L5.out).mono ?_
  rintro e w6 ⟨X, rfl, hX, k6⟩
  have K6 : Hid (Below w.heap.size w w6) := K5.out.trans (k6.mono K5.out.size)
  have D6 := Lib.hid (CY.out X w6 hX)
  clear hX k6 L5 K5 CT CY
  go_wp2_with fail
  refine D6.out.mono ?_
  rintro e w7 ⟨r7, rfl, o7, k7⟩
  have K7 : Hid (Below w.heap.size w w7) := K6.out.trans (k7.mono K6.out.size)
  have O7 := Lib.hid (o7.mono K6.out.size)
  have I7 := Lib.hid o7.isB
  clear D6 k7 o7
  go_wp2_with fail
  have z7 := (HMK.out w7).isB
  have kz : Below w7.heap.size w7 (w7.alloc (.cells ZC 5)) := (Below.refl _ _).alloc (Nat.le_refl _) _
  refine (wequal_b r7 _ bs (List.replicate 32 0) _ (I7.out.below kz) z7).mono ?_
  rintro e w8 ⟨rfl, k8⟩
  have kk : Below w7.heap.size w7 w8 := kz.trans (k8.mono kz.size)
  have K8 : Hid (Below w.heap.size w w8) := K7.out.trans (kk.mono K7.out.size)
  have O8 : Hid (Own w8 w.heap.size r7 bs) := O7.out.below kk
  clear hmk HMK z7 kz k8 I7 O7 kk K7 K6
  by_cases h0 : x = 0
  · have hb : decide (bs = List.replicate 32 0) = true := decide_eq_true (HB0.out.2 h0)
    rw [hb]
    have H0 := Lib.hid h0
    clear hb h0
    go_wp2
    go_ret2
    exact ⟨fun _ => ⟨rfl, K8.out⟩, fun h => absurd H0.out h⟩
  · have hb : decide (bs = List.replicate 32 0) = false := decide_eq_false fun h => h0 (HB0.out.1 h)
    rw [hb]
    have H0 := Lib.hid h0
    clear hb h0
    go_wp2
    go_ret2
    exact ⟨fun h => absurd h H0.out, fun _ => ⟨r7, rfl, O8.out, K8.out⟩⟩

set_option maxHeartbeats 2000000 in
theorem sharedNo_any (kv pv : Value) (ks ps : List UInt8) (w : World) (hk : IsB w kv ks) (hp : IsB w pv ps) (hl : ¬ (ks.length = 32 ∧ ps.length = 32)) :
    Calls Try.prog 8 #[kv, pv] w (Refuses w 1) := by
  by_cases h1 : ks.length = 32
  · have h2 : ¬ ps.length = 32 := fun h => hl ⟨h1, h⟩
    have CC := Lib.hid (clamp_any kv ks w hk h1)
    obtain ⟨ao, cap, rfl⟩ := hk.shape
    obtain ⟨ap, cap2, rfl⟩ := hp.shape
    rw [h1] at CC ⊢
    obtain ⟨m, hm⟩ : ∃ m, m = ps.length := ⟨_, rfl⟩
    rw [← hm] at h2 ⊢
    obtain ⟨e1, e2, e3⟩ := ne32 h2
    clear hk hp hl h1 h2 hm
    go_enter Try.func8, Try.ntmps8
    go_wp2_with fail
    refine CC.out.mono ?_
    rintro e w1 ⟨r1, rfl, o1, k1⟩
    have K1 := Lib.hid k1
    clear o1 k1 CC
    go_wp2
    go_ret2
    exact ⟨rfl, K1.out⟩
  · have CC := Lib.hid (clampNo_any kv ks w hk h1)
    obtain ⟨ao, cap, rfl⟩ := hk.shape
    obtain ⟨ap, cap2, rfl⟩ := hp.shape
    obtain ⟨m, hm⟩ : ∃ m, m = ks.length := ⟨_, rfl⟩
    rw [← hm] at CC ⊢
    clear hk hp hl h1 hm
    go_enter Try.func8, Try.ntmps8
    go_wp2_with fail
    refine CC.out.mono ?_
    rintro e w1 ⟨rfl, rfl⟩
    clear CC
    go_wp2
    go_ret2
    exact ⟨rfl, Below.refl _ _⟩

end Go.Proofs.Yteombilmndlhjaa

namespace Go.Proofs.Yteombilmndlhjaa.M
set_option linter.unusedVariables false

theorem clamp_0 (ks : List UInt8) (h : ks.length = 32) : ((clampB ks).getD 0 0).toNat = (ks.getD 0 0).toNat / 8 * 8 := by
  rw [clampB, List.getD_eq_getElem?_getD, List.getElem?_set_ne (by decide), List.getElem?_set_self (by omega), Option.getD_some]
  exact of_nat8 _ (by have := (ks.getD 0 0).toNat_lt; omega)

theorem clamp_31 (ks : List UInt8) (h : ks.length = 32) : ((clampB ks).getD 31 0).toNat = (ks.getD 31 0).toNat % 64 + 64 := by
  rw [clampB, List.getD_eq_getElem?_getD, List.getElem?_set_self (by rw [List.length_set]; omega), Option.getD_some]
  exact of_nat8 _ (by omega)

theorem clamp_no (ks : List UInt8) (h : ks.length = 32) : ¬ Ed.L ∣ Ed.nb (clampB ks) 255 := by
  refine Ed.nb_no ?_ ?_ ?_ ?_
  · rw [kbit, show 0 / 8 = 0 from rfl, show 2 ^ (0 % 8) = 1 from rfl, clamp_0 ks h]; omega
  · rw [kbit, show 1 / 8 = 0 from rfl, show 2 ^ (1 % 8) = 2 from rfl, clamp_0 ks h]; omega
  · rw [kbit, show 2 / 8 = 0 from rfl, show 2 ^ (2 % 8) = 4 from rfl, clamp_0 ks h]; omega
  · rw [kbit, show 254 / 8 = 31 from rfl, show 2 ^ (254 % 8) = 64 from rfl, clamp_31 ks h]; omega

/-- A scalar's point is never 0. -/
theorem point_ne (ks : List UInt8) (h : ks.length = 32) : ¬ point ks = 0 := by
  rw [point, Ed.ladder_nine]
  exact Ed.U_ne (clamp_no ks h)

end Go.Proofs.Yteombilmndlhjaa.M

namespace Go.Proofs.Yteombilmndlhjaa
open Go.RowKit
set_option linter.unusedVariables false

namespace M
def nine : List UInt8 := 9 :: List.replicate 31 0
theorem told_nine : told nine % Q = 9 := by decide +kernel
theorem secret_nine (ks : List UInt8) : secret ks nine = point ks := by rw [secret, point, told_nine]
end M

theorem isB_nine {w : World} {g : Nat} (h : Blk w g 31 (Lib.byteCells M.nine)) : IsB w (.slice (some ⟨g, 0, none⟩) 32 32) M.nine := blk_part (bs := M.nine) h 0 (by decide)

def zb32 : List Value := List.replicate 32 (.int .u8 0)
theorem zb32_arr : zb32.toArray = #[Value.int .u8 0, Value.int .u8 0, Value.int .u8 0, Value.int .u8 0, Value.int .u8 0, Value.int .u8 0, Value.int .u8 0, Value.int .u8 0, Value.int .u8 0, Value.int .u8 0, Value.int .u8 0, Value.int .u8 0, Value.int .u8 0, Value.int .u8 0, Value.int .u8 0, Value.int .u8 0, Value.int .u8 0, Value.int .u8 0, Value.int .u8 0, Value.int .u8 0, Value.int .u8 0, Value.int .u8 0, Value.int .u8 0, Value.int .u8 0, Value.int .u8 0, Value.int .u8 0, Value.int .u8 0, Value.int .u8 0, Value.int .u8 0, Value.int .u8 0, Value.int .u8 0, Value.int .u8 0] := rfl
theorem zb32_len : zb32.length = 32 := List.length_replicate
theorem nine_len : (Lib.byteCells M.nine).length = 32 := rfl
theorem nine_one : ∀ v ∈ Lib.byteCells M.nine, v.oneCell' = true := by decide +kernel

/-- A new array of 32 bytes. -/
theorem wpList_alloc_b32 {ops : Array Oper} {rest : List Oper} {o : Oper} {a : Act} {w : World} {Q : Exit → Act → World → Prop} (hgd : o.guard = none) (ho : o.op = .alloc 31)
    (h : ∀ w' gd, gd = w.heap.size → Blk w' gd 31 zb32 → Below w.heap.size w w' → wpList Try.prog ops Q rest (a.put o.dst (.pointer (some ⟨gd, 0, none⟩))) w') : wpList Try.prog ops Q (o :: rest) a w := by
  refine wpList_plain hgd fun K hK => ?_
  have := hK _ _ (h (w.alloc (.cells zb32.toArray 31)) w.heap.size rfl (Blk.newAt _ _ _ _ _ rfl rfl) ((Below.refl _ _).alloc (Nat.le_refl _) _))
  clear h hK
  rw [zb32_arr] at this
  unfold Oper.wp execOp
  simp only [ho]
  go_simp
  exact this

/-- '[32]byte{9}'. -/
theorem built_nine {o : Oper} {a : Act} (w : World) (ho : o.op = .build 31 #[(0, .const (.int .u8 9))]) : (execOp a.eval o).run Try.prog w = .ok (.value (.agg (Lib.byteCells M.nine).toArray)) w := by
  unfold execOp
  simp only [ho]
  simp only [List.map_toArray, List.map_cons, List.map_nil, Act.eval]
  rw [Sem.run_bind, run_build (P := Try.prog) w _ _ (Lib.byteCells M.nine).toArray (by kernel_rfl)]
  rfl

/-- Public's array lies in a block. -/
theorem nine_laid {Q : Exit → Act → World → Prop} {ops : Array Oper} {o1 o2 o3 : Oper} {a : Act} {w : World} (h1 : o1.op = .build 31 #[(0, .const (.int .u8 9))]) (h2 : o2.op = .alloc 31) (h3 : o3.op = .store 31 (.tmp 4) (.tmp 5))
    (g1 : o1.guard = none) (g2 : o2.guard = none) (g3 : o3.guard = none) (d1 : o1.dst = some 5) (d2 : o2.dst = some 4) (d3 : o3.dst = none) (hs : a.tmps.size = 11)
    (h : ∀ w' g v, g = w.heap.size → Blk w' g 31 (Lib.byteCells M.nine) → Below w.heap.size w w' → Q .normal ((a.put (some 5) v).put (some 4) (.pointer (some ⟨g, 0, none⟩))) w') : wpList Try.prog ops Q [o1, o2, o3] a w := by
  refine wpList_valueL g1 _ (built_nine w h1) ?_
  refine wpList_alloc_b32 g2 h2 ?_
  intro w1 g hg hb hk
  rw [d1, d2]
  have e4 : ((a.put (some 5) (.agg (Lib.byteCells M.nine).toArray)).put (some 4) (.pointer (some ⟨g, 0, none⟩))).eval (.tmp 4) = .pointer (some ⟨g, 0, none⟩) := by simp [Act.eval, Act.put, hs]
  have e5 : ((a.put (some 5) (.agg (Lib.byteCells M.nine).toArray)).put (some 4) (.pointer (some ⟨g, 0, none⟩))).eval (.tmp 5) = .agg (Lib.byteCells M.nine).toArray := by simp [Act.eval, Act.put, hs]
  refine wpList_store_blk g3 31 (.tmp 4) (.tmp 5) h3 g (Lib.byteCells M.nine).toArray e4 e5 31 zb32 hb (by rw [List.size_toArray, nine_len]; kernel_rfl) (by rw [List.size_toArray, nine_len, zb32_len]) nine_one ?_
  intro w2 hb2 ho2
  rw [d3]
  refine wpList_nil ?_
  exact h w2 g _ hg hb2 (hk.trans (ho2.below hk.size (by omega)))

set_option maxRecDepth 100000 in
set_option maxHeartbeats 2000000 in
theorem publicOk_any {Fe : List Value → Nat → Prop} (F : FieldOk Fe) (kv : Value) (ks : List UInt8) (w : World) (hk : IsB w kv ks) (hkl : ks.length = 32) :
    Calls Try.prog 11 #[kv] w (MakesOk w (M.le (M.point ks) 32)) := by
  have hp : ¬ M.secret ks M.nine = 0 := by rw [M.secret_nine]; exact M.point_ne ks hkl
  have CS : Hid (∀ W pv, IsB W kv ks → IsB W pv M.nine → Calls Try.prog 8 #[kv, pv] W (MakesOk W (M.le (M.point ks) 32))) := by
    intro W pv h1 h2
    refine (shared_any F kv pv ks M.nine W h1 h2 hkl rfl).mono ?_
    intro e w' h
    have := h.2 hp
    rwa [M.secret_nine] at this
  obtain ⟨x, hx⟩ : ∃ x, Hid (x = M.le (M.point ks) 32) := ⟨_, rfl⟩
  rw [← hx.out] at CS ⊢
  have HK := Lib.hid hk
  clear hp hx hk hkl F
  go_enter Try.func11, Try.ntmps11
  go_upto_region 1 with fail
  refine wp_region_lit ?_
  refine nine_laid rfl rfl rfl rfl rfl rfl rfl rfl rfl rfl ?_
  intro W g v hg hb k1
  obtain ⟨nn, hnn⟩ : ∃ nn, Hid (nn = M.nine) := ⟨_, rfl⟩
  have I9 := isB_nine hb
  rw [← hnn.out] at CS I9
  have CC := Lib.hid (CS.out W _ (HK.out.below k1) I9)
  have K1 := Lib.hid k1
  clear hg hb I9 hnn CS HK k1
  have hsl := slice32_at
  go_wp2_with fail
  refine CC.out.mono ?_
  rintro e w2 ⟨r, rfl, o2, k2⟩
  have O2 := Lib.hid (o2.mono K1.out.size)
  have K2 : Hid (Below w.heap.size w w2) := K1.out.trans (k2.mono K1.out.size)
  clear CC o2 k2 hsl
  go_wp2
  go_ret2
  exact ⟨r, rfl, O2.out, K2.out⟩

set_option maxRecDepth 100000 in
set_option maxHeartbeats 2000000 in
theorem publicNo_any (kv : Value) (ks : List UInt8) (w : World) (hk : IsB w kv ks) (hkl : ¬ ks.length = 32) :
    Calls Try.prog 11 #[kv] w (Refuses w 1) := by
  have CS : Hid (∀ W pv ps, IsB W kv ks → IsB W pv ps → Calls Try.prog 8 #[kv, pv] W (Refuses W 1)) := fun W pv ps h1 h2 => sharedNo_any kv pv ks ps W h1 h2 (fun h => hkl h.1)
  have HK := Lib.hid hk
  clear hk hkl
  go_enter Try.func11, Try.ntmps11
  go_upto_region 1 with fail
  refine wp_region_lit ?_
  refine nine_laid rfl rfl rfl rfl rfl rfl rfl rfl rfl rfl ?_
  intro W g v hg hb k1
  have CC := Lib.hid (CS.out W _ _ (HK.out.below k1) (isB_nine hb))
  have K1 := Lib.hid k1
  clear hg hb CS HK k1
  have hsl := slice32_at
  go_wp2_with fail
  refine CC.out.mono ?_
  rintro e w2 ⟨rfl, k2⟩
  have K2 : Hid (Below w.heap.size w w2) := K1.out.trans (k2.mono K1.out.size)
  clear CC k2 hsl
  go_wp2
  go_ret2
  exact ⟨rfl, K2.out⟩

theorem curve_ok : CurveOk where
  clamp_ := clamp_any
  clampNo := fun kv ks w h1 h2 => (clampNo_any kv ks w h1 h2).mono fun e w' h => by obtain ⟨h, rfl⟩ := h; exact ⟨h, Below.refl _ _⟩
  shared_ := fun kv pv ks ps w h1 h2 h3 h4 h5 => (shared_any field_ok kv pv ks ps w h1 h2 h3 h4).mono fun e w' h => h.2 h5
  sharedLow := fun kv pv ks ps w h1 h2 h3 h4 h5 => (shared_any field_ok kv pv ks ps w h1 h2 h3 h4).mono fun e w' h => h.1 h5
  sharedNo := sharedNo_any
  public_ := publicOk_any field_ok
  publicNo := publicNo_any

end Go.Proofs.Yteombilmndlhjaa
