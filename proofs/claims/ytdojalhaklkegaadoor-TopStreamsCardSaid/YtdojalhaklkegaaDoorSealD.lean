/-
  CONTRACTS OF seal.parts, Open$1. Conditions: up to 2^24 bytes.
-/
import Derived.Test.YtdojalhaklkegaaDoorSealC
namespace Go.Proofs.YtdojalhaklkegaaDoor
open Go.RowKit Go.Maps
set_option linter.unusedVariables false
set_option maxRecDepth 100000

/-- How parts ends. -/
def PartsEnds (w : World) (s : List UInt8) (e : Ending) (w' : World) : Prop := ∃ a b r, e = .returned (.tuple #[a, b, .bool r]) ∧ (r = true ↔ M.oOk s) ∧ (r = true → IsB w' a (s.take 12) ∧ IsB w' b (s.drop 12)) ∧ Below w.heap.size w w'

theorem PartsEnds.no {w : World} {s : List UInt8} {a b : Value} {w' : World} (h : ¬ M.oOk s) (k : Below w.heap.size w w') : PartsEnds w s (.returned (.tuple #[a, b, .bool false])) w' :=
  ⟨a, b, false, rfl, Iff.intro (fun h2 => (by cases h2)) (fun h2 => absurd h2 h), fun h2 => (by cases h2), k⟩

/-- 'b[:i]'. -/
theorem IsB.upT {w : World} {ao : Option Addr} {n cap : Nat} {bs : List UInt8} (t : TypeId) (hu : Tryd.prog.underlying t = some (.slice 5)) (h : IsB w (.slice ao n cap) bs) (i : Nat) (hi : i ≤ n) :
    ∃ a, (∀ W : World, (Instr.slice t (.slice ao n cap) none (some (.int .i64 (i : Int))) none).run Tryd.prog W = .ok (.slice a i cap) W) ∧ IsB w (.slice a i cap) (bs.take i) := by
  have hel : Tryd.prog.elem t = 5 := by simp [Program.elem, hu]
  have hn : n = bs.length := by obtain ⟨_, _, e, _⟩ := h; injection e
  have hcap : bs.length ≤ cap := by obtain ⟨_, _, e, hh, _⟩ := h; injection e with _ _ e; omega
  refine ⟨ao, fun W => ?_, h.take i hi⟩
  rw [run_slice_h W t ao n cap (by rw [hel]; exact hu) .i64 (i : Int) (by omega) (by omega), hel, Tryd.sizeOf5]
  by_cases hc : cap = 0
  · simp [Result.andThen_ok, sliced, Addr.add_lit, hc]
  · cases ao with
    | none => simp [Result.andThen_ok, sliced]
    | some ad =>
      simp [Result.andThen_ok, sliced, Addr.add_lit]
      intro _
      first | exact Addr.add_zero ad | (obtain ⟨b, o, sp⟩ := ad; cases sp <;> rfl)

/-- The numbers of a cut. -/
theorem cut_nums (m z : Nat) (hm : m ≤ 16777216) (h1 : 1 ≤ z) (h2 : z ≤ 65536) : ∃ (K k ah bl d : Nat) (hid : Int), bl = z + 16 ∧ M.np m bl = K ∧ hid = (m : Int) - (ah : Int) - 16 ∧ (M.np m bl - 1) * bl = ah ∧
    ((z : Int) + 16 = (bl : Int) ∧ wrap64 (bl : Int) = (bl : Int)) ∧ ((K : Int) - 1 = (k : Int) ∧ wrap64 (k : Int) = (k : Int) ∧ (k : Int) * (bl : Int) = (ah : Int) ∧ wrap64 (ah : Int) = (ah : Int)) ∧
    ((m : Int) - (ah : Int) = (d : Int) ∧ wrap64 (d : Int) = (d : Int) ∧ (d : Int) - 16 = hid ∧ wrap64 hid = hid) := by
  have hk1 : 1 ≤ M.np m (z + 16) := M.np_pos _ _
  have hkn : (M.np m (z + 16) - 1) * (z + 16) ≤ m := M.np_in_le (by omega) (by omega)
  have hkm : M.np m (z + 16) ≤ m + 1 := M.np_le _ _ (by omega)
  obtain ⟨k, hk⟩ : ∃ k, M.np m (z + 16) = k + 1 := ⟨M.np m (z + 16) - 1, by omega⟩
  obtain ⟨ah, hah⟩ : ∃ a, a = (M.np m (z + 16) - 1) * (z + 16) := ⟨_, rfl⟩
  rw [← hah] at hkn
  have e4 : (k : Int) * ((z + 16 : Nat) : Int) = (ah : Int) := by rw [hah, hk, Nat.add_sub_cancel]; exact (Int.natCast_mul k (z + 16)).symm
  rw [hk] at hkm
  refine ⟨k + 1, k, ah, z + 16, m - ah, (m : Int) - (ah : Int) - 16, rfl, hk, rfl, hah.symm, ⟨?_, ?_⟩, ⟨?_, ?_, e4, ?_⟩, ⟨?_, ?_, ?_, ?_⟩⟩
  all_goals clear e4 hah hk hk1; first | (unfold wrap64; omega) | omega

set_option maxHeartbeats 16000000 in
theorem parts_any (sv : Value) (s : List UInt8) (w : World) (hi : IsB w sv s) (hl : s.length ≤ 16777216) : Calls Tryd.prog 45 #[sv] w (PartsEnds w s) := by
  have HI := Lib.hid hi
  obtain ⟨sa, sc, rfl⟩ := hi.shape
  obtain ⟨n, hn⟩ : ∃ n, n = s.length := ⟨_, rfl⟩
  rw [← hn] at HI hl ⊢
  have HN := Lib.hid hn
  by_cases h12 : n < 12
  · have HNO : Hid (¬ M.oOk s) := fun h => by have := h.1; omega
    have q1 : decide ((n : Int) < 12) = true := decide_eq_true (by omega)
    clear hi hn h12
    go_enter Tryd.func45, Tryd.ntmps45
    go_wp2
    go_ret3
    exact PartsEnds.no HNO.out (Below.refl _ _)
  · have q1 : decide ((n : Int) < 12) = false := decide_eq_false (by omega)
    obtain ⟨sb, so, sc2, e2⟩ := hi.some_ (by intro e; rw [e] at hn; simp at hn; omega)
    injection e2 with e2 e3 e4
    subst e2 e4
    have c0 : w.cell? ⟨sb, so, none⟩ = some (.int .u8 ((s.getD 0 0).toNat : Int)) := by
      obtain ⟨_, _, e, h1, h2, h3⟩ := hi
      injection e with e _ _
      rcases h3 with h3 | ⟨b, off, h4, h5⟩
      · rw [h3] at hn; simp at hn; omega
      · rw [← e] at h4
        injection h4 with h4
        injection h4 with h4 h6
        subst h4 h6
        have := h5 0 (by omega)
        rwa [Nat.add_zero] at this
    obtain ⟨c, hc⟩ : ∃ c, c = s.getD 0 0 := ⟨_, rfl⟩
    rw [← hc] at c0
    have b0 : (0 : Int) < (n : Int) := by omega
    by_cases h1 : c = 1
    · subst h1
      have HC := Lib.hid hc
      obtain ⟨ha, hsl1, hh⟩ := hi.upT 24 Tryd.underlying24 12 (by rw [← hn]; omega)
      rw [← hn] at hsl1 hi
      obtain ⟨ba, hsl2, hb⟩ := hi.fromT 24 Tryd.underlying24 12 (by omega)
      obtain ⟨m, hm⟩ : ∃ m, m = n - 12 := ⟨_, rfl⟩
      obtain ⟨bc, hbc⟩ : ∃ m, m = sc - 12 := ⟨_, rfl⟩
      rw [← hm, ← hbc] at hsl2 hb
      have hsl1' : ∀ W : World, (Instr.slice 24 (.slice (some ⟨sb, so, none⟩) n sc) none (some (.int .i64 12)) none).run Tryd.prog W = .ok (.slice ha 12 sc) W := hsl1
      have hsl2' : ∀ W : World, (Instr.slice 24 (.slice (some ⟨sb, so, none⟩) n sc) (some (.int .i64 12)) none none).run Tryd.prog W = .ok (.slice ba m bc) W := hsl2
      have HH := Lib.hid hh
      have HB := Lib.hid hb
      have HZ := Lib.hid (fun W => hsize_any (.slice ha 12 sc) (s.take 12) W)
      have ht12 : (s.take 12).length = 12 := by rw [List.length_take]; omega
      have hgb : M.gb ((s.take 12).drop 8) 4 = M.osz s := by
        apply M.gb_congr
        intro j hj
        rw [List.getD_eq_getElem?_getD, List.getD_eq_getElem?_getD, List.getElem?_drop, List.getElem?_drop, List.getElem?_take_of_lt (by omega)]
      rw [hgb] at HZ
      have HT12 := Lib.hid ht12
      obtain ⟨z, hz⟩ : ∃ z, z = M.osz s := ⟨_, rfl⟩
      rw [← hz] at HZ
      have hzb : z < 256 ^ 4 := by rw [hz]; exact M.gb_lt _ _
      have HZB : Hid (z = M.osz s ∧ z < 4294967296) := ⟨hz, hzb⟩
      have HMN : Hid (m = s.length - 12 ∧ m ≤ 16777216 ∧ 12 ≤ s.length) := ⟨by omega, by omega, by omega⟩
      have HS := Lib.hid (fun W => isSize_any (z : Int) W)
      clear hi hn h12 hc hl hsl1 hsl2 hh hb hm hbc ht12 hgb hz hzb
      by_cases hsz : 1 ≤ z ∧ z ≤ 65536
      · have e3 : (decide ((1 : Int) ≤ (z : Int)) && decide ((z : Int) ≤ 65536)) = true := by rw [decide_eq_true (by omega), decide_eq_true (by omega)]; rfl
        rw [e3] at HS
        have HSZ := Lib.hid hsz
        clear e3
        go_enter Tryd.func45, Tryd.ntmps45
        go_upto_region 3 with fail
        go_quiet (fail)
        go_wp2_with fail
        refine (HZ.out _ (HH.out.below (drewN_below (Below.refl _ _) _)) HT12.out).mono ?_
        rintro e w1 ⟨rfl, k1⟩
        have K1 : Hid (Below w.heap.size w w1) := (drewN_below (Below.refl w.heap.size w) _).trans k1
        clear k1
        go_wp2_with fail
        refine (HS.out w1).mono ?_
        rintro e w2 ⟨rfl, rfl⟩
        go_upto_region 6 with fail
        go_wp2_with fail
        refine (HZ.out _ (HH.out.below K1.out) HT12.out).mono ?_
        rintro e w3 ⟨rfl, k3⟩
        have K3 := Lib.hid (K1.out.trans (k3.mono K1.out.size))
        clear k3
        obtain ⟨K, k', ah, bl, dd, hid, hbl, hk, hhid, hah, q2, q34, q56⟩ := cut_nums m z HMN.out.2.1 HSZ.out.1 HSZ.out.2
        have Q34 := Lib.hid q34
        have Q56 := Lib.hid q56
        have Q2 := Lib.hid q2
        clear q2 q34 q56
        have CP := Lib.hid (pieces_any m bl w3 (by rw [hbl]; omega) (by have := HMN.out; omega) (by have := HSZ.out; omega))
        rw [hk] at CP
        have HOK : Hid (M.oOk s ↔ (0 < hid ∨ (hid = 0 ∧ ah = 0))) := by
          have h1 := HMN.out
          have h2 := HSZ.out
          have h3 := HZB.out.1
          have h4 : M.onp s = M.np m bl := by rw [M.onp, ← h1.1, ← h3, ← hbl]
          unfold M.oOk
          rw [Hid, h4, ← h3, ← hbl, hah, ← h1.1, ← HC.out]
          clear Q34 Q56 Q2 hah hk CP
          constructor
          · rintro ⟨_, _, _, _, h⟩
            omega
          · intro h
            exact ⟨h1.2.2, rfl, h2.1, h2.2, by omega⟩
        have HAH0 : Hid (((ah : Int) == 0) = decide (ah = 0)) := by
          rw [Hid]
          by_cases h : ah = 0
          · rw [h]; rfl
          · rw [decide_eq_false h]; exact beq_false_of_ne (by omega)
        clear hk hah hhid hbl hsz e3
        have HB3 := Lib.hid (HB.out.below K3.out)
        have HH3 := Lib.hid (HH.out.below K3.out)
        obtain ⟨q2, q2a⟩ := Q2.out
        go_upto_region 7 with fail
        simp only [q2a]
        clear q2 q2a
        obtain ⟨q3, q3a, e4, q4⟩ := Q34.out
        go_wp2_with fail
        refine CP.out.mono ?_
        rintro e w4 ⟨rfl, hq⟩
        rw [hq]
        clear hq w4
        go_upto_region 8 with fail
        simp only [q4]
        clear e4 q3 q3a q4
        obtain ⟨q5, q5a, q6, q6a⟩ := Q56.out
        go_upto_region 9 with fail
        simp only [q6a]
        clear q5 q5a q6 q6a
        by_cases g1 : 0 < hid
        · have d1 : decide (0 < hid) = true := decide_eq_true g1
          have HT : Hid (M.oOk s) := HOK.out.2 (.inl g1)
          clear g1
          go_wp2
          go_ret3
          exact ⟨_, _, true, rfl, Iff.intro (fun _ => HT.out) (fun _ => rfl), fun _ => ⟨HH3.out, HB3.out⟩, K3.out⟩
        · have d1 : decide (0 < hid) = false := decide_eq_false g1
          by_cases g2 : hid = 0
          · by_cases g3 : ah = 0
            · have HT : Hid (M.oOk s) := HOK.out.2 (.inr ⟨g2, g3⟩)
              have d2 : (hid == 0) = true := by rw [g2]; rfl
              have d3 : ((ah : Int) == 0) = true := by rw [HAH0.out, decide_eq_true g3]
              clear g1 g2 g3
              go_wp2
              go_ret3
              exact ⟨_, _, true, rfl, Iff.intro (fun _ => HT.out) (fun _ => rfl), fun _ => ⟨HH3.out, HB3.out⟩, K3.out⟩
            · have HT : Hid (¬ M.oOk s) := fun h => by rcases HOK.out.1 h with h | h; exact g1 h; exact g3 h.2
              have d2 : (hid == 0) = true := by rw [g2]; rfl
              have d3 : ((ah : Int) == 0) = false := by rw [HAH0.out, decide_eq_false g3]
              clear g1 g2 g3
              go_wp2
              go_ret3
              exact PartsEnds.no HT.out K3.out
          · have HT : Hid (¬ M.oOk s) := fun h => by rcases HOK.out.1 h with h | h; exact g1 h; exact g2 h.1
            have d2 : (hid == 0) = false := beq_false_of_ne g2
            clear g1 g2
            go_wp2
            go_ret3
            exact PartsEnds.no HT.out K3.out
      · have e3 : (decide ((1 : Int) ≤ (z : Int)) && decide ((z : Int) ≤ 65536)) = false := by
          cases e : (decide ((1 : Int) ≤ (z : Int)) && decide ((z : Int) ≤ 65536)) with
          | false => rfl
          | true =>
            rw [Bool.and_eq_true, decide_eq_true_eq, decide_eq_true_eq] at e
            exact absurd (show 1 ≤ z ∧ z ≤ 65536 by omega) hsz
        rw [e3] at HS
        have HNO : Hid (¬ M.oOk s) := fun h => hsz (by have h1 := h.2.2.1; have h2 := h.2.2.2.1; have h3 := HZB.out.1; omega)
        clear e3 hsz
        go_enter Tryd.func45, Tryd.ntmps45
        go_upto_region 3 with fail
        go_quiet (fail)
        go_wp2_with fail
        refine (HZ.out _ (HH.out.below (drewN_below (Below.refl _ _) _)) HT12.out).mono ?_
        rintro e w1 ⟨rfl, k1⟩
        have K1 : Hid (Below w.heap.size w w1) := (drewN_below (Below.refl w.heap.size w) _).trans k1
        clear k1
        go_wp2_with fail
        refine (HS.out w1).mono ?_
        rintro e w2 ⟨rfl, rfl⟩
        go_wp2
        go_ret3
        exact PartsEnds.no HNO.out K1.out
    · have HNO : Hid (¬ M.oOk s) := fun h => h1 (hc.trans h.2.1)
      have q2 : (((c.toNat : Nat) : Int) == 1) = false := beq_false_of_ne (fun e => h1 (UInt8.toNat_inj.1 (by rw [show (1 : UInt8).toNat = 1 from rfl]; omega)))
      clear hi hn h12 hc h1 hl
      go_enter Tryd.func45, Tryd.ntmps45
      go_wp2
      go_ret3
      exact PartsEnds.no HNO.out (Below.refl _ _)

end Go.Proofs.YtdojalhaklkegaaDoor
