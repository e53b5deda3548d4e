/-
  CONTRACT OF orlopref15.escape. Conditions: rows of up to 2^40 bytes.
-/
import Derived.Test.YtbgadfaiehkanaaGreatDoorPj7
namespace Go.Proofs.YtbgadfaiehkanaaGreatDoor
open Go.RowKit
set_option linter.unusedVariables false
set_option maxRecDepth 100000

/-- The first of what was read, or none. -/
def M.oV : Option (Nat × List UInt8) → Int
  | none => 0
  | some p => (p.1 : Int)
/-- The place behind what was read, of so many bytes, or -1. -/
def M.oP (n : Nat) : Option (Nat × List UInt8) → Int
  | none => -1
  | some p => ((n - p.2.length : Nat) : Int)

theorem M.oP_drop (b : List UInt8) (v j : Nat) (h : j ≤ b.length) : M.oP b.length (some (v, b.drop j)) = (j : Int) := by
  show ((b.length - (b.drop j).length : Nat) : Int) = (j : Int)
  rw [List.length_drop]
  congr 1
  omega

theorem M.hx_lt {c : UInt8} {d : Nat} (h : M.hx c = some d) : d < 16 := by
  unfold M.hx at h
  split at h
  · injection h with h; omega
  split at h
  · injection h with h; omega
  split at h
  · injection h with h; omega
  · cases h

theorem M.hexG_some (k : Nat) : ∀ (s : List UInt8) (v x : Nat), M.hexG k s v = some x → k ≤ s.length ∧ x < (v + 1) * 16 ^ k := by
  induction k with
  | zero =>
    intro s v x h
    injection h with h
    subst h
    exact ⟨Nat.zero_le _, by simp⟩
  | succ k ih =>
    intro s v x h
    cases s with
    | nil => cases h
    | cons c r =>
      rw [M.hexG] at h
      cases hd : M.hx c with
      | none => rw [hd] at h; cases h
      | some d =>
        rw [hd] at h
        have h2 := ih r (v * 16 + d) x h
        have h3 := M.hx_lt hd
        refine ⟨by rw [List.length_cons]; omega, Nat.lt_of_lt_of_le h2.2 ?_⟩
        rw [Nat.pow_succ, Nat.mul_comm (16 ^ k) 16, ← Nat.mul_assoc]
        exact Nat.mul_le_mul_right _ (by omega)

theorem M.hex4_some {s : List UInt8} {x : Nat} (h : M.hex4 s = some x) : 4 ≤ s.length ∧ x < 65536 := by
  have := M.hexG_some 4 s 0 x h
  exact ⟨this.1, by simpa using this.2⟩

theorem M.esc_34 (r : List UInt8) : M.esc (34 :: r) = some (34, r) := by unfold M.esc; simp
theorem M.esc_92 (r : List UInt8) : M.esc (92 :: r) = some (92, r) := by unfold M.esc; simp
theorem M.esc_47 (r : List UInt8) : M.esc (47 :: r) = some (47, r) := by unfold M.esc; simp
theorem M.esc_98 (r : List UInt8) : M.esc (98 :: r) = some (8, r) := by unfold M.esc; simp
theorem M.esc_102 (r : List UInt8) : M.esc (102 :: r) = some (12, r) := by unfold M.esc; simp
theorem M.esc_110 (r : List UInt8) : M.esc (110 :: r) = some (10, r) := by unfold M.esc; simp
theorem M.esc_114 (r : List UInt8) : M.esc (114 :: r) = some (13, r) := by unfold M.esc; simp
theorem M.esc_116 (r : List UInt8) : M.esc (116 :: r) = some (9, r) := by unfold M.esc; simp
theorem M.esc_u (r : List UInt8) : M.esc (117 :: r) = (match M.hex4 r with
      | none => none
      | some v =>
        if 56320 ≤ v ∧ v < 57344 then none
        else if v < 55296 ∨ 57344 ≤ v then some (v, r.drop 4)
        else if [92, 117] <+: r.drop 4 then
          match M.hex4 (r.drop 6) with
          | none => none
          | some x => if 56320 ≤ x ∧ x < 57344 then some ((v - 55296) * 1024 + (x - 56320) + 65536, r.drop 10) else none
        else none) := by
  unfold M.esc
  dsimp only
  rw [if_neg (by decide), if_neg (by decide), if_neg (by decide), if_neg (by decide), if_neg (by decide), if_neg (by decide), if_pos rfl]
  first | rfl | (cases M.hex4 r <;> rfl)
theorem M.esc_no (c : UInt8) (r : List UInt8) (h : c.toNat ≠ 34 ∧ c.toNat ≠ 92 ∧ c.toNat ≠ 47 ∧ c.toNat ≠ 98 ∧ c.toNat ≠ 102 ∧ c.toNat ≠ 110 ∧ c.toNat ≠ 114 ∧ c.toNat ≠ 116 ∧ c.toNat ≠ 117) : M.esc (c :: r) = none := by
  have g : ∀ k : UInt8, c.toNat ≠ k.toNat → ¬ c = k := fun k h e => h (by rw [e])
  unfold M.esc
  dsimp only
  rw [if_neg (fun e => e.elim (g 34 h.1) fun e => e.elim (g 92 h.2.1) (g 47 h.2.2.1)), if_neg (g 98 h.2.2.2.1), if_neg (g 102 h.2.2.2.2.1), if_neg (g 110 h.2.2.2.2.2.1), if_neg (g 114 h.2.2.2.2.2.2.1), if_neg (g 116 h.2.2.2.2.2.2.2.1), if_neg (g 117 h.2.2.2.2.2.2.2.2)]

theorem drop_two (b : List UInt8) (i k m : Nat) (h : i + k = m) : (b.drop i).drop k = b.drop m := by rw [List.drop_drop, h]

set_option maxHeartbeats 8000000 in
theorem rescape_any (bv : Value) (b : List UInt8) (w : World) (h : IsB w bv b) (i : Nat) (hi : i ≤ b.length) (hl : b.length ≤ 1099511627776) :
    Calls Tryz.prog 133 #[bv, .int .i64 (i : Int)] w fun e w' => e = .returned (.tuple #[.int .i64 (M.oV (M.esc (b.drop i))), .int .i64 (M.oP b.length (M.esc (b.drop i)))]) ∧ Below w.heap.size w w' := by
  have HI := Lib.hid h
  obtain ⟨ao, cap, rfl, h1, h2, h3⟩ := h
  obtain ⟨n, hn⟩ : ∃ n, n = b.length := ⟨_, rfl⟩
  rw [← hn] at hi hl h1 HI ⊢
  have HN := Lib.hid hn
  have HL := Lib.hid hl
  have hii : (i : Int) ≤ 1099511627776 := by omega
  have hnl : (n : Int) ≤ 1099511627776 := by omega
  have HB0 := Lib.hid (Below.refl w.heap.size w)
  unfold maxLen at h2
  clear h3 h1
  by_cases hin : i < n
  · have d1 : ¬ (n : Int) ≤ (i : Int) := by omega
    obtain ⟨bk, off, rfl, hcs⟩ := HI.out.cellAt (by rw [← HN.out]; omega)
    have c1 := hcs i (by rw [← HN.out]; exact hin)
    obtain ⟨c, hc⟩ : ∃ c, c = b.getD i 0 := ⟨_, rfl⟩
    have HDR : Hid (b.drop i = c :: b.drop (i + 1)) := by rw [Hid, drop_cons64 (by rw [← HN.out]; exact hin), ← hc]
    rw [← hc] at c1
    obtain ⟨x, hx⟩ : ∃ x, x = c.toNat := ⟨_, rfl⟩
    have hx8 : x < 256 := by rw [hx]; exact c.toNat_lt
    rw [← hx] at c1
    have HX := Lib.hid hx
    have g2 : (0 : Int) ≤ (i : Int) := Int.natCast_nonneg i
    have g3 : ((i : Int)).toNat = i := Int.toNat_natCast i
    have g4 : (i : Int) < (n : Int) := by omega
    have HIN := Lib.hid hin
    have HP1 : Hid (∀ v : Nat, M.oP n (some (v, b.drop (i + 1))) = ((i + 1 : Nat) : Int)) := fun v => by rw [HN.out]; exact M.oP_drop b v (i + 1) (by rw [← HN.out]; exact HIN.out)
    clear hcs hc hin hx hn hi hl
    by_cases k34 : x = 34
    · have HC : Hid (c = 34) := UInt8.toNat_inj.1 (HX.out.symm.trans k34)
      have HE : Hid (M.esc (b.drop i) = some (34, b.drop (i + 1))) := by rw [Hid, HDR.out, HC.out]; exact M.esc_34 _
      have c1 : w.cell? ⟨bk, off + i, none⟩ = some (.int .u8 34) := by rw [c1, k34]; rfl
      clear k34
      rename_i cc
      clear cc
      go_enter Tryz.func133, Tryz.ntmps133
      go_wp2
      go_ret2
      exact ⟨by rw [HE.out, HP1.out]; rfl, HB0.out⟩
    by_cases k92 : x = 92
    · have HC : Hid (c = 92) := UInt8.toNat_inj.1 (HX.out.symm.trans k92)
      have HE : Hid (M.esc (b.drop i) = some (92, b.drop (i + 1))) := by rw [Hid, HDR.out, HC.out]; exact M.esc_92 _
      have c1 : w.cell? ⟨bk, off + i, none⟩ = some (.int .u8 92) := by rw [c1, k92]; rfl
      clear k92
      rename_i cc
      clear cc
      go_enter Tryz.func133, Tryz.ntmps133
      go_wp2
      go_ret2
      exact ⟨by rw [HE.out, HP1.out]; rfl, HB0.out⟩
    by_cases k47 : x = 47
    · have HC : Hid (c = 47) := UInt8.toNat_inj.1 (HX.out.symm.trans k47)
      have HE : Hid (M.esc (b.drop i) = some (47, b.drop (i + 1))) := by rw [Hid, HDR.out, HC.out]; exact M.esc_47 _
      have c1 : w.cell? ⟨bk, off + i, none⟩ = some (.int .u8 47) := by rw [c1, k47]; rfl
      clear k47
      rename_i cc
      clear cc
      go_enter Tryz.func133, Tryz.ntmps133
      go_wp2
      go_ret2
      exact ⟨by rw [HE.out, HP1.out]; rfl, HB0.out⟩
    by_cases k98 : x = 98
    · have HC : Hid (c = 98) := UInt8.toNat_inj.1 (HX.out.symm.trans k98)
      have HE : Hid (M.esc (b.drop i) = some (8, b.drop (i + 1))) := by rw [Hid, HDR.out, HC.out]; exact M.esc_98 _
      have c1 : w.cell? ⟨bk, off + i, none⟩ = some (.int .u8 98) := by rw [c1, k98]; rfl
      clear k98
      rename_i cc
      clear cc
      go_enter Tryz.func133, Tryz.ntmps133
      go_wp2
      go_ret2
      exact ⟨by rw [HE.out, HP1.out]; rfl, HB0.out⟩
    by_cases k102 : x = 102
    · have HC : Hid (c = 102) := UInt8.toNat_inj.1 (HX.out.symm.trans k102)
      have HE : Hid (M.esc (b.drop i) = some (12, b.drop (i + 1))) := by rw [Hid, HDR.out, HC.out]; exact M.esc_102 _
      have c1 : w.cell? ⟨bk, off + i, none⟩ = some (.int .u8 102) := by rw [c1, k102]; rfl
      clear k102
      rename_i cc
      clear cc
      go_enter Tryz.func133, Tryz.ntmps133
      go_wp2
      go_ret2
      exact ⟨by rw [HE.out, HP1.out]; rfl, HB0.out⟩
    by_cases k110 : x = 110
    · have HC : Hid (c = 110) := UInt8.toNat_inj.1 (HX.out.symm.trans k110)
      have HE : Hid (M.esc (b.drop i) = some (10, b.drop (i + 1))) := by rw [Hid, HDR.out, HC.out]; exact M.esc_110 _
      have c1 : w.cell? ⟨bk, off + i, none⟩ = some (.int .u8 110) := by rw [c1, k110]; rfl
      clear k110
      rename_i cc
      clear cc
      go_enter Tryz.func133, Tryz.ntmps133
      go_wp2
      go_ret2
      exact ⟨by rw [HE.out, HP1.out]; rfl, HB0.out⟩
    by_cases k114 : x = 114
    · have HC : Hid (c = 114) := UInt8.toNat_inj.1 (HX.out.symm.trans k114)
      have HE : Hid (M.esc (b.drop i) = some (13, b.drop (i + 1))) := by rw [Hid, HDR.out, HC.out]; exact M.esc_114 _
      have c1 : w.cell? ⟨bk, off + i, none⟩ = some (.int .u8 114) := by rw [c1, k114]; rfl
      clear k114
      rename_i cc
      clear cc
      go_enter Tryz.func133, Tryz.ntmps133
      go_wp2
      go_ret2
      exact ⟨by rw [HE.out, HP1.out]; rfl, HB0.out⟩
    by_cases k116 : x = 116
    · have HC : Hid (c = 116) := UInt8.toNat_inj.1 (HX.out.symm.trans k116)
      have HE : Hid (M.esc (b.drop i) = some (9, b.drop (i + 1))) := by rw [Hid, HDR.out, HC.out]; exact M.esc_116 _
      have c1 : w.cell? ⟨bk, off + i, none⟩ = some (.int .u8 116) := by rw [c1, k116]; rfl
      clear k116
      rename_i cc
      clear cc
      go_enter Tryz.func133, Tryz.ntmps133
      go_wp2
      go_ret2
      exact ⟨by rw [HE.out, HP1.out]; rfl, HB0.out⟩
    by_cases k117 : x = 117
    · have HC : Hid (c = 117) := UInt8.toNat_inj.1 (HX.out.symm.trans k117)
      have HE : Hid (M.esc (b.drop i) = M.esc (117 :: b.drop (i + 1))) := by rw [Hid, HDR.out, HC.out]
      have c1 : w.cell? ⟨bk, off + i, none⟩ = some (.int .u8 117) := by rw [c1, k117]; rfl
      clear k117
      rename_i cc
      clear cc
      have CH := Lib.hid (rhex_any _ b w HI.out (i + 1) (by rw [← HN.out]; exact HIN.out) (by rw [← HN.out]; exact HL.out))
      have EU := Lib.hid (M.esc_u (b.drop (i + 1)))
      cases hx4 : M.hex4 (b.drop (i + 1)) with
      | none =>
        rw [hx4] at CH EU
        have HE2 : Hid (M.esc (b.drop i) = none) := by rw [Hid, HE.out, EU.out]
        have HO : Hid (M.opt none = -1) := rfl
        clear HE EU hx4
        go_enter Tryz.func133, Tryz.ntmps133
        go_wp2_with fail
        refine CH.out.mono ?_
        rintro e w' ⟨rfl, rfl⟩
        rw [HO.out]
        go_wp2
        go_ret2
        exact ⟨by rw [HE2.out]; rfl, HB0.out⟩
      | some v =>
        rw [hx4] at CH EU
        have hv4 := M.hex4_some hx4
        have hvl := hv4.2
        have H5 : Hid (i + 5 ≤ n) := by
          have h1 := hv4.1
          rw [List.length_drop, ← HN.out] at h1
          rw [Hid]
          omega
        have HO : Hid (M.opt (some v) = (v : Int)) := rfl
        have vl : (v : Int) < 65536 := by omega
        have v0 : ¬ (v : Int) < 0 := by omega
        have vd0 : decide ((v : Int) < 0) = false := decide_eq_false v0
        have CS := Lib.hid (rstands_any _ b [92, 117] w HI.out (i + 5) (by rw [← HN.out]; exact H5.out) (by rw [← HN.out]; exact HL.out) (by decide))
        clear hx4 hv4 hvl
        by_cases a1 : 56320 ≤ v
        · have m1 : decide (56320 ≤ (v : Int)) = true := decide_eq_true (by omega)
          by_cases a2 : v < 57344
          · have m2 : decide ((v : Int) < 57344) = true := decide_eq_true (by omega)
            have HE2 : Hid (M.esc (b.drop i) = none) := by
              rw [Hid, HE.out, EU.out]
              dsimp only
              rw [if_pos ⟨a1, a2⟩]
            clear HE EU a1 a2 CS
            go_enter Tryz.func133, Tryz.ntmps133
            go_wp2_with fail
            refine CH.out.mono ?_
            rintro e w' ⟨rfl, rfl⟩
            rw [HO.out]
            go_wp2
            go_ret2
            exact ⟨by rw [HE2.out]; rfl, HB0.out⟩
          · have m2 : decide ((v : Int) < 57344) = false := decide_eq_false (by omega)
            have m3 : decide ((v : Int) < 55296) = false := decide_eq_false (by omega)
            have m4 : decide (57344 ≤ (v : Int)) = true := decide_eq_true (by omega)
            have HE2 : Hid (M.esc (b.drop i) = some (v, b.drop (i + 5))) := by
              rw [Hid, HE.out, EU.out]
              dsimp only
              rw [if_neg (fun h => a2 h.2), if_pos (Or.inr (by omega)), drop_two b _ _ (i + 5) (by omega)]
            have HP2 : Hid (M.oP n (some (v, b.drop (i + 5))) = ((i + 5 : Nat) : Int)) := by rw [Hid, HN.out]; exact M.oP_drop b v (i + 5) (by rw [← HN.out]; exact H5.out)
            clear HE EU a1 a2 CS
            go_enter Tryz.func133, Tryz.ntmps133
            go_wp2_with fail
            refine CH.out.mono ?_
            rintro e w' ⟨rfl, rfl⟩
            rw [HO.out]
            go_wp2
            go_ret2
            exact ⟨by rw [HE2.out, HP2.out]; rfl, HB0.out⟩
        · have m1 : decide (56320 ≤ (v : Int)) = false := decide_eq_false (by omega)
          by_cases a3 : v < 55296
          · have m3 : decide ((v : Int) < 55296) = true := decide_eq_true (by omega)
            have HE2 : Hid (M.esc (b.drop i) = some (v, b.drop (i + 5))) := by
              rw [Hid, HE.out, EU.out]
              dsimp only
              rw [if_neg (fun h => a1 h.1), if_pos (Or.inl a3), drop_two b _ _ (i + 5) (by omega)]
            have HP2 : Hid (M.oP n (some (v, b.drop (i + 5))) = ((i + 5 : Nat) : Int)) := by rw [Hid, HN.out]; exact M.oP_drop b v (i + 5) (by rw [← HN.out]; exact H5.out)
            clear HE EU a1 a3 CS
            go_enter Tryz.func133, Tryz.ntmps133
            go_wp2_with fail
            refine CH.out.mono ?_
            rintro e w' ⟨rfl, rfl⟩
            rw [HO.out]
            go_wp2
            go_ret2
            exact ⟨by rw [HE2.out, HP2.out]; rfl, HB0.out⟩
          · have m3 : decide ((v : Int) < 55296) = false := decide_eq_false (by omega)
            have m4 : decide (57344 ≤ (v : Int)) = false := decide_eq_false (by omega)
            have vlo : (55296 : Int) ≤ (v : Int) := by omega
            have vhi : (v : Int) < 56320 := by omega
            have EV : Hid (M.esc (b.drop i) = if [92, 117] <+: b.drop (i + 5) then (match M.hex4 (b.drop (i + 7)) with
                | none => none
                | some x => if 56320 ≤ x ∧ x < 57344 then some ((v - 55296) * 1024 + (x - 56320) + 65536, b.drop (i + 11)) else none) else none) := by
              rw [Hid, HE.out, EU.out]
              dsimp only
              rw [if_neg (fun h => a1 h.1), if_neg (by omega), drop_two b _ _ (i + 5) (by omega), drop_two b _ _ (i + 7) (by omega), drop_two b _ _ (i + 11) (by omega)]
            clear HE EU a1 a3
            by_cases hs : [92, 117] <+: b.drop (i + 5)
            · have CS2 : Hid (Calls Tryz.prog 90 #[.slice (some ⟨bk, off, none⟩) n cap, .int .i64 ((i + 5 : Nat) : Int), .string ⟨#[92, 117]⟩] w fun e w' => e = .returned (.bool true) ∧ Below w.heap.size w w') := by
                rw [Hid]
                refine CS.out.mono ?_
                rintro e w' ⟨rfl, k⟩
                exact ⟨by rw [decide_eq_true hs], k⟩
              have H7 : Hid (i + 7 ≤ n) := by
                have h1 := hs.length_le
                rw [List.length_drop, ← HN.out] at h1
                simp only [List.length_cons, List.length_nil] at h1
                have := H5.out
                rw [Hid]
                omega
              have EW : Hid (M.esc (b.drop i) = (match M.hex4 (b.drop (i + 7)) with
                | none => none
                | some x => if 56320 ≤ x ∧ x < 57344 then some ((v - 55296) * 1024 + (x - 56320) + 65536, b.drop (i + 11)) else none)) := by rw [Hid, EV.out, if_pos hs]
              clear EV CS hs
              go_enter Tryz.func133, Tryz.ntmps133
              go_wp2_with fail
              refine CH.out.mono ?_
              rintro e w' ⟨rfl, rfl⟩
              rw [HO.out]
              go_wp2_with fail
              refine CS2.out.mono ?_
              rintro e w2 ⟨rfl, k2⟩
              have K2 := Lib.hid k2
              clear k2
              have CH2 := Lib.hid (rhex_any _ b w2 (HI.out.below K2.out) (i + 7) (by rw [← HN.out]; exact H7.out) (by rw [← HN.out]; exact HL.out))
              cases hx7 : M.hex4 (b.drop (i + 7)) with
              | none =>
                rw [hx7] at CH2 EW
                have HE2 : Hid (M.esc (b.drop i) = none) := by rw [Hid, EW.out]
                have HO2 : Hid (M.opt none = -1) := rfl
                clear EW hx7
                go_wp2_with fail
                refine CH2.out.mono ?_
                rintro e w' ⟨rfl, rfl⟩
                rw [HO2.out]
                go_wp2
                go_ret2
                exact ⟨by rw [HE2.out]; rfl, K2.out⟩
              | some y =>
                rw [hx7] at CH2 EW
                have hy4 := M.hex4_some hx7
                have hyl := hy4.2
                have H11 : Hid (i + 11 ≤ n) := by
                  have h1 := hy4.1
                  rw [List.length_drop, ← HN.out] at h1
                  have := H7.out
                  rw [Hid]
                  omega
                have HO2 : Hid (M.opt (some y) = (y : Int)) := rfl
                have yl : (y : Int) < 65536 := by omega
                clear hx7 hy4 hyl
                by_cases b1 : 56320 ≤ y
                · have p1 : decide ((y : Int) < 56320) = false := decide_eq_false (by omega)
                  by_cases b2 : y < 57344
                  · have p2 : decide (57344 ≤ (y : Int)) = false := decide_eq_false (by omega)
                    have ylo : (56320 : Int) ≤ (y : Int) := by omega
                    obtain ⟨z, hz⟩ : ∃ z, z = (v - 55296) * 1024 + (y - 56320) + 65536 := ⟨_, rfl⟩
                    have hzi : ((v : Int) - 55296) * 1024 + (y : Int) - 56320 + 65536 = (z : Int) := by omega
                    have HE2 : Hid (M.esc (b.drop i) = some (z, b.drop (i + 11))) := by
                      rw [Hid, EW.out]
                      dsimp only
                      rw [if_pos ⟨b1, b2⟩, hz]
                    have HP2 : Hid (M.oP n (some (z, b.drop (i + 11))) = ((i + 11 : Nat) : Int)) := by rw [Hid, HN.out]; exact M.oP_drop b z (i + 11) (by rw [← HN.out]; exact H11.out)
                    clear EW b1 b2 hz
                    go_wp2_with fail
                    refine CH2.out.mono ?_
                    rintro e w' ⟨rfl, rfl⟩
                    rw [HO2.out]
                    go_wp2
                    go_ret2
                    exact ⟨by rw [HE2.out, HP2.out]; rfl, K2.out⟩
                  · have p2 : decide (57344 ≤ (y : Int)) = true := decide_eq_true (by omega)
                    have HE2 : Hid (M.esc (b.drop i) = none) := by
                      rw [Hid, EW.out]
                      dsimp only
                      rw [if_neg (fun h => b2 h.2)]
                    clear EW b1 b2
                    go_wp2_with fail
                    refine CH2.out.mono ?_
                    rintro e w' ⟨rfl, rfl⟩
                    rw [HO2.out]
                    go_wp2
                    go_ret2
                    exact ⟨by rw [HE2.out]; rfl, K2.out⟩
                · have p1 : decide ((y : Int) < 56320) = true := decide_eq_true (by omega)
                  have HE2 : Hid (M.esc (b.drop i) = none) := by
                    rw [Hid, EW.out]
                    dsimp only
                    rw [if_neg (fun h => b1 h.1)]
                  clear EW b1
                  go_wp2_with fail
                  refine CH2.out.mono ?_
                  rintro e w' ⟨rfl, rfl⟩
                  rw [HO2.out]
                  go_wp2
                  go_ret2
                  exact ⟨by rw [HE2.out]; rfl, K2.out⟩
            · have CS2 : Hid (Calls Tryz.prog 90 #[.slice (some ⟨bk, off, none⟩) n cap, .int .i64 ((i + 5 : Nat) : Int), .string ⟨#[92, 117]⟩] w fun e w' => e = .returned (.bool false) ∧ Below w.heap.size w w') := by
                rw [Hid]
                refine CS.out.mono ?_
                rintro e w' ⟨rfl, k⟩
                exact ⟨by rw [decide_eq_false hs], k⟩
              have HE2 : Hid (M.esc (b.drop i) = none) := by rw [Hid, EV.out, if_neg hs]
              clear EV CS hs
              go_enter Tryz.func133, Tryz.ntmps133
              go_wp2_with fail
              refine CH.out.mono ?_
              rintro e w' ⟨rfl, rfl⟩
              rw [HO.out]
              go_wp2_with fail
              refine CS2.out.mono ?_
              rintro e w2 ⟨rfl, k2⟩
              have K2 := Lib.hid k2
              clear k2
              go_wp2
              go_ret2
              exact ⟨by rw [HE2.out]; rfl, K2.out⟩
    · have HE : Hid (M.esc (b.drop i) = none) := by rw [Hid, HDR.out]; exact M.esc_no c _ (by rw [← HX.out]; exact ⟨k34, k92, k47, k98, k102, k110, k114, k116, k117⟩)
      have e34 : ((x : Int) == 34) = false := by simp; omega
      have e92 : ((x : Int) == 92) = false := by simp; omega
      have e47 : ((x : Int) == 47) = false := by simp; omega
      have e98 : ((x : Int) == 98) = false := by simp; omega
      have e102 : ((x : Int) == 102) = false := by simp; omega
      have e110 : ((x : Int) == 110) = false := by simp; omega
      have e114 : ((x : Int) == 114) = false := by simp; omega
      have e116 : ((x : Int) == 116) = false := by simp; omega
      have e117 : ((x : Int) == 117) = false := by simp; omega
      clear k34 k92 k47 k98 k102 k110 k114 k116 k117
      go_enter Tryz.func133, Tryz.ntmps133
      go_wp2
      go_ret2
      exact ⟨by rw [HE.out]; rfl, HB0.out⟩
  · have d1 : (n : Int) ≤ (i : Int) := by omega
    have HE : Hid (M.esc (b.drop i) = none) := by
      rw [Hid, List.drop_eq_nil_of_le (by rw [← HN.out]; omega)]
      rfl
    clear hin hn hi hl
    go_enter Tryz.func133, Tryz.ntmps133
    go_wp2
    go_ret2
    exact ⟨by rw [HE.out]; rfl, HB0.out⟩

end Go.Proofs.YtbgadfaiehkanaaGreatDoor
