/-
  CONTRACT OF orlopref15.Rune. Conditions: rows of up to 2^40 bytes.
-/
import Derived.Test.YtbgadfaiehkanaaGreatDoorPj6
namespace Go.Proofs.YtbgadfaiehkanaaGreatDoor
open Go.RowKit
set_option linter.unusedVariables false
set_option maxRecDepth 100000

/-- What is made of a rune's bits. -/
def M.runeOf (L N : Nat) : Option Nat → Nat × Nat
  | none => (0, 0)
  | some v => if v < L ∨ 1114111 < v ∨ 55296 ≤ v ∧ v < 57344 then (0, 0) else (v, N)

theorem M.rune_of (c : UInt8) (r : List UInt8) (h1 : ¬ c.toNat < 128) (N V L : Nat) (hN : M.lead c.toNat = (N, V, L)) (h2 : N ≠ 0) (h3 : N ≤ r.length + 1) :
    M.rune (c :: r) = M.runeOf L N (M.follow (r.take (N - 1)) V) := by
  rw [M.rune, if_neg h1, hN]
  show (if N = 0 ∨ r.length + 1 < N then _ else _) = _
  rw [if_neg (by omega)]
  cases M.follow (r.take (N - 1)) V <;> rfl

theorem M.rune_low (c : UInt8) (r : List UInt8) (h1 : c.toNat < 128) : M.rune (c :: r) = (c.toNat, 1) := by rw [M.rune, if_pos h1]

theorem M.rune_short (c : UInt8) (r : List UInt8) (h1 : ¬ c.toNat < 128) (h : (M.lead c.toNat).1 = 0 ∨ r.length + 1 < (M.lead c.toNat).1) : M.rune (c :: r) = (0, 0) := by
  rw [M.rune, if_neg h1, if_pos h]

theorem M.follow_on (c y : UInt8) (r : List UInt8) (i N v : Nat) (h1 : 1 ≤ i) (h2 : i < N) (h3 : N ≤ r.length + 1) (hy : y = (c :: r).getD i 0) :
    M.follow ((r.drop (i - 1)).take (N - i)) v = if y.toNat / 64 = 2 then M.follow ((r.drop (i + 1 - 1)).take (N - (i + 1))) (v * 64 + y.toNat % 64) else none := by
  obtain ⟨j, rfl⟩ : ∃ j, i = j + 1 := ⟨i - 1, by omega⟩
  obtain ⟨m, rfl⟩ : ∃ m, N = m + (j + 2) := ⟨N - (j + 2), by omega⟩
  have hj : j < r.length := by omega
  have e : y = r[j] := by rw [hy, List.getD_cons_succ, List.getD_eq_getElem?_getD, List.getElem?_eq_getElem hj]; rfl
  have e1 : j + 1 - 1 = j := by omega
  have e2 : m + (j + 2) - (j + 1) = m + 1 := by omega
  have e3 : j + 1 + 1 - 1 = j + 1 := by omega
  have e4 : m + (j + 2) - (j + 1 + 1) = m := by omega
  rw [e1, e2, e3, e4, List.drop_eq_getElem_cons hj, List.take_succ_cons, M.follow, ← e]

theorem add64_lt {v d i : Nat} (h : v < 64 ^ i) (hd : d < 64) : v * 64 + d < 64 ^ (i + 1) := by
  rw [Nat.pow_succ]
  omega

set_option maxHeartbeats 8000000 in
theorem rrune_any (bv : Value) (b : List UInt8) (w : World) (h : IsB w bv b) (hl : b.length ≤ 1099511627776) :
    Calls Tryz.prog 135 #[bv] w fun e w' => e = .returned (.tuple #[.int .i64 ((M.rune b).1 : Int), .int .i64 ((M.rune b).2 : Int)]) ∧ w' = w := by
  have HI := Lib.hid h
  obtain ⟨ao, cap, rfl, h1, h2, h3⟩ := h
  obtain ⟨n, hn⟩ : ∃ n, n = b.length := ⟨_, rfl⟩
  rw [← hn] at hl h1 HI ⊢
  have HN := Lib.hid hn
  have HL := Lib.hid hl
  have hnl : (n : Int) ≤ 1099511627776 := by omega
  unfold maxLen at h2
  clear h3 h1
  cases b with
  | nil =>
    obtain rfl : n = 0 := hn
    have HR : Hid (M.rune [] = (0, 0)) := rfl
    clear hl
    go_enter Tryz.func135, Tryz.ntmps135
    go_wp2
    go_ret2
    exact ⟨by rw [HR.out]; rfl, rfl⟩
  | cons c r =>
    have HLEN : Hid (n = r.length + 1) := hn
    have hn0 : ¬ (n : Int) = 0 := by rw [hn, List.length_cons]; omega
    clear hl
    obtain ⟨bk, off, rfl, hcs⟩ := HI.out.cellAt (by rw [← HN.out, HLEN.out]; omega)
    have HCS := Lib.hid hcs
    have c0a := hcs 0 (by rw [← HN.out, HLEN.out]; omega)
    rw [Nat.add_zero] at c0a
    obtain ⟨x, hx⟩ : ∃ x, x = c.toNat := ⟨_, rfl⟩
    have c0 : w.cell? ⟨bk, off, none⟩ = some (.int .u8 (x : Int)) := by rw [c0a, hx]; rfl
    have hx8 : x < 256 := by rw [hx]; exact c.toNat_lt
    have HX := Lib.hid hx
    have i0 : (0 : Int) < (n : Int) := by omega
    clear hcs hn hx c0a
    go_enter Tryz.func135, Tryz.ntmps135
    by_cases k128 : x < 128
    · have g0 : (x : Int) < 128 := by omega
      have HR : Hid (M.rune (c :: r) = (x, 1)) := by rw [Hid, HX.out]; exact M.rune_low c r (by rw [← HX.out]; exact k128)
      clear k128
      go_wp2
      go_ret2
      exact ⟨by rw [HR.out]; rfl, rfl⟩
    have g0 : ¬ (x : Int) < 128 := by omega
    have H128 : Hid (¬ c.toNat < 128) := by rw [Hid, ← HX.out]; exact k128
    by_cases k1 : 128 ≤ x ∧ x < 194
    · have g194 : decide ((194 : Int) ≤ (x : Int)) = false := decide_eq_false (by omega)
      have g224 : decide ((224 : Int) ≤ (x : Int)) = false := decide_eq_false (by omega)
      have g240 : decide ((240 : Int) ≤ (x : Int)) = false := decide_eq_false (by omega)
      have l224 : decide ((x : Int) < 224) = true := decide_eq_true (by omega)
      have l240 : decide ((x : Int) < 240) = true := decide_eq_true (by omega)
      have l245 : decide ((x : Int) < 245) = true := decide_eq_true (by omega)
      have HR : Hid (M.rune (c :: r) = (0, 0)) := M.rune_short c r H128.out (Or.inl (by rw [← HX.out]; unfold M.lead; rw [if_neg (by omega), if_neg (by omega), if_neg (by omega)]))
      clear k1
      go_wp2
      go_ret2
      exact ⟨by rw [HR.out]; rfl, rfl⟩
    by_cases k2 : 194 ≤ x ∧ x < 224
    · have HLD : Hid (M.lead c.toNat = (2, x % 32, 128)) := by rw [Hid, ← HX.out]; unfold M.lead; rw [if_pos (by omega)]
      have g194 : decide ((194 : Int) ≤ (x : Int)) = true := decide_eq_true (by omega)
      have g224 : decide ((224 : Int) ≤ (x : Int)) = false := decide_eq_false (by omega)
      have g240 : decide ((240 : Int) ≤ (x : Int)) = false := decide_eq_false (by omega)
      have l224 : decide ((x : Int) < 224) = true := decide_eq_true (by omega)
      have l240 : decide ((x : Int) < 240) = true := decide_eq_true (by omega)
      have l245 : decide ((x : Int) < 245) = true := decide_eq_true (by omega)
      obtain ⟨V, hV⟩ : ∃ V, V = x % 32 := ⟨_, rfl⟩
      have hVl : V < 32 := by rw [hV]; exact Nat.mod_lt _ (by decide)
      have hmd : (x : Int).tmod 32 = (V : Int) := by rw [hV]; rfl
      have hmd2 : (x : Int) % 32 = (V : Int) := by rw [hV]; rfl
      rw [← hV] at HLD
      clear hV k2 k128
      by_cases hN : 2 ≤ n
      · have hNi : ¬ (n : Int) < 2 := by omega
        have hNd : decide ((n : Int) < 2) = false := decide_eq_false hNi
        have HNN : Hid (2 ≤ r.length + 1) := by rw [Hid, ← HLEN.out]; exact hN
        obtain ⟨fo, hfo⟩ : ∃ fo, fo = M.follow (r.take (2 - 1)) V := ⟨_, rfl⟩
        have HR : Hid (M.rune (c :: r) = M.runeOf 128 2 fo) := by rw [Hid, hfo]; exact M.rune_of c r H128.out 2 V 128 HLD.out (by decide) HNN.out
        have HFO := Lib.hid hfo
        have HNn := Lib.hid hN
        clear hfo hN
        go_wp2
        go_loop [6, 8] (fun vv x => ∃ i v : Nat, x = .int .i64 (i : Int) ∧ vv = .int .i64 (v : Int) ∧ Hid (1 ≤ i) ∧ Hid (i ≤ 2) ∧ Hid (v < 64 ^ i) ∧ Hid (M.follow ((r.drop (i - 1)).take (2 - i)) v = fo)) (fun _ x => 2 - (intOf x).toNat)
        case atStart => exact ⟨1, V, rfl, rfl, Lib.hid (Nat.le_refl 1), Lib.hid (show 1 ≤ 2 by decide), Lib.hid (show V < 64 ^ 1 from Nat.lt_of_lt_of_le hVl (by decide)), Lib.hid HFO.out.symm⟩
        case round =>
          obtain ⟨i, v, rfl, rfl, h1i, hiN, HV, HST⟩ := hrel
          by_cases hlt : i < 2
          · have b0 : (i : Int) < 2 := by omega
            have hvb : v < 262144 := by
              have h1 := HV.out
              have h2 : 64 ^ i ≤ 64 ^ 3 := Nat.pow_le_pow_right (by decide) (by omega)
              omega
            have hvi : (v : Int) < 262144 := by omega
            have HLT := Lib.hid hlt
            have c1 := HCS.out i (by rw [← HN.out]; exact Nat.lt_of_lt_of_le hlt HNn.out)
            obtain ⟨y8, hy8⟩ : ∃ z, z = (c :: r).getD i 0 := ⟨_, rfl⟩
            have HON := Lib.hid (M.follow_on c y8 r i 2 v h1i.out hlt HNN.out hy8)
            rw [← hy8] at c1
            obtain ⟨y, hy⟩ : ∃ y, y = y8.toNat := ⟨_, rfl⟩
            have hyb : y < 256 := by rw [hy]; exact y8.toNat_lt
            have hyi : (y : Int) < 256 := by omega
            rw [← hy] at c1 HON
            obtain ⟨u, hu⟩ : ∃ u, u = y / 64 := ⟨_, rfl⟩
            obtain ⟨t, ht⟩ : ∃ u, u = y % 64 := ⟨_, rfl⟩
            rw [← hu, ← ht] at HON
            have hqi : (y : Int) / 64 = (u : Int) := by rw [hu]; rfl
            have hri : (y : Int).tmod 64 = (t : Int) := by rw [ht]; rfl
            have hri2 : (y : Int) % 64 = (t : Int) := by rw [ht]; rfl
            have ht64 : t < 64 := by rw [ht]; exact Nat.mod_lt _ (by decide)
            have hti : (t : Int) < 64 := by omega
            have g2 : (0 : Int) ≤ (i : Int) := Int.natCast_nonneg i
            have g3 : ((i : Int)).toNat = i := Int.toNat_natCast i
            have g4 : (i : Int) < (n : Int) := by have := HNn.out; omega
            clear hu ht hy hy8 hvb hyb ht64 hlt
            by_cases hu2 : u = 2
            · have q1 : ((u : Int) != 2) = false := by simp [hu2]
              have q2 : (u : Int) = 2 := by omega
              have HNX : Hid (M.follow ((r.drop (i + 1 - 1)).take (2 - (i + 1))) (v * 64 + t) = fo) := by rw [Hid, ← HST.out, HON.out, if_pos hu2]
              have HTL := Lib.hid hti
              clear hu2
              go_wp2
              refine ⟨⟨i + 1, v * 64 + t, by go_num, by go_num, Lib.hid (Nat.succ_le_succ (Nat.zero_le i)), HLT.out, ?_, HNX⟩, by simp only [intOf]; have := HLT.out; omega⟩
              exact add64_lt HV.out (by have := HTL.out; omega)
            · have q1 : ((u : Int) != 2) = true := by simp; omega
              have q2 : ¬ (u : Int) = 2 := by omega
              have HNX : Hid (fo = none) := by rw [Hid, ← HST.out, HON.out, if_neg hu2]
              clear hu2
              go_wp2
              go_ret2
              exact ⟨by rw [HR.out, HNX.out]; rfl, rfl⟩
          · have b0 : ¬ (i : Int) < 2 := by omega
            have HFV : Hid (fo = some v) := by
              have h1 : 2 - i = 0 := by omega
              rw [Hid, ← HST.out, h1, List.take_zero]
              rfl
            have hvb : v < 16777216 := by
              have h1 := HV.out
              have h2 : 64 ^ i ≤ 64 ^ 4 := Nat.pow_le_pow_right (by decide) (by have := hiN.out; omega)
              omega
            have hvi : (v : Int) < 16777216 := by omega
            clear hlt hvb
            by_cases v1 : v < 128
            · have d1 : decide ((v : Int) < 128) = true := decide_eq_true (by omega)
              have HE : Hid (M.rune (c :: r) = (0, 0)) := by rw [Hid, HR.out, HFV.out, M.runeOf, if_pos (Or.inl v1)]
              clear v1
              go_wp2
              go_ret2
              exact ⟨by rw [HE.out]; rfl, rfl⟩
            have d1 : decide ((v : Int) < 128) = false := decide_eq_false (by omega)
            by_cases v2 : 1114111 < v
            · have d2 : decide (1114111 < (v : Int)) = true := decide_eq_true (by omega)
              have HE : Hid (M.rune (c :: r) = (0, 0)) := by rw [Hid, HR.out, HFV.out, M.runeOf, if_pos (Or.inr (Or.inl v2))]
              clear v1 v2
              go_wp2
              go_ret2
              exact ⟨by rw [HE.out]; rfl, rfl⟩
            have d2 : decide (1114111 < (v : Int)) = false := decide_eq_false (by omega)
            by_cases v3 : 55296 ≤ v
            · have d3 : decide (55296 ≤ (v : Int)) = true := decide_eq_true (by omega)
              by_cases v4 : v < 57344
              · have d4 : decide ((v : Int) < 57344) = true := decide_eq_true (by omega)
                have HE : Hid (M.rune (c :: r) = (0, 0)) := by rw [Hid, HR.out, HFV.out, M.runeOf, if_pos (Or.inr (Or.inr ⟨v3, v4⟩))]
                clear v1 v2 v3 v4
                go_wp2
                go_ret2
                exact ⟨by rw [HE.out]; rfl, rfl⟩
              · have d4 : decide ((v : Int) < 57344) = false := decide_eq_false (by omega)
                have HE : Hid (M.rune (c :: r) = (v, 2)) := by rw [Hid, HR.out, HFV.out, M.runeOf, if_neg (by omega)]
                clear v1 v2 v3 v4
                go_wp2
                go_ret2
                exact ⟨by rw [HE.out]; rfl, rfl⟩
            · have d3 : decide (55296 ≤ (v : Int)) = false := decide_eq_false (by omega)
              have d4 : decide ((v : Int) < 57344) = true := decide_eq_true (by omega)
              have HE : Hid (M.rune (c :: r) = (v, 2)) := by rw [Hid, HR.out, HFV.out, M.runeOf, if_neg (by omega)]
              clear v1 v2 v3
              go_wp2
              go_ret2
              exact ⟨by rw [HE.out]; rfl, rfl⟩
      · have hNi : (n : Int) < 2 := by omega
        have hNd : decide ((n : Int) < 2) = true := decide_eq_true hNi
        have HE : Hid (M.rune (c :: r) = (0, 0)) := M.rune_short c r H128.out (Or.inr (by rw [HLD.out, ← HLEN.out]; show n < 2; omega))
        clear hN
        go_wp2
        go_ret2
        exact ⟨by rw [HE.out]; rfl, rfl⟩
    by_cases k3 : 224 ≤ x ∧ x < 240
    · have HLD : Hid (M.lead c.toNat = (3, x % 16, 2048)) := by rw [Hid, ← HX.out]; unfold M.lead; rw [if_neg (by omega), if_pos (by omega)]
      have g194 : decide ((194 : Int) ≤ (x : Int)) = true := decide_eq_true (by omega)
      have g224 : decide ((224 : Int) ≤ (x : Int)) = true := decide_eq_true (by omega)
      have g240 : decide ((240 : Int) ≤ (x : Int)) = false := decide_eq_false (by omega)
      have l224 : decide ((x : Int) < 224) = false := decide_eq_false (by omega)
      have l240 : decide ((x : Int) < 240) = true := decide_eq_true (by omega)
      have l245 : decide ((x : Int) < 245) = true := decide_eq_true (by omega)
      obtain ⟨V, hV⟩ : ∃ V, V = x % 16 := ⟨_, rfl⟩
      have hVl : V < 16 := by rw [hV]; exact Nat.mod_lt _ (by decide)
      have hmd : (x : Int).tmod 16 = (V : Int) := by rw [hV]; rfl
      have hmd2 : (x : Int) % 16 = (V : Int) := by rw [hV]; rfl
      rw [← hV] at HLD
      clear hV k3 k128
      by_cases hN : 3 ≤ n
      · have hNi : ¬ (n : Int) < 3 := by omega
        have hNd : decide ((n : Int) < 3) = false := decide_eq_false hNi
        have HNN : Hid (3 ≤ r.length + 1) := by rw [Hid, ← HLEN.out]; exact hN
        obtain ⟨fo, hfo⟩ : ∃ fo, fo = M.follow (r.take (3 - 1)) V := ⟨_, rfl⟩
        have HR : Hid (M.rune (c :: r) = M.runeOf 2048 3 fo) := by rw [Hid, hfo]; exact M.rune_of c r H128.out 3 V 2048 HLD.out (by decide) HNN.out
        have HFO := Lib.hid hfo
        have HNn := Lib.hid hN
        clear hfo hN
        go_wp2
        go_loop [6, 8] (fun vv x => ∃ i v : Nat, x = .int .i64 (i : Int) ∧ vv = .int .i64 (v : Int) ∧ Hid (1 ≤ i) ∧ Hid (i ≤ 3) ∧ Hid (v < 64 ^ i) ∧ Hid (M.follow ((r.drop (i - 1)).take (3 - i)) v = fo)) (fun _ x => 3 - (intOf x).toNat)
        case atStart => exact ⟨1, V, rfl, rfl, Lib.hid (Nat.le_refl 1), Lib.hid (show 1 ≤ 3 by decide), Lib.hid (show V < 64 ^ 1 from Nat.lt_of_lt_of_le hVl (by decide)), Lib.hid HFO.out.symm⟩
        case round =>
          obtain ⟨i, v, rfl, rfl, h1i, hiN, HV, HST⟩ := hrel
          by_cases hlt : i < 3
          · have b0 : (i : Int) < 3 := by omega
            have hvb : v < 262144 := by
              have h1 := HV.out
              have h2 : 64 ^ i ≤ 64 ^ 3 := Nat.pow_le_pow_right (by decide) (by omega)
              omega
            have hvi : (v : Int) < 262144 := by omega
            have HLT := Lib.hid hlt
            have c1 := HCS.out i (by rw [← HN.out]; exact Nat.lt_of_lt_of_le hlt HNn.out)
            obtain ⟨y8, hy8⟩ : ∃ z, z = (c :: r).getD i 0 := ⟨_, rfl⟩
            have HON := Lib.hid (M.follow_on c y8 r i 3 v h1i.out hlt HNN.out hy8)
            rw [← hy8] at c1
            obtain ⟨y, hy⟩ : ∃ y, y = y8.toNat := ⟨_, rfl⟩
            have hyb : y < 256 := by rw [hy]; exact y8.toNat_lt
            have hyi : (y : Int) < 256 := by omega
            rw [← hy] at c1 HON
            obtain ⟨u, hu⟩ : ∃ u, u = y / 64 := ⟨_, rfl⟩
            obtain ⟨t, ht⟩ : ∃ u, u = y % 64 := ⟨_, rfl⟩
            rw [← hu, ← ht] at HON
            have hqi : (y : Int) / 64 = (u : Int) := by rw [hu]; rfl
            have hri : (y : Int).tmod 64 = (t : Int) := by rw [ht]; rfl
            have hri2 : (y : Int) % 64 = (t : Int) := by rw [ht]; rfl
            have ht64 : t < 64 := by rw [ht]; exact Nat.mod_lt _ (by decide)
            have hti : (t : Int) < 64 := by omega
            have g2 : (0 : Int) ≤ (i : Int) := Int.natCast_nonneg i
            have g3 : ((i : Int)).toNat = i := Int.toNat_natCast i
            have g4 : (i : Int) < (n : Int) := by have := HNn.out; omega
            clear hu ht hy hy8 hvb hyb ht64 hlt
            by_cases hu2 : u = 2
            · have q1 : ((u : Int) != 2) = false := by simp [hu2]
              have q2 : (u : Int) = 2 := by omega
              have HNX : Hid (M.follow ((r.drop (i + 1 - 1)).take (3 - (i + 1))) (v * 64 + t) = fo) := by rw [Hid, ← HST.out, HON.out, if_pos hu2]
              have HTL := Lib.hid hti
              clear hu2
              go_wp2
              refine ⟨⟨i + 1, v * 64 + t, by go_num, by go_num, Lib.hid (Nat.succ_le_succ (Nat.zero_le i)), HLT.out, ?_, HNX⟩, by simp only [intOf]; have := HLT.out; omega⟩
              exact add64_lt HV.out (by have := HTL.out; omega)
            · have q1 : ((u : Int) != 2) = true := by simp; omega
              have q2 : ¬ (u : Int) = 2 := by omega
              have HNX : Hid (fo = none) := by rw [Hid, ← HST.out, HON.out, if_neg hu2]
              clear hu2
              go_wp2
              go_ret2
              exact ⟨by rw [HR.out, HNX.out]; rfl, rfl⟩
          · have b0 : ¬ (i : Int) < 3 := by omega
            have HFV : Hid (fo = some v) := by
              have h1 : 3 - i = 0 := by omega
              rw [Hid, ← HST.out, h1, List.take_zero]
              rfl
            have hvb : v < 16777216 := by
              have h1 := HV.out
              have h2 : 64 ^ i ≤ 64 ^ 4 := Nat.pow_le_pow_right (by decide) (by have := hiN.out; omega)
              omega
            have hvi : (v : Int) < 16777216 := by omega
            clear hlt hvb
            by_cases v1 : v < 2048
            · have d1 : decide ((v : Int) < 2048) = true := decide_eq_true (by omega)
              have HE : Hid (M.rune (c :: r) = (0, 0)) := by rw [Hid, HR.out, HFV.out, M.runeOf, if_pos (Or.inl v1)]
              clear v1
              go_wp2
              go_ret2
              exact ⟨by rw [HE.out]; rfl, rfl⟩
            have d1 : decide ((v : Int) < 2048) = false := decide_eq_false (by omega)
            by_cases v2 : 1114111 < v
            · have d2 : decide (1114111 < (v : Int)) = true := decide_eq_true (by omega)
              have HE : Hid (M.rune (c :: r) = (0, 0)) := by rw [Hid, HR.out, HFV.out, M.runeOf, if_pos (Or.inr (Or.inl v2))]
              clear v1 v2
              go_wp2
              go_ret2
              exact ⟨by rw [HE.out]; rfl, rfl⟩
            have d2 : decide (1114111 < (v : Int)) = false := decide_eq_false (by omega)
            by_cases v3 : 55296 ≤ v
            · have d3 : decide (55296 ≤ (v : Int)) = true := decide_eq_true (by omega)
              by_cases v4 : v < 57344
              · have d4 : decide ((v : Int) < 57344) = true := decide_eq_true (by omega)
                have HE : Hid (M.rune (c :: r) = (0, 0)) := by rw [Hid, HR.out, HFV.out, M.runeOf, if_pos (Or.inr (Or.inr ⟨v3, v4⟩))]
                clear v1 v2 v3 v4
                go_wp2
                go_ret2
                exact ⟨by rw [HE.out]; rfl, rfl⟩
              · have d4 : decide ((v : Int) < 57344) = false := decide_eq_false (by omega)
                have HE : Hid (M.rune (c :: r) = (v, 3)) := by rw [Hid, HR.out, HFV.out, M.runeOf, if_neg (by omega)]
                clear v1 v2 v3 v4
                go_wp2
                go_ret2
                exact ⟨by rw [HE.out]; rfl, rfl⟩
            · have d3 : decide (55296 ≤ (v : Int)) = false := decide_eq_false (by omega)
              have d4 : decide ((v : Int) < 57344) = true := decide_eq_true (by omega)
              have HE : Hid (M.rune (c :: r) = (v, 3)) := by rw [Hid, HR.out, HFV.out, M.runeOf, if_neg (by omega)]
              clear v1 v2 v3
              go_wp2
              go_ret2
              exact ⟨by rw [HE.out]; rfl, rfl⟩
      · have hNi : (n : Int) < 3 := by omega
        have hNd : decide ((n : Int) < 3) = true := decide_eq_true hNi
        have HE : Hid (M.rune (c :: r) = (0, 0)) := M.rune_short c r H128.out (Or.inr (by rw [HLD.out, ← HLEN.out]; show n < 3; omega))
        clear hN
        go_wp2
        go_ret2
        exact ⟨by rw [HE.out]; rfl, rfl⟩
    by_cases k4 : 240 ≤ x ∧ x < 245
    · have HLD : Hid (M.lead c.toNat = (4, x % 8, 65536)) := by rw [Hid, ← HX.out]; unfold M.lead; rw [if_neg (by omega), if_neg (by omega), if_pos (by omega)]
      have g194 : decide ((194 : Int) ≤ (x : Int)) = true := decide_eq_true (by omega)
      have g224 : decide ((224 : Int) ≤ (x : Int)) = true := decide_eq_true (by omega)
      have g240 : decide ((240 : Int) ≤ (x : Int)) = true := decide_eq_true (by omega)
      have l224 : decide ((x : Int) < 224) = false := decide_eq_false (by omega)
      have l240 : decide ((x : Int) < 240) = false := decide_eq_false (by omega)
      have l245 : decide ((x : Int) < 245) = true := decide_eq_true (by omega)
      obtain ⟨V, hV⟩ : ∃ V, V = x % 8 := ⟨_, rfl⟩
      have hVl : V < 8 := by rw [hV]; exact Nat.mod_lt _ (by decide)
      have hmd : (x : Int).tmod 8 = (V : Int) := by rw [hV]; rfl
      have hmd2 : (x : Int) % 8 = (V : Int) := by rw [hV]; rfl
      rw [← hV] at HLD
      clear hV k4 k128
      by_cases hN : 4 ≤ n
      · have hNi : ¬ (n : Int) < 4 := by omega
        have hNd : decide ((n : Int) < 4) = false := decide_eq_false hNi
        have HNN : Hid (4 ≤ r.length + 1) := by rw [Hid, ← HLEN.out]; exact hN
        obtain ⟨fo, hfo⟩ : ∃ fo, fo = M.follow (r.take (4 - 1)) V := ⟨_, rfl⟩
        have HR : Hid (M.rune (c :: r) = M.runeOf 65536 4 fo) := by rw [Hid, hfo]; exact M.rune_of c r H128.out 4 V 65536 HLD.out (by decide) HNN.out
        have HFO := Lib.hid hfo
        have HNn := Lib.hid hN
        clear hfo hN
        go_wp2
        go_loop [6, 8] (fun vv x => ∃ i v : Nat, x = .int .i64 (i : Int) ∧ vv = .int .i64 (v : Int) ∧ Hid (1 ≤ i) ∧ Hid (i ≤ 4) ∧ Hid (v < 64 ^ i) ∧ Hid (M.follow ((r.drop (i - 1)).take (4 - i)) v = fo)) (fun _ x => 4 - (intOf x).toNat)
        case atStart => exact ⟨1, V, rfl, rfl, Lib.hid (Nat.le_refl 1), Lib.hid (show 1 ≤ 4 by decide), Lib.hid (show V < 64 ^ 1 from Nat.lt_of_lt_of_le hVl (by decide)), Lib.hid HFO.out.symm⟩
        case round =>
          obtain ⟨i, v, rfl, rfl, h1i, hiN, HV, HST⟩ := hrel
          by_cases hlt : i < 4
          · have b0 : (i : Int) < 4 := by omega
            have hvb : v < 262144 := by
              have h1 := HV.out
              have h2 : 64 ^ i ≤ 64 ^ 3 := Nat.pow_le_pow_right (by decide) (by omega)
              omega
            have hvi : (v : Int) < 262144 := by omega
            have HLT := Lib.hid hlt
            have c1 := HCS.out i (by rw [← HN.out]; exact Nat.lt_of_lt_of_le hlt HNn.out)
            obtain ⟨y8, hy8⟩ : ∃ z, z = (c :: r).getD i 0 := ⟨_, rfl⟩
            have HON := Lib.hid (M.follow_on c y8 r i 4 v h1i.out hlt HNN.out hy8)
            rw [← hy8] at c1
            obtain ⟨y, hy⟩ : ∃ y, y = y8.toNat := ⟨_, rfl⟩
            have hyb : y < 256 := by rw [hy]; exact y8.toNat_lt
            have hyi : (y : Int) < 256 := by omega
            rw [← hy] at c1 HON
            obtain ⟨u, hu⟩ : ∃ u, u = y / 64 := ⟨_, rfl⟩
            obtain ⟨t, ht⟩ : ∃ u, u = y % 64 := ⟨_, rfl⟩
            rw [← hu, ← ht] at HON
            have hqi : (y : Int) / 64 = (u : Int) := by rw [hu]; rfl
            have hri : (y : Int).tmod 64 = (t : Int) := by rw [ht]; rfl
            have hri2 : (y : Int) % 64 = (t : Int) := by rw [ht]; rfl
            have ht64 : t < 64 := by rw [ht]; exact Nat.mod_lt _ (by decide)
            have hti : (t : Int) < 64 := by omega
            have g2 : (0 : Int) ≤ (i : Int) := Int.natCast_nonneg i
            have g3 : ((i : Int)).toNat = i := Int.toNat_natCast i
            have g4 : (i : Int) < (n : Int) := by have := HNn.out; omega
            clear hu ht hy hy8 hvb hyb ht64 hlt
            by_cases hu2 : u = 2
            · have q1 : ((u : Int) != 2) = false := by simp [hu2]
              have q2 : (u : Int) = 2 := by omega
              have HNX : Hid (M.follow ((r.drop (i + 1 - 1)).take (4 - (i + 1))) (v * 64 + t) = fo) := by rw [Hid, ← HST.out, HON.out, if_pos hu2]
              have HTL := Lib.hid hti
              clear hu2
              go_wp2
              refine ⟨⟨i + 1, v * 64 + t, by go_num, by go_num, Lib.hid (Nat.succ_le_succ (Nat.zero_le i)), HLT.out, ?_, HNX⟩, by simp only [intOf]; have := HLT.out; omega⟩
              exact add64_lt HV.out (by have := HTL.out; omega)
            · have q1 : ((u : Int) != 2) = true := by simp; omega
              have q2 : ¬ (u : Int) = 2 := by omega
              have HNX : Hid (fo = none) := by rw [Hid, ← HST.out, HON.out, if_neg hu2]
              clear hu2
              go_wp2
              go_ret2
              exact ⟨by rw [HR.out, HNX.out]; rfl, rfl⟩
          · have b0 : ¬ (i : Int) < 4 := by omega
            have HFV : Hid (fo = some v) := by
              have h1 : 4 - i = 0 := by omega
              rw [Hid, ← HST.out, h1, List.take_zero]
              rfl
            have hvb : v < 16777216 := by
              have h1 := HV.out
              have h2 : 64 ^ i ≤ 64 ^ 4 := Nat.pow_le_pow_right (by decide) (by have := hiN.out; omega)
              omega
            have hvi : (v : Int) < 16777216 := by omega
            clear hlt hvb
            by_cases v1 : v < 65536
            · have d1 : decide ((v : Int) < 65536) = true := decide_eq_true (by omega)
              have HE : Hid (M.rune (c :: r) = (0, 0)) := by rw [Hid, HR.out, HFV.out, M.runeOf, if_pos (Or.inl v1)]
              clear v1
              go_wp2
              go_ret2
              exact ⟨by rw [HE.out]; rfl, rfl⟩
            have d1 : decide ((v : Int) < 65536) = false := decide_eq_false (by omega)
            by_cases v2 : 1114111 < v
            · have d2 : decide (1114111 < (v : Int)) = true := decide_eq_true (by omega)
              have HE : Hid (M.rune (c :: r) = (0, 0)) := by rw [Hid, HR.out, HFV.out, M.runeOf, if_pos (Or.inr (Or.inl v2))]
              clear v1 v2
              go_wp2
              go_ret2
              exact ⟨by rw [HE.out]; rfl, rfl⟩
            have d2 : decide (1114111 < (v : Int)) = false := decide_eq_false (by omega)
            by_cases v3 : 55296 ≤ v
            · have d3 : decide (55296 ≤ (v : Int)) = true := decide_eq_true (by omega)
              by_cases v4 : v < 57344
              · have d4 : decide ((v : Int) < 57344) = true := decide_eq_true (by omega)
                have HE : Hid (M.rune (c :: r) = (0, 0)) := by rw [Hid, HR.out, HFV.out, M.runeOf, if_pos (Or.inr (Or.inr ⟨v3, v4⟩))]
                clear v1 v2 v3 v4
                go_wp2
                go_ret2
                exact ⟨by rw [HE.out]; rfl, rfl⟩
              · have d4 : decide ((v : Int) < 57344) = false := decide_eq_false (by omega)
                have HE : Hid (M.rune (c :: r) = (v, 4)) := by rw [Hid, HR.out, HFV.out, M.runeOf, if_neg (by omega)]
                clear v1 v2 v3 v4
                go_wp2
                go_ret2
                exact ⟨by rw [HE.out]; rfl, rfl⟩
            · have d3 : decide (55296 ≤ (v : Int)) = false := decide_eq_false (by omega)
              have d4 : decide ((v : Int) < 57344) = true := decide_eq_true (by omega)
              have HE : Hid (M.rune (c :: r) = (v, 4)) := by rw [Hid, HR.out, HFV.out, M.runeOf, if_neg (by omega)]
              clear v1 v2 v3
              go_wp2
              go_ret2
              exact ⟨by rw [HE.out]; rfl, rfl⟩
      · have hNi : (n : Int) < 4 := by omega
        have hNd : decide ((n : Int) < 4) = true := decide_eq_true hNi
        have HE : Hid (M.rune (c :: r) = (0, 0)) := M.rune_short c r H128.out (Or.inr (by rw [HLD.out, ← HLEN.out]; show n < 4; omega))
        clear hN
        go_wp2
        go_ret2
        exact ⟨by rw [HE.out]; rfl, rfl⟩
    by_cases k5 : 245 ≤ x ∧ x < 256
    · have g194 : decide ((194 : Int) ≤ (x : Int)) = true := decide_eq_true (by omega)
      have g224 : decide ((224 : Int) ≤ (x : Int)) = true := decide_eq_true (by omega)
      have g240 : decide ((240 : Int) ≤ (x : Int)) = true := decide_eq_true (by omega)
      have l224 : decide ((x : Int) < 224) = false := decide_eq_false (by omega)
      have l240 : decide ((x : Int) < 240) = false := decide_eq_false (by omega)
      have l245 : decide ((x : Int) < 245) = false := decide_eq_false (by omega)
      have HR : Hid (M.rune (c :: r) = (0, 0)) := M.rune_short c r H128.out (Or.inl (by rw [← HX.out]; unfold M.lead; rw [if_neg (by omega), if_neg (by omega), if_neg (by omega)]))
      clear k5
      go_wp2
      go_ret2
      exact ⟨by rw [HR.out]; rfl, rfl⟩
    exact absurd hx8 (by omega)

end Go.Proofs.YtbgadfaiehkanaaGreatDoor
