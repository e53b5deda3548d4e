/-
  CONTRACTS OF seal.isSize, pieces, Length, newHead, (head).prefix, (head).size, (head).nonce. Conditions: up to 2^40 bytes.
-/
import Derived.Test.YtdojalhaklkegaaDoorSealBk
namespace Go.Proofs.YtdojalhaklkegaaDoor
open Go.RowKit Go.Maps
set_option linter.unusedVariables false
set_option maxRecDepth 100000

theorem isSize_any (n : Int) (w : World) : Calls Tryd.prog 38 #[.int .i64 n] w fun e w' => e = .returned (.bool (decide (1 ≤ n) && decide (n ≤ 65536))) ∧ w' = w := by
  obtain ⟨r1, h1⟩ : ∃ r, r = decide (1 ≤ n) := ⟨_, rfl⟩
  obtain ⟨r2, h2⟩ : ∃ r, r = decide (n ≤ 65536) := ⟨_, rfl⟩
  rw [← h1, ← h2]
  cases r1 with
  | false =>
    have q1 : decide (1 ≤ n) = false := h1.symm
    clear h1 h2
    go_enter Tryd.func38, Tryd.ntmps38
    go_wp2
    go_ret
    exact ⟨rfl, rfl⟩
  | true =>
    have q1 : decide (1 ≤ n) = true := h1.symm
    cases r2 with
    | false =>
      have q2 : decide (n ≤ 65536) = false := h2.symm
      clear h1 h2
      go_enter Tryd.func38, Tryd.ntmps38
      go_wp2
      go_ret
      exact ⟨rfl, rfl⟩
    | true =>
      have q2 : decide (n ≤ 65536) = true := h2.symm
      clear h1 h2
      go_enter Tryd.func38, Tryd.ntmps38
      go_wp2
      go_ret
      exact ⟨rfl, rfl⟩

theorem pieces_any (len size : Nat) (w : World) (h1 : 1 ≤ size) (hl : len ≤ 1099511627776) (hs : size ≤ 1099511627776) :
    Calls Tryd.prog 68 #[.int .i64 (len : Int), .int .i64 (size : Int)] w fun e w' => e = .returned (.int .i64 ((M.np len size : Nat) : Int)) ∧ w' = w := by
  obtain ⟨s, hsum⟩ : ∃ s, s = len + size - 1 := ⟨_, rfl⟩
  obtain ⟨u, hu⟩ : ∃ u, u = len + size := ⟨_, rfl⟩
  obtain ⟨q, hq⟩ : ∃ q, q = (len + size - 1) / size := ⟨_, rfl⟩
  have hqs : q ≤ s := by rw [hq, hsum]; exact Nat.div_le_self _ _
  have w1 : (len : Int) + (size : Int) = (u : Int) := by omega
  have w1a : wrap64 (u : Int) = (u : Int) := by unfold wrap64; omega
  have w2 : (u : Int) - 1 = (s : Int) := by omega
  have w2a : wrap64 (s : Int) = (s : Int) := by unfold wrap64; omega
  have w4 : wrap64 (q : Int) = (q : Int) := by unfold wrap64; omega
  have z : ¬ (size : Int) = 0 := by omega
  have z2 : ((size : Int) == 0) = false := beq_false_of_ne z
  have HN : Hid (M.np len size = max q 1) := by rw [Hid, M.np, ← hq]
  have w3 : (s : Int).tdiv (size : Int) = (q : Int) := by rw [hq, hsum]; rfl
  have W3 := Lib.hid w3
  clear hq hsum hqs hu w3
  by_cases hq1 : q < 1
  · have HE : Hid (M.np len size = 1) := by rw [Hid, HN.out]; clear W3; omega
    have d1 : (q : Int) < 1 := by clear W3; omega
    have w3 := W3.out
    clear hq1 W3
    go_enter Tryd.func68, Tryd.ntmps68
    go_wp2
    go_ret
    exact ⟨by rw [HE.out]; rfl, rfl⟩
  · have HE : Hid (M.np len size = q) := by rw [Hid, HN.out]; clear W3; omega
    have d1 : ¬ (q : Int) < 1 := by clear W3; omega
    have w3 := W3.out
    clear hq1 W3
    go_enter Tryd.func68, Tryd.ntmps68
    go_wp2
    go_ret
    exact ⟨by rw [HE.out]; rfl, rfl⟩

/-- What Length tells. -/
def M.sealLen (n size : Int) : Int := if n < 0 ∨ 2147483647 < n ∨ ¬ (1 ≤ size ∧ size ≤ 65536) then 0 else 12 + n + 16 * (M.np n.toNat size.toNat : Nat)

theorem slength_any (n size : Int) (w : World) : Calls Tryd.prog 41 #[.int .i64 n, .int .i64 size] w fun e w' => e = .returned (.int .i64 (M.sealLen n size)) ∧ w' = w := by
  have HS := Lib.hid (isSize_any size w)
  by_cases h1 : n < 0
  · have HE : Hid (M.sealLen n size = 0) := if_pos (.inl h1)
    have q1 : decide (n < 0) = true := decide_eq_true h1
    clear h1
    go_enter Tryd.func41, Tryd.ntmps41
    go_wp2
    go_ret
    exact ⟨by rw [HE.out]; rfl, rfl⟩
  · by_cases h2 : 2147483647 < n
    · have HE : Hid (M.sealLen n size = 0) := if_pos (.inr (.inl h2))
      have q1 : decide (n < 0) = false := decide_eq_false h1
      have q2 : decide (2147483647 < n) = true := decide_eq_true h2
      clear h1 h2
      go_enter Tryd.func41, Tryd.ntmps41
      go_wp2
      go_ret
      exact ⟨by rw [HE.out]; rfl, rfl⟩
    · have q1 : decide (n < 0) = false := decide_eq_false h1
      have q2 : decide (2147483647 < n) = false := decide_eq_false h2
      by_cases h3 : 1 ≤ size ∧ size ≤ 65536
      · have e3 : (decide (1 ≤ size) && decide (size ≤ 65536)) = true := by rw [decide_eq_true h3.1, decide_eq_true h3.2]; rfl
        rw [e3] at HS
        obtain ⟨a, rfl⟩ := Int.eq_ofNat_of_zero_le (show 0 ≤ n by omega)
        obtain ⟨b, rfl⟩ := Int.eq_ofNat_of_zero_le (show 0 ≤ size by omega)
        have HP := Lib.hid (pieces_any a b w (by omega) (by omega) (by omega))
        obtain ⟨k, hk⟩ : ∃ k, k = M.np a b := ⟨_, rfl⟩
        have hkb : k ≤ a + 1 := by rw [hk]; exact M.np_le a b (by omega)
        have HE : Hid (M.sealLen (a : Int) (b : Int) = 12 + (a : Int) + 16 * (k : Int)) := by
          rw [Hid, M.sealLen, if_neg (by omega), Int.toNat_natCast, Int.toNat_natCast, ← hk]
        rw [← hk] at HP
        have w1 : wrap64 (12 + (a : Int)) = 12 + (a : Int) := by unfold wrap64; omega
        have w2 : wrap64 ((k : Int) * 16) = (k : Int) * 16 := by unfold wrap64; omega
        have w3 : wrap64 (12 + (a : Int) + (k : Int) * 16) = 12 + (a : Int) + (k : Int) * 16 := by unfold wrap64; omega
        clear hk hkb h1 h2 h3 e3
        go_enter Tryd.func41, Tryd.ntmps41
        go_wp2_with fail
        refine HS.out.mono ?_
        rintro e wq ⟨rfl, rfl⟩
        go_wp2_with fail
        refine HP.out.mono ?_
        rintro e wq ⟨rfl, rfl⟩
        go_wp2
        go_ret
        exact ⟨by rw [HE.out, Int.mul_comm 16]; first | rfl | (show Ending.returned (.int .i64 (wrap64 (12 + (a : Int) + (k : Int) * 16))) = _; rw [w3]), rfl⟩
      · have e3 : (decide (1 ≤ size) && decide (size ≤ 65536)) = false := by
          cases e : (decide (1 ≤ size) && decide (size ≤ 65536)) with
          | false => rfl
          | true =>
            rw [Bool.and_eq_true, decide_eq_true_eq, decide_eq_true_eq] at e
            exact absurd e h3
        rw [e3] at HS
        have HE : Hid (M.sealLen n size = 0) := if_pos (.inr (.inr h3))
        clear h1 h2 h3 e3
        go_enter Tryd.func41, Tryd.ntmps41
        go_wp2_with fail
        refine HS.out.mono ?_
        rintro e w1 ⟨rfl, rfl⟩
        go_wp2
        go_ret
        exact ⟨by rw [HE.out]; rfl, rfl⟩

/-- A piece of bytes: 'b[i:j]'. -/
theorem IsB.sub {w : World} {ao : Option Addr} {n cap : Nat} {bs : List UInt8} (t : TypeId) (hu : Tryd.prog.underlying t = some (.slice 5)) (h : IsB w (.slice ao n cap) bs) (i j : Nat) (hij : i ≤ j) (hj : j ≤ n) :
    ∃ a, (∀ W : World, (Instr.slice t (.slice ao n cap) (some (.int .i64 (i : Int))) (some (.int .i64 (j : Int))) none).run Tryd.prog W = .ok (.slice a (j - i) (cap - i)) W) ∧ IsB w (.slice a (j - i) (cap - i)) ((bs.drop i).take (j - i)) := by
  have hel : Tryd.prog.elem t = 5 := by simp [Program.elem, hu]
  obtain ⟨ao', cap', e, h1, h2, h3⟩ := h
  injection e with e1 e2 e3
  subst e1 e2 e3
  refine ⟨if cap = i then ao else ao.map (·.add i), fun W => ?_, ?_⟩
  · rw [run_slice_lh W t ao bs.length cap (by rw [hel]; exact hu) .i64 .i64 (i : Int) (j : Int) (by omega) (by omega) (by omega), hel, Tryd.sizeOf5]
    simp only [Result.andThen_ok, sliced, Int.toNat_natCast, Nat.mul_one]
  · have hl : ((bs.drop i).take (j - i)).length = j - i := by rw [List.length_take, List.length_drop]; omega
    refine ⟨_, cap - i, by rw [hl], by rw [hl]; omega, by omega, ?_⟩
    by_cases hc : cap = i
    · exact .inl (List.eq_nil_of_length_eq_zero (by rw [hl]; omega))
    · rw [if_neg hc]
      rcases h3 with h | ⟨b, off, rfl, h⟩
      · exact .inl (by rw [h]; simp)
      · refine .inr ⟨b, off + i, by simp [Addr.add_mid], fun k hk => ?_⟩
        rw [hl] at hk
        have := h (i + k) (by omega)
        rw [← Nat.add_assoc] at this
        rw [this, List.getD_eq_getElem?_getD, List.getD_eq_getElem?_getD, List.getElem?_take_of_lt hk, List.getElem?_drop]

/-- 'b[i:]'. -/
theorem IsB.fromT {w : World} {ao : Option Addr} {n cap : Nat} {bs : List UInt8} (t : TypeId) (hu : Tryd.prog.underlying t = some (.slice 5)) (h : IsB w (.slice ao n cap) bs) (i : Nat) (hi : i ≤ n) :
    ∃ a, (∀ W : World, (Instr.slice t (.slice ao n cap) (some (.int .i64 (i : Int))) none none).run Tryd.prog W = .ok (.slice a (n - i) (cap - i)) W) ∧ IsB w (.slice a (n - i) (cap - i)) (bs.drop i) := by
  have hel : Tryd.prog.elem t = 5 := by simp [Program.elem, hu]
  have hn : n = bs.length := by obtain ⟨_, _, e, _⟩ := h; injection e
  obtain ⟨a, h1, h2⟩ := h.sub t hu i n hi (Nat.le_refl _)
  rw [List.take_of_length_le (by rw [List.length_drop]; omega)] at h2
  refine ⟨if cap = i then ao else ao.map (·.add i), fun W => ?_, ?_⟩
  · rw [run_slice_l W t ao n cap (by rw [hel]; exact hu) .i64 (i : Int) (by omega) (by omega), hel, Tryd.sizeOf5]
    simp only [Result.andThen_ok, sliced, Int.toNat_natCast, Nat.mul_one]
  · have := h1 w
    rw [run_slice_lh w t ao n cap (by rw [hel]; exact hu) .i64 .i64 (i : Int) (n : Int) (by omega) (by omega) (by obtain ⟨_, _, e, hh, _⟩ := h; injection e with _ _ e; omega), hel, Tryd.sizeOf5] at this
    simp only [Result.andThen_ok, sliced, Int.toNat_natCast, Nat.mul_one] at this
    injection this with this
    injection this with this
    rw [this]
    exact h2

theorem head_row : RowTy 84 5 1 1 (.int .u8 0) := ⟨Tryd.underlying84, by kernel_rfl, rfl, by decide⟩

theorem rowsN_two {w' : World} {t : TypeId} {fr : Nat × Nat} {x y : Value} {a b : List UInt8} (hx : IsB w' x a) (hy : IsB w' y b) (nx : ∀ n c, x = .slice none n c → c = 0) (ny : ∀ n c, y = .slice none n c → c = 0) :
    RowsN (w'.alloc (.cells #[x, y] t fr)) (.slice (some ⟨w'.heap.size, 0, none⟩) 2 2) [a, b] := by
  refine ⟨_, 2, rfl, by simp [maxLen], .inr ⟨w'.heap.size, 0, rfl, fun i hi => ?_⟩⟩
  match i, hi with
  | 0, _ => exact ⟨x, by rw [World.cell?_alloc_mark]; rfl, hx.below ((Below.refl _ _).alloc (Nat.le_refl _) _), nx⟩
  | 1, _ => exact ⟨y, by rw [World.cell?_alloc_mark]; rfl, hy.below ((Below.refl _ _).alloc (Nat.le_refl _) _), ny⟩
theorem rowsN_three {w' : World} {t : TypeId} {fr : Nat × Nat} {x y z : Value} {a b c : List UInt8} (hx : IsB w' x a) (hy : IsB w' y b) (hz : IsB w' z c) (nx : ∀ n c, x = .slice none n c → c = 0) (ny : ∀ n c, y = .slice none n c → c = 0) (nz : ∀ n c, z = .slice none n c → c = 0) :
    RowsN (w'.alloc (.cells #[x, y, z] t fr)) (.slice (some ⟨w'.heap.size, 0, none⟩) 3 3) [a, b, c] := by
  refine ⟨_, 3, rfl, by simp [maxLen], .inr ⟨w'.heap.size, 0, rfl, fun i hi => ?_⟩⟩
  match i, hi with
  | 0, _ => exact ⟨x, by rw [World.cell?_alloc_mark]; rfl, hx.below ((Below.refl _ _).alloc (Nat.le_refl _) _), nx⟩
  | 1, _ => exact ⟨y, by rw [World.cell?_alloc_mark]; rfl, hy.below ((Below.refl _ _).alloc (Nat.le_refl _) _), ny⟩
  | 2, _ => exact ⟨z, by rw [World.cell?_alloc_mark]; rfl, hz.below ((Below.refl _ _).alloc (Nat.le_refl _) _), nz⟩

/-- What has bytes isn't nil. -/
theorem IsB.some_ {w : World} {v : Value} {bs : List UInt8} (h : IsB w v bs) (hn : bs ≠ []) : ∃ b off cap, v = .slice (some ⟨b, off, none⟩) bs.length cap := by
  obtain ⟨ao, cap, rfl, h1, h2, h3⟩ := h
  rcases h3 with h | ⟨b, off, rfl, h⟩
  · exact absurd h hn
  · exact ⟨b, off, cap, rfl⟩

set_option maxHeartbeats 4000000 in
theorem newHead_any (pv : Value) (pre : List UInt8) (size : Nat) (w : World) (hp : IsB w pv pre) (h7 : pre.length = 7) (hs : size ≤ 65536) :
    Calls Tryd.prog 39 #[pv, .int .i64 (size : Int)] w (Makes w (M.hd pre size)) := by
  have c1 : IntKind.u32.wrap (size : Int) = (size : Int) := by
    simp [IntKind.wrap, IntKind.signed, IntKind.bits]
    omega
  have CB := Lib.hid (fun W => big32_any size W (by omega))
  have HP := Lib.hid hp
  have hnx : ∀ n c, pv = .slice none n c → c = 0 := fun n c e => by
    obtain ⟨b, off, cap, e2⟩ := IsB.some_ hp (by intro e; rw [e] at h7; cases h7)
    rw [e2] at e; cases e
  have HNX := Lib.hid hnx
  obtain ⟨pa, pc, rfl⟩ := hp.shape
  rw [h7] at HP HNX ⊢
  have H7 := Lib.hid h7
  obtain ⟨yb, hyb⟩ : ∃ y, y = (M.le size 4).reverse := ⟨_, rfl⟩
  rw [← hyb] at CB
  have HY : Hid (M.hd pre size = [[1], pre, yb].flatten ∧ yb.length = 4) := by
    rw [Hid, hyb]
    exact ⟨by simp [M.hd, M.bg4], by rw [List.length_reverse, M.le_length]⟩
  clear hp h7 hs hyb hnx
  go_enter Tryd.func39, Tryd.ntmps39
  go_upto_region 1 with fail
  go_wp2_with fail
  refine (CB.out _).mono ?_
  rintro e w2 ⟨yv, rfl, o2, k2⟩
  obtain ⟨ya, yc, rfl⟩ := o2.shape'
  have one := isB_one w 5 1 1 rfl
  have ka : Below w.heap.size w (w.alloc (.cells #[.int .u8 1] 5)) := (Below.refl _ _).alloc (Nat.le_refl _) _
  have k02 : Below w.heap.size w w2 := ka.trans (k2.mono (by simp))
  have R := Lib.hid (rowsN_three (t := 24) (fr := (0, 0)) (one.below k2) (HP.out.below k02) o2.isB (fun n c e => by cases e) HNX.out o2.nil0)
  have k3 : Below w.heap.size w (w2.alloc (.cells #[.slice (some ⟨w.heap.size, 0, none⟩) 1 1, .slice pa 7 pc, .slice ya yb.length yc] 24)) := k02.alloc k02.size _
  have HC := Lib.hid (concatB_any _ _ _ R.out (by have := HY.out.2; have := H7.out; simp; omega))
  have K3 := Lib.hid k3
  clear one ka k02 k2 k3 o2
  go_wp2_with fail
  refine HC.out.mono ?_
  rintro e w4 ⟨r, rfl, o4, k4⟩
  rw [← HY.out.1] at o4
  have O4 := Lib.hid (o4.mono K3.out.size)
  have K4 := Lib.hid (K3.out.trans (k4.mono K3.out.size))
  clear o4 k4 HC R
  go_wp2
  go_ret
  exact ⟨_, rfl, O4.out, K4.out⟩

set_option maxHeartbeats 4000000 in
theorem hprefix_any (hv : Value) (h : List UInt8) (w : World) (hi : IsB w hv h) (h12 : h.length = 12) :
    Calls Tryd.prog 69 #[hv] w fun e w' => ∃ r, e = .returned r ∧ IsB w r ((h.drop 1).take 7) ∧ w' = w := by
  obtain ⟨ao, cap, rfl⟩ := hi.shape
  rw [h12] at hi ⊢
  obtain ⟨a, hsl, hb⟩ := hi.sub 84 Tryd.underlying84 1 8 (by omega) (by omega)
  have hsl2 : ∀ W : World, (Instr.slice 84 (.slice ao 12 cap) (some (.int .i64 1)) (some (.int .i64 8)) none).run Tryd.prog W = .ok (.slice a 7 (cap - 1)) W := hsl
  have HB := Lib.hid hb
  clear hi hb hsl h12
  go_enter Tryd.func69, Tryd.ntmps69
  go_wp2
  go_ret
  exact ⟨_, rfl, HB.out, rfl⟩

set_option maxHeartbeats 4000000 in
theorem hsize_same (hv : Value) (h : List UInt8) (w : World) (hi : IsB w hv h) (h12 : h.length = 12) :
    Calls Tryd.prog 46 #[hv] w fun e w' => e = .returned (.int .i64 ((M.gb (h.drop 8) 4 : Nat) : Int)) ∧ w' = w := by
  obtain ⟨ao, cap, rfl⟩ := hi.shape
  rw [h12] at hi ⊢
  obtain ⟨a, hsl, hb⟩ := hi.fromT 84 Tryd.underlying84 8 (by omega)
  have hsl2 : ∀ W : World, (Instr.slice 84 (.slice ao 12 cap) (some (.int .i64 8)) none none).run Tryd.prog W = .ok (.slice a 4 (cap - 8)) W := hsl
  have HG := Lib.hid (getBig32_any _ _ w hb)
  obtain ⟨n, hn⟩ : ∃ n, n = M.gb (h.drop 8) 4 := ⟨_, rfl⟩
  have hlt : n < 256 ^ 4 := by rw [hn]; exact M.gb_lt _ _
  rw [← hn] at HG ⊢
  have hw : IntKind.i64.wrap (n : Int) = (n : Int) := by rw [IntKind.wrap_i64]; omega
  clear hi hb hsl h12 hn hlt
  go_enter Tryd.func46, Tryd.ntmps46
  go_wp2_with fail
  refine HG.out.mono ?_
  rintro e w1 ⟨rfl, rfl⟩
  go_wp2
  go_ret
  exact ⟨rfl, rfl⟩

theorem hsize_any (hv : Value) (h : List UInt8) (w : World) (hi : IsB w hv h) (h12 : h.length = 12) :
    Calls Tryd.prog 46 #[hv] w fun e w' => e = .returned (.int .i64 ((M.gb (h.drop 8) 4 : Nat) : Int)) ∧ Below w.heap.size w w' :=
  (hsize_same hv h w hi h12).mono fun e w' h => ⟨h.1, by rw [h.2]; exact Below.refl _ _⟩

end Go.Proofs.YtdojalhaklkegaaDoor
