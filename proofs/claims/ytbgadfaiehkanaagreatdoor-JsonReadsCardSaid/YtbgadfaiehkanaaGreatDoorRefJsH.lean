/-
  CONTRACT OF orlopref15.number. Conditions: rows of up to 2^40 bytes.
-/
import Derived.Test.YtbgadfaiehkanaaGreatDoorRefJsG
namespace Go.Proofs.YtbgadfaiehkanaaGreatDoor
open Go.RowKit
set_option linter.unusedVariables false
set_option maxRecDepth 100000

/-- A number's value, or none. -/
def M.nV : Option (Int × List UInt8) → Int
  | none => 0
  | some p => p.1
/-- The place behind it, of so many bytes, or -1. -/
def M.nP (n : Nat) : Option (Int × List UInt8) → Int
  | none => -1
  | some p => ((n - p.2.length : Nat) : Int)
/-- A number behind its sign. -/
def M.numG (mi : Bool) (r : List UInt8) : Option (Int × List UInt8) :=
  if r.takeWhile M.isD = [] ∨ ((r.takeWhile M.isD).head? = some 48 ∧ (1 < (r.takeWhile M.isD).length ∨ mi = true)) ∨ M.maxWhole < M.valD (r.takeWhile M.isD) then none
  else some (if mi then -(M.valD (r.takeWhile M.isD) : Int) else M.valD (r.takeWhile M.isD), r.dropWhile M.isD)

theorem M.num_minus (r : List UInt8) : M.num (45 :: r) = M.numG true r := by
  have h : [45] <+: (45 :: r : List UInt8) := ⟨r, rfl⟩
  unfold M.num M.numG
  simp [h]
theorem M.num_plain (s : List UInt8) (h : ¬ [45] <+: s) : M.num s = M.numG false s := by
  unfold M.num M.numG
  simp [h]
theorem M.num_nil : M.num [] = none := by rw [M.num_plain [] (fun h => by cases h.length_le)]; rfl

theorem M.valD_snoc (D : List UInt8) (c : UInt8) : M.valD (D ++ [c]) = M.valD D * 10 + (c.toNat - 48) := by
  unfold M.valD
  rw [List.foldl_append]
  rfl
theorem M.valD_more (E : List UInt8) : ∀ v : Nat, v ≤ E.foldl (fun v c => v * 10 + (c.toNat - 48)) v := by
  induction E with
  | nil => exact fun v => Nat.le_refl _
  | cons c E ih => exact fun v => Nat.le_trans (by omega) (ih (v * 10 + (c.toNat - 48)))
theorem M.valD_ge (D E : List UInt8) : M.valD D ≤ M.valD (D ++ E) := by
  unfold M.valD
  rw [List.foldl_append]
  exact M.valD_more E _

theorem M.isD_yes {c : UInt8} (h1 : 48 ≤ c.toNat) (h2 : c.toNat ≤ 57) : M.isD c = true := by simp [M.isD, h1, h2]
theorem M.isD_no {c : UInt8} (h : ¬ (48 ≤ c.toNat ∧ c.toNat ≤ 57)) : M.isD c = false := by
  unfold M.isD
  rw [Bool.and_eq_false_iff]
  by_cases h1 : 48 ≤ c.toNat
  · exact .inr (decide_eq_false fun h2 => h ⟨h1, h2⟩)
  · exact .inl (decide_eq_false h1)

theorem M.numG_big (mi : Bool) (r : List UInt8) (h : M.maxWhole < M.valD (r.takeWhile M.isD)) : M.numG mi r = none := by
  unfold M.numG
  rw [if_pos (.inr (.inr h))]
theorem M.numG_none (mi : Bool) (r : List UInt8) (h : r.takeWhile M.isD = []) : M.numG mi r = none := by
  unfold M.numG
  rw [if_pos (.inl h)]
theorem M.numG_zero (mi : Bool) (r D : List UInt8) (h : r.takeWhile M.isD = D) (h1 : D.head? = some 48) (h2 : 1 < D.length ∨ mi = true) : M.numG mi r = none := by
  unfold M.numG
  rw [h, if_pos (.inr (.inl ⟨h1, h2⟩))]
theorem M.numG_some (mi : Bool) (r D : List UInt8) (h : r.takeWhile M.isD = D) (h0 : D ≠ []) (h1 : ¬ (D.head? = some 48 ∧ (1 < D.length ∨ mi = true))) (h2 : M.valD D ≤ M.maxWhole) :
    M.numG mi r = some (if mi then -(M.valD D : Int) else M.valD D, r.dropWhile M.isD) := by
  unfold M.numG
  rw [h, if_neg]
  rintro (h3 | h3 | h3)
  · exact h0 h3
  · exact h1 h3
  · omega

set_option maxHeartbeats 16000000 in
theorem rnumber_any (bv : Value) (b : List UInt8) (w : World) (h : IsB w bv b) (i : Nat) (hi : i ≤ b.length) (hl : b.length ≤ 1099511627776) :
    Calls Tryz.prog 93 #[bv, .int .i64 (i : Int)] w fun e w' => e = .returned (.tuple #[.int .i64 (M.nV (M.num (b.drop i))), .int .i64 (M.nP b.length (M.num (b.drop i)))]) ∧ w' = w := by
  have HI := Lib.hid h
  obtain ⟨ao, cap, rfl, h1, h2, h3⟩ := h
  obtain ⟨n, hn⟩ : ∃ n, n = b.length := ⟨_, rfl⟩
  rw [← hn] at hi hl h1 HI ⊢
  have HN := Lib.hid hn
  have HL := Lib.hid hl
  have hii : (i : Int) ≤ 1099511627776 := by omega
  have hnl : (n : Int) ≤ 1099511627776 := by omega
  unfold maxLen at h2
  clear h3 h1
  by_cases hin : i < n
  · have d0 : decide ((i : Int) < (n : Int)) = true := decide_eq_true (by omega)
    obtain ⟨bk, off, rfl, hcs⟩ := HI.out.cellAt (by rw [← HN.out]; omega)
    have HCS := Lib.hid hcs
    have cI := hcs i (by rw [← HN.out]; exact hin)
    obtain ⟨cc, hc⟩ : ∃ c, c = b.getD i 0 := ⟨_, rfl⟩
    have HDR : Hid (b.drop i = cc :: b.drop (i + 1)) := by rw [Hid, drop_cons64 (by rw [← HN.out]; exact hin), ← hc]
    rw [← hc] at cI
    obtain ⟨xx, hx⟩ : ∃ x, x = cc.toNat := ⟨_, rfl⟩
    have hx8 : xx < 256 := by rw [hx]; exact cc.toNat_lt
    rw [← hx] at cI
    have HX := Lib.hid hx
    have p2 : (0 : Int) ≤ (i : Int) := Int.natCast_nonneg i
    have p3 : ((i : Int)).toNat = i := Int.toNat_natCast i
    have p4 : (i : Int) < (n : Int) := by omega
    have HIN := Lib.hid hin
    clear hcs hc hin hx hn hi hl
    by_cases k45 : xx = 45
    · have q0 : ((xx : Int) == 45) = true := by simp [k45]
      have HNUM : Hid (M.num (b.drop i) = M.numG true (b.drop (i + 1))) := by
        rw [Hid, HDR.out, show cc = 45 from UInt8.toNat_inj.1 (HX.out.symm.trans k45)]
        exact M.num_minus _
      obtain ⟨j, hj⟩ : ∃ j, j = i + 1 := ⟨_, rfl⟩
      have hij : (i : Int) + 1 = (j : Int) := by omega
      have hjl : (j : Int) ≤ 1099511627776 := by omega
      have HJ : Hid (j ≤ n) := by rw [Hid, hj]; exact HIN.out
      rw [← hj] at HNUM
      have HCJ := HCS
      clear k45 hj
      go_enter Tryz.func93, Tryz.ntmps93
      go_wp2
      go_loop [7, 8] (fun vv kk => ∃ k v : Nat, ∃ D : List UInt8, kk = .int .i64 (k : Int) ∧ vv = .int .i64 (v : Int) ∧ Hid (j ≤ k) ∧ Hid (k ≤ n) ∧ Hid (v ≤ 9007199254740991) ∧ Hid (v = M.valD D) ∧ Hid (D.length = k - j) ∧ Hid ((b.drop j).takeWhile M.isD = D ++ (b.drop k).takeWhile M.isD) ∧ Hid ((b.drop j).dropWhile M.isD = (b.drop k).dropWhile M.isD)) (fun _ kk => n - (intOf kk).toNat)
      case atStart => exact ⟨j, 0, [], rfl, rfl, Lib.hid (Nat.le_refl _), HJ, Lib.hid (Nat.zero_le _), Lib.hid rfl, Lib.hid (Nat.sub_self j).symm, Lib.hid rfl, Lib.hid rfl⟩
      case round =>
        obtain ⟨k, v, D, rfl, rfl, hjk, hkn, hvm, hvD, hDl, hTW, hDW⟩ := hrel
        have hvi : (v : Int) ≤ 9007199254740991 := by have := hvm.out; omega
        have hkl : (k : Int) ≤ 1099511627776 := by have := hkn.out; have := HL.out; omega
        have OUT : Hid ((b.drop k).takeWhile M.isD = [] → (b.drop j).takeWhile M.isD = D ∧ (b.drop j).dropWhile M.isD = b.drop k) := by
          intro h
          refine ⟨by rw [hTW.out, h, List.append_nil], ?_⟩
          rw [hDW.out]
          have := List.takeWhile_append_dropWhile (p := M.isD) (l := b.drop k)
          rw [h, List.nil_append] at this
          exact this
        by_cases hlt : k < n
        · have b0p : (k : Int) < (n : Int) := by omega
          have b0 : decide ((k : Int) < (n : Int)) = true := decide_eq_true (by omega)
          have c1 := HCS.out k (by rw [← HN.out]; exact hlt)
          obtain ⟨c, hc⟩ : ∃ c, c = b.getD k 0 := ⟨_, rfl⟩
          have HDK : Hid (b.drop k = c :: b.drop (k + 1)) := by rw [Hid, drop_cons64 (by rw [← HN.out]; exact hlt), ← hc]
          rw [← hc] at c1
          obtain ⟨x, hx⟩ : ∃ x, x = c.toNat := ⟨_, rfl⟩
          have hx8 : x < 256 := by rw [hx]; exact c.toNat_lt
          rw [← hx] at c1
          have HXC := Lib.hid hx
          have g2 : (0 : Int) ≤ (k : Int) := Int.natCast_nonneg k
          have g3 : ((k : Int)).toNat = k := Int.toNat_natCast k
          have g4 : (k : Int) < (n : Int) := by omega
          have HLT := Lib.hid hlt
          clear hc hx hlt
          by_cases x1 : 48 ≤ x
          · have m1 : decide ((48 : Int) ≤ (x : Int)) = true := decide_eq_true (by omega)
            by_cases x2 : x ≤ 57
            · have m2 : decide ((x : Int) ≤ 57) = true := decide_eq_true (by omega)
              obtain ⟨d, hd⟩ : ∃ d, d = x - 48 := ⟨_, rfl⟩
              have hdi : (x : Int) - 48 = (d : Int) := by omega
              have hdl : (d : Int) < 10 := by omega
              have xlo : (48 : Int) ≤ (x : Int) := by omega
              have xhi : (x : Int) ≤ 57 := by omega
              have HV2 : Hid (v * 10 + d = M.valD (D ++ [c])) := by rw [Hid, M.valD_snoc, ← HXC.out, hvD.out, hd]
              have HT2 : Hid ((b.drop j).takeWhile M.isD = (D ++ [c]) ++ (b.drop (k + 1)).takeWhile M.isD) := by
                rw [Hid, hTW.out, HDK.out, List.takeWhile_cons, M.isD_yes (by rw [← HXC.out]; exact x1) (by rw [← HXC.out]; exact x2)]
                simp
              have HD2 : Hid ((b.drop j).dropWhile M.isD = (b.drop (k + 1)).dropWhile M.isD) := by
                rw [Hid, hDW.out, HDK.out, List.dropWhile_cons, M.isD_yes (by rw [← HXC.out]; exact x1) (by rw [← HXC.out]; exact x2)]
                rfl
              obtain ⟨v2, hv2⟩ : ∃ z, z = v * 10 + d := ⟨_, rfl⟩
              have hvi2 : (v : Int) * 10 + (d : Int) = (v2 : Int) := by omega
              rw [← hv2] at HV2
              clear hd x1 x2 hx8 hv2
              by_cases big : 9007199254740991 < v2
              · have m3 : (9007199254740991 : Int) < (v2 : Int) := by omega
                have HE : Hid (M.num (b.drop i) = none) := by
                  rw [Hid, HNUM.out]
                  refine M.numG_big _ _ ?_
                  rw [HT2.out]
                  have := M.valD_ge (D ++ [c]) ((b.drop (k + 1)).takeWhile M.isD)
                  rw [← HV2.out] at this
                  exact Nat.lt_of_lt_of_le big this
                clear big
                go_wp2
                go_ret2
                exact ⟨by rw [HE.out]; rfl, rfl⟩
              · have m3 : ¬ (9007199254740991 : Int) < (v2 : Int) := by omega
                have HB := Lib.hid big
                clear big
                go_wp2
                refine ⟨⟨k + 1, v2, D ++ [c], by go_num, by go_num, ?_, HLT.out, ?_, HV2, ?_, HT2, HD2⟩, ?_⟩
                · rw [Hid]; have := hjk.out; omega
                · rw [Hid]; have := HB.out; omega
                · rw [Hid, List.length_append, hDl.out, List.length_singleton]; have := hjk.out; omega
                · simp only [intOf]; have := HLT.out; omega
            · have m2 : decide ((x : Int) ≤ 57) = false := decide_eq_false (by omega)
              have HO := Lib.hid (OUT.out (by rw [HDK.out, List.takeWhile_cons, M.isD_no (fun h => x2 (by rw [HXC.out]; exact h.2))]; rfl))
              clear x1 x2
              by_cases kj : k = j
              · have z0 : ((k : Int) == (j : Int)) = true := by simp [kj]
                have HE : Hid (M.num (b.drop i) = none) := by
                  rw [Hid, HNUM.out]
                  refine M.numG_none _ _ ?_
                  rw [HO.out.1]
                  exact List.eq_nil_of_length_eq_zero (by rw [hDl.out]; omega)
                clear kj
                go_wp2
                go_ret2
                exact ⟨by rw [HE.out]; rfl, rfl⟩
              · have z0 : ((k : Int) == (j : Int)) = false := by simp; omega
                have hjk2 : j < k := by have := hjk.out; omega
                have hjn : j < n := by have := hkn.out; omega
                have cJ := HCS.out j (by rw [← HN.out]; exact hjn)
                obtain ⟨y8, hy8⟩ : ∃ c, c = b.getD j 0 := ⟨_, rfl⟩
                have HDJ : Hid (b.drop j = y8 :: b.drop (j + 1)) := by rw [Hid, drop_cons64 (by rw [← HN.out]; exact hjn), ← hy8]
                rw [← hy8] at cJ
                obtain ⟨y, hy⟩ : ∃ x, x = y8.toNat := ⟨_, rfl⟩
                rw [← hy] at cJ
                have HY := Lib.hid hy
                have j2 : (0 : Int) ≤ (j : Int) := Int.natCast_nonneg j
                have j3 : ((j : Int)).toNat = j := Int.toNat_natCast j
                have j4 : (j : Int) < (n : Int) := by omega
                have HD0 : Hid (D ≠ []) := fun h => by
                  have := hDl.out
                  rw [h] at this
                  simp at this
                  omega
                have HHD : Hid (D.head? = some y8) := by
                  have h1 := HO.out.1
                  rw [HDJ.out, List.takeWhile_cons] at h1
                  cases hb : M.isD y8 with
                  | true => rw [hb] at h1; rw [Hid, ← h1]; rfl
                  | false => rw [hb] at h1; exact absurd h1.symm HD0.out
                have HLN := Lib.hid hDl.out
                have HJK := Lib.hid hjk2
                clear kj hjk2 hjn hy8 hy
                by_cases y48 : y = 48
                · have e48 : ((y : Int) == 48) = true := by simp [y48]
                  have HH48 : Hid (D.head? = some 48) := by rw [Hid, HHD.out, show y8 = 48 from UInt8.toNat_inj.1 (HY.out.symm.trans y48)]
                  clear y48
                  by_cases long : j + 1 < k
                  · have l0p : (j : Int) + 1 < (k : Int) := by omega
                    have l0 : decide ((j : Int) + 1 < (k : Int)) = true := decide_eq_true (by omega)
                    have HE : Hid (M.num (b.drop i) = none) := by
                      rw [Hid, HNUM.out]
                      exact M.numG_zero _ _ D HO.out.1 HH48.out (.inl (by rw [HLN.out]; omega))
                    clear long
                    go_wp2
                    go_ret2
                    exact ⟨by rw [HE.out]; rfl, rfl⟩
                  · have l0p : ¬ (j : Int) + 1 < (k : Int) := by omega
                    have l0 : decide ((j : Int) + 1 < (k : Int)) = false := decide_eq_false (by omega)
                    have HE : Hid (M.num (b.drop i) = none) := by
                      rw [Hid, HNUM.out]
                      exact M.numG_zero _ _ D HO.out.1 HH48.out (.inr rfl)
                    clear long
                    go_wp2
                    go_ret2
                    exact ⟨by rw [HE.out]; rfl, rfl⟩
                · have e48 : ((y : Int) == 48) = false := by simp; omega
                  have HE : Hid (M.num (b.drop i) = some (-(M.valD D : Int), b.drop k)) := by
                    rw [Hid, HNUM.out, ← HO.out.2]
                    refine M.numG_some _ _ D HO.out.1 HD0.out (fun h => ?_) (by rw [← hvD.out]; exact hvm.out)
                    have h1 := h.1
                    rw [HHD.out] at h1
                    injection h1 with h1
                    exact y48 (by rw [HY.out, h1]; rfl)
                  have HP : Hid (M.nP n (M.num (b.drop i)) = (k : Int)) := by
                    rw [Hid, HE.out]
                    show ((n - (b.drop k).length : Nat) : Int) = (k : Int)
                    rw [List.length_drop, ← HN.out]
                    congr 1
                    have := hkn.out
                    omega
                  have HVV : Hid (M.nV (M.num (b.drop i)) = -(v : Int)) := by rw [Hid, HE.out, hvD.out]; rfl
                  clear y48
                  go_wp2
                  go_ret2
                  exact ⟨by rw [HP.out, HVV.out]; rfl, rfl⟩
          · have m1 : decide ((48 : Int) ≤ (x : Int)) = false := decide_eq_false (by omega)
            have HO := Lib.hid (OUT.out (by rw [HDK.out, List.takeWhile_cons, M.isD_no (fun h => x1 (by rw [HXC.out]; exact h.1))]; rfl))
            clear x1
            by_cases kj : k = j
            · have z0 : ((k : Int) == (j : Int)) = true := by simp [kj]
              have HE : Hid (M.num (b.drop i) = none) := by
                rw [Hid, HNUM.out]
                refine M.numG_none _ _ ?_
                rw [HO.out.1]
                exact List.eq_nil_of_length_eq_zero (by rw [hDl.out]; omega)
              clear kj
              go_wp2
              go_ret2
              exact ⟨by rw [HE.out]; rfl, rfl⟩
            · have z0 : ((k : Int) == (j : Int)) = false := by simp; omega
              have hjk2 : j < k := by have := hjk.out; omega
              have hjn : j < n := by have := hkn.out; omega
              have cJ := HCS.out j (by rw [← HN.out]; exact hjn)
              obtain ⟨y8, hy8⟩ : ∃ c, c = b.getD j 0 := ⟨_, rfl⟩
              have HDJ : Hid (b.drop j = y8 :: b.drop (j + 1)) := by rw [Hid, drop_cons64 (by rw [← HN.out]; exact hjn), ← hy8]
              rw [← hy8] at cJ
              obtain ⟨y, hy⟩ : ∃ x, x = y8.toNat := ⟨_, rfl⟩
              rw [← hy] at cJ
              have HY := Lib.hid hy
              have j2 : (0 : Int) ≤ (j : Int) := Int.natCast_nonneg j
              have j3 : ((j : Int)).toNat = j := Int.toNat_natCast j
              have j4 : (j : Int) < (n : Int) := by omega
              have HD0 : Hid (D ≠ []) := fun h => by
                have := hDl.out
                rw [h] at this
                simp at this
                omega
              have HHD : Hid (D.head? = some y8) := by
                have h1 := HO.out.1
                rw [HDJ.out, List.takeWhile_cons] at h1
                cases hb : M.isD y8 with
                | true => rw [hb] at h1; rw [Hid, ← h1]; rfl
                | false => rw [hb] at h1; exact absurd h1.symm HD0.out
              have HLN := Lib.hid hDl.out
              have HJK := Lib.hid hjk2
              clear kj hjk2 hjn hy8 hy
              by_cases y48 : y = 48
              · have e48 : ((y : Int) == 48) = true := by simp [y48]
                have HH48 : Hid (D.head? = some 48) := by rw [Hid, HHD.out, show y8 = 48 from UInt8.toNat_inj.1 (HY.out.symm.trans y48)]
                clear y48
                by_cases long : j + 1 < k
                · have l0p : (j : Int) + 1 < (k : Int) := by omega
                  have l0 : decide ((j : Int) + 1 < (k : Int)) = true := decide_eq_true (by omega)
                  have HE : Hid (M.num (b.drop i) = none) := by
                    rw [Hid, HNUM.out]
                    exact M.numG_zero _ _ D HO.out.1 HH48.out (.inl (by rw [HLN.out]; omega))
                  clear long
                  go_wp2
                  go_ret2
                  exact ⟨by rw [HE.out]; rfl, rfl⟩
                · have l0p : ¬ (j : Int) + 1 < (k : Int) := by omega
                  have l0 : decide ((j : Int) + 1 < (k : Int)) = false := decide_eq_false (by omega)
                  have HE : Hid (M.num (b.drop i) = none) := by
                    rw [Hid, HNUM.out]
                    exact M.numG_zero _ _ D HO.out.1 HH48.out (.inr rfl)
                  clear long
                  go_wp2
                  go_ret2
                  exact ⟨by rw [HE.out]; rfl, rfl⟩
              · have e48 : ((y : Int) == 48) = false := by simp; omega
                have HE : Hid (M.num (b.drop i) = some (-(M.valD D : Int), b.drop k)) := by
                  rw [Hid, HNUM.out, ← HO.out.2]
                  refine M.numG_some _ _ D HO.out.1 HD0.out (fun h => ?_) (by rw [← hvD.out]; exact hvm.out)
                  have h1 := h.1
                  rw [HHD.out] at h1
                  injection h1 with h1
                  exact y48 (by rw [HY.out, h1]; rfl)
                have HP : Hid (M.nP n (M.num (b.drop i)) = (k : Int)) := by
                  rw [Hid, HE.out]
                  show ((n - (b.drop k).length : Nat) : Int) = (k : Int)
                  rw [List.length_drop, ← HN.out]
                  congr 1
                  have := hkn.out
                  omega
                have HVV : Hid (M.nV (M.num (b.drop i)) = -(v : Int)) := by rw [Hid, HE.out, hvD.out]; rfl
                clear y48
                go_wp2
                go_ret2
                exact ⟨by rw [HP.out, HVV.out]; rfl, rfl⟩
        · have b0p : ¬ (k : Int) < (n : Int) := by omega
          have b0 : decide ((k : Int) < (n : Int)) = false := decide_eq_false (by omega)
          have HO := Lib.hid (OUT.out (by rw [List.drop_eq_nil_of_le (by rw [← HN.out]; omega)]; rfl))
          clear hlt
          by_cases kj : k = j
          · have z0 : ((k : Int) == (j : Int)) = true := by simp [kj]
            have HE : Hid (M.num (b.drop i) = none) := by
              rw [Hid, HNUM.out]
              refine M.numG_none _ _ ?_
              rw [HO.out.1]
              exact List.eq_nil_of_length_eq_zero (by rw [hDl.out]; omega)
            clear kj
            go_wp2
            go_ret2
            exact ⟨by rw [HE.out]; rfl, rfl⟩
          · have z0 : ((k : Int) == (j : Int)) = false := by simp; omega
            have hjk2 : j < k := by have := hjk.out; omega
            have hjn : j < n := by have := hkn.out; omega
            have cJ := HCS.out j (by rw [← HN.out]; exact hjn)
            obtain ⟨y8, hy8⟩ : ∃ c, c = b.getD j 0 := ⟨_, rfl⟩
            have HDJ : Hid (b.drop j = y8 :: b.drop (j + 1)) := by rw [Hid, drop_cons64 (by rw [← HN.out]; exact hjn), ← hy8]
            rw [← hy8] at cJ
            obtain ⟨y, hy⟩ : ∃ x, x = y8.toNat := ⟨_, rfl⟩
            rw [← hy] at cJ
            have HY := Lib.hid hy
            have j2 : (0 : Int) ≤ (j : Int) := Int.natCast_nonneg j
            have j3 : ((j : Int)).toNat = j := Int.toNat_natCast j
            have j4 : (j : Int) < (n : Int) := by omega
            have HD0 : Hid (D ≠ []) := fun h => by
              have := hDl.out
              rw [h] at this
              simp at this
              omega
            have HHD : Hid (D.head? = some y8) := by
              have h1 := HO.out.1
              rw [HDJ.out, List.takeWhile_cons] at h1
              cases hb : M.isD y8 with
              | true => rw [hb] at h1; rw [Hid, ← h1]; rfl
              | false => rw [hb] at h1; exact absurd h1.symm HD0.out
            have HLN := Lib.hid hDl.out
            have HJK := Lib.hid hjk2
            clear kj hjk2 hjn hy8 hy
            by_cases y48 : y = 48
            · have e48 : ((y : Int) == 48) = true := by simp [y48]
              have HH48 : Hid (D.head? = some 48) := by rw [Hid, HHD.out, show y8 = 48 from UInt8.toNat_inj.1 (HY.out.symm.trans y48)]
              clear y48
              by_cases long : j + 1 < k
              · have l0p : (j : Int) + 1 < (k : Int) := by omega
                have l0 : decide ((j : Int) + 1 < (k : Int)) = true := decide_eq_true (by omega)
                have HE : Hid (M.num (b.drop i) = none) := by
                  rw [Hid, HNUM.out]
                  exact M.numG_zero _ _ D HO.out.1 HH48.out (.inl (by rw [HLN.out]; omega))
                clear long
                go_wp2
                go_ret2
                exact ⟨by rw [HE.out]; rfl, rfl⟩
              · have l0p : ¬ (j : Int) + 1 < (k : Int) := by omega
                have l0 : decide ((j : Int) + 1 < (k : Int)) = false := decide_eq_false (by omega)
                have HE : Hid (M.num (b.drop i) = none) := by
                  rw [Hid, HNUM.out]
                  exact M.numG_zero _ _ D HO.out.1 HH48.out (.inr rfl)
                clear long
                go_wp2
                go_ret2
                exact ⟨by rw [HE.out]; rfl, rfl⟩
            · have e48 : ((y : Int) == 48) = false := by simp; omega
              have HE : Hid (M.num (b.drop i) = some (-(M.valD D : Int), b.drop k)) := by
                rw [Hid, HNUM.out, ← HO.out.2]
                refine M.numG_some _ _ D HO.out.1 HD0.out (fun h => ?_) (by rw [← hvD.out]; exact hvm.out)
                have h1 := h.1
                rw [HHD.out] at h1
                injection h1 with h1
                exact y48 (by rw [HY.out, h1]; rfl)
              have HP : Hid (M.nP n (M.num (b.drop i)) = (k : Int)) := by
                rw [Hid, HE.out]
                show ((n - (b.drop k).length : Nat) : Int) = (k : Int)
                rw [List.length_drop, ← HN.out]
                congr 1
                have := hkn.out
                omega
              have HVV : Hid (M.nV (M.num (b.drop i)) = -(v : Int)) := by rw [Hid, HE.out, hvD.out]; rfl
              clear y48
              go_wp2
              go_ret2
              exact ⟨by rw [HP.out, HVV.out]; rfl, rfl⟩
    · have q0 : ((xx : Int) == 45) = false := by simp; omega
      have HNUM : Hid (M.num (b.drop i) = M.numG false (b.drop i)) := by
        rw [Hid]
        refine M.num_plain _ fun h => ?_
        rw [HDR.out] at h
        have h2 := (List.cons_prefix_cons.1 h).1
        exact k45 (by rw [HX.out, ← h2]; rfl)
      obtain ⟨j, hj⟩ : ∃ j, j = i := ⟨_, rfl⟩
      have HJ : Hid (j ≤ n) := by rw [Hid, hj]; exact Nat.le_of_lt HIN.out
      rw [← hj] at HNUM HDR HIN cI p2 p3 p4 hii d0 ⊢
      have hjl := hii
      clear k45 hj
      go_enter Tryz.func93, Tryz.ntmps93
      go_wp2
      go_loop [7, 8] (fun vv kk => ∃ k v : Nat, ∃ D : List UInt8, kk = .int .i64 (k : Int) ∧ vv = .int .i64 (v : Int) ∧ Hid (j ≤ k) ∧ Hid (k ≤ n) ∧ Hid (v ≤ 9007199254740991) ∧ Hid (v = M.valD D) ∧ Hid (D.length = k - j) ∧ Hid ((b.drop j).takeWhile M.isD = D ++ (b.drop k).takeWhile M.isD) ∧ Hid ((b.drop j).dropWhile M.isD = (b.drop k).dropWhile M.isD)) (fun _ kk => n - (intOf kk).toNat)
      case atStart => exact ⟨j, 0, [], rfl, rfl, Lib.hid (Nat.le_refl _), HJ, Lib.hid (Nat.zero_le _), Lib.hid rfl, Lib.hid (Nat.sub_self j).symm, Lib.hid rfl, Lib.hid rfl⟩
      case round =>
        obtain ⟨k, v, D, rfl, rfl, hjk, hkn, hvm, hvD, hDl, hTW, hDW⟩ := hrel
        clear cI
        have hvi : (v : Int) ≤ 9007199254740991 := by have := hvm.out; omega
        have hkl : (k : Int) ≤ 1099511627776 := by have := hkn.out; have := HL.out; omega
        have OUT : Hid ((b.drop k).takeWhile M.isD = [] → (b.drop j).takeWhile M.isD = D ∧ (b.drop j).dropWhile M.isD = b.drop k) := by
          intro h
          refine ⟨by rw [hTW.out, h, List.append_nil], ?_⟩
          rw [hDW.out]
          have := List.takeWhile_append_dropWhile (p := M.isD) (l := b.drop k)
          rw [h, List.nil_append] at this
          exact this
        by_cases hlt : k < n
        · have b0p : (k : Int) < (n : Int) := by omega
          have b0 : decide ((k : Int) < (n : Int)) = true := decide_eq_true (by omega)
          have c1 := HCS.out k (by rw [← HN.out]; exact hlt)
          obtain ⟨c, hc⟩ : ∃ c, c = b.getD k 0 := ⟨_, rfl⟩
          have HDK : Hid (b.drop k = c :: b.drop (k + 1)) := by rw [Hid, drop_cons64 (by rw [← HN.out]; exact hlt), ← hc]
          rw [← hc] at c1
          obtain ⟨x, hx⟩ : ∃ x, x = c.toNat := ⟨_, rfl⟩
          have hx8 : x < 256 := by rw [hx]; exact c.toNat_lt
          rw [← hx] at c1
          have HXC := Lib.hid hx
          have g2 : (0 : Int) ≤ (k : Int) := Int.natCast_nonneg k
          have g3 : ((k : Int)).toNat = k := Int.toNat_natCast k
          have g4 : (k : Int) < (n : Int) := by omega
          have HLT := Lib.hid hlt
          clear hc hx hlt
          by_cases x1 : 48 ≤ x
          · have m1 : decide ((48 : Int) ≤ (x : Int)) = true := decide_eq_true (by omega)
            by_cases x2 : x ≤ 57
            · have m2 : decide ((x : Int) ≤ 57) = true := decide_eq_true (by omega)
              obtain ⟨d, hd⟩ : ∃ d, d = x - 48 := ⟨_, rfl⟩
              have hdi : (x : Int) - 48 = (d : Int) := by omega
              have hdl : (d : Int) < 10 := by omega
              have xlo : (48 : Int) ≤ (x : Int) := by omega
              have xhi : (x : Int) ≤ 57 := by omega
              have HV2 : Hid (v * 10 + d = M.valD (D ++ [c])) := by rw [Hid, M.valD_snoc, ← HXC.out, hvD.out, hd]
              have HT2 : Hid ((b.drop j).takeWhile M.isD = (D ++ [c]) ++ (b.drop (k + 1)).takeWhile M.isD) := by
                rw [Hid, hTW.out, HDK.out, List.takeWhile_cons, M.isD_yes (by rw [← HXC.out]; exact x1) (by rw [← HXC.out]; exact x2)]
                simp
              have HD2 : Hid ((b.drop j).dropWhile M.isD = (b.drop (k + 1)).dropWhile M.isD) := by
                rw [Hid, hDW.out, HDK.out, List.dropWhile_cons, M.isD_yes (by rw [← HXC.out]; exact x1) (by rw [← HXC.out]; exact x2)]
                rfl
              obtain ⟨v2, hv2⟩ : ∃ z, z = v * 10 + d := ⟨_, rfl⟩
              have hvi2 : (v : Int) * 10 + (d : Int) = (v2 : Int) := by omega
              rw [← hv2] at HV2
              clear hd x1 x2 hx8 hv2
              by_cases big : 9007199254740991 < v2
              · have m3 : (9007199254740991 : Int) < (v2 : Int) := by omega
                have HE : Hid (M.num (b.drop j) = none) := by
                  rw [Hid, HNUM.out]
                  refine M.numG_big _ _ ?_
                  rw [HT2.out]
                  have := M.valD_ge (D ++ [c]) ((b.drop (k + 1)).takeWhile M.isD)
                  rw [← HV2.out] at this
                  exact Nat.lt_of_lt_of_le big this
                clear big
                go_wp2
                go_ret2
                exact ⟨by rw [HE.out]; rfl, rfl⟩
              · have m3 : ¬ (9007199254740991 : Int) < (v2 : Int) := by omega
                have HB := Lib.hid big
                clear big
                go_wp2
                refine ⟨⟨k + 1, v2, D ++ [c], by go_num, by go_num, ?_, HLT.out, ?_, HV2, ?_, HT2, HD2⟩, ?_⟩
                · rw [Hid]; have := hjk.out; omega
                · rw [Hid]; have := HB.out; omega
                · rw [Hid, List.length_append, hDl.out, List.length_singleton]; have := hjk.out; omega
                · simp only [intOf]; have := HLT.out; omega
            · have m2 : decide ((x : Int) ≤ 57) = false := decide_eq_false (by omega)
              have HO := Lib.hid (OUT.out (by rw [HDK.out, List.takeWhile_cons, M.isD_no (fun h => x2 (by rw [HXC.out]; exact h.2))]; rfl))
              clear x1 x2
              by_cases kj : k = j
              · have z0 : ((k : Int) == (j : Int)) = true := by simp [kj]
                have HE : Hid (M.num (b.drop j) = none) := by
                  rw [Hid, HNUM.out]
                  refine M.numG_none _ _ ?_
                  rw [HO.out.1]
                  exact List.eq_nil_of_length_eq_zero (by rw [hDl.out]; omega)
                clear kj
                go_wp2
                go_ret2
                exact ⟨by rw [HE.out]; rfl, rfl⟩
              · have z0 : ((k : Int) == (j : Int)) = false := by simp; omega
                have hjk2 : j < k := by have := hjk.out; omega
                have hjn : j < n := by have := hkn.out; omega
                have cJ := HCS.out j (by rw [← HN.out]; exact hjn)
                obtain ⟨y8, hy8⟩ : ∃ c, c = b.getD j 0 := ⟨_, rfl⟩
                have HDJ : Hid (b.drop j = y8 :: b.drop (j + 1)) := by rw [Hid, drop_cons64 (by rw [← HN.out]; exact hjn), ← hy8]
                rw [← hy8] at cJ
                obtain ⟨y, hy⟩ : ∃ x, x = y8.toNat := ⟨_, rfl⟩
                rw [← hy] at cJ
                have HY := Lib.hid hy
                have j2 : (0 : Int) ≤ (j : Int) := Int.natCast_nonneg j
                have j3 : ((j : Int)).toNat = j := Int.toNat_natCast j
                have j4 : (j : Int) < (n : Int) := by omega
                have HD0 : Hid (D ≠ []) := fun h => by
                  have := hDl.out
                  rw [h] at this
                  simp at this
                  omega
                have HHD : Hid (D.head? = some y8) := by
                  have h1 := HO.out.1
                  rw [HDJ.out, List.takeWhile_cons] at h1
                  cases hb : M.isD y8 with
                  | true => rw [hb] at h1; rw [Hid, ← h1]; rfl
                  | false => rw [hb] at h1; exact absurd h1.symm HD0.out
                have HLN := Lib.hid hDl.out
                have HJK := Lib.hid hjk2
                clear kj hjk2 hjn hy8 hy
                by_cases y48 : y = 48
                · have e48 : ((y : Int) == 48) = true := by simp [y48]
                  have HH48 : Hid (D.head? = some 48) := by rw [Hid, HHD.out, show y8 = 48 from UInt8.toNat_inj.1 (HY.out.symm.trans y48)]
                  clear y48
                  by_cases long : j + 1 < k
                  · have l0p : (j : Int) + 1 < (k : Int) := by omega
                    have l0 : decide ((j : Int) + 1 < (k : Int)) = true := decide_eq_true (by omega)
                    have HE : Hid (M.num (b.drop j) = none) := by
                      rw [Hid, HNUM.out]
                      exact M.numG_zero _ _ D HO.out.1 HH48.out (.inl (by rw [HLN.out]; omega))
                    clear long
                    go_wp2
                    go_ret2
                    exact ⟨by rw [HE.out]; rfl, rfl⟩
                  · have l0p : ¬ (j : Int) + 1 < (k : Int) := by omega
                    have l0 : decide ((j : Int) + 1 < (k : Int)) = false := decide_eq_false (by omega)
                    have HE : Hid (M.num (b.drop j) = some ((M.valD D : Int), b.drop k)) := by
                      rw [Hid, HNUM.out, ← HO.out.2]
                      refine M.numG_some _ _ D HO.out.1 HD0.out (fun h => ?_) (by rw [← hvD.out]; exact hvm.out)
                      rcases h.2 with h2 | h2
                      · rw [HLN.out] at h2
                        omega
                      · cases h2
                    have HP : Hid (M.nP n (M.num (b.drop j)) = (k : Int)) := by
                      rw [Hid, HE.out]
                      show ((n - (b.drop k).length : Nat) : Int) = (k : Int)
                      rw [List.length_drop, ← HN.out]
                      congr 1
                      have := hkn.out
                      omega
                    have HVV : Hid (M.nV (M.num (b.drop j)) = (v : Int)) := by rw [Hid, HE.out, hvD.out]; rfl
                    clear long
                    go_wp2
                    go_ret2
                    exact ⟨by rw [HP.out, HVV.out]; rfl, rfl⟩
                · have e48 : ((y : Int) == 48) = false := by simp; omega
                  have HE : Hid (M.num (b.drop j) = some ((M.valD D : Int), b.drop k)) := by
                    rw [Hid, HNUM.out, ← HO.out.2]
                    refine M.numG_some _ _ D HO.out.1 HD0.out (fun h => ?_) (by rw [← hvD.out]; exact hvm.out)
                    have h1 := h.1
                    rw [HHD.out] at h1
                    injection h1 with h1
                    exact y48 (by rw [HY.out, h1]; rfl)
                  have HP : Hid (M.nP n (M.num (b.drop j)) = (k : Int)) := by
                    rw [Hid, HE.out]
                    show ((n - (b.drop k).length : Nat) : Int) = (k : Int)
                    rw [List.length_drop, ← HN.out]
                    congr 1
                    have := hkn.out
                    omega
                  have HVV : Hid (M.nV (M.num (b.drop j)) = (v : Int)) := by rw [Hid, HE.out, hvD.out]; rfl
                  clear y48
                  go_wp2
                  go_ret2
                  exact ⟨by rw [HP.out, HVV.out]; rfl, rfl⟩
          · have m1 : decide ((48 : Int) ≤ (x : Int)) = false := decide_eq_false (by omega)
            have HO := Lib.hid (OUT.out (by rw [HDK.out, List.takeWhile_cons, M.isD_no (fun h => x1 (by rw [HXC.out]; exact h.1))]; rfl))
            clear x1
            by_cases kj : k = j
            · have z0 : ((k : Int) == (j : Int)) = true := by simp [kj]
              have HE : Hid (M.num (b.drop j) = none) := by
                rw [Hid, HNUM.out]
                refine M.numG_none _ _ ?_
                rw [HO.out.1]
                exact List.eq_nil_of_length_eq_zero (by rw [hDl.out]; omega)
              clear kj
              go_wp2
              go_ret2
              exact ⟨by rw [HE.out]; rfl, rfl⟩
            · have z0 : ((k : Int) == (j : Int)) = false := by simp; omega
              have hjk2 : j < k := by have := hjk.out; omega
              have hjn : j < n := by have := hkn.out; omega
              have cJ := HCS.out j (by rw [← HN.out]; exact hjn)
              obtain ⟨y8, hy8⟩ : ∃ c, c = b.getD j 0 := ⟨_, rfl⟩
              have HDJ : Hid (b.drop j = y8 :: b.drop (j + 1)) := by rw [Hid, drop_cons64 (by rw [← HN.out]; exact hjn), ← hy8]
              rw [← hy8] at cJ
              obtain ⟨y, hy⟩ : ∃ x, x = y8.toNat := ⟨_, rfl⟩
              rw [← hy] at cJ
              have HY := Lib.hid hy
              have j2 : (0 : Int) ≤ (j : Int) := Int.natCast_nonneg j
              have j3 : ((j : Int)).toNat = j := Int.toNat_natCast j
              have j4 : (j : Int) < (n : Int) := by omega
              have HD0 : Hid (D ≠ []) := fun h => by
                have := hDl.out
                rw [h] at this
                simp at this
                omega
              have HHD : Hid (D.head? = some y8) := by
                have h1 := HO.out.1
                rw [HDJ.out, List.takeWhile_cons] at h1
                cases hb : M.isD y8 with
                | true => rw [hb] at h1; rw [Hid, ← h1]; rfl
                | false => rw [hb] at h1; exact absurd h1.symm HD0.out
              have HLN := Lib.hid hDl.out
              have HJK := Lib.hid hjk2
              clear kj hjk2 hjn hy8 hy
              by_cases y48 : y = 48
              · have e48 : ((y : Int) == 48) = true := by simp [y48]
                have HH48 : Hid (D.head? = some 48) := by rw [Hid, HHD.out, show y8 = 48 from UInt8.toNat_inj.1 (HY.out.symm.trans y48)]
                clear y48
                by_cases long : j + 1 < k
                · have l0p : (j : Int) + 1 < (k : Int) := by omega
                  have l0 : decide ((j : Int) + 1 < (k : Int)) = true := decide_eq_true (by omega)
                  have HE : Hid (M.num (b.drop j) = none) := by
                    rw [Hid, HNUM.out]
                    exact M.numG_zero _ _ D HO.out.1 HH48.out (.inl (by rw [HLN.out]; omega))
                  clear long
                  go_wp2
                  go_ret2
                  exact ⟨by rw [HE.out]; rfl, rfl⟩
                · have l0p : ¬ (j : Int) + 1 < (k : Int) := by omega
                  have l0 : decide ((j : Int) + 1 < (k : Int)) = false := decide_eq_false (by omega)
                  have HE : Hid (M.num (b.drop j) = some ((M.valD D : Int), b.drop k)) := by
                    rw [Hid, HNUM.out, ← HO.out.2]
                    refine M.numG_some _ _ D HO.out.1 HD0.out (fun h => ?_) (by rw [← hvD.out]; exact hvm.out)
                    rcases h.2 with h2 | h2
                    · rw [HLN.out] at h2
                      omega
                    · cases h2
                  have HP : Hid (M.nP n (M.num (b.drop j)) = (k : Int)) := by
                    rw [Hid, HE.out]
                    show ((n - (b.drop k).length : Nat) : Int) = (k : Int)
                    rw [List.length_drop, ← HN.out]
                    congr 1
                    have := hkn.out
                    omega
                  have HVV : Hid (M.nV (M.num (b.drop j)) = (v : Int)) := by rw [Hid, HE.out, hvD.out]; rfl
                  clear long
                  go_wp2
                  go_ret2
                  exact ⟨by rw [HP.out, HVV.out]; rfl, rfl⟩
              · have e48 : ((y : Int) == 48) = false := by simp; omega
                have HE : Hid (M.num (b.drop j) = some ((M.valD D : Int), b.drop k)) := by
                  rw [Hid, HNUM.out, ← HO.out.2]
                  refine M.numG_some _ _ D HO.out.1 HD0.out (fun h => ?_) (by rw [← hvD.out]; exact hvm.out)
                  have h1 := h.1
                  rw [HHD.out] at h1
                  injection h1 with h1
                  exact y48 (by rw [HY.out, h1]; rfl)
                have HP : Hid (M.nP n (M.num (b.drop j)) = (k : Int)) := by
                  rw [Hid, HE.out]
                  show ((n - (b.drop k).length : Nat) : Int) = (k : Int)
                  rw [List.length_drop, ← HN.out]
                  congr 1
                  have := hkn.out
                  omega
                have HVV : Hid (M.nV (M.num (b.drop j)) = (v : Int)) := by rw [Hid, HE.out, hvD.out]; rfl
                clear y48
                go_wp2
                go_ret2
                exact ⟨by rw [HP.out, HVV.out]; rfl, rfl⟩
        · have b0p : ¬ (k : Int) < (n : Int) := by omega
          have b0 : decide ((k : Int) < (n : Int)) = false := decide_eq_false (by omega)
          have HO := Lib.hid (OUT.out (by rw [List.drop_eq_nil_of_le (by rw [← HN.out]; omega)]; rfl))
          clear hlt
          by_cases kj : k = j
          · have z0 : ((k : Int) == (j : Int)) = true := by simp [kj]
            have HE : Hid (M.num (b.drop j) = none) := by
              rw [Hid, HNUM.out]
              refine M.numG_none _ _ ?_
              rw [HO.out.1]
              exact List.eq_nil_of_length_eq_zero (by rw [hDl.out]; omega)
            clear kj
            go_wp2
            go_ret2
            exact ⟨by rw [HE.out]; rfl, rfl⟩
          · have z0 : ((k : Int) == (j : Int)) = false := by simp; omega
            have hjk2 : j < k := by have := hjk.out; omega
            have hjn : j < n := by have := hkn.out; omega
            have cJ := HCS.out j (by rw [← HN.out]; exact hjn)
            obtain ⟨y8, hy8⟩ : ∃ c, c = b.getD j 0 := ⟨_, rfl⟩
            have HDJ : Hid (b.drop j = y8 :: b.drop (j + 1)) := by rw [Hid, drop_cons64 (by rw [← HN.out]; exact hjn), ← hy8]
            rw [← hy8] at cJ
            obtain ⟨y, hy⟩ : ∃ x, x = y8.toNat := ⟨_, rfl⟩
            rw [← hy] at cJ
            have HY := Lib.hid hy
            have j2 : (0 : Int) ≤ (j : Int) := Int.natCast_nonneg j
            have j3 : ((j : Int)).toNat = j := Int.toNat_natCast j
            have j4 : (j : Int) < (n : Int) := by omega
            have HD0 : Hid (D ≠ []) := fun h => by
              have := hDl.out
              rw [h] at this
              simp at this
              omega
            have HHD : Hid (D.head? = some y8) := by
              have h1 := HO.out.1
              rw [HDJ.out, List.takeWhile_cons] at h1
              cases hb : M.isD y8 with
              | true => rw [hb] at h1; rw [Hid, ← h1]; rfl
              | false => rw [hb] at h1; exact absurd h1.symm HD0.out
            have HLN := Lib.hid hDl.out
            have HJK := Lib.hid hjk2
            clear kj hjk2 hjn hy8 hy
            by_cases y48 : y = 48
            · have e48 : ((y : Int) == 48) = true := by simp [y48]
              have HH48 : Hid (D.head? = some 48) := by rw [Hid, HHD.out, show y8 = 48 from UInt8.toNat_inj.1 (HY.out.symm.trans y48)]
              clear y48
              by_cases long : j + 1 < k
              · have l0p : (j : Int) + 1 < (k : Int) := by omega
                have l0 : decide ((j : Int) + 1 < (k : Int)) = true := decide_eq_true (by omega)
                have HE : Hid (M.num (b.drop j) = none) := by
                  rw [Hid, HNUM.out]
                  exact M.numG_zero _ _ D HO.out.1 HH48.out (.inl (by rw [HLN.out]; omega))
                clear long
                go_wp2
                go_ret2
                exact ⟨by rw [HE.out]; rfl, rfl⟩
              · have l0p : ¬ (j : Int) + 1 < (k : Int) := by omega
                have l0 : decide ((j : Int) + 1 < (k : Int)) = false := decide_eq_false (by omega)
                have HE : Hid (M.num (b.drop j) = some ((M.valD D : Int), b.drop k)) := by
                  rw [Hid, HNUM.out, ← HO.out.2]
                  refine M.numG_some _ _ D HO.out.1 HD0.out (fun h => ?_) (by rw [← hvD.out]; exact hvm.out)
                  rcases h.2 with h2 | h2
                  · rw [HLN.out] at h2
                    omega
                  · cases h2
                have HP : Hid (M.nP n (M.num (b.drop j)) = (k : Int)) := by
                  rw [Hid, HE.out]
                  show ((n - (b.drop k).length : Nat) : Int) = (k : Int)
                  rw [List.length_drop, ← HN.out]
                  congr 1
                  have := hkn.out
                  omega
                have HVV : Hid (M.nV (M.num (b.drop j)) = (v : Int)) := by rw [Hid, HE.out, hvD.out]; rfl
                clear long
                go_wp2
                go_ret2
                exact ⟨by rw [HP.out, HVV.out]; rfl, rfl⟩
            · have e48 : ((y : Int) == 48) = false := by simp; omega
              have HE : Hid (M.num (b.drop j) = some ((M.valD D : Int), b.drop k)) := by
                rw [Hid, HNUM.out, ← HO.out.2]
                refine M.numG_some _ _ D HO.out.1 HD0.out (fun h => ?_) (by rw [← hvD.out]; exact hvm.out)
                have h1 := h.1
                rw [HHD.out] at h1
                injection h1 with h1
                exact y48 (by rw [HY.out, h1]; rfl)
              have HP : Hid (M.nP n (M.num (b.drop j)) = (k : Int)) := by
                rw [Hid, HE.out]
                show ((n - (b.drop k).length : Nat) : Int) = (k : Int)
                rw [List.length_drop, ← HN.out]
                congr 1
                have := hkn.out
                omega
              have HVV : Hid (M.nV (M.num (b.drop j)) = (v : Int)) := by rw [Hid, HE.out, hvD.out]; rfl
              clear y48
              go_wp2
              go_ret2
              exact ⟨by rw [HP.out, HVV.out]; rfl, rfl⟩
  · obtain rfl : i = n := by omega
    have d0 : decide ((i : Int) < (i : Int)) = false := decide_eq_false (by omega)
    have b0 : ¬ (i : Int) < (i : Int) := by omega
    have HE : Hid (M.num (b.drop i) = none) := by
      rw [Hid, List.drop_eq_nil_of_le (by rw [← HN.out]; exact Nat.le_refl _)]
      exact M.num_nil
    have z0 : ((i : Int) == (i : Int)) = true := by simp
    clear hin hn hi hl
    go_enter Tryz.func93, Tryz.ntmps93
    go_wp2
    go_loop [7, 8] (fun vv kk => vv = .int .i64 0 ∧ kk = .int .i64 (i : Int)) (fun vv kk => 0)
    case atStart => exact ⟨rfl, rfl⟩
    case round =>
      obtain ⟨rfl, rfl⟩ := hrel
      go_wp2
      go_ret2
      exact ⟨by rw [HE.out]; rfl, rfl⟩

end Go.Proofs.YtbgadfaiehkanaaGreatDoor
