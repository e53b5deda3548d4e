/-
  THE WALK OF orloplaw01.WordEqual: it returns true, and writes nothing that was there. Conditions: none.
-/
import Derived.Test.YtcablmipgckfnaaAwake
import Derived.Test.YtcablmipgckfnaaLawPutsWalk
import Derived.Test.YtcablmipgckfnaaWordC
import Derived.Test.YtcablmipgckfnaaAppend
import Derived.RegionTactic
import Derived.ChangeAlike
namespace Go.Proofs.Ytcablmipgckfnaa
open Go.RowKit
set_option linter.unusedVariables false

theorem xor_self_zero (c m : Nat) (h : c ^^^ m = c) : m = 0 := by
  apply Nat.eq_of_testBit_eq
  intro i
  have := congrArg (fun n => n.testBit i) h
  simp only [Nat.testBit_xor] at this
  rw [Nat.zero_testBit]
  cases h1 : c.testBit i <;> cases h2 : m.testBit i <;> simp_all

theorem ofNat_small (n : Nat) (h : n < 256) : (UInt8.ofNat n).toNat = n := by
  have : (UInt8.ofNat n).toNat = n % 256 := by simp
  omega

theorem byteCells_set (xs : List UInt8) (i : Nat) (b : UInt8) : Lib.byteCells (xs.set i b) = (Lib.byteCells xs).set i (.int .u8 (b.toNat : Int)) := by
  simp [Lib.byteCells, List.map_set]

theorem turned {w1 w7 : World} {g7 c7 i c t0 : Nat} {xs : List UInt8} (o7 : Own w7 w1.heap.size (.slice (some ⟨g7, 0, none⟩) xs.length c7) xs) (kk : Below w1.heap.size w1 w7) (hg7 : w1.heap.size ≤ g7)
    (hilt : i < xs.length) (hc : c = (xs.getD i 0).toNat) (ht : ¬ t0 % 256 = 0) :
    ∃ zs : List UInt8, Hid (zs.length = xs.length) ∧ Hid (¬ xs = zs) ∧ Own (w7.setCell ⟨g7, i, none⟩ (.int .u8 (bits BinOp.xor IntKind.u8 (c : Int) ((t0 : Int) % 256)))).drew w1.heap.size (.slice (some ⟨g7, 0, none⟩) xs.length c7) zs ∧
      Below w1.heap.size w1 (w7.setCell ⟨g7, i, none⟩ (.int .u8 (bits BinOp.xor IntKind.u8 (c : Int) ((t0 : Int) % 256)))).drew := by
  have hc256 : c < 256 := by rw [hc]; exact (xs.getD i 0).toNat_lt
  have hx : c ^^^ t0 % 256 < 256 := Nat.xor_lt_two_pow (n := 8) hc256 (by omega)
  have e : bits BinOp.xor IntKind.u8 (c : Int) ((t0 : Int) % 256) = (((UInt8.ofNat (c ^^^ t0 % 256)).toNat : Nat) : Int) := by
    have h1 := u8_xor_nat c (t0 % 256) hc256 (by omega)
    rw [ofNat_small _ hx, ← h1]
    congr 1
  refine ⟨xs.set i (UInt8.ofNat (c ^^^ t0 % 256)), by simp [Hid], fun hh => ?_, ?_, (kk.setCell (p := ⟨g7, i, none⟩) hg7 _).drew⟩
  · have h2 := congrArg (fun l => (l.getD i 0).toNat) hh
    simp only [List.getD_eq_getElem?_getD, List.getElem?_set_self hilt, Option.getD_some] at h2
    rw [← List.getD_eq_getElem?_getD, ← hc] at h2
    rw [ofNat_small _ hx] at h2
    exact ht (xor_self_zero c _ h2.symm)
  · have s := (o7.row.stored i (.int .u8 (bits BinOp.xor IntKind.u8 (c : Int) ((t0 : Int) % 256)))).1
    rw [Own, List.length_set, byteCells_set, ← e]
    exact s.drew

theorem wordEqual_walk (w : World) (v1 : Value) (xs : List UInt8) (h1 : IsB w v1 xs) (hnil : ∀ n c, v1 = .slice none n c → c = 0) (v2 : Value) (ys : List UInt8) (h2 : IsB w v2 ys)
    (t0 t1 : Nat) (ht0 : t0 < 65536) (ht1 : t1 < 65536) :
    Calls Try.prog 5 #[v1, v2, .agg #[.int .u16 t0, .int .u16 t1]] w fun e w' => e = .returned (.bool true) ∧ Below w.heap.size w w' := by
  obtain ⟨ao1, cap1, rfl⟩ : ∃ ao cap, v1 = .slice ao xs.length cap := by
    obtain ⟨ao, cap, e, _⟩ := h1
    exact ⟨ao, cap, e⟩
  obtain ⟨ao2, cap2, rfl⟩ : ∃ ao cap, v2 = .slice ao ys.length cap := by
    obtain ⟨ao, cap, e, _⟩ := h2
    exact ⟨ao, cap, e⟩
  have hl1 : xs.length ≤ maxLen := by obtain ⟨_, _, _, h1, h2, _⟩ := h1; omega
  have hl2 : ys.length ≤ maxLen := by obtain ⟨_, _, _, h1, h2, _⟩ := h2; omega
  unfold maxLen at hl1 hl2
  have HN : Hid (∀ n c, Value.slice ao1 xs.length cap1 = .slice none n c → c = 0) := hnil
  clear hnil
  have k0 : Below w.heap.size w (w.alloc (.cells #[.int .u16 t0, .int .u16 t1] 37)) := (Below.refl _ _).alloc (Nat.le_refl _) _
  have i1 := h1.below k0
  have i2 := h2.below k0
  clear h1 h2
  by_cases hb : 4096 < xs.length
  -- BEGIN WALK
  · go_enter Try.func5, Try.ntmps5
    go_wp2_with fail
    refine (awake_any _).mono ?_
    rintro e w1 ⟨rfl, k⟩
    go_wp2_with fail
    go_ret
    exact ⟨rfl, k0.trans (k.mono k0.size)⟩
  · by_cases hb2 : 4096 < ys.length
    · go_enter Try.func5, Try.ntmps5
      go_wp2_with fail
      refine (awake_any _).mono ?_
      rintro e w1 ⟨rfl, k⟩
      go_wp2_with fail
      go_ret
      exact ⟨rfl, k0.trans (k.mono k0.size)⟩
    · obtain ⟨q, hq⟩ : ∃ q, decide (xs = ys) = q := ⟨_, rfl⟩
      have HQ : Hid (decide (xs = ys) = q) := hq
      clear hq
      have i1 := i1
      go_enter Try.func5, Try.ntmps5
      go_wp2_with fail
      refine (awake_any _).mono ?_
      rintro e w1 ⟨rfl, k⟩
      have j1 := i1.below k
      have i2 := i2.below k
      have box0 : w1.cell? ⟨w.heap.size, 0, none⟩ = some (.int .u16 t0) := by rw [k.cell (by simp)]; simp
      have box1 : w1.cell? ⟨w.heap.size, 1, none⟩ = some (.int .u16 t1) := by rw [k.cell (by simp)]; simp
      have hbox : w.heap.size < w1.heap.size := by have := k.size; simp at this; omega
      have kw : Below w.heap.size w w1 := k0.trans (k.mono k0.size)
      clear i1 k k0
      have BX0 : Hid (w1.cell? ⟨w.heap.size, 0, none⟩ = some (.int .u16 t0)) := box0
      have BX1 : Hid (w1.cell? ⟨w.heap.size, 1, none⟩ = some (.int .u16 t1)) := box1
      clear box0 box1
      go_wp2_with (at_builtin; go_must (refine wpList_app _ rfl _ _ rfl w1.heap.size _ [] rfl ?c1 _ xs rfl ?c2 HN.out (by simp; omega) (by simp) ?_))
      case c1 => exact own_empty w1
      case c2 => exact j1.below ((Below.refl _ _).alloc (Nat.le_refl _) _)
      intro r7 w2 o7 b hz
      have o7 : Own w2 w1.heap.size r7 xs := o7
      obtain ⟨g7, c7, rfl, hg7⟩ := o7.address (fun e => by cases hz e)
      have kk := ((Below.refl w1.heap.size w1).alloc (Nat.le_refl _) (.cells #[] 5)).trans b
      clear b hz
      go_wp2_with fail
      refine (wequal_b _ _ xs ys _ (j1.below kk) (i2.below kk)).mono ?_
      rintro e w3 ⟨rfl, b⟩
      rw [HQ.out]
      have o7 := o7.below b
      have kk := kk.trans (b.mono kk.size)
      clear b
      go_wp2_with fail
      refine (requal_b _ _ xs ys _ (j1.below kk) (i2.below kk)).mono ?_
      rintro e w4 ⟨rfl, b⟩
      rw [HQ.out]
      have o7 := o7.below b
      have kk := kk.trans (b.mono kk.size)
      clear b
      go_wp2_with fail
      refine (wequal_yes _ _ xs _ (j1.below kk) o7.isB).mono ?_
      rintro e w5 ⟨rfl, b⟩
      have o7 := o7.below b
      have kk := kk.trans (b.mono kk.size)
      clear b
      clear i2
      have hs15 : w1.heap.size ≤ w5.heap.size := kk.size
      go_wp2_with (at_builtin; go_must (refine wpList_unguard rfl (wpList_app_keep _ rfl _ _ rfl w1.heap.size g7 c7 xs rfl ?c1 ⟨w5.heap.size, 0, none⟩ 1 [0] rfl ?c2 (by simp; omega) (by simp; omega) ?_)))
      case c1 => exact o7.below ((Below.refl _ _).alloc (Nat.le_refl _) _)
      case c2 => exact isB_one _ _ 0 0 rfl
      intro r39 w6 o39 o7' b
      have o7 : Own w6 w1.heap.size (.slice (some ⟨g7, 0, none⟩) xs.length c7) xs := o7'
      have kk := (kk.alloc hs15 (.cells #[.int .u8 0] 5)).trans b
      clear o7' b hs15
      go_wp2_with fail
      refine (wequal_no _ _ xs (xs ++ [0]) _ (j1.below kk) o39.isB (fun e => by have := congrArg List.length e; simp at this)).mono ?_
      rintro e w7 ⟨rfl, b⟩
      have o7 := o7.below b
      have kk := kk.trans (b.mono kk.size)
      clear b
      clear o39
      have box0 : w7.cell? ⟨w.heap.size, 0, none⟩ = some (.int .u16 t0) := by rw [kk.cell hbox]; exact BX0.out
      have box1 : w7.cell? ⟨w.heap.size, 1, none⟩ = some (.int .u16 t1) := by rw [kk.cell hbox]; exact BX1.out
      by_cases h0 : xs.length = 0
      · have hlen0 : ¬ (0 < xs.length) := by omega
        clear h0
        go_wp2_with fail
        refine (wipe_own w1.heap.size _ xs _ o7 kk.size).mono ?_
        rintro e w9 ⟨rfl, o7, b⟩
        have kk := kk.trans b
        clear b
        have hs9 : w1.heap.size ≤ w9.heap.size := kk.size
        obtain ⟨i0, hi, hz0, hz1, hz2⟩ := info_parts Try.info5
        go_wp2_with (at_make; go_must (refine wpList_make_full _ rfl _ _ 25 rfl w9.heap.size 5 i0 (.int .u8 0) 1 Try.underlying25 hi hz0 hz1 .i64 .i64 _ _ xs.length rfl rfl rfl rfl (by rw [hz2]; omega) (by unfold maxLen; omega) (Nat.le_refl _) ?_))
        intro w10 hown hgrow
        have b : Below w9.heap.size w9 w10 := (Below.refl _ _).grown hgrow (Nat.le_refl _) (by intro k hk; cases hk)
        have oz : Own w10 w9.heap.size (.slice (some ⟨w9.heap.size, 0, none⟩) xs.length xs.length) (List.replicate xs.length 0) := by
          have e : Lib.byteCells (List.replicate xs.length 0) = (madeCells #[Value.int IntKind.u8 0] xs.length).toList := by
            rw [toList_madeCells_one]
            simp [Lib.byteCells]
          rw [Own, List.length_replicate, e]
          exact hown
        have o7 := o7.below b
        have kk := kk.trans (b.mono kk.size)
        clear hown hgrow b hi hz0 hz1 hz2
        go_wp2_with fail
        refine (equal_yes _ _ (List.replicate xs.length 0) _ o7.isB oz.isB).mono ?_
        rintro e w11 ⟨rfl, b⟩
        have kk := kk.trans (b.mono kk.size)
        go_wp2_with fail
        go_ret
        exact ⟨rfl, kw.trans (kk.mono kw.size)⟩
      · have hlen : 0 < xs.length := by omega
        clear h0
        by_cases ht : t0 % 256 = 0
        · have HT : Hid (t0 % 256 = 0) := ht
          go_wp2_with fail
          refine (wipe_own w1.heap.size _ xs _ o7 kk.size).mono ?_
          rintro e w9 ⟨rfl, o7, b⟩
          have kk := kk.trans b
          clear b
          have hs9 : w1.heap.size ≤ w9.heap.size := kk.size
          obtain ⟨i0, hi, hz0, hz1, hz2⟩ := info_parts Try.info5
          go_wp2_with (at_make; go_must (refine wpList_make_full _ rfl _ _ 25 rfl w9.heap.size 5 i0 (.int .u8 0) 1 Try.underlying25 hi hz0 hz1 .i64 .i64 _ _ xs.length rfl rfl rfl rfl (by rw [hz2]; omega) (by unfold maxLen; omega) (Nat.le_refl _) ?_))
          intro w10 hown hgrow
          have b : Below w9.heap.size w9 w10 := (Below.refl _ _).grown hgrow (Nat.le_refl _) (by intro k hk; cases hk)
          have oz : Own w10 w9.heap.size (.slice (some ⟨w9.heap.size, 0, none⟩) xs.length xs.length) (List.replicate xs.length 0) := by
            have e : Lib.byteCells (List.replicate xs.length 0) = (madeCells #[Value.int IntKind.u8 0] xs.length).toList := by
              rw [toList_madeCells_one]
              simp [Lib.byteCells]
            rw [Own, List.length_replicate, e]
            exact hown
          have o7 := o7.below b
          have kk := kk.trans (b.mono kk.size)
          clear hown hgrow b hi hz0 hz1 hz2
          go_wp2_with fail
          refine (equal_yes _ _ (List.replicate xs.length 0) _ o7.isB oz.isB).mono ?_
          rintro e w11 ⟨rfl, b⟩
          have kk := kk.trans (b.mono kk.size)
          go_wp2_with fail
          go_ret
          exact ⟨rfl, kw.trans (kk.mono kw.size)⟩
        · have hlenI : (0 : Int) < (xs.length : Int) := by omega
          have HT : Hid (¬ t0 % 256 = 0) := ht
          have htI : ((t0 : Int) % 256 != 0) = true := by simp; omega
          clear ht
          obtain ⟨i, hi⟩ : ∃ i, i = t1 % xs.length := ⟨_, rfl⟩
          have hilt : i < xs.length := by rw [hi]; exact Nat.mod_lt _ hlen
          have hmod : ((t1 : Int) % (xs.length : Int)) = (i : Int) := by rw [hi]; simp
          clear hi
          obtain ⟨c, hcc⟩ : ∃ c, c = (xs.getD i 0).toNat := ⟨_, rfl⟩
          have HC : Hid (c = (xs.getD i 0).toNat) := hcc
          have hc : w7.cell? ⟨g7, i, none⟩ = some (.int .u8 c) := by rw [o7.row.cellAt i (by omega), byteCells_getElem? xs i hilt, hcc]
          have hf : w7.frozen? ⟨g7, i, none⟩ = false := o7.row.frozenAt i
          clear hcc
          go_wp2_with fail
          simp only [hmod]
          clear hmod
          have hiltI : (i : Int) < (xs.length : Int) := by omega
          clear i1 i2 HN hl1 hl2
          go_region
          go_wp2_with fail
          obtain ⟨zs, ZL, hne, s1, s2⟩ := turned o7 kk hg7 hilt HC.out HT.out
          clear o7 kk hc hf box0 box1
          generalize (w7.setCell ⟨g7, i, none⟩ (.int .u8 (bits BinOp.xor IntKind.u8 (c : Int) ((t0 : Int) % 256)))).drew = w8 at s1 s2 ⊢
          have o7 := s1
          have kk := s2
          clear s1 s2
          refine (wequal_no _ _ xs zs _ (j1.below kk) o7.isB hne.out).mono ?_
          rintro e w8b ⟨rfl, b⟩
          have o7 := o7.below b
          have kk := kk.trans (b.mono kk.size)
          clear b
          go_wp2_with fail
          refine (wipe_own w1.heap.size _ zs _ o7 kk.size).mono ?_
          rintro e w9 ⟨rfl, o7, b⟩
          have kk := kk.trans b
          clear b
          have hs9 : w1.heap.size ≤ w9.heap.size := kk.size
          obtain ⟨i0, hi, hz0, hz1, hz2⟩ := info_parts Try.info5
          go_wp2_with (at_make; go_must (refine wpList_make_full _ rfl _ _ 25 rfl w9.heap.size 5 i0 (.int .u8 0) 1 Try.underlying25 hi hz0 hz1 .i64 .i64 _ _ xs.length rfl rfl rfl rfl (by rw [hz2]; omega) (by unfold maxLen; omega) (Nat.le_refl _) ?_))
          intro w10 hown hgrow
          have b : Below w9.heap.size w9 w10 := (Below.refl _ _).grown hgrow (Nat.le_refl _) (by intro k hk; cases hk)
          have oz : Own w10 w9.heap.size (.slice (some ⟨w9.heap.size, 0, none⟩) xs.length xs.length) (List.replicate xs.length 0) := by
            have e : Lib.byteCells (List.replicate xs.length 0) = (madeCells #[Value.int IntKind.u8 0] xs.length).toList := by
              rw [toList_madeCells_one]
              simp [Lib.byteCells]
            rw [Own, List.length_replicate, e]
            exact hown
          have o7 := o7.below b
          have kk := kk.trans (b.mono kk.size)
          clear hown hgrow b hi hz0 hz1 hz2
          go_wp2_with fail
          refine (equal_yes _ _ (List.replicate xs.length 0) _ (by have := o7.isB; rw [ZL.out] at this; exact this) oz.isB).mono ?_
          rintro e w11 ⟨rfl, b⟩
          have kk := kk.trans (b.mono kk.size)
          go_wp2_with fail
          go_ret
          exact ⟨rfl, kw.trans (kk.mono kw.size)⟩
  -- END WALK

end Go.Proofs.Ytcablmipgckfnaa
