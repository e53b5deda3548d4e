/-
  CONTRACTS OF orlopref01.Little, Back, Equal, Get, GetBig: the document's own answers on numbers as bytes. Conditions: none but n up to 8, which is all that is asked for.
-/
import Derived.Test.YtoeighongkchnaaWordB
import Derived.Deep.QuietTactic
import Derived.BigQuiet
namespace Go.Proofs.Ytoeighongkchnaa
open Go.RowKit

theorem ret_bool {a b : Bool} (h : a = b) : Ending.returned (.bool a) = .returned (.bool b) := by rw [h]

theorem little_any (v n : Nat) (w : World) (hv : v < 18446744073709551616) (hn : n ≤ 8) :
    Calls Try.prog 49 #[.int .u64 v, .int .i64 n] w (Makes w (M.le v n)) := by
  have HV : Hid (v < 18446744073709551616) := hv
  clear hv
  obtain ⟨i0, hi, hz0, hz1, hz2⟩ := info_parts Try.info5
  go_enter Try.func49, Try.ntmps49
  go_wp2
  go_loopw [0, 5, 6] (fun x s i wr => ∃ k : Nat, k ≤ n ∧ i = .int .i64 k ∧ x = .int .u64 (v / 256 ^ k : Nat) ∧ Hid (Own wr w.heap.size s (M.le v k)) ∧ Below w.heap.size w wr)
    (fun _ _ i _ => n - (intOf i).toNat)
  case atStart => exact ⟨0, Nat.zero_le _, rfl, by simp, World.ownsRow_nil _ _ _ _, Below.refl _ _⟩
  case round =>
    rename_i wr
    obtain ⟨k, hk, rfl, rfl, hown, hb⟩ := hrel
    have hsz : w.heap.size ≤ wr.heap.size := hb.size
    obtain ⟨q, hq⟩ : ∃ q, q = v / 256 ^ k := ⟨_, rfl⟩
    rw [← hq]
    have HQ : Hid (q = v / 256 ^ k) := hq
    clear hq
    by_cases hlt : k < n
    · have hl : (M.le v k).length = k := M.le_length v k
      have HL : Hid ((M.le v k).length = k) := hl
      clear hl
      go_wp2_with (at_builtin; go_loud (refine wpList_append_own _ rfl _ _ 22 rfl w.heap.size 5 i0 (.int .u8 0) 1 1 Try.underlying22 hi hz0 hz1 hz2 rfl (by decide) _ _ _ rfl (hown.out.alloc _) ⟨wr.heap.size, 0, none⟩ 1 1 [.int .u8 (↑q % 256)] rfl rfl (one_new _ _ _) (one_oneCell _ _) (by rw [HL.out]; unfold maxLen; omega) (by rw [HL.out]; omega) (by simp; omega) ?_))
      intro s' w1 hown' hgrow _
      have hb' := Below.of_grown hb hown.out hgrow
      have H' : Hid (Own w1 w.heap.size s' (M.le v (k + 1))) := by
        rw [Hid, Own, M.le, byteCells_append, List.length_append]
        have e : Value.int .u8 (↑q % 256) = .int .u8 ((UInt8.ofNat (v / 256 ^ k)).toNat : Int) := by
          rw [show (UInt8.ofNat (v / 256 ^ k)).toNat = v / 256 ^ k % 256 by simp, ← HQ.out]
          simp
        rw [e] at hown'
        exact hown'
      clear hown' hgrow
      go_wp2
      go_roundw
      case rel =>
        refine ⟨k + 1, by omega, by go_num, ?_, H', hb'⟩
        have hq : q < 18446744073709551616 := by rw [HQ.out]; exact Nat.lt_of_le_of_lt (Nat.div_le_self _ _) HV.out
        rw [Nat.pow_succ, ← Nat.div_div_eq_div_mul, ← HQ.out, wraps_u64 _ (by omega) (by omega)]
        rfl
      case measure => simp [intOf]; omega
    · obtain rfl : k = n := by omega
      go_wp2
      go_ret
      exact ⟨_, rfl, hown.out, hb⟩

theorem back_any (v : Value) (bs : List UInt8) (w : World) (h : IsB w v bs) (hsm : bs.length ≤ 140737488355328) :
    Calls Try.prog 48 #[v] w (Makes w bs.reverse) := by
  obtain ⟨ao, cap, rfl, hl, hm, h⟩ := h
  unfold maxLen at hm
  have H : Hid (At w ao bs) := h
  clear h
  obtain ⟨i0, hi, hz0, hz1, hz2⟩ := info_parts Try.info5
  go_enter Try.func48, Try.ntmps48
  go_wp2
  go_loopw [3, 4] (fun s i wr => ∃ k : Nat, k ≤ bs.length ∧ i = .int .i64 ((k : Int) - 1) ∧ Hid (Own wr w.heap.size s (bs.drop k).reverse) ∧ Below w.heap.size w wr)
    (fun _ i _ => (intOf i + 1).toNat)
  case atStart => exact ⟨bs.length, Nat.le_refl _, rfl, by rw [Hid, List.drop_length]; exact World.ownsRow_nil _ _ _ _, Below.refl _ _⟩
  case round =>
    rename_i wr
    obtain ⟨k, hk, rfl, hown, hb⟩ := hrel
    have hsz : w.heap.size ≤ wr.heap.size := hb.size
    by_cases hlt : 0 < k
    · obtain ⟨j, rfl⟩ : ∃ j, k = j + 1 := ⟨k - 1, by omega⟩
      rcases H.out with h0 | ⟨b, off, rfl, hc0⟩
      · subst h0; simp at hk
      · have hc : wr.cell? ⟨b, off + j, none⟩ = some (.int .u8 ((bs.getD j 0).toNat : Int)) := by
          have g := hc0 j (by omega)
          rw [hb.cell (by exact World.block_lt_of_cell? w _ g)]
          exact g
        clear hc0
        obtain ⟨c, hcc⟩ : ∃ c, c = (bs.getD j 0).toNat := ⟨_, rfl⟩
        rw [← hcc] at hc
        have HC : Hid (c = (bs.getD j 0).toNat) := hcc
        clear hcc
        have HL : Hid ((bs.drop (j + 1)).reverse.length = bs.length - (j + 1)) := by rw [Hid]; simp
        go_wp2_with (at_builtin; go_loud (refine wpList_append_own _ rfl _ _ 22 rfl w.heap.size 5 i0 (.int .u8 0) 1 1 Try.underlying22 hi hz0 hz1 hz2 rfl (by decide) _ _ _ rfl (hown.out.alloc _) ⟨wr.heap.size, 0, none⟩ 1 1 [.int .u8 c] rfl rfl (one_new _ _ _) (one_oneCell _ _) (by rw [HL.out]; unfold maxLen; omega) (by rw [HL.out]; omega) (by simp; omega) ?_))
        intro s' w1 hown' hgrow _
        have hb' := Below.of_grown hb hown.out hgrow
        have H' : Hid (Own w1 w.heap.size s' (bs.drop j).reverse) := by
          have e : bs.drop j = bs.getD j 0 :: bs.drop (j + 1) := by
            rw [List.drop_eq_getElem_cons (by omega)]
            simp [List.getD_eq_getElem?_getD, show j < bs.length by omega]
          rw [Hid, Own, e, List.reverse_cons, byteCells_append, List.length_append]
          rw [HC.out] at hown'
          rw [HL.out]
          exact hown'
        clear hown' hgrow
        go_wp2
        go_roundw
        case rel => exact ⟨j, by omega, by go_num, H', hb'⟩
        case measure => (simp [intOf]; try omega)
    · obtain rfl : k = 0 := by omega
      go_wp2
      go_ret
      exact ⟨_, rfl, hown.out, hb⟩

theorem equal_any (v1 v2 : Value) (xs ys : List UInt8) (w : World) (h1 : IsB w v1 xs) (h2 : IsB w v2 ys) :
    Calls Try.prog 14 #[v1, v2] w fun e w' => e = .returned (.bool (decide (xs = ys))) ∧ ∃ n, w' = w.drewN n := by
  obtain ⟨ao1, cap1, rfl, hl1, hm1, H1⟩ := h1
  obtain ⟨ao2, cap2, rfl, hl2, hm2, H2⟩ := h2
  unfold maxLen at hm1 hm2
  have H1 : Hid (At w ao1 xs) := H1
  have H2 : Hid (At w ao2 ys) := H2
  by_cases hlen : xs.length = ys.length
  · have HL : Hid (xs.length = ys.length) := hlen
    clear hlen
    rw [HL.out]
    go_enter Try.func14, Try.ntmps14
    go_wp2
    go_loopw [5] (fun i wr => ∃ k : Nat, k ≤ ys.length ∧ i = .int .i64 k ∧ Hid (xs.take k = ys.take k) ∧ ∃ n, wr = w.drewN n)
      (fun i _ => ys.length - (intOf i).toNat)
    case atStart => exact ⟨0, Nat.zero_le _, rfl, by simp [Hid], 0, rfl⟩
    case round =>
      obtain ⟨k, hk, rfl, hpre, nq, rfl⟩ := hrel
      by_cases hlt : k < ys.length
      · rcases H1.out with h0 | ⟨b1, off1, rfl, hc1⟩
        · have := HL.out; subst h0; simp at this; simp [← this] at hlt
        rcases H2.out with h0 | ⟨b2, off2, rfl, hc2⟩
        · subst h0; simp at hlt
        have g1 := hc1 k (by rw [HL.out]; exact hlt)
        have g2 := hc2 k hlt
        clear hc1 hc2
        obtain ⟨c1, hcc1⟩ : ∃ c, c = (xs.getD k 0).toNat := ⟨_, rfl⟩
        obtain ⟨c2, hcc2⟩ : ∃ c, c = (ys.getD k 0).toNat := ⟨_, rfl⟩
        rw [← hcc1] at g1
        rw [← hcc2] at g2
        have HC1 : Hid (c1 = (xs.getD k 0).toNat) := hcc1
        have HC2 : Hid (c2 = (ys.getD k 0).toNat) := hcc2
        clear hcc1 hcc2
        have hltI : (k : Int) < (ys.length : Int) := by omega
        by_cases hcc : c1 = c2
        · subst hcc
          go_wp2
          go_quiet (fail)
          go_wp2
          go_roundw
          case rel => exact ⟨k + 1, by omega, by go_num, M.take_next xs ys k (by rw [HL.out]; exact hlt) hlt hpre.out (by rw [← HC1.out, ← HC2.out]), _, rfl⟩
          case measure => simp [intOf]; omega
        · go_wp2
          go_quiet (fail)
          go_wp2
          go_ret
          refine ⟨ret_bool ?_, _, World.drewN_drewN _ _ _⟩
          symm
          rw [decide_eq_false_iff_not]
          intro e
          rw [HC1.out, HC2.out, e] at hcc
          exact hcc rfl
      · obtain rfl : k = ys.length := by omega
        go_wp2
        go_ret
        refine ⟨ret_bool ?_, _, rfl⟩
        symm
        rw [decide_eq_true_iff]
        have e := hpre.out
        rw [List.take_length, List.take_of_length_le (by rw [HL.out]; exact Nat.le_refl _)] at e
        exact e
  · have hne : ¬ xs = ys := fun e => hlen (by rw [e])
    have HN : Hid (¬ xs = ys) := hne
    clear hne
    go_enter Try.func14, Try.ntmps14
    go_wp2
    go_ret
    refine ⟨ret_bool ?_, 0, rfl⟩
    symm
    rw [decide_eq_false_iff_not]
    exact HN.out

theorem horner1 (v c : Nat) (h : v * 256 + 255 < 18446744073709551616) (hc : c < 256) :
    Value.int .u64 (IntKind.u64.wrap (IntKind.u64.wrap ((v : Int) * 256) + IntKind.u64.wrap (c : Int))) = .int .u64 ((v * 256 + c : Nat) : Int) := by
  rw [wraps_u64 ((v : Int) * 256) (by omega) (by omega), wraps_u64 (c : Int) (by omega) (by omega), wraps_u64 _ (by omega) (by omega)]
  congr 1

theorem horner0 (v : Nat) (h : v * 256 + 255 < 18446744073709551616) :
    Value.int .u64 (IntKind.u64.wrap ((v : Int) * 256)) = .int .u64 ((v * 256 : Nat) : Int) := by
  rw [wraps_u64 ((v : Int) * 256) (by omega) (by omega)]
  congr 1

theorem rget_any (v : Value) (bs : List UInt8) (n : Nat) (w : World) (hn : n ≤ 8) (h : IsB w v bs) :
    Calls Try.prog 58 #[v, .int .i64 n] w fun e w' => e = .returned (.int .u64 (M.gl bs n : Nat)) ∧ w = w' := by
  obtain ⟨ao, cap, rfl, hl, hm, h⟩ := h
  unfold maxLen at hm
  have H : Hid (At w ao bs) := h
  clear h
  go_enter Try.func58, Try.ntmps58
  go_wp2
  go_loop [5, 6] (fun x i => ∃ k v : Nat, k ≤ n ∧ i = .int .i64 ((k : Int) - 1) ∧ x = .int .u64 v ∧ Hid (v * 256 ^ k + M.gl bs k = M.gl bs n)) (fun _ i => (intOf i + 1).toNat)
  case atStart => exact ⟨n, 0, Nat.le_refl _, rfl, rfl, by simp [Hid]⟩
  case round =>
    obtain ⟨k, v, hk, rfl, rfl, hv⟩ := hrel
    by_cases hlt : 0 < k
    · obtain ⟨j, rfl⟩ : ∃ j, k = j + 1 := ⟨k - 1, by omega⟩
      have HS : Hid (v * 256 + 255 < 18446744073709551616) := M.gl_small bs v j n hn hv.out
      by_cases hj : j < bs.length
      · rcases H.out with h0 | ⟨b, off, rfl, hc0⟩
        · subst h0; simp at hj
        have hc := hc0 j hj
        clear hc0
        obtain ⟨c, hcc⟩ : ∃ c, c = (bs.getD j 0).toNat := ⟨_, rfl⟩
        rw [← hcc] at hc
        have HC : Hid (c = (bs.getD j 0).toNat) := hcc
        clear hcc
        go_wp2
        go_round
        case rel =>
          refine ⟨j, v * 256 + c, by omega, by go_num, ?_, by rw [HC.out]; exact M.gl_step bs v j n hv.out⟩
          exact horner1 v c HS.out (by rw [HC.out]; exact (bs.getD j 0).toNat_lt)
        case measure => (simp [intOf]; try omega)
      · go_wp2
        go_round
        case rel =>
          refine ⟨j, v * 256, by omega, by go_num, ?_, by have := M.gl_step bs v j n hv.out; rw [M.getD_past bs j hj, Nat.add_zero] at this; exact this⟩
          exact horner0 v HS.out
        case measure => (simp [intOf]; try omega)
    · obtain rfl : k = 0 := by omega
      go_wp2
      go_ret
      refine ⟨ret_u64 ?_, rfl⟩
      have := hv.out
      simp [M.gl] at this
      rw [this]

theorem rgetBig_any (v : Value) (bs : List UInt8) (n : Nat) (w : World) (hn : n ≤ 8) (h : IsB w v bs) :
    Calls Try.prog 35 #[v, .int .i64 n] w fun e w' => e = .returned (.int .u64 (M.gb bs n : Nat)) ∧ w = w' := by
  obtain ⟨ao, cap, rfl, hl, hm, h⟩ := h
  unfold maxLen at hm
  have H : Hid (At w ao bs) := h
  clear h
  go_enter Try.func35, Try.ntmps35
  go_wp2
  go_loop [5, 6] (fun x i => ∃ k v : Nat, k ≤ n ∧ i = .int .i64 k ∧ x = .int .u64 v ∧ Hid (v = M.gb bs k)) (fun _ i => n - (intOf i).toNat)
  case atStart => exact ⟨0, 0, Nat.zero_le _, rfl, rfl, rfl⟩
  case round =>
    obtain ⟨k, v, hk, rfl, rfl, hv⟩ := hrel
    by_cases hlt : k < n
    · have HS : Hid (v * 256 + 255 < 18446744073709551616) := by rw [hv.out]; exact M.gb_small bs k n hn hlt
      by_cases hj : k < bs.length
      · rcases H.out with h0 | ⟨b, off, rfl, hc0⟩
        · subst h0; simp at hj
        have hc := hc0 k hj
        clear hc0
        obtain ⟨c, hcc⟩ : ∃ c, c = (bs.getD k 0).toNat := ⟨_, rfl⟩
        rw [← hcc] at hc
        have HC : Hid (c = (bs.getD k 0).toNat) := hcc
        clear hcc
        go_wp2
        go_round
        case rel =>
          refine ⟨k + 1, v * 256 + c, by omega, by go_num, ?_, by rw [Hid, M.gb, ← hv.out, HC.out]⟩
          exact horner1 v c HS.out (by rw [HC.out]; exact (bs.getD k 0).toNat_lt)
        case measure => simp [intOf]; omega
      · go_wp2
        go_round
        case rel =>
          refine ⟨k + 1, v * 256, by omega, by go_num, ?_, by rw [Hid, M.gb, ← hv.out, M.getD_past bs k hj, Nat.add_zero]⟩
          exact horner0 v HS.out
        case measure => simp [intOf]; omega
    · obtain rfl : k = n := by omega
      go_wp2
      go_ret
      exact ⟨ret_u64 (by rw [hv.out]), rfl⟩

end Go.Proofs.Ytoeighongkchnaa
