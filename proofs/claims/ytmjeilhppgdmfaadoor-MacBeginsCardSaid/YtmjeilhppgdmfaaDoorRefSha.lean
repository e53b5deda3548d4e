/-
  CONTRACTS OF orlopref02.Pad AND Of: the document's own digest. Conditions: none but that a nil message has no spare room.
-/
import Derived.Test.YtmjeilhppgdmfaaDoorRefWork
import Derived.Test.YtmjeilhppgdmfaaDoorShaSum
import Derived.Lib.Hide
namespace Go.Proofs.YtmjeilhppgdmfaaDoor
open Go.RowKit
set_option linter.unusedVariables false

set_option maxHeartbeats 1000000 in
theorem rpad_any (v : Value) (bs : List UInt8) (w : World) (hv : IsB w v bs) (hnil : ∀ n c, v = .slice none n c → c = 0) (hlen : bs.length ≤ 562949953421) :
    Calls Tryd.prog 26 #[v] w (Makes w (bs ++ M.pad bs.length)) := by
  have hvv := hv
  obtain ⟨ao, cap, rfl, hl1, hl2, hat⟩ := hvv
  obtain ⟨n, hn⟩ : ∃ n, n = bs.length := ⟨_, rfl⟩
  obtain ⟨z, hz⟩ : ∃ z, z = (119 - n % 64) % 64 := ⟨_, rfl⟩
  have HV : Hid (IsB w (.slice ao bs.length cap) bs) := hv
  have HNIL : Hid (∀ n c, Value.slice ao bs.length cap = .slice none n c → c = 0) := hnil
  rw [← hn] at hlen hl1 HV HNIL ⊢
  have HN : Hid (n = bs.length) := hn
  have HZ : Hid (z = (119 - n % 64) % 64) := hz
  clear hv hnil hn hz hat
  go_enter Tryd.func26, Tryd.ntmps26
  go_wp2_with (at_builtin; go_must (refine wpList_app _ rfl _ _ rfl w.heap.size _ [] rfl ?c1 _ bs rfl ?c2 HNIL.out (by rw [← HN.out]; simp; omega) (by simp) ?_))
  case c1 => exact own_empty w
  case c2 => exact HV.out.below ((Below.refl _ _).alloc (Nat.le_refl _) _)
  intro r1 w1 o1 b1 _
  have k1 : Below w.heap.size w w1 := ((Below.refl _ _).alloc (Nat.le_refl _) (.cells #[] 5)).trans b1
  have hs1 : w.heap.size ≤ w1.heap.size := k1.size
  have O1 : Hid (Own w1 w.heap.size r1 bs) := o1
  clear o1 b1
  go_wp2_with (at_builtin; go_must (refine wpList_app _ rfl _ _ rfl w.heap.size _ bs rfl ?c1 _ [128] rfl ?c2 (fun _ _ e => by cases e) (by rw [← HN.out]; simp; omega) (by simp; omega) ?_))
  case c1 => exact O1.out.below ((Below.refl _ _).alloc (Nat.le_refl _) _)
  case c2 => exact isB_one _ _ 128 _ rfl
  intro r2 w2 o2 b2 _
  have k2 : Below w.heap.size w w2 := (k1.alloc hs1 (.cells #[.int .u8 128] 5)).trans b2
  have O2 : Hid (Own w2 w.heap.size r2 (bs ++ 128 :: List.replicate 0 0)) := o2
  clear o2 b2 k1 hs1 O1
  go_wp2
  go_loopw [3] (fun x wr => ∃ k : Nat, k ≤ z ∧ Hid (Own wr w.heap.size x (bs ++ 128 :: List.replicate k 0)) ∧ Below w.heap.size w wr)
    (fun x _ => n + 1 + z - lenOf x)
  case atStart => exact ⟨0, Nat.zero_le _, O2, k2⟩
  case round =>
    clear O2 k2
    rename_i wr
    obtain ⟨k, hk, oo, kk⟩ := hrel
    obtain ⟨L, hL⟩ : ∃ L, L = n + 1 + k := ⟨_, rfl⟩
    have hLL : (bs ++ 128 :: List.replicate k 0).length = L := by rw [hL, HN.out]; simp; omega
    obtain ⟨g1, c1, rfl, hg1⟩ := oo.out.shape (by omega)
    rw [hLL]
    have OO : Hid (Own wr w.heap.size (.slice (some ⟨g1, 0, none⟩) L c1) (bs ++ 128 :: List.replicate k 0)) := by
      have := oo.out
      rw [hLL] at this
      exact this
    have HLL : Hid ((bs ++ 128 :: List.replicate k 0).length = L) := hLL
    have hz64 : z < 64 := by have := HZ.out; omega
    have hsz : w.heap.size ≤ wr.heap.size := kk.size
    have HL2 : Hid (L = n + 1 + k) := hL
    clear oo hLL
    by_cases hlt : k < z
    · have t1 : ((L : Int) % 64 != 56) = true := by
        have := HZ.out
        simp
        omega
      clear hL
      go_wp2_with (at_builtin; go_must (refine wpList_app _ rfl _ _ rfl w.heap.size _ _ rfl ?c1 _ [0] rfl ?c2 (fun _ _ e => by cases e) (by rw [HLL.out, HL2.out]; simp; omega) (by simp; omega) ?_))
      case c1 => exact OO.out.below ((Below.refl _ _).alloc (Nat.le_refl _) _)
      case c2 => exact isB_one _ _ 0 _ rfl
      intro r3 w3 o3 b3 _
      have O3 : Hid (Own w3 w.heap.size r3 (bs ++ 128 :: List.replicate (k + 1) 0)) := by
        rw [Hid, List.replicate_succ']
        exact o3
      have k3 : Below w.heap.size w w3 := (kk.alloc hsz (.cells #[.int .u8 0] 5)).trans b3
      have hl3 : lenOf r3 = L + 1 := by
        obtain ⟨g3, c3, rfl, _⟩ := o3.shape (by simp; omega)
        have := HLL.out
        simp [lenOf] at this ⊢
        omega
      have HL3 : Hid (lenOf r3 = L + 1) := hl3
      clear o3 b3 hl3
      go_wp2
      go_roundw
      case rel => exact ⟨k + 1, by omega, O3, k3⟩
      case measure =>
        have e1 := HL3.out
        have e2 := HL2.out
        simp [lenOf] at e1 ⊢
        omega
    · obtain rfl : k = z := by omega
      have t1 : ((L : Int) % 64 != 56) = false := by
        have := HZ.out
        simp
        omega
      clear hL
      obtain ⟨v, hv⟩ : ∃ v, v = 8 * n := ⟨_, rfl⟩
      have h8 : (8 : Int) * (n : Int) = (v : Int) := by omega
      have HVV : Hid (v = 8 * n) := hv
      clear hv
      go_wp2_with fail
      refine (little_any v 8 _ (by have := HVV.out; omega) (by omega)).mono ?_
      rintro e w3 ⟨r3, rfl, o3, k3⟩
      go_wp2_with fail
      refine (back_any r3 (M.le v 8) _ o3.isB (by rw [M.le_length]; omega)).mono ?_
      rintro e w4 ⟨r4, rfl, o4, k4⟩
      have k34 : Below wr.heap.size wr w4 := k3.trans (k4.mono k3.size)
      go_wp2_with (at_builtin; go_must (refine wpList_app _ rfl _ _ rfl w.heap.size _ _ rfl (OO.out.below k34) r4 (M.le v 8).reverse rfl o4.isB o4.nil0 (by rw [HLL.out, HL2.out]; simp [M.le_length]; omega) (Nat.le_trans hsz k34.size) ?_))
      intro r5 w5 o5 b5 _
      go_wp2
      go_ret
      refine ⟨r5, rfl, ?_, (kk.trans (k34.mono hsz)).trans b5⟩
      have e : bs ++ M.pad n = (bs ++ 128 :: List.replicate k 0) ++ (M.le v 8).reverse := by
        rw [M.pad, HVV.out, HZ.out, Nat.mod_eq_of_lt (show 8 * n < 18446744073709551616 by omega), List.append_assoc]
      rw [e]
      simpa using o5

set_option maxHeartbeats 1000000 in
theorem rof_any (v : Value) (bs : List UInt8) (w : World) (hv : IsB w v bs) (hnil : ∀ n c, v = .slice none n c → c = 0) (hlen : bs.length ≤ 562949953421) :
    Calls Tryd.prog 19 #[v] w (Makes w (M.sha bs)) := by
  have HP : Hid ((bs ++ M.pad bs.length).length % 64 = 0) := by rw [Hid, List.length_append]; exact M.pad_whole _
  have HPL : Hid ((bs ++ M.pad bs.length).length ≤ 562949953500) := by
    have := M.pad_length bs.length
    rw [Hid, List.length_append]
    omega
  have HSHA : Hid (M.sha bs = M.out (M.blocks M.H0 (bs ++ M.pad bs.length) ((bs ++ M.pad bs.length).length / 64))) := rfl
  have HC := fun w' (h : IsB w' v bs) => rpad_any v bs w' h hnil hlen
  have HV : Hid (IsB w v bs) := hv
  obtain ⟨P, hP⟩ : ∃ P, P = bs ++ M.pad bs.length := ⟨_, rfl⟩
  rw [← hP] at HP HPL HSHA
  simp only [← hP] at HC
  have HCC := Lib.hid HC
  clear HC hP hv hnil hlen
  go_enter Tryd.func19, Tryd.ntmps19
  go_wp2_with fail
  refine (HCC.out _ HV.out).mono ?_
  rintro e w1 ⟨r1, rfl, o1, k1⟩
  go_wp2_with fail
  refine (tH_any w1).mono ?_
  rintro e w2 ⟨r2, rfl, o2, k2⟩
  go_wp2_with fail
  refine (tK_any w2).mono ?_
  rintro e w3 ⟨r3, rfl, o3, k3⟩
  have k23 : Below w1.heap.size w1 w3 := k2.trans (k3.mono k2.size)
  have kw3 : Below w.heap.size w w3 := k1.trans (k23.mono k1.size)
  have O1 : Hid (IsB w3 r1 P) := o1.isB.below k23
  have O2 : Hid (OwnW w3 w.heap.size r2 (M.blocks M.H0 P 0).l) := (o2.below k3).mono k1.size
  have O3 : Hid (IsW w3 r3 M.tK) := o3.isW
  clear o1 o2 o3 k1 k2 k3 k23
  obtain ⟨ao1, c1, rfl, hl1, hl2, hat⟩ := O1.out
  have HAT : Hid (At w3 ao1 P) := hat
  clear hat
  obtain ⟨L, hL⟩ : ∃ L, L = P.length := ⟨_, rfl⟩
  rw [← hL] at hl1 O1 ⊢
  have HL : Hid (L = P.length) := hL
  have hLM : L % 64 = 0 := by rw [hL]; exact HP.out
  have hLB : L ≤ 562949953500 := by rw [hL]; exact HPL.out
  clear hL
  go_wp2
  go_loopw [4, 6] (fun x i wr => ∃ k : Nat, 64 * k ≤ L ∧ i = .int .i64 ((64 * k : Nat) : Int) ∧ Hid (OwnW wr w.heap.size x (M.blocks M.H0 P k).l) ∧ Below w3.heap.size w3 wr)
    (fun _ i _ => L - (intOf i).toNat)
  case atStart => exact ⟨0, Nat.zero_le _, rfl, O2, Below.refl _ _⟩
  case round =>
    clear O2
    rename_i wr
    obtain ⟨k, hk, rfl, oo, kk⟩ := hrel
    obtain ⟨j, hj⟩ : ∃ j, j = 64 * k := ⟨_, rfl⟩
    rw [← hj] at hk ⊢
    have HJ : Hid (j = 64 * k) := hj
    by_cases hlt : j < L
    · have hj64 : j + 64 ≤ L := by omega
      have hcj : ¬ c1 = j := by omega
      obtain ⟨b, off, rfl, hcell⟩ : ∃ b off, ao1 = some ⟨b, off, none⟩ ∧ ∀ i, i < P.length → w3.cell? ⟨b, off + i, none⟩ = some (.int .u8 ((P.getD i 0).toNat : Int)) := by
        rcases HAT.out with h0 | h0
        · have := HL.out
          rw [h0] at this
          simp at this
          omega
        · exact h0
      have hsrc : IsB wr (.slice (some ⟨b, off + j, none⟩) 64 (c1 - j)) ((P.drop (64 * k)).take 64) := by
        have hl : ((P.drop (64 * k)).take 64).length = 64 := by rw [List.length_take, List.length_drop, ← HL.out]; omega
        refine ⟨_, c1 - j, by rw [hl], by rw [hl]; omega, by omega, .inr ⟨b, off + j, rfl, fun i hi => ?_⟩⟩
        rw [hl] at hi
        have h := hcell (j + i) (by rw [← HL.out]; omega)
        rw [Nat.add_assoc, kk.cell (by exact World.block_lt_of_cell? w3 _ h), h]
        simp [List.getD_eq_getElem?_getD, hi, hj]
      have HSRC : Hid (IsB wr (.slice (some ⟨b, off + j, none⟩) 64 (c1 - j)) ((P.drop (64 * k)).take 64)) := hsrc
      have HBL : Hid (((P.drop (64 * k)).take 64).length = 64) := by rw [Hid, List.length_take, List.length_drop, ← HL.out]; omega
      clear hcell hsrc hj
      go_wp2_with fail
      refine (rwork_any _ _ _ _ _ wr oo.out.isW (O3.out.below kk) HSRC.out HBL.out).mono ?_
      rintro e w4 ⟨r4, rfl, o4, k4⟩
      have O4 : Hid (OwnW w4 w.heap.size r4 (M.blocks M.H0 P (k + 1)).l) := o4.mono (Nat.le_trans kw3.size kk.size)
      have kk4 : Below w3.heap.size w3 w4 := kk.trans (k4.mono kk.size)
      clear o4 k4
      go_wp2
      go_roundw
      case rel =>
        refine ⟨k + 1, by have := HJ.out; omega, ?_, O4, kk4⟩
        have := HJ.out
        congr 1
        omega
      case measure => simp [intOf]; omega
    · obtain rfl : L = j := by omega
      clear hj
      obtain ⟨wA, rfl⟩ : ∃ x, x = wr := ⟨_, rfl⟩
      obtain ⟨s, hs⟩ : ∃ s, s = M.blocks M.H0 P k := ⟨_, rfl⟩
      rw [← hs] at oo
      have HS : Hid (M.out s = M.sha bs) := by
        rw [Hid, HSHA.out, hs, ← HL.out, HJ.out]
        congr 2
        omega
      clear hs
      obtain ⟨bs4, os4, cs4, rfl, cs⟩ := oo.out.isW.at_ (by rw [M.l_length]; decide)
      rw [M.l_length] at cs ⊢
      have CS : Hid (∀ i, i < 8 → wA.cell? ⟨bs4, os4 + i, none⟩ = some (.int .u32 ((s.l.getD i 0).toNat : Int))) := cs
      have kwr : Below w.heap.size w wA := kw3.trans (kk.mono kw3.size)
      clear cs oo
      go_wp2
      go_loopw [7, 8] (fun x i wz => ∃ q : Nat, q ≤ 8 ∧ i = .int .i64 q ∧ Hid (Own wz wA.heap.size x (outTo s q)) ∧ Below wA.heap.size wA wz)
        (fun _ i _ => 8 - (intOf i).toNat)
      case atStart => exact ⟨0, by omega, rfl, World.ownsRow_nil _ _ _ _, Below.refl _ _⟩
      case round =>
        obtain ⟨wz, rfl⟩ : ∃ x, x = wr := ⟨_, rfl⟩
        obtain ⟨q, hq, rfl, oo, kk2⟩ := hrel
        by_cases hlt2 : q < 8
        · obtain ⟨x, hx⟩ : ∃ x, x = s.l.getD q 0 := ⟨_, rfl⟩
          have cx : wz.cell? ⟨bs4, os4 + q, none⟩ = some (.int .u32 x.toNat) := by
            have h := CS.out q hlt2
            rw [kk2.cell (by exact World.block_lt_of_cell? wA _ h), hx]
            exact h
          have HX : Hid (x = s.l.getD q 0) := hx
          have hxb : x.toNat < 4294967296 := w_lt x
          have HOL : Hid ((outTo s q).length = 4 * q) := outTo_length s q (by omega)
          have i1 : (q : Int) < 8 := by omega
          clear hx
          go_wp2_with fail
          refine (little_any x.toNat 4 _ (by omega) (by omega)).mono ?_
          rintro e w5 ⟨r5, rfl, o5, k5⟩
          go_wp2_with fail
          refine (back_any r5 (M.le x.toNat 4) _ o5.isB (by rw [M.le_length]; omega)).mono ?_
          rintro e w6 ⟨r6, rfl, o6, k6⟩
          have k56 : Below wz.heap.size wz w6 := k5.trans (k6.mono k5.size)
          have hsz2 : wA.heap.size ≤ wz.heap.size := kk2.size
          go_wp2_with (at_builtin; go_must (refine wpList_app _ rfl _ _ rfl wA.heap.size _ (outTo s q) rfl (oo.out.below k56) r6 (M.le x.toNat 4).reverse rfl o6.isB o6.nil0 (by rw [List.length_reverse, M.le_length, HOL.out]; omega) (Nat.le_trans hsz2 k56.size) ?_))
          intro r7 w7 o7 k7 _
          have O7 : Hid (Own w7 wA.heap.size r7 (outTo s (q + 1))) := by
            rw [Hid, outTo_succ s q hlt2 x HX.out]
            exact o7
          have kk7 : Below wA.heap.size wA w7 := kk2.trans ((k56.mono kk2.size).trans k7)
          clear o7
          go_wp2
          go_roundw
          case rel => exact ⟨q + 1, by omega, by go_num, O7, kk7⟩
          case measure => simp [intOf]; omega
        · obtain rfl : q = 8 := by omega
          go_wp2
          go_ret
          refine ⟨_, rfl, ?_, kwr.trans (kk2.mono kwr.size)⟩
          have := oo.out.mono kwr.size
          rw [outTo, List.take_of_length_le (by rw [M.l_length]; exact Nat.le_refl _)] at this
          rw [← HS.out]
          exact this

end Go.Proofs.YtmjeilhppgdmfaaDoor
