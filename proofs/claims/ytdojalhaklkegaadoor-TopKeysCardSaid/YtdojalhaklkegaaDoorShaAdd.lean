/-
  CONTRACT OF (*sha.Hash).Add: more bytes. Conditions: the program's two tables lie as they were laid; what is added does not lie in the digest's own block.
-/
import Derived.Test.YtdojalhaklkegaaDoorShaHash
set_option maxRecDepth 100000
namespace Go.Proofs.YtdojalhaklkegaaDoor
open Go.RowKit
set_option linter.unusedVariables false
set_option maxRecDepth 100000

/-- A slice's length, for a loop's measure. -/
def lenOf : Value → Nat
  | .slice _ n _ => n
  | _ => 0

set_option maxHeartbeats 1000000 in
theorem add_any (g : Nat) (m bs : List UInt8) (v : Value) (w : World) (hL : Laid w) (hg : 3 ≤ g) (h : HashIs w g m) (hv : IsB w v bs) (ho : Off v g) (hlen : m.length + bs.length ≤ 1125899906842624) :
    Calls Tryd.prog 102 #[.pointer (some ⟨g, 0, none⟩), v] w fun e w' => e = .returned (.tuple #[]) ∧ HashIs w' g (m ++ bs) ∧ Only g w w' := by
  have H : Hid (HashIs w g m) := h
  have HV : Hid (IsB w v bs) := hv
  have HO : Hid (Off v g) := ho
  have HL : Hid (Laid w) := hL
  clear h hv ho hL
  go_enter Tryd.func102, Tryd.ntmps102
  go_wp2
  go_loopw [1] (fun x wr => ∃ k : Nat, k ≤ bs.length ∧ Hid (IsB wr x (bs.drop k)) ∧ Hid (Off x g) ∧ Hid (HashIs wr g (m ++ bs.take k)) ∧ Only g w wr)
    (fun x _ => lenOf x)
  case atStart => exact ⟨0, Nat.zero_le _, HV, HO, by simpa [Hid] using H.out, Only.refl _ _⟩
  case round =>
    rename_i wr
    obtain ⟨k, hk, hv, ho, hh, oo⟩ := hrel
    obtain ⟨ao, cap, hx, hl1, hl2, hat⟩ := hv.out
    by_cases hlt : k < bs.length
    · obtain ⟨b, off, rfl, hcell⟩ : ∃ b off, ao = some ⟨b, off, none⟩ ∧ ∀ i, i < (bs.drop k).length → wr.cell? ⟨b, off + i, none⟩ = some (.int .u8 (((bs.drop k).getD i 0).toNat : Int)) := by
        rcases hat with h0 | h0
        · have := congrArg List.length h0
          rw [List.length_drop, List.length_nil] at this
          omega
        · exact h0
      have hbg : b ≠ g := ho.out _ _ _ hx (by rw [List.length_drop]; omega)
      subst hx
      obtain ⟨M1, hM1⟩ : ∃ M1, M1 = m ++ bs.take k := ⟨_, rfl⟩
      obtain ⟨D, hD⟩ : ∃ D, D = bs.drop k := ⟨_, rfl⟩
      rw [← hM1] at hh
      rw [← hD] at hcell hl1 ⊢
      obtain ⟨wait, hw, ht, hblk⟩ := hh.out
      obtain ⟨s, hs⟩ : ∃ s, s = M.blocks M.H0 M1 (M1.length / 64) := ⟨_, rfl⟩
      rw [← hs] at hblk
      have hDl : D.length = bs.length - k := by rw [hD, List.length_drop]
      have hMl : M1.length = m.length + k := by rw [hM1, List.length_append, List.length_take]; omega
      obtain ⟨L, hLL⟩ : ∃ L, L = M1.length := ⟨_, rfl⟩
      obtain ⟨N, hN⟩ : ∃ N, N = D.length := ⟨_, rfl⟩
      obtain ⟨a, ha⟩ : ∃ a, a = L % 64 := ⟨_, rfl⟩
      obtain ⟨c, hc⟩ : ∃ c, c = min N (64 - a) := ⟨_, rfl⟩
      have hNpos : 0 < N := by omega
      have ha64 : a < 64 := by omega
      have hcN : c ≤ N := by omega
      have hca : a + c ≤ 64 := by omega
      have hcpos : 0 < c := by omega
      have hLb : L + c ≤ 1125899906842624 := by omega
      have hcb : c ≤ 64 := by omega
      have hNb : N ≤ 1125899906842624 := by omega
      rw [← hN]
      rw [← hN] at hl1
      rw [← hLL] at hblk
      have c72 : wr.cell? ⟨g, 72, none⟩ = some (.int .u64 (L : Int)) := by rw [hblk.cell]; exact Hc_count _ _ _ rfl hw
      have hmod : (L : Int) % 64 = (a : Int) := by rw [ha]; simp
      have hsl := slice_wait g a (a : Int) rfl ha64 wr
      have HCELL : Hid (∀ i, i < D.length → wr.cell? ⟨b, off + i, none⟩ = some (.int .u8 ((D.getD i 0).toNat : Int))) := hcell
      have HBLK : Hid (Blk wr g 156 (Hc s.l wait L)) := hblk
      have HS : Hid (s = M.blocks M.H0 M1 (M1.length / 64)) := hs
      have HC : Hid (c = min N (64 - a)) := hc
      have HA : Hid (a = L % 64) := ha
      have HN : Hid (N = D.length) := hN
      have HLL : Hid (L = M1.length) := hLL
      have HM1 : Hid (M1 = m ++ bs.take k) := hM1
      have HD : Hid (D = bs.drop k) := hD
      have HDL : Hid (D.length = bs.length - k) := hDl
      have HML : Hid (M1.length = m.length + k) := hMl
      have HW : Hid (wait.length = 64) := hw
      have HT : Hid (wait.take (M1.length % 64) = M1.drop (M1.length / 64 * 64)) := ht
      clear hcell hblk hs hc ha hN hLL hM1 hD hDl hMl hw ht hv ho hh hat
      have hposI : (0 : Int) < (N : Int) := by omega
      go_wp2_with (refine wpList_copy_blk rfl (.tmp 19) (.tmp 20) 24 24 rfl 5 Tryd.underlying24 (by kernel_rfl) (some ⟨g, 8 + a, none⟩) (some ⟨b, off, none⟩) (64 - a) (64 - a) N cap rfl rfl g (8 + a) _ 156 HBLK.out (Lib.byteCells (D.take c)) ?p1 (fun _ => ⟨rfl, _, rfl, ?p2⟩) ?p3 (byteCells_oneCell _) ?_)
      case p1 =>
        rw [byteCells_length, List.length_take, ← HN.out, HC.out]
        show min (min N (64 - a)) N = min N (64 - a)
        omega
      case p2 =>
        intro j u hj
        have hlt : j < (D.take c).length := by
          have := (List.getElem?_eq_some_iff.1 hj).1
          rwa [byteCells_length] at this
        have hj2 : j < D.length := by rw [List.length_take] at hlt; omega
        rw [byteCells_getElem? _ j hlt] at hj
        rw [Addr.add_lit, HCELL.out j hj2, ← hj]
        rw [List.length_take] at hlt
        simp [List.getD_eq_getElem?_getD, show j < c by omega]
      case p3 => rw [byteCells_length, List.length_take, Hc_length, HW.out, M.l_length]; omega
      intro w2 hb2 ho2
      have hDc : (D.take c).length = c := by rw [List.length_take, ← HN.out]; omega
      rw [byteCells_length, hDc]
      obtain ⟨ch, hch⟩ : ∃ ch, ch = D.take c := ⟨_, rfl⟩
      rw [← hch] at hDc hb2
      have hb2' : Blk w2 g 156 (Hc s.l (wait2 wait a ch) L) := by
        rw [splice_Hc _ _ _ _ _ rfl (by rw [hDc, HW.out]; omega)] at hb2
        exact hb2
      have hw2 : (wait2 wait a ch).length = 64 := by rw [wait2_length _ _ _ (by rw [hDc, HW.out]; omega), HW.out]
      have c72' : w2.cell? ⟨g, 72, none⟩ = some (.int .u64 (L : Int)) := by rw [hb2'.cell]; exact Hc_count _ _ _ rfl hw2
      have f72 : w2.frozen? ⟨g, 72, none⟩ = false := hb2'.frozen 72
      have HB2 : Hid (Blk w2 g 156 (Hc s.l (wait2 wait a ch) L)) := hb2'
      have HW2 : Hid ((wait2 wait a ch).length = 64) := hw2
      have HCH : Hid (ch = D.take c) := hch
      have HDC : Hid (ch.length = c) := hDc
      have OO : Only g w w2 := oo.trans ho2
      have OR : Only g wr w2 := ho2
      have hcut : m ++ bs.take (k + c) = M1 ++ ch := by rw [HM1.out, HCH.out, HD.out, List.append_assoc, List.take_add]
      have HCUT : Hid (m ++ bs.take (k + c) = M1 ++ ch) := hcut
      have hkc : k + c ≤ bs.length := by have := HN.out; have := HDL.out; omega
      clear hb2 hb2' hw2 hch hDc oo ho2 hsl hmod c72 hcut
      have eL : (L : Int) + (c : Int) = ((L + c : Nat) : Int) := by omega
      have EL : Hid ((L : Int) + (c : Int) = ((L + c : Nat) : Int)) := eL
      clear eL
      by_cases hfull : a + c = 64
      · have t1 : ((a : Int) + (c : Int) == 64) = true := by simp; omega
        go_wp2_with fail
        all_goals
          rw [EL.out]
          refine (work_any g (L + c) s (wait2 wait a ch) _ (HL.out.only (OO.setCell (p := ⟨g, 72, none⟩) (.inl rfl) _) hg) HW2.out ((HB2.out.set_ 72 _).eq_ (Hc_setCount _ _ _ _ rfl HW2.out))).mono ?_
          rintro e w4 ⟨rfl, hb4, ho4⟩
          have o4 : Only g w w4 := (OO.setCell (p := ⟨g, 72, none⟩) (.inl rfl) _).trans ho4
          have r4 : Only g wr w4 := (OR.setCell (p := ⟨g, 72, none⟩) (.inl rfl) _).trans ho4
          have hh4 : HashIs w4 g (M1 ++ ch) := by
            refine HashIs.of_full M1 ch wait HW.out HT.out (by rw [← HLL.out, ← HA.out, HDC.out]; exact hfull) ?_
            rw [← HS.out, ← HLL.out, ← HA.out, HDC.out]
            exact hb4
          rw [← HCUT.out] at hh4
          have HH4 : Hid (HashIs w4 g (m ++ bs.take (k + c))) := hh4
          clear hh4 hb4 c72' f72
          go_wp2
          go_roundw
          case rel =>
            refine ⟨k + c, hkc, ?_, ?_, HH4, o4⟩
            · first
                | exact isB_rest HCELL.out HD.out HN.out hcN hl1 hl2 r4 hbg
                | exact isB_end HD.out HN.out (by omega)
            · intro ad n' c' e _
              injection e with e1 e2 e3
              injection e1 with e1
              rw [← e1]
              exact hbg
          case measure => simp [lenOf]; omega
      · have t1 : ((a : Int) + (c : Int) == 64) = false := by simp; omega
        go_wp2_with fail
        rw [EL.out]
        have hh4 : HashIs (w2.setCell ⟨g, 72, none⟩ (.int .u64 ((L + c : Nat) : Int))) g (M1 ++ ch) := by
          refine HashIs.of_part M1 ch wait HW.out HT.out (by rw [← HLL.out, ← HA.out, HDC.out]; omega) ?_
          rw [← HS.out, ← HLL.out, ← HA.out, HDC.out]
          exact (HB2.out.set_ 72 _).eq_ (Hc_setCount _ _ _ _ rfl HW2.out)
        rw [← HCUT.out] at hh4
        have o4 : Only g w (w2.setCell ⟨g, 72, none⟩ (.int .u64 ((L + c : Nat) : Int))) := OO.setCell (p := ⟨g, 72, none⟩) (.inl rfl) _
        have r4 : Only g wr (w2.setCell ⟨g, 72, none⟩ (.int .u64 ((L + c : Nat) : Int))) := OR.setCell (p := ⟨g, 72, none⟩) (.inl rfl) _
        go_roundw
        case rel => exact ⟨k + c, hkc, isB_if HCELL.out HD.out HN.out hcN hl1 hl2 r4 hbg, off_if hbg, hh4, o4⟩
        case measure => simp [lenOf]; omega
    · obtain rfl : k = bs.length := by omega
      subst hx
      rw [show (bs.drop bs.length).length = 0 by simp]
      go_wp2
      go_end0
      refine ⟨rfl, ?_, oo⟩
      have := hh.out
      rwa [List.take_length] at this

end Go.Proofs.YtdojalhaklkegaaDoor
