/-
  CONTRACT OF (*sha.Hash).Add: more bytes. Conditions: the program's two tables lie as they were laid; what is added does not lie in the digest's own block.
  CONTRACTS OF sha.New AND sha.padding. Conditions: the program's two tables lie as they were laid.
  CONTRACTS OF (*sha.Hash).Sum AND sha.Of. Conditions: the program's two tables lie as they were laid.
-/
import Derived.Test.YtdojalhaklkegaaDoorPn33
import Derived.Test.YtdojalhaklkegaaDoorPn5
import Derived.Deep.WholeRow

set_option maxRecDepth 100000
namespace Go.Proofs.YtdojalhaklkegaaDoor
open Go.RowKit
set_option linter.unusedVariables false
set_option maxRecDepth 100000

/-- A slice's length, for a loop's measure. -/
def lenOf : Value → Nat
  | .slice _ n _ => n
  | _ => 0

set_option maxHeartbeats 1000000 in
theorem add_any (g : Nat) (m bs : List UInt8) (v : Value) (w : World) (hL : Laid w) (hg : 3 ≤ g) (h : HashIs w g m) (hv : IsB w v bs) (ho : Off v g) (hlen : m.length + bs.length ≤ 1125899906842624) :
    Calls Tryd.prog 102 #[.pointer (some ⟨g, 0, none⟩), v] w fun e w' => e = .returned (.tuple #[]) ∧ HashIs w' g (m ++ bs) ∧ Only g w w' := by
  have H : Hid (HashIs w g m) := h
  have HV : Hid (IsB w v bs) := hv
  have HO : Hid (Off v g) := ho
  have HL : Hid (Laid w) := hL
  clear h hv ho hL
  go_enter Tryd.func102, Tryd.ntmps102
  go_wp2
  go_loopw [1] (fun x wr => ∃ k : Nat, k ≤ bs.length ∧ Hid (IsB wr x (bs.drop k)) ∧ Hid (Off x g) ∧ Hid (HashIs wr g (m ++ bs.take k)) ∧ Only g w wr)
    (fun x _ => lenOf x)
  case atStart => exact ⟨0, Nat.zero_le _, HV, HO, by simpa [Hid] using H.out, Only.refl _ _⟩
  case round =>
    rename_i wr
    obtain ⟨k, hk, hv, ho, hh, oo⟩ := hrel
    obtain ⟨ao, cap, hx, hl1, hl2, hat⟩ := hv.out
    by_cases hlt : k < bs.length
    · obtain ⟨b, off, rfl, hcell⟩ : ∃ b off, ao = some ⟨b, off, none⟩ ∧ ∀ i, i < (bs.drop k).length → wr.cell? ⟨b, off + i, none⟩ = some (.int .u8 (((bs.drop k).getD i 0).toNat : Int)) := by
        rcases hat with h0 | h0
        · have := congrArg List.length h0
          rw [List.length_drop, List.length_nil] at this
          omega
        · exact h0
      have hbg : b ≠ g := ho.out _ _ _ hx (by rw [List.length_drop]; omega)
      subst hx
      obtain ⟨M1, hM1⟩ : ∃ M1, M1 = m ++ bs.take k := ⟨_, rfl⟩
      obtain ⟨D, hD⟩ : ∃ D, D = bs.drop k := ⟨_, rfl⟩
      rw [← hM1] at hh
      rw [← hD] at hcell hl1 ⊢
      obtain ⟨wait, hw, ht, hblk⟩ := hh.out
      obtain ⟨s, hs⟩ : ∃ s, s = M.blocks M.H0 M1 (M1.length / 64) := ⟨_, rfl⟩
      rw [← hs] at hblk
      have hDl : D.length = bs.length - k := by rw [hD, List.length_drop]
      have hMl : M1.length = m.length + k := by rw [hM1, List.length_append, List.length_take]; omega
      obtain ⟨L, hLL⟩ : ∃ L, L = M1.length := ⟨_, rfl⟩
      obtain ⟨N, hN⟩ : ∃ N, N = D.length := ⟨_, rfl⟩
      obtain ⟨a, ha⟩ : ∃ a, a = L % 64 := ⟨_, rfl⟩
      obtain ⟨c, hc⟩ : ∃ c, c = min N (64 - a) := ⟨_, rfl⟩
      have hNpos : 0 < N := by omega
      have ha64 : a < 64 := by omega
      have hcN : c ≤ N := by omega
      have hca : a + c ≤ 64 := by omega
      have hcpos : 0 < c := by omega
      have hLb : L + c ≤ 1125899906842624 := by omega
      have hcb : c ≤ 64 := by omega
      have hNb : N ≤ 1125899906842624 := by omega
      rw [← hN]
      rw [← hN] at hl1
      rw [← hLL] at hblk
      have c72 : wr.cell? ⟨g, 72, none⟩ = some (.int .u64 (L : Int)) := by rw [hblk.cell]; exact Hc_count _ _ _ rfl hw
      have hmod : (L : Int) % 64 = (a : Int) := by rw [ha]; simp
      have hsl := slice_wait g a (a : Int) rfl ha64 wr
      have HCELL : Hid (∀ i, i < D.length → wr.cell? ⟨b, off + i, none⟩ = some (.int .u8 ((D.getD i 0).toNat : Int))) := hcell
      have HBLK : Hid (Blk wr g 156 (Hc s.l wait L)) := hblk
      have HS : Hid (s = M.blocks M.H0 M1 (M1.length / 64)) := hs
      have HC : Hid (c = min N (64 - a)) := hc
      have HA : Hid (a = L % 64) := ha
      have HN : Hid (N = D.length) := hN
      have HLL : Hid (L = M1.length) := hLL
      have HM1 : Hid (M1 = m ++ bs.take k) := hM1
      have HD : Hid (D = bs.drop k) := hD
      have HDL : Hid (D.length = bs.length - k) := hDl
      have HML : Hid (M1.length = m.length + k) := hMl
      have HW : Hid (wait.length = 64) := hw
      have HT : Hid (wait.take (M1.length % 64) = M1.drop (M1.length / 64 * 64)) := ht
      clear hcell hblk hs hc ha hN hLL hM1 hD hDl hMl hw ht hv ho hh hat
      have hposI : (0 : Int) < (N : Int) := by omega
      go_wp2_with (refine wpList_copy_blk rfl (.tmp 19) (.tmp 20) 24 24 rfl 5 Tryd.underlying24 (by kernel_rfl) (some ⟨g, 8 + a, none⟩) (some ⟨b, off, none⟩) (64 - a) (64 - a) N cap rfl rfl g (8 + a) _ 156 HBLK.out (Lib.byteCells (D.take c)) ?p1 (fun _ => ⟨rfl, _, rfl, ?p2⟩) ?p3 (byteCells_oneCell _) ?_)
      case p1 =>
        rw [byteCells_length, List.length_take, ← HN.out, HC.out]
        show min (min N (64 - a)) N = min N (64 - a)
        omega
      case p2 =>
        intro j u hj
        have hlt : j < (D.take c).length := by
          have := (List.getElem?_eq_some_iff.1 hj).1
          rwa [byteCells_length] at this
        have hj2 : j < D.length := by rw [List.length_take] at hlt; omega
        rw [byteCells_getElem? _ j hlt] at hj
        rw [Addr.add_lit, HCELL.out j hj2, ← hj]
        rw [List.length_take] at hlt
        simp [List.getD_eq_getElem?_getD, show j < c by omega]
      case p3 => rw [byteCells_length, List.length_take, Hc_length, HW.out, M.l_length]; omega
      intro w2 hb2 ho2
      have hDc : (D.take c).length = c := by rw [List.length_take, ← HN.out]; omega
      rw [byteCells_length, hDc]
      obtain ⟨ch, hch⟩ : ∃ ch, ch = D.take c := ⟨_, rfl⟩
      rw [← hch] at hDc hb2
      have hb2' : Blk w2 g 156 (Hc s.l (wait2 wait a ch) L) := by
        rw [splice_Hc _ _ _ _ _ rfl (by rw [hDc, HW.out]; omega)] at hb2
        exact hb2
      have hw2 : (wait2 wait a ch).length = 64 := by rw [wait2_length _ _ _ (by rw [hDc, HW.out]; omega), HW.out]
      have c72' : w2.cell? ⟨g, 72, none⟩ = some (.int .u64 (L : Int)) := by rw [hb2'.cell]; exact Hc_count _ _ _ rfl hw2
      have f72 : w2.frozen? ⟨g, 72, none⟩ = false := hb2'.frozen 72
      have HB2 : Hid (Blk w2 g 156 (Hc s.l (wait2 wait a ch) L)) := hb2'
      have HW2 : Hid ((wait2 wait a ch).length = 64) := hw2
      have HCH : Hid (ch = D.take c) := hch
      have HDC : Hid (ch.length = c) := hDc
      have OO : Only g w w2 := oo.trans ho2
      have OR : Only g wr w2 := ho2
      have hcut : m ++ bs.take (k + c) = M1 ++ ch := by rw [HM1.out, HCH.out, HD.out, List.append_assoc, List.take_add]
      have HCUT : Hid (m ++ bs.take (k + c) = M1 ++ ch) := hcut
      have hkc : k + c ≤ bs.length := by have := HN.out; have := HDL.out; omega
      clear hb2 hb2' hw2 hch hDc oo ho2 hsl hmod c72 hcut
      have eL : (L : Int) + (c : Int) = ((L + c : Nat) : Int) := by omega
      have EL : Hid ((L : Int) + (c : Int) = ((L + c : Nat) : Int)) := eL
      clear eL
      by_cases hfull : a + c = 64
      · have t1 : ((a : Int) + (c : Int) == 64) = true := by simp; omega
        go_wp2_with fail
        all_goals
          rw [EL.out]
          refine (work_any g (L + c) s (wait2 wait a ch) _ (HL.out.only (OO.setCell (p := ⟨g, 72, none⟩) (.inl rfl) _) hg) HW2.out ((HB2.out.set_ 72 _).eq_ (Hc_setCount _ _ _ _ rfl HW2.out))).mono ?_
          rintro e w4 ⟨rfl, hb4, ho4⟩
          have o4 : Only g w w4 := (OO.setCell (p := ⟨g, 72, none⟩) (.inl rfl) _).trans ho4
          have r4 : Only g wr w4 := (OR.setCell (p := ⟨g, 72, none⟩) (.inl rfl) _).trans ho4
          have hh4 : HashIs w4 g (M1 ++ ch) := by
            refine HashIs.of_full M1 ch wait HW.out HT.out (by rw [← HLL.out, ← HA.out, HDC.out]; exact hfull) ?_
            rw [← HS.out, ← HLL.out, ← HA.out, HDC.out]
            exact hb4
          rw [← HCUT.out] at hh4
          have HH4 : Hid (HashIs w4 g (m ++ bs.take (k + c))) := hh4
          clear hh4 hb4 c72' f72
          go_wp2
          go_roundw
          case rel =>
            refine ⟨k + c, hkc, ?_, ?_, HH4, o4⟩
            · first
                | exact isB_rest HCELL.out HD.out HN.out hcN hl1 hl2 r4 hbg
                | exact isB_end HD.out HN.out (by omega)
            · intro ad n' c' e _
              injection e with e1 e2 e3
              injection e1 with e1
              rw [← e1]
              exact hbg
          case measure => simp [lenOf]; omega
      · have t1 : ((a : Int) + (c : Int) == 64) = false := by simp; omega
        go_wp2_with fail
        rw [EL.out]
        have hh4 : HashIs (w2.setCell ⟨g, 72, none⟩ (.int .u64 ((L + c : Nat) : Int))) g (M1 ++ ch) := by
          refine HashIs.of_part M1 ch wait HW.out HT.out (by rw [← HLL.out, ← HA.out, HDC.out]; omega) ?_
          rw [← HS.out, ← HLL.out, ← HA.out, HDC.out]
          exact (HB2.out.set_ 72 _).eq_ (Hc_setCount _ _ _ _ rfl HW2.out)
        rw [← HCUT.out] at hh4
        have o4 : Only g w (w2.setCell ⟨g, 72, none⟩ (.int .u64 ((L + c : Nat) : Int))) := OO.setCell (p := ⟨g, 72, none⟩) (.inl rfl) _
        have r4 : Only g wr (w2.setCell ⟨g, 72, none⟩ (.int .u64 ((L + c : Nat) : Int))) := OR.setCell (p := ⟨g, 72, none⟩) (.inl rfl) _
        go_roundw
        case rel => exact ⟨k + c, hkc, isB_if HCELL.out HD.out HN.out hcN hl1 hl2 r4 hbg, off_if hbg, hh4, o4⟩
        case measure => simp [lenOf]; omega
    · obtain rfl : k = bs.length := by omega
      subst hx
      rw [show (bs.drop bs.length).length = 0 by simp]
      go_wp2
      go_end0
      refine ⟨rfl, ?_, oo⟩
      have := hh.out
      rwa [List.take_length] at this

end Go.Proofs.YtdojalhaklkegaaDoor

set_option maxRecDepth 100000
namespace Go.Proofs.YtdojalhaklkegaaDoor
open Go.RowKit
set_option linter.unusedVariables false

/-- An operation whose value is known. -/
theorem wpList_value {P : Program} {ops : Array Oper} {rest : List Oper} {o : Oper} {a : Act} {w : World} {Q : Exit → Act → World → Prop} (hg : o.guard = none) (v : Value)
    (h : (execOp a.eval o).run P w = .ok (.value v) w) (hk : wpList P ops Q rest (a.put o.dst v) w) : wpList P ops Q (o :: rest) a w := by
  refine wpList_plain hg fun K hK => ?_
  unfold Oper.wp
  rw [h]
  exact hK _ _ hk

theorem new_any (w : World) (hL : Laid w) :
    Calls Tryd.prog 101 #[] w fun e w' => e = .returned (.pointer (some ⟨w.heap.size, 0, none⟩)) ∧ HashIs w' w.heap.size [] ∧ Below w.heap.size w w' := by
  have HR : Hid (w.rangeAt 1 0 (wc M.H0.l)) := by
    intro j v hv
    have hj : j < 8 := by have := (List.getElem?_eq_some_iff.1 hv).1; rwa [wc_length] at this
    rw [Nat.zero_add, hL.beg j hj, ← hv, wc_get _ _ hj]
  clear hL
  go_enter Tryd.func101, Tryd.ntmps101
  go_wp2_with (refine wpList_load_mid rfl 154 (.global 1) rfl 1 0 rfl (wc M.H0.l) _ HR.out Tryd.underlying154 rfl (by kernel_rfl) ?_; refine wpList_value rfl (.agg (Hc M.H0.l (List.replicate 64 0) 0).toArray) (by kernel_rfl) ?_)
  go_ret
  exact ⟨rfl, ⟨List.replicate 64 0, rfl, rfl, Blk.newAt _ _ _ _ _ rfl (by simp; rfl)⟩, (Below.refl _ _).alloc (Nat.le_refl _) _⟩

set_option maxRecDepth 100000 in
theorem padding_any (n : Nat) (w : World) (hn : n ≤ 1125899906842624) :
    Calls Tryd.prog 113 #[.int .u64 n] w (Makes w (M.pad n)) := by
  obtain ⟨a, ha⟩ : ∃ a, a = n % 64 := ⟨_, rfl⟩
  obtain ⟨z, hz⟩ : ∃ z, z = (119 - a) % 64 := ⟨_, rfl⟩
  have hmod : (n : Int) % 64 = (a : Int) := by rw [ha]; simp
  have ha64 : a < 64 := by omega
  have HA : Hid (a = n % 64) := ha
  have HZ : Hid (z = (119 - a) % 64) := hz
  clear ha hz
  go_enter Tryd.func113, Tryd.ntmps113
  go_wp2_with (refine wpList_make_cap _ rfl (.tmp 15) (.tmp 18) rfl .i64 .i64 _ _ (1 + z) (9 + z) rfl rfl (by have := HZ.out; omega) (by have := HZ.out; omega) (by omega) (by have := HZ.out; omega) ?_)
  intro w1 o1 b1
  have o1' : w1.ownsRow w.heap.size 5 1 (.slice (some ⟨w.heap.size, 0, none⟩) (1 + z) (9 + z)) (1 + z) (Lib.byteCells (List.replicate (1 + z) 0)) := by
    have := o1
    rwa [Own, List.length_replicate] at this
  have hc : w1.cell? ⟨w.heap.size, 0, none⟩ = some (.int .u8 0) := by
    rw [o1'.cellAt 0 (by omega), byteCells_getElem? _ 0 (by simp; omega)]
    simp [List.getD_eq_getElem?_getD, show 0 < 1 + z by omega]
  have hf : w1.frozen? ⟨w.heap.size, 0, none⟩ = false := o1'.frozenAt 0
  have s1 := (o1'.stored 0 (.int .u8 128)).1
  have bs1 : Below w.heap.size w (w1.setCell ⟨w.heap.size, 0, none⟩ (.int .u8 128)) := b1.setCell (Nat.le_refl _) _
  have S1 : Hid (Own (w1.setCell ⟨w.heap.size, 0, none⟩ (.int .u8 128)) w.heap.size (.slice (some ⟨w.heap.size, 0, none⟩) (1 + z) (9 + z)) (128 :: List.replicate z 0)) := by
    rw [Hid, Own, List.length_cons, List.length_replicate, Nat.add_comm z 1]
    have e : (Lib.byteCells (List.replicate (1 + z) 0)).set 0 (.int .u8 128) = Lib.byteCells (128 :: List.replicate z 0) := by
      rw [Nat.add_comm 1 z, List.replicate_succ]
      rfl
    rw [← e]
    exact s1
  obtain ⟨v, hv⟩ : ∃ v, v = 8 * n := ⟨_, rfl⟩
  have h8 : (8 : Int) * (n : Int) = (v : Int) := by omega
  have HVV : Hid (v = 8 * n) := hv
  clear hv o1 o1' s1
  go_wp2_with (first
    | (go_at_call 116; go_must (refine (big64_any v _).mono ?_); rintro e w3 ⟨r, rfl, o3, b3⟩)
    | (at_builtin; go_must (refine wpList_app _ rfl _ _ rfl w.heap.size _ (128 :: List.replicate z 0) rfl (S1.out.below b3) r (M.le v 8).reverse rfl o3.isB o3.nil0 (by simp [M.le_length]; have := HZ.out; omega) (Nat.le_trans bs1.size b3.size) ?_)))
  intro r4 w4 o4 b4 _
  go_wp2
  go_ret
  refine ⟨_, rfl, ?_, (bs1.trans (b3.mono bs1.size)).trans b4⟩
  have e : M.pad n = (128 :: List.replicate z 0) ++ (M.le v 8).reverse := by
    rw [M.pad, HVV.out, HZ.out, HA.out, Nat.mod_eq_of_lt (show 8 * n < 18446744073709551616 by omega)]
  rw [e]
  exact o4

end Go.Proofs.YtdojalhaklkegaaDoor

set_option maxRecDepth 100000
namespace Go.Proofs.YtdojalhaklkegaaDoor
open Go.RowKit
set_option linter.unusedVariables false
set_option maxRecDepth 100000

theorem zeroHash : ∃ Z : Array Value, Z.size = 73 ∧ ∀ w, (zeroValue 156).run Tryd.prog w = .ok (.agg Z) w :=
  ⟨(Hc (List.replicate 8 0) (List.replicate 64 0) 0).toArray, rfl, (zero_of_info (P := Tryd.prog) (n := 73) (by kernel_rfl)).1⟩

theorem Off.own {w : World} {B g : Nat} {v : Value} {bs : List UInt8} (h : Own w B v bs) (hg : g < B) : Off v g := by
  intro ad n c e _
  rcases h.2 with ⟨e', _⟩ | ⟨g', cap, cur, e', hb, _⟩
  · rw [e] at e'
    injection e' with e1
    cases e1
  · rw [e] at e'
    injection e' with e1
    injection e1 with e1
    rw [e1]
    show g' ≠ g
    omega

/-- The digest's first words as bytes. -/
def outTo (s : M.St) (k : Nat) : List UInt8 := (s.l.take k).flatMap fun v => (M.le v.toNat 4).reverse

theorem outTo_length (s : M.St) (k : Nat) (h : k ≤ 8) : (outTo s k).length = 4 * k := by
  unfold outTo
  have hl : (s.l.take k).length = k := by rw [List.length_take, M.l_length]; omega
  rw [List.length_flatMap]
  have e : (s.l.take k).map (fun v => (M.le v.toNat 4).reverse.length) = List.replicate k 4 := by
    apply List.ext_getElem
    · simp [M.l_length]; omega
    · intro i h1 h2
      simp [M.le_length]
  rw [e]
  simp
  omega

theorem outTo_succ (s : M.St) (k : Nat) (h : k < 8) (x : UInt32) (hx : x = s.l.getD k 0) : outTo s (k + 1) = outTo s k ++ (M.le x.toNat 4).reverse := by
  unfold outTo
  rw [List.take_succ_eq_append_getElem (by rw [M.l_length]; exact h), List.flatMap_append, hx]
  simp [List.getD_eq_getElem?_getD, show k < s.l.length from h]

theorem run_index_words (w : World) (l : List UInt32) (k : Nat) (hk : k < 8) (x : UInt32) (hx : (wc l)[k]? = some (.int .u32 (x.toNat : Int))) :
    (Instr.index 154 (.agg (wc l).toArray) (.int .i64 (k : Int))).run Tryd.prog w = .ok (.int .u32 (x.toNat : Int)) w := by
  have hn' : (k : Int) < 8 := by omega
  simp [Instr.index, run_underlying Tryd.underlying154, asIntOf, go_sem, Tryd.sizeOf58]
  rw [if_pos hk, hx]
  rfl

set_option maxHeartbeats 1000000 in
theorem sum_any (g : Nat) (m : List UInt8) (w : World) (hL : Laid w) (h : HashIs w g m) (hlen : m.length ≤ 562949953421312) :
    Calls Tryd.prog 103 #[.pointer (some ⟨g, 0, none⟩)] w (Makes w (M.sha m)) := by
  obtain ⟨wait, hw, ht, hb⟩ := h
  obtain ⟨s0, hs0⟩ : ∃ s, s = M.blocks M.H0 m (m.length / 64) := ⟨_, rfl⟩
  obtain ⟨C, hC⟩ : ∃ C, C = Hc s0.l wait m.length := ⟨_, rfl⟩
  obtain ⟨n, hn⟩ : ∃ n, n = m.length := ⟨_, rfl⟩
  rw [← hs0, ← hC] at hb
  rw [← hn] at hlen
  have hCl : C.length = 73 := by rw [hC, Hc_length, hw]; rfl
  have c72 : w.cell? ⟨g, 72, none⟩ = some (.int .u64 (n : Int)) := by rw [hb.cell, hC, hn]; exact Hc_count _ _ _ rfl hw
  have hglt := hb.lt
  have HB : Hid (Blk w g 156 C) := hb
  have HR : Hid (w.rangeAt g 0 C) := hb.range 0 C [] (by simp)
  have HCL : Hid (C.length = 73) := hCl
  have HC : Hid (C = Hc s0.l wait m.length) := hC
  have HS0 : Hid (s0 = M.blocks M.H0 m (m.length / 64)) := hs0
  have HW : Hid (wait.length = 64) := hw
  have HT : Hid (wait.take (m.length % 64) = m.drop (m.length / 64 * 64)) := ht
  have HN : Hid (n = m.length) := hn
  have HL : Hid (Laid w) := hL
  obtain ⟨Z, hZ, hz⟩ := zeroHash
  have HZ : Hid (Z.size = 73) := hZ
  have h1C : ∀ v ∈ C.toArray.toList, v.oneCell' = true := by
    intro v hv
    rw [hC] at hv
    simp [Hc] at hv
    rcases hv with hv | hv | rfl
    · exact wc_oneCell s0.l v (by simpa using hv)
    · exact byteCells_oneCell _ v hv
    · rfl
  have H1C : Hid (∀ v ∈ C.toArray.toList, v.oneCell' = true) := h1C
  clear hb hC hCl hs0 hw ht hn hL hZ h1C
  go_enter Tryd.func103, Tryd.ntmps103
  go_wp2_with (first
    | (refine wpList_load_mid rfl 156 (.tmp 8) rfl g 0 rfl C _ HR.out Tryd.underlying156 rfl (by rw [HCL.out]; kernel_rfl) ?_)
    | (refine wpList_store_blk rfl 156 (.tmp 3) (.tmp 9) rfl w.heap.size C.toArray rfl rfl 156 Z.toList (Blk.newAt _ _ _ _ _ rfl rfl) (by rw [List.size_toArray, HCL.out]; kernel_rfl) (by rw [List.size_toArray, HCL.out, Array.length_toList, HZ.out]) H1C.out ?_))
  intro w1 b1 o1
  have hs1 : w.heap.size < w1.heap.size := by have := o1.size; simp at this; omega
  have k1 : Below w.heap.size w w1 := ((Below.refl _ _).alloc (Nat.le_refl _) _).trans (o1.below (by simp) (Nat.le_refl _))
  have hw1 : HashIs w1 w.heap.size m := by
    refine ⟨wait, HW.out, HT.out, ?_⟩
    rw [← HS0.out, ← HC.out]
    exact b1
  have L1 : Laid w1 := HL.out.below k1 HL.out.size
  have c72' : w1.cell? ⟨g, 72, none⟩ = some (.int .u64 (n : Int)) := by rw [k1.cell hglt]; exact c72
  have HH1 : Hid (HashIs w1 w.heap.size m) := hw1
  have HL1 : Hid (Laid w1) := L1
  clear b1 o1 hw1 L1 c72 hz
  have HLN : Hid (m.length ≤ 562949953421312) := by rw [Hid, ← HN.out]; exact hlen
  go_wp2_with fail
  refine (padding_any n _ (by omega)).mono ?_
  rintro e w2 ⟨r, rfl, o2, k2⟩
  have k12 : Below w.heap.size w w2 := k1.trans (k2.mono k1.size)
  have HO2 : Hid (Own w2 w1.heap.size r (M.pad n)) := o2
  clear o2 c72'
  go_wp2_with fail
  refine (add_any w.heap.size m (M.pad n) r w2 (HL1.out.below k2 HL1.out.size) HL.out.size (HH1.out.below k2 hs1) HO2.out.isB (Off.own HO2.out hs1) (by rw [M.pad_length]; have := HLN.out; omega)).mono ?_
  rintro e w3 ⟨rfl, hh3, o3⟩
  have k3 : Below w.heap.size w w3 := k12.trans (o3.below k12.size (Nat.le_refl _))
  have hs3 : w.heap.size < w3.heap.size := hh3.lt
  obtain ⟨p, hp⟩ : ∃ p, p = m ++ M.pad n := ⟨_, rfl⟩
  rw [← hp] at hh3
  obtain ⟨wait3, hw3, ht3, hb3⟩ := hh3
  obtain ⟨s, hs⟩ : ∃ s, s = M.blocks M.H0 p (p.length / 64) := ⟨_, rfl⟩
  rw [← hs] at hb3
  have HSHA : Hid (M.out s = M.sha m) := by rw [Hid, hs, hp, HN.out]; rfl
  have HR3 : Hid (w3.rangeAt w.heap.size 0 (wc s.l)) := hb3.range 0 (wc s.l) _ rfl
  clear hp hs hb3 hw3 ht3 o3 k12 k2
  go_wp2_with (first
    | (refine wpList_make_cap _ rfl _ _ rfl .i64 .i64 _ _ 0 32 rfl rfl rfl rfl (by omega) (by omega) ?_; intro w4 o4 k4)
    | (refine wpList_load_mid rfl 154 (.tmp 17) rfl w.heap.size 0 rfl (wc s.l) _ (fun j v hv => by rw [k4.cell hs3]; exact HR3.out j v hv) Tryd.underlying154 rfl (by kernel_rfl) ?_))
  have o4' : Own w4 w.heap.size (.slice (some ⟨w3.heap.size, 0, none⟩) 0 32) (outTo s 0) := o4.mono (Nat.le_of_lt hs3)
  have k34 : Below w.heap.size w w4 := k3.trans (k4.mono k3.size)
  clear o4 k4 k3
  go_loopw [4, 19] (fun o i wr => ∃ k : Nat, k ≤ 8 ∧ i = .int .i64 k ∧ Hid (Own wr w.heap.size o (outTo s k)) ∧ Below w.heap.size w wr)
    (fun _ i _ => 8 - (intOf i).toNat)
  case atStart => exact ⟨0, by omega, rfl, o4', k34⟩
  case round =>
    clear o4' k34
    rename_i wr
    obtain ⟨k, hk, rfl, oo, kk⟩ := hrel
    by_cases hlt : k < 8
    · obtain ⟨x, hx⟩ : ∃ x, x = s.l.getD k 0 := ⟨_, rfl⟩
      have HX : Hid (x = s.l.getD k 0) := hx
      have hix : (wc s.l)[k]? = some (.int .u32 x.toNat) := by rw [wc_get _ _ (by rw [M.l_length]; exact hlt), hx]
      have hrun := run_index_words wr s.l k hlt x hix
      clear hx hix
      have HLT : Hid (k < 8) := hlt
      have HOL : Hid ((outTo s k).length = 4 * k) := outTo_length s k (by omega)
      go_wp2_with (first
        | (go_at_call 66; go_must (refine (big32_any x.toNat _ (by have := w_lt x; omega)).mono ?_); rintro e w5 ⟨r5, rfl, o5, k5⟩)
        | (at_builtin; go_must (refine wpList_app _ rfl _ _ rfl w.heap.size _ (outTo s k) rfl (oo.out.below k5) r5 (M.le x.toNat 4).reverse rfl o5.isB o5.nil0 (by rw [List.length_reverse, M.le_length, HOL.out]; omega) (Nat.le_trans kk.size k5.size) ?_)))
      intro r6 w6 o6 k6 _
      have O6 : Hid (Own w6 w.heap.size r6 (outTo s (k + 1))) := by
        rw [Hid, outTo_succ s k HLT.out x HX.out]
        exact o6
      have kk6 : Below w.heap.size w w6 := (kk.trans (k5.mono kk.size)).trans k6
      clear o6
      go_wp2
      go_roundw
      case rel => exact ⟨k + 1, by omega, by go_num, O6, kk6⟩
      case measure => simp [intOf]; omega
    · obtain rfl : k = 8 := by omega
      go_wp2
      go_ret
      refine ⟨_, rfl, ?_, kk⟩
      have := oo.out
      rw [outTo, List.take_of_length_le (by rw [M.l_length]; exact Nat.le_refl _)] at this
      rw [← HSHA.out]
      exact this

theorem of_any (v : Value) (bs : List UInt8) (w : World) (hL : Laid w) (hv : IsB w v bs) (hlen : bs.length ≤ 562949953421312) :
    Calls Tryd.prog 111 #[v] w (Makes w (M.sha bs)) := by
  have hoff : Off v w.heap.size := hv.off (Nat.le_refl _)
  go_enter Tryd.func111, Tryd.ntmps111
  go_wp2_with fail
  refine (new_any w hL).mono ?_
  rintro e w1 ⟨rfl, h1, k1⟩
  go_wp2_with fail
  refine (add_any w.heap.size [] bs v w1 (hL.below k1 hL.size) hL.size h1 (hv.below k1) hoff (by simp; omega)).mono ?_
  rintro e w2 ⟨rfl, h2, o2⟩
  have k2 : Below w.heap.size w w2 := k1.trans (o2.below k1.size (Nat.le_refl _))
  go_wp2_with fail
  refine (sum_any w.heap.size ([] ++ bs) w2 (hL.below k2 hL.size) h2 (by simp; omega)).mono ?_
  rintro e w3 ⟨r, rfl, o3, k3⟩
  go_wp2
  go_ret
  exact ⟨r, rfl, o3.mono k2.size, k2.trans (k3.mono k2.size)⟩

end Go.Proofs.YtdojalhaklkegaaDoor
