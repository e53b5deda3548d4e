/-
  CONTRACTS OF (*sha.Hash).Sum AND sha.Of. Conditions: the program's two tables lie as they were laid.
-/
import Derived.Test.YtlglkiknpbfnmaaDoorShaAdd
import Derived.Test.YtlglkiknpbfnmaaDoorShaNew
import Derived.Deep.WholeRow
namespace Go.Proofs.YtlglkiknpbfnmaaDoor
open Go.RowKit
set_option linter.unusedVariables false
set_option maxRecDepth 100000

theorem zeroHash : ∃ Z : Array Value, Z.size = 73 ∧ ∀ w, (zeroValue 97).run Tryd.prog w = .ok (.agg Z) w :=
  ⟨(Hc (List.replicate 8 0) (List.replicate 64 0) 0).toArray, rfl, (zero_of_info (P := Tryd.prog) (n := 73) (by kernel_rfl)).1⟩

theorem Off.own {w : World} {B g : Nat} {v : Value} {bs : List UInt8} (h : Own w B v bs) (hg : g < B) : Off v g := by
  intro ad n c e _
  rcases h.2 with ⟨e', _⟩ | ⟨g', cap, cur, e', hb, _⟩
  · rw [e] at e'
    injection e' with e1
    cases e1
  · rw [e] at e'
    injection e' with e1
    injection e1 with e1
    rw [e1]
    show g' ≠ g
    omega

/-- The digest's first words as bytes. -/
def outTo (s : M.St) (k : Nat) : List UInt8 := (s.l.take k).flatMap fun v => (M.le v.toNat 4).reverse

theorem outTo_length (s : M.St) (k : Nat) (h : k ≤ 8) : (outTo s k).length = 4 * k := by
  unfold outTo
  have hl : (s.l.take k).length = k := by rw [List.length_take, M.l_length]; omega
  rw [List.length_flatMap]
  have e : (s.l.take k).map (fun v => (M.le v.toNat 4).reverse.length) = List.replicate k 4 := by
    apply List.ext_getElem
    · simp [M.l_length]; omega
    · intro i h1 h2
      simp [M.le_length]
  rw [e]
  simp
  omega

theorem outTo_succ (s : M.St) (k : Nat) (h : k < 8) (x : UInt32) (hx : x = s.l.getD k 0) : outTo s (k + 1) = outTo s k ++ (M.le x.toNat 4).reverse := by
  unfold outTo
  rw [List.take_succ_eq_append_getElem (by rw [M.l_length]; exact h), List.flatMap_append, hx]
  simp [List.getD_eq_getElem?_getD, show k < s.l.length from h]

theorem run_index_words (w : World) (l : List UInt32) (k : Nat) (hk : k < 8) (x : UInt32) (hx : (wc l)[k]? = some (.int .u32 (x.toNat : Int))) :
    (Instr.index 94 (.agg (wc l).toArray) (.int .i64 (k : Int))).run Tryd.prog w = .ok (.int .u32 (x.toNat : Int)) w := by
  have hn' : (k : Int) < 8 := by omega
  simp [Instr.index, run_underlying Tryd.underlying94, asIntOf, go_sem, Tryd.sizeOf81]
  rw [if_pos hk, hx]
  rfl

set_option maxHeartbeats 1000000 in
theorem sum_any (g : Nat) (m : List UInt8) (w : World) (hL : Laid w) (h : HashIs w g m) (hlen : m.length ≤ 562949953421312) :
    Calls Tryd.prog 58 #[.pointer (some ⟨g, 0, none⟩)] w (Makes w (M.sha m)) := by
  obtain ⟨wait, hw, ht, hb⟩ := h
  obtain ⟨s0, hs0⟩ : ∃ s, s = M.blocks M.H0 m (m.length / 64) := ⟨_, rfl⟩
  obtain ⟨C, hC⟩ : ∃ C, C = Hc s0.l wait m.length := ⟨_, rfl⟩
  obtain ⟨n, hn⟩ : ∃ n, n = m.length := ⟨_, rfl⟩
  rw [← hs0, ← hC] at hb
  rw [← hn] at hlen
  have hCl : C.length = 73 := by rw [hC, Hc_length, hw]; rfl
  have c72 : w.cell? ⟨g, 72, none⟩ = some (.int .u64 (n : Int)) := by rw [hb.cell, hC, hn]; exact Hc_count _ _ _ rfl hw
  have hglt := hb.lt
  have HB : Hid (Blk w g 97 C) := hb
  have HR : Hid (w.rangeAt g 0 C) := hb.range 0 C [] (by simp)
  have HCL : Hid (C.length = 73) := hCl
  have HC : Hid (C = Hc s0.l wait m.length) := hC
  have HS0 : Hid (s0 = M.blocks M.H0 m (m.length / 64)) := hs0
  have HW : Hid (wait.length = 64) := hw
  have HT : Hid (wait.take (m.length % 64) = m.drop (m.length / 64 * 64)) := ht
  have HN : Hid (n = m.length) := hn
  have HL : Hid (Laid w) := hL
  obtain ⟨Z, hZ, hz⟩ := zeroHash
  have HZ : Hid (Z.size = 73) := hZ
  have h1C : ∀ v ∈ C.toArray.toList, v.oneCell' = true := by
    intro v hv
    rw [hC] at hv
    simp [Hc] at hv
    rcases hv with hv | hv | rfl
    · exact wc_oneCell s0.l v (by simpa using hv)
    · exact byteCells_oneCell _ v hv
    · rfl
  have H1C : Hid (∀ v ∈ C.toArray.toList, v.oneCell' = true) := h1C
  clear hb hC hCl hs0 hw ht hn hL hZ h1C
  go_enter Tryd.func58, Tryd.ntmps58
  go_wp2_with (first
    | (refine wpList_load_mid rfl 97 (.tmp 8) rfl g 0 rfl C _ HR.out Tryd.underlying97 rfl (by rw [HCL.out]; kernel_rfl) ?_)
    | (refine wpList_store_blk rfl 97 (.tmp 3) (.tmp 9) rfl w.heap.size C.toArray rfl rfl 97 Z.toList (Blk.newAt _ _ _ _ _ rfl rfl) (by rw [List.size_toArray, HCL.out]; kernel_rfl) (by rw [List.size_toArray, HCL.out, Array.length_toList, HZ.out]) H1C.out ?_))
  intro w1 b1 o1
  have hs1 : w.heap.size < w1.heap.size := by have := o1.size; simp at this; omega
  have k1 : Below w.heap.size w w1 := ((Below.refl _ _).alloc (Nat.le_refl _) _).trans (o1.below (by simp) (Nat.le_refl _))
  have hw1 : HashIs w1 w.heap.size m := by
    refine ⟨wait, HW.out, HT.out, ?_⟩
    rw [← HS0.out, ← HC.out]
    exact b1
  have L1 : Laid w1 := HL.out.below k1 HL.out.size
  have c72' : w1.cell? ⟨g, 72, none⟩ = some (.int .u64 (n : Int)) := by rw [k1.cell hglt]; exact c72
  have HH1 : Hid (HashIs w1 w.heap.size m) := hw1
  have HL1 : Hid (Laid w1) := L1
  clear b1 o1 hw1 L1 c72 hz
  have HLN : Hid (m.length ≤ 562949953421312) := by rw [Hid, ← HN.out]; exact hlen
  go_wp2_with fail
  refine (padding_any n _ (by omega)).mono ?_
  rintro e w2 ⟨r, rfl, o2, k2⟩
  have k12 : Below w.heap.size w w2 := k1.trans (k2.mono k1.size)
  have HO2 : Hid (Own w2 w1.heap.size r (M.pad n)) := o2
  clear o2 c72'
  go_wp2_with fail
  refine (add_any w.heap.size m (M.pad n) r w2 (HL1.out.below k2 HL1.out.size) HL.out.size (HH1.out.below k2 hs1) HO2.out.isB (Off.own HO2.out hs1) (by rw [M.pad_length]; have := HLN.out; omega)).mono ?_
  rintro e w3 ⟨rfl, hh3, o3⟩
  have k3 : Below w.heap.size w w3 := k12.trans (o3.below k12.size (Nat.le_refl _))
  have hs3 : w.heap.size < w3.heap.size := hh3.lt
  obtain ⟨p, hp⟩ : ∃ p, p = m ++ M.pad n := ⟨_, rfl⟩
  rw [← hp] at hh3
  obtain ⟨wait3, hw3, ht3, hb3⟩ := hh3
  obtain ⟨s, hs⟩ : ∃ s, s = M.blocks M.H0 p (p.length / 64) := ⟨_, rfl⟩
  rw [← hs] at hb3
  have HSHA : Hid (M.out s = M.sha m) := by rw [Hid, hs, hp, HN.out]; rfl
  have HR3 : Hid (w3.rangeAt w.heap.size 0 (wc s.l)) := hb3.range 0 (wc s.l) _ rfl
  clear hp hs hb3 hw3 ht3 o3 k12 k2
  go_wp2_with (first
    | (refine wpList_make_cap _ rfl _ _ rfl .i64 .i64 _ _ 0 32 rfl rfl rfl rfl (by omega) (by omega) ?_; intro w4 o4 k4)
    | (refine wpList_load_mid rfl 94 (.tmp 17) rfl w.heap.size 0 rfl (wc s.l) _ (fun j v hv => by rw [k4.cell hs3]; exact HR3.out j v hv) Tryd.underlying94 rfl (by kernel_rfl) ?_))
  have o4' : Own w4 w.heap.size (.slice (some ⟨w3.heap.size, 0, none⟩) 0 32) (outTo s 0) := o4.mono (Nat.le_of_lt hs3)
  have k34 : Below w.heap.size w w4 := k3.trans (k4.mono k3.size)
  clear o4 k4 k3
  go_loopw [4, 19] (fun o i wr => ∃ k : Nat, k ≤ 8 ∧ i = .int .i64 k ∧ Hid (Own wr w.heap.size o (outTo s k)) ∧ Below w.heap.size w wr)
    (fun _ i _ => 8 - (intOf i).toNat)
  case atStart => exact ⟨0, by omega, rfl, o4', k34⟩
  case round =>
    clear o4' k34
    rename_i wr
    obtain ⟨k, hk, rfl, oo, kk⟩ := hrel
    by_cases hlt : k < 8
    · obtain ⟨x, hx⟩ : ∃ x, x = s.l.getD k 0 := ⟨_, rfl⟩
      have HX : Hid (x = s.l.getD k 0) := hx
      have hix : (wc s.l)[k]? = some (.int .u32 x.toNat) := by rw [wc_get _ _ (by rw [M.l_length]; exact hlt), hx]
      have hrun := run_index_words wr s.l k hlt x hix
      clear hx hix
      have HLT : Hid (k < 8) := hlt
      have HOL : Hid ((outTo s k).length = 4 * k) := outTo_length s k (by omega)
      go_wp2_with (first
        | (go_at_call 64; go_must (refine (big32_any x.toNat _ (by have := w_lt x; omega)).mono ?_); rintro e w5 ⟨r5, rfl, o5, k5⟩)
        | (at_builtin; go_must (refine wpList_app _ rfl _ _ rfl w.heap.size _ (outTo s k) rfl (oo.out.below k5) r5 (M.le x.toNat 4).reverse rfl o5.isB o5.nil0 (by rw [List.length_reverse, M.le_length, HOL.out]; omega) (Nat.le_trans kk.size k5.size) ?_)))
      intro r6 w6 o6 k6 _
      have O6 : Hid (Own w6 w.heap.size r6 (outTo s (k + 1))) := by
        rw [Hid, outTo_succ s k HLT.out x HX.out]
        exact o6
      have kk6 : Below w.heap.size w w6 := (kk.trans (k5.mono kk.size)).trans k6
      clear o6
      go_wp2
      go_roundw
      case rel => exact ⟨k + 1, by omega, by go_num, O6, kk6⟩
      case measure => simp [intOf]; omega
    · obtain rfl : k = 8 := by omega
      go_wp2
      go_ret
      refine ⟨_, rfl, ?_, kk⟩
      have := oo.out
      rw [outTo, List.take_of_length_le (by rw [M.l_length]; exact Nat.le_refl _)] at this
      rw [← HSHA.out]
      exact this

end Go.Proofs.YtlglkiknpbfnmaaDoor
