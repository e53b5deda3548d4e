/-
  write, of a list, if write holds within. Conditions: less than 2^47 bytes; the library's variables lie as laid.
-/
import Derived.Test.YtbgadfaiehkanaaGreatDoorPj28
namespace Go.Proofs.YtbgadfaiehkanaaGreatDoor
open Go.RowKit Go.Proofs Go.Shelf
set_option linter.unusedVariables false
set_option maxRecDepth 100000

theorem M.jn_next {α : Type} (f : α → List UInt8) (l : List α) (x : α) (j : Nat) (hj : j < l.length) : M.jn ((l.take (j + 1)).map f) = M.jn ((l.take j).map f) ++ ((if j = 0 then [] else [44]) ++ f (l.getD j x)) := by
  rw [List.take_add_one, List.getElem?_eq_getElem hj, List.getD_eq_getElem?_getD, List.getElem?_eq_getElem hj, List.map_append]
  show M.jn ((l.take j).map f ++ [f l[j]]) = _
  rw [M.jn_snoc, List.length_map, List.length_take, Nat.min_eq_left (by omega)]
  rfl

theorem sum_take {α : Type} (z : α → Nat) (x : α) : ∀ (l : List α) (j : Nat), j < l.length → ((l.take j).map z).sum + z (l.getD j x) ≤ (l.map z).sum := by
  intro l
  induction l with
  | nil => intro j h; cases h
  | cons y r ih =>
    intro j h
    cases j with
    | zero => simp
    | succ j =>
      have := ih j (by simpa using h)
      simp only [List.take_succ_cons, List.map_cons, List.sum_cons, List.getD_cons_succ]
      omega

/-- An element fits, and what stands ahead of it. -/
theorem M.jn_fit {α : Type} (f : α → List UInt8) (z : α → Nat) (h : ∀ x, 1 + (f x).length ≤ z x) (l : List α) (x : α) (j : Nat) (hj : j < l.length) : (M.jn ((l.take j).map f)).length + z (l.getD j x) ≤ (l.map z).sum := by
  have h1 := M.jn_le f z (l.take j) h
  have h2 := sum_take z x l j hj
  omega

set_option maxHeartbeats 16000000 in
theorem wr_list {d : Nat} (HW : WrP d) (S : Nat → Prop) (b1 : Bool) (n : Int) (t : List UInt8) (a1 : Option Addr) (n1 e1 : Nat) (a2 : Option Addr) (n2 e2 : Nat) (l : List M.GV) (ls : List (List Value)) (w : World) (B b : Nat) (bs : List UInt8) (h : WIn w B b bs (8 + (l.map fun x => 1 + M.wz d x).sum))
    (hll : ls.length = l.length) (hlr : RowAt S w 6 (.slice a1 n1 e1) l.length ls.flatten) (hle : ∀ i, i < l.length → IsV S w d (ls.getD i []) (l.getD i M.vNull)) (hlm : ∀ x ∈ l, M.MayP d x) (hS : ∀ k, S k → k < B) :
    Calls Tryz.prog 46 #[.pointer (some ⟨b, 0, none⟩), .agg (bx 4 b1 n t a1 n1 e1 a2 n2 e2)] w fun e w' => e = .returned (.tuple #[]) ∧ Puts B b (bs ++ 91 :: (M.jn (l.map (M.wr d)) ++ [93])) w w' := by
  have hb := h.box (.cells (bx 4 b1 n t a1 n1 e1 a2 n2 e2) 27)
  have hn1 : n1 = l.length := by obtain ⟨ao, cap, e, _⟩ := hlr; injection e
  have hnb : (n1 : Int) ≤ 9223372036854775807 := by obtain ⟨_, _, e, h1, h2, _⟩ := hlr; unfold maxLen at h2; omega
  obtain ⟨W1, hW1⟩ : ∃ W, W = w.alloc (.cells (bx 4 b1 n t a1 n1 e1 a2 n2 e2) 27) := ⟨_, rfl⟩
  obtain ⟨gX, hgX⟩ : ∃ y, y = w.heap.size := ⟨_, rfl⟩
  have hbx : Blk W1 gX 27 (bx 4 b1 n t a1 n1 e1 a2 n2 e2).toList := by rw [hW1]; exact Blk.newAt _ _ _ _ _ hgX rfl
  rw [← hW1] at hb
  have HB := Lib.hid hb
  have HX : Hid (gX ≠ b) := by rw [Hid, hgX]; have := h.bf.lt; omega
  have HBX := Lib.hid hbx
  have HH := Lib.hid h
  have HN1 := Lib.hid hn1
  have HR : Hid (ls.length = l.length ∧ RowAt S w 6 (.slice a1 n1 e1) l.length ls.flatten ∧ (∀ i, i < l.length → IsV S w d (ls.getD i []) (l.getD i M.vNull)) ∧ (∀ x ∈ l, M.MayP d x) ∧ ∀ k, S k → k < B) := ⟨hll, hlr, hle, hlm, hS⟩
  have HC : Hid (Calls Tryz.prog 99 #[.pointer (some ⟨b, 0, none⟩), .string ⟨#[91]⟩] W1 fun e w' => (∃ n, e = .returned (.tuple #[.int .i64 n, .nilIface])) ∧ Puts B b (bs ++ [91]) W1 w') := bString_any B b bs [91] _ hb.1.bf (by have := hb.1.len; show _ + 1 ≤ _; omega) hb.1.le
  have E1 : Hid (W1 = w.alloc (.cells #[.int .i64 4, .bool b1, .int .i64 n, .string ⟨t.toArray⟩, .slice a1 n1 e1, .slice a2 n2 e2] 27)) := hW1
  have EX := Lib.hid hgX
  have cX0 : W1.cell? ⟨gX, 0, none⟩ = some (.int .i64 4) := hbx.cell 0
  unfold bx
  clear hb h hn1 hW1 hgX hbx hll hlr hle hlm hS
  go_enter Tryz.func46, Tryz.ntmps46
  go_upto_region 1 with fail
  rw [← EX.out, ← E1.out]
  clear E1 EX
  go_wp2_with fail
  refine HC.out.mono ?_
  rintro e w2 ⟨⟨m, rfl⟩, p2⟩
  have HP2 := Lib.hid (HB.out.2.go p2)
  have cX4 : w2.cell? ⟨gX, 4, none⟩ = some (.slice a1 n1 e1) := (p2.blk HBX.out HX.out (by decide)).cell 4
  clear p2 HC cX0
  go_wp2_with fail
  clear cX4
  go_loopw [41] (fun i wr => ∃ j : Nat, i = .int .i64 (j : Int) ∧ Hid (j ≤ n1) ∧ Hid (Puts B b (bs ++ 91 :: M.jn ((l.take j).map (M.wr d))) w wr)) (fun i _ => n1 - (intOf i).toNat)
  case atStart => exact ⟨0, rfl, Nat.zero_le _, HP2⟩
  case round =>
    obtain ⟨wz, rfl⟩ : ∃ x, x = wr := ⟨_, rfl⟩
    obtain ⟨j, rfl, hj, PZ⟩ := hrel
    by_cases hlt : j < n1
    · have q1 : (j : Int) < (n1 : Int) := by omega
      have hj0 : (0 : Int) ≤ (j : Int) := Int.natCast_nonneg j
      have HLT := Lib.hid hlt
      obtain ⟨g1, o1, c1, hla⟩ := row_some HR.out.2.1 (by rw [← HN1.out]; exact hlt)
      injection hla with hla hln hlc
      clear hln
      subst hla hlc
      have hjl : j < l.length := by rw [← HN1.out]; exact hlt
      have hcz : Chg (fun k => B ≤ k) w wz := PZ.out.chg
      have hrz := HR.out.2.1.chg hcz (fun k hk e => by have := HR.out.2.2.2.2 k hk; omega)
      rw [HN1.out] at hrz
      have hel := row_el hrz (len_of HR.out.1 fun i hi => (HR.out.2.2.1 i hi).len) HR.out.1 hjl
      have hiv := PZ.out.isV HR.out.2.2.2.2 (HR.out.2.2.1 j hjl)
      have hmy := HR.out.2.2.2.1 _ (getD_mem (x := M.vNull) hjl)
      have hnx := M.jn_next (M.wr d) l M.vNull j hjl
      have hft := M.jn_fit (M.wr d) (fun x => 1 + M.wz d x) (fun x => by have := M.wr_le d x; omega) l M.vNull j hjl
      obtain ⟨gx, hgx⟩ : ∃ y, y = l.getD j M.vNull := ⟨_, rfl⟩
      obtain ⟨el, hl⟩ : ∃ y, y = ls.getD j [] := ⟨_, rfl⟩
      rw [← hl] at hel hiv
      rw [← hgx] at hiv hmy hnx hft
      have HEL := Lib.hid hel
      have HIV := Lib.hid hiv
      have HMY := Lib.hid hmy
      have HE6 : Hid (el.length = 6) := hiv.len
      have HNX := Lib.hid hnx
      obtain ⟨o, ho⟩ : ∃ o, o = bs ++ 91 :: M.jn ((l.take j).map (M.wr d)) := ⟨_, rfl⟩
      have HFT : Hid (o.length + 1 + M.wz d gx ≤ 140737488355328) := by
        have := HH.out.len
        rw [Hid, ho, List.length_append, List.length_cons]
        omega
      have HO := Lib.hid ho
      rw [← ho] at PZ
      have HBZ : Hid (B ≤ wz.heap.size) := Nat.le_trans HH.out.le PZ.out.bel.size
      clear hel hlt hj hjl hiv hmy hgx hl hnx hft ho hcz hrz
      go_upto_region 15 with (first
        | (refine wpList_load_mid rfl _ (.tmp 44) rfl g1 (o1 + j * 6) rfl el _ HEL.out Tryz.underlying27 rfl (by rw [Tryz.sizeV]; exact congrArg some HE6.out.symm) ?_)
        | (refine wpList_store_blk rfl 27 (.tmp 5) (.tmp 45) rfl wz.heap.size _ rfl rfl 27 _ (z6_new wz) (by rw [Tryz.sizeV]; exact congrArg some HE6.out.symm) HE6.out.symm HIV.out.one ?_; intro w5 hb5 ho5))
      have k5 : Below wz.heap.size wz w5 := ((Below.refl wz.heap.size wz).alloc (Nat.le_refl _) _).trans (ho5.below (by simp) (Nat.le_refl _))
      have PZ5 := PZ.out.deep k5 HBZ.out
      have HIV5 := HIV.out.below k5
      have hgn : wz.heap.size ≠ b := by have := PZ.out.bf.lt; omega
      obtain ⟨gN, hgN⟩ : ∃ y, y = wz.heap.size := ⟨_, rfl⟩
      rw [← hgN] at hb5 hgn ⊢
      have HN5 := Lib.hid hb5
      have HGN := Lib.hid hgn
      have HP5 := Lib.hid PZ5
      have HV5 := Lib.hid HIV5
      have HPA := Lib.hid (part_any B b o j w5 PZ5.bf (by have := HFT.out; omega) (Nat.le_trans HH.out.le PZ5.bel.size))
      obtain ⟨cm, hcm⟩ : ∃ l : List UInt8, l = if j = 0 then [] else [44] := ⟨_, rfl⟩
      have hcl : cm.length ≤ 1 := by rw [hcm]; split <;> decide
      rw [← hcm] at HPA HNX
      have HCL := Lib.hid hcl
      clear hcm hcl k5 PZ5 HIV5 hgn hgN hb5 ho5 HEL HIV PZ HBZ
      go_wp2_with fail
      refine HPA.out.mono ?_
      rintro e w6 ⟨rfl, p6⟩
      have HP6 := Lib.hid (HP5.out.go p6)
      have HN6 := Lib.hid (p6.blk HN5.out HGN.out (by decide))
      have HCA := Lib.hid (HW S el gx w6 B b (o ++ cm) (p6.isV HR.out.2.2.2.2 HV5.out) HMY.out HR.out.2.2.2.2 p6.bf (by rw [List.length_append]; have := HFT.out; have := HCL.out; omega) (Nat.le_trans HH.out.le HP6.out.bel.size) HH.out.five (HP6.out.laid HH.out.five HH.out.laid))
      clear p6 HPA HN5 HV5 HP5
      go_wp2_with (refine wpList_load_mid rfl _ (.tmp 5) rfl gN 0 rfl el _ (HN6.out.range 0 _ [] (by simp)) Tryz.underlying27 rfl (by rw [Tryz.sizeV]; exact congrArg some HE6.out.symm) ?_)
      refine HCA.out.mono ?_
      rintro e w7 ⟨rfl, p7⟩
      have HP7 : Hid (Puts B b (bs ++ 91 :: M.jn ((l.take (j + 1)).map (M.wr d))) w w7) := by
        have := HP6.out.go p7
        rw [HO.out, List.append_assoc, List.append_assoc, List.cons_append, ← HNX.out] at this
        exact this
      clear p7 HCA HN6 HP6
      go_wp2
      go_roundw
      case rel => exact ⟨j + 1, by go_num, HLT.out, HP7⟩
      case measure => have := HLT.out; simp [intOf]; omega
    · have q1 : ¬ (j : Int) < (n1 : Int) := by omega
      have HF : Hid (Puts B b (bs ++ 91 :: M.jn (l.map (M.wr d))) w wz) := by
        have := PZ.out
        rw [List.take_of_length_le (by rw [← HN1.out]; omega)] at this
        exact this
      have HC1 : Hid (Calls Tryz.prog 99 #[.pointer (some ⟨b, 0, none⟩), .string ⟨#[93]⟩] wz fun e w' => (∃ n, e = .returned (.tuple #[.int .i64 n, .nilIface])) ∧ Puts B b ((bs ++ 91 :: M.jn (l.map (M.wr d))) ++ [93]) wz w') := bString_any B b _ [93] wz HF.out.bf (by
        have h1 := M.jn_le (M.wr d) (fun x => 1 + M.wz d x) l (fun x => by have := M.wr_le d x; omega)
        have h2 := HH.out.len
        rw [List.length_append, List.length_cons]
        show _ + 1 ≤ _
        omega) (Nat.le_trans HH.out.le HF.out.bel.size)
      clear hlt hj PZ
      go_wp2_with fail
      refine HC1.out.mono ?_
      rintro e w7 ⟨⟨m2, rfl⟩, p7⟩
      have HP7 := Lib.hid (HF.out.go p7)
      clear p7 HC1
      go_wp2
      go_end0
      refine ⟨rfl, ?_⟩
      have := HP7.out
      rw [List.append_assoc, List.cons_append] at this
      exact this

end Go.Proofs.YtbgadfaiehkanaaGreatDoor
