/-
  write, of a map, if write holds within. Conditions: less than 2^47 bytes; the library's variables lie as laid.
-/
import Derived.Test.YtbgadfaiehkanaaGreatDoorJsG4
namespace Go.Proofs.YtbgadfaiehkanaaGreatDoor
open Go.RowKit Go.Proofs Go.Shelf
set_option linter.unusedVariables false
set_option maxRecDepth 100000

/-- A member, written. -/
def M.wm (d : Nat) (p : List UInt8 × M.GV) : List UInt8 := M.wtext p.1 ++ 58 :: M.wr d p.2
def M.wmz (d : Nat) (p : List UInt8 × M.GV) : Nat := 6 * p.1.length + 4 + M.wz d p.2
theorem M.wm_le (d : Nat) (p : List UInt8 × M.GV) : 1 + (M.wm d p).length ≤ M.wmz d p := by
  have h1 := M.wr_le d p.2
  have h2 := M.wtext_le p.1
  unfold M.wm M.wmz
  rw [List.length_append, List.length_cons]
  omega

theorem five_app (bs J cm T R : List UInt8) : bs ++ 123 :: J ++ cm ++ T ++ [58] ++ R = bs ++ 123 :: (J ++ (cm ++ (T ++ 58 :: R))) := by simp

set_option maxHeartbeats 16000000 in
theorem wr_map {d : Nat} (HW : WrP d) (S : Nat → Prop) (b1 : Bool) (n : Int) (t : List UInt8) (a1 : Option Addr) (n1 e1 : Nat) (a2 : Option Addr) (n2 e2 : Nat) (l : List (List UInt8 × M.GV)) (ls : List (List Value)) (w : World) (B b : Nat) (bs : List UInt8) (h : WIn w B b bs (8 + (l.map (M.wmz d)).sum))
    (hr : MemRow S w d (.slice a2 n2 e2) l ls) (hlm : ∀ x ∈ l, M.MayP d x.2) (hS : ∀ k, S k → k < B) :
    Calls Tryz.prog 46 #[.pointer (some ⟨b, 0, none⟩), .agg (bx 5 b1 n t a1 n1 e1 a2 n2 e2)] w fun e w' => e = .returned (.tuple #[]) ∧ Puts B b (bs ++ 123 :: (M.jn (l.map (M.wm d)) ++ [125])) w w' := by
  have hb := h.box (.cells (bx 5 b1 n t a1 n1 e1 a2 n2 e2) 27)
  have hn1 : n2 = l.length := by obtain ⟨ao, cap, e, _⟩ := hr.2.1; injection e
  have hnb : (n2 : Int) ≤ 9223372036854775807 := by obtain ⟨_, _, e, h1, h2, _⟩ := hr.2.1; unfold maxLen at h2; omega
  obtain ⟨W1, hW1⟩ : ∃ W, W = w.alloc (.cells (bx 5 b1 n t a1 n1 e1 a2 n2 e2) 27) := ⟨_, rfl⟩
  obtain ⟨gX, hgX⟩ : ∃ y, y = w.heap.size := ⟨_, rfl⟩
  have hbx : Blk W1 gX 27 (bx 5 b1 n t a1 n1 e1 a2 n2 e2).toList := by rw [hW1]; exact Blk.newAt _ _ _ _ _ hgX rfl
  rw [← hW1] at hb
  have HB := Lib.hid hb
  have HX : Hid (gX ≠ b) := by rw [Hid, hgX]; have := h.bf.lt; omega
  have HBX := Lib.hid hbx
  have HH := Lib.hid h
  have HN1 := Lib.hid hn1
  have HR : Hid (MemRow S w d (.slice a2 n2 e2) l ls ∧ (∀ x ∈ l, M.MayP d x.2) ∧ ∀ k, S k → k < B) := ⟨hr, hlm, hS⟩
  have HC : Hid (Calls Tryz.prog 99 #[.pointer (some ⟨b, 0, none⟩), .string ⟨#[123]⟩] W1 fun e w' => (∃ n, e = .returned (.tuple #[.int .i64 n, .nilIface])) ∧ Puts B b (bs ++ [123]) W1 w') := bString_any B b bs [123] _ hb.1.bf (by have := hb.1.len; show _ + 1 ≤ _; omega) hb.1.le
  have E1 : Hid (W1 = w.alloc (.cells #[.int .i64 5, .bool b1, .int .i64 n, .string ⟨t.toArray⟩, .slice a1 n1 e1, .slice a2 n2 e2] 27)) := hW1
  have EX := Lib.hid hgX
  have cX0 : W1.cell? ⟨gX, 0, none⟩ = some (.int .i64 5) := hbx.cell 0
  unfold bx
  clear hb h hn1 hW1 hgX hbx hr hlm hS
  go_enter Tryz.func46, Tryz.ntmps46
  go_upto_region 1 with fail
  rw [← EX.out, ← E1.out]
  clear E1 EX
  go_wp2_with fail
  refine HC.out.mono ?_
  rintro e w2 ⟨⟨m, rfl⟩, p2⟩
  have HP2 := Lib.hid (HB.out.2.go p2)
  have cX5 : w2.cell? ⟨gX, 5, none⟩ = some (.slice a2 n2 e2) := (p2.blk HBX.out HX.out (by decide)).cell 5
  clear p2 HC cX0
  go_wp2_with fail
  clear cX5
  go_loopw [62] (fun i wr => ∃ j : Nat, i = .int .i64 (j : Int) ∧ Hid (j ≤ n2) ∧ Hid (Puts B b (bs ++ 123 :: M.jn ((l.take j).map (M.wm d))) w wr)) (fun i _ => n2 - (intOf i).toNat)
  case atStart => exact ⟨0, rfl, Nat.zero_le _, HP2⟩
  case round =>
    obtain ⟨wz, rfl⟩ : ∃ x, x = wr := ⟨_, rfl⟩
    obtain ⟨j, rfl, hj, PZ⟩ := hrel
    by_cases hlt : j < n2
    · have q1 : (j : Int) < (n2 : Int) := by omega
      have hj0 : (0 : Int) ≤ (j : Int) := Int.natCast_nonneg j
      have HLT := Lib.hid hlt
      obtain ⟨g1, o1, c1, hla⟩ := row_some HR.out.1.2.1 (by rw [← HN1.out]; exact hlt)
      injection hla with hla hln hlc
      clear hln
      subst hla hlc
      have hjl : j < l.length := by rw [← HN1.out]; exact hlt
      have hcz : Chg (fun k => B ≤ k) w wz := PZ.out.chg
      have hrz := HR.out.1.2.1.chg hcz (fun k hk e => by have := HR.out.2.2 k hk; omega)
      rw [HN1.out] at hrz
      obtain ⟨c, hcel, hiv0⟩ := HR.out.1.2.2 j hjl
      have hiv := PZ.out.isV HR.out.2.2 hiv0
      have hel := row_el hrz (len_of HR.out.1.1 fun i hi => by obtain ⟨c, e, iv⟩ := HR.out.1.2.2 i hi; rw [e, List.length_cons, iv.len]) HR.out.1.1 hjl
      rw [hcel] at hel
      have hmy := HR.out.2.1 _ (getD_mem (x := ([], M.vNull)) hjl)
      have hnx := M.jn_next (M.wm d) l ([], M.vNull) j hjl
      have hft := M.jn_fit (M.wm d) (M.wmz d) (M.wm_le d) l ([], M.vNull) j hjl
      obtain ⟨y, hy⟩ : ∃ y, y = l.getD j ([], M.vNull) := ⟨_, rfl⟩
      rw [← hy] at hel hiv hmy hnx hft
      rw [show M.wmz d y = 6 * y.1.length + 4 + M.wz d y.2 from rfl] at hft
      rw [show M.wm d y = M.wtext y.1 ++ 58 :: M.wr d y.2 from rfl] at hnx
      obtain ⟨nm, hnm⟩ : ∃ n, n = y.1 := ⟨_, rfl⟩
      obtain ⟨gx, hgx⟩ : ∃ n, n = y.2 := ⟨_, rfl⟩
      rw [← hnm] at hel hnx hft
      rw [← hgx] at hiv hmy hnx hft
      obtain ⟨el, hl⟩ : ∃ l, l = Value.string ⟨nm.toArray⟩ :: c := ⟨_, rfl⟩
      have HE7 : Hid (el.length = 7) := by rw [Hid, hl, List.length_cons, hiv.len]
      have HE6 : Hid (c.length = 6) := hiv.len
      have HE1 : Hid (∀ v ∈ el, v.oneCell' = true) := by
        rw [Hid, hl]
        intro v hv
        rcases List.mem_cons.1 hv with hv | hv
        · rw [hv]; rfl
        · exact hiv.one v hv
      have HEQ := Lib.hid hl
      rw [← hl] at hel
      have HEL := Lib.hid hel
      have HIV := Lib.hid hiv
      have HMY := Lib.hid hmy
      have HNX := Lib.hid hnx
      obtain ⟨o, ho⟩ : ∃ o, o = bs ++ 123 :: M.jn ((l.take j).map (M.wm d)) := ⟨_, rfl⟩
      have HFT : Hid (o.length + 6 * nm.length + 4 + M.wz d gx ≤ 140737488355328) := by
        have := HH.out.len
        rw [Hid, ho, List.length_append, List.length_cons]
        omega
      have HO := Lib.hid ho
      rw [← ho] at PZ
      have HBZ : Hid (B ≤ wz.heap.size) := Nat.le_trans HH.out.le PZ.out.bel.size
      clear hel hlt hj hjl hiv hiv0 hmy hgx hl hnx hft ho hcz hrz hnm hy hcel
      go_upto_region 24 with (first
        | (refine wpList_load_mid rfl _ (.tmp 65) rfl g1 (o1 + j * 7) rfl el _ HEL.out Tryz.underlying55 rfl (by rw [sizeM7]; exact congrArg some HE7.out.symm) ?_)
        | (refine wpList_store_blk rfl 55 (.tmp 7) (.tmp 66) rfl wz.heap.size _ rfl rfl 55 _ (z7_new wz) (by rw [sizeM7]; exact congrArg some HE7.out.symm) HE7.out.symm HE1.out ?_; intro w5 hb5 ho5))
      have k5 : Below wz.heap.size wz w5 := ((Below.refl wz.heap.size wz).alloc (Nat.le_refl _) _).trans (ho5.below (by simp) (Nat.le_refl _))
      have PZ5 := PZ.out.deep k5 HBZ.out
      have HIV5 := HIV.out.below k5
      have hgn : wz.heap.size ≠ b := by have := PZ.out.bf.lt; omega
      obtain ⟨gN, hgN⟩ : ∃ y, y = wz.heap.size := ⟨_, rfl⟩
      rw [← hgN] at hb5 hgn ⊢
      have HN5 := Lib.hid hb5
      have HGN := Lib.hid hgn
      have HP5 := Lib.hid PZ5
      have HV5 := Lib.hid HIV5
      have HPA := Lib.hid (part_any B b o j w5 PZ5.bf (by have := HFT.out; omega) (Nat.le_trans HH.out.le PZ5.bel.size))
      obtain ⟨cm, hcm⟩ : ∃ l : List UInt8, l = if j = 0 then [] else [44] := ⟨_, rfl⟩
      have hcl : cm.length ≤ 1 := by rw [hcm]; split <;> decide
      rw [← hcm] at HPA HNX
      have HCL := Lib.hid hcl
      clear hcm hcl k5 PZ5 HIV5 hgn hgN hb5 ho5 HEL HIV PZ HBZ
      go_wp2_with fail
      refine HPA.out.mono ?_
      rintro e w6 ⟨rfl, p6⟩
      have HP6 := Lib.hid (HP5.out.go p6)
      have HN6 := Lib.hid (p6.blk HN5.out HGN.out (by decide))
      have HV6 := Lib.hid (p6.isV HR.out.2.2 HV5.out)
      have HTX := Lib.hid (wtext_any B b (o ++ cm) nm w6 p6.bf (by rw [List.length_append]; have := HFT.out; have := HCL.out; omega) (Nat.le_trans HH.out.le HP6.out.bel.size))
      have c6 : w6.cell? ⟨gN, 0, none⟩ = some (.string ⟨nm.toArray⟩) := by
        have := HN6.out
        rw [HEQ.out] at this
        exact this.cell 0
      clear p6 HPA HN5 HV5 HP5
      go_wp2_with fail
      refine HTX.out.mono ?_
      rintro e w7 ⟨rfl, p7⟩
      have HP7 := Lib.hid (HP6.out.go p7)
      have HN7 := Lib.hid (p7.blk HN6.out HGN.out (by decide))
      have HV7 := Lib.hid (p7.isV HR.out.2.2 HV6.out)
      have HTL : Hid ((o ++ cm ++ M.wtext nm).length + 1 + M.wz d gx ≤ 140737488355328) := by
        have h1 := HFT.out
        have h2 := HCL.out
        have h3 := M.wtext_le nm
        rw [Hid, List.length_append, List.length_append]
        omega
      have HC2 : Hid (Calls Tryz.prog 99 #[.pointer (some ⟨b, 0, none⟩), .string ⟨#[58]⟩] w7 fun e w' => (∃ n, e = .returned (.tuple #[.int .i64 n, .nilIface])) ∧ Puts B b ((o ++ cm ++ M.wtext nm) ++ [58]) w7 w') := bString_any B b _ [58] w7 p7.bf (by have := HTL.out; show _ + 1 ≤ _; omega) (Nat.le_trans HH.out.le HP7.out.bel.size)
      clear p7 HTX HN6 HV6 HP6 c6
      go_wp2_with fail
      refine HC2.out.mono ?_
      rintro e w8 ⟨⟨m8, rfl⟩, p8⟩
      have HP8 := Lib.hid (HP7.out.go p8)
      have HN8 := Lib.hid (p8.blk HN7.out HGN.out (by decide))
      have HCA := Lib.hid (HW S c gx w8 B b (o ++ cm ++ M.wtext nm ++ [58]) (p8.isV HR.out.2.2 HV7.out) HMY.out HR.out.2.2 p8.bf (by rw [List.length_append]; have := HTL.out; show _ + 1 + _ ≤ _; omega) (Nat.le_trans HH.out.le HP8.out.bel.size) HH.out.five (HP8.out.laid HH.out.five HH.out.laid))
      clear p8 HC2 HN7 HV7 HP7
      go_wp2_with (refine wpList_load_mid rfl _ (.tmp 77) rfl gN 1 rfl c _ (HN8.out.range 1 _ [] (by rw [HEQ.out]; simp)) Tryz.underlying27 rfl (by rw [Tryz.sizeV]; exact congrArg some HE6.out.symm) ?_)
      refine HCA.out.mono ?_
      rintro e w9 ⟨rfl, p9⟩
      have HP9 : Hid (Puts B b (bs ++ 123 :: M.jn ((l.take (j + 1)).map (M.wm d))) w w9) := by
        have := HP8.out.go p9
        rw [HO.out, five_app] at this
        rw [HNX.out]
        exact this
      clear p9 HCA HN8 HP8
      go_wp2
      go_roundw
      case rel => exact ⟨j + 1, by go_num, HLT.out, HP9⟩
      case measure => have := HLT.out; simp [intOf]; omega
    · have q1 : ¬ (j : Int) < (n2 : Int) := by omega
      have HF : Hid (Puts B b (bs ++ 123 :: M.jn (l.map (M.wm d))) w wz) := by
        have := PZ.out
        rw [List.take_of_length_le (by rw [← HN1.out]; omega)] at this
        exact this
      have HC1 : Hid (Calls Tryz.prog 99 #[.pointer (some ⟨b, 0, none⟩), .string ⟨#[125]⟩] wz fun e w' => (∃ n, e = .returned (.tuple #[.int .i64 n, .nilIface])) ∧ Puts B b ((bs ++ 123 :: M.jn (l.map (M.wm d))) ++ [125]) wz w') := bString_any B b _ [125] wz HF.out.bf (by
        have h1 := M.jn_le (M.wm d) (M.wmz d) l (M.wm_le d)
        have h2 := HH.out.len
        rw [List.length_append, List.length_cons]
        show _ + 1 ≤ _
        omega) (Nat.le_trans HH.out.le HF.out.bel.size)
      clear hlt hj PZ
      go_wp2_with fail
      refine HC1.out.mono ?_
      rintro e w7 ⟨⟨m2, rfl⟩, p7⟩
      have HP7 := Lib.hid (HF.out.go p7)
      clear p7 HC1
      go_wp2
      go_end0
      refine ⟨rfl, ?_⟩
      have := HP7.out
      rw [List.append_assoc, List.cons_append] at this
      exact this

end Go.Proofs.YtbgadfaiehkanaaGreatDoor
