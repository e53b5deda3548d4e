/-
  CONTRACTS OF Write: of a value that may be; of a number that isn't one. Conditions: less than 2^47 bytes; names and texts as long as they may be; the library's variables lie as laid.
  HOW Get LOOKS FOR A NAME: its closure, slices.IndexFunc. Conditions: none.
-/
import Derived.Test.YtbgadfaiehkanaaGreatDoorJsG5

namespace Go.Proofs.YtbgadfaiehkanaaGreatDoor
open Go.RowKit Go.Proofs Go.Shelf
set_option linter.unusedVariables false
set_option maxRecDepth 100000

theorem wrp_succ {d : Nat} (HW : WrP d) : WrP (d + 1) := by
  intro S cs x w B b bs iv hm hS hb hlen hBw h5 hL
  obtain ⟨lv, mv, ls, ms, rfl, hll, hlr, hle, hml, hmr, hme⟩ := iv
  obtain ⟨⟨p1, p2, p3, p4, p5, p6, p7, p8, p9⟩, pu, pl, pm, pn⟩ := hm
  obtain ⟨a1, e1, rfl, _⟩ := id hlr
  obtain ⟨a2, e2, rfl, _⟩ := id hmr
  rw [show (vcs x.k x.b x.n x.t (.slice a1 x.l.length e1) (.slice a2 x.m.length e2)).toArray = bx x.k x.b x.n x.t a1 x.l.length e1 a2 x.m.length e2 from rfl]
  have hz : M.wz (d + 1) x = 8 + (Lib.itoa x.n).length + 6 * x.t.length + (x.l.map fun y => 1 + M.wz d y).sum + (x.m.map (M.wmz d)).sum := rfl
  rw [hz] at hlen
  have WI : ∀ k, k ≤ 8 + (Lib.itoa x.n).length + 6 * x.t.length + (x.l.map fun y => 1 + M.wz d y).sum + (x.m.map (M.wmz d)).sum → WIn w B b bs k := fun k hk => ⟨hb, by omega, hBw, h5, hL⟩
  have hk : x.k = 0 ∨ x.k = 1 ∨ x.k = 2 ∨ x.k = 3 ∨ x.k = 4 ∨ x.k = 5 := by omega
  unfold M.wr
  rcases hk with hk | hk | hk | hk | hk | hk
  · rw [hk, if_pos rfl]
    exact wr_null _ _ _ _ _ _ _ _ _ w B b bs (WI 8 (by omega))
  · rw [hk, if_neg (by decide), if_pos rfl]
    exact wr_bool _ _ _ _ _ _ _ _ _ w B b bs (WI 8 (by omega))
  · rw [hk, if_neg (by decide), if_neg (by decide), if_pos rfl]
    exact wr_num _ _ (by omega) (by omega) _ _ _ _ _ _ _ w B b bs (WI _ (by omega))
  · rw [hk, if_neg (by decide), if_neg (by decide), if_neg (by decide), if_pos rfl]
    exact wr_text _ _ _ _ _ _ _ _ _ w B b bs (WI _ (by omega))
  · rw [hk, if_neg (by decide), if_neg (by decide), if_neg (by decide), if_neg (by decide), if_pos rfl]
    exact wr_list HW S _ _ _ _ _ _ _ _ _ x.l ls w B b bs (WI _ (by omega)) hll hlr hle pl hS
  · rw [hk, if_neg (by decide), if_neg (by decide), if_neg (by decide), if_neg (by decide), if_neg (by decide)]
    exact wr_map HW S _ _ _ _ _ _ _ _ _ x.m ms w B b bs (WI _ (by omega)) ⟨hml, hmr, hme⟩ (fun y hy => (pm y hy).2) hS

theorem wrp (d : Nat) : WrP d := by
  induction d with
  | zero => intro S cs x w B b bs iv; exact iv.elim
  | succ d ih => exact wrp_succ ih

set_option maxHeartbeats 8000000 in
/-- A value that may be, written. -/
theorem write_yes (S : Nat → Prop) (cs : List Value) (x : M.GV) (w : World) (iv : IsV S w 16 cs x) (hm : M.MayP 16 x) (hf : M.Fit 16 x) (hz : M.wz 16 x ≤ 140737488355328) (hL : JLaid w) :
    Calls Tryz.prog 19 #[.agg cs.toArray] w fun e w' => e = .returned (.string ⟨(M.wr 16 x).toArray⟩) ∧ Below w.heap.size w w' := by
  obtain ⟨a1, n1, e1, a2, n2, e2, hc⟩ := iv.cells
  obtain ⟨W1, hW1⟩ : ∃ W, W = w.alloc (.cells (bx x.k x.b x.n x.t a1 n1 e1 a2 n2 e2) 27) := ⟨_, rfl⟩
  obtain ⟨gX, hgX⟩ : ∃ y, y = w.heap.size := ⟨_, rfl⟩
  have hbx : Blk W1 gX 27 cs := by rw [hW1, hc]; exact Blk.newAt _ _ _ _ _ hgX rfl
  have k1 : Below w.heap.size w W1 := by rw [hW1]; exact (Below.refl _ _).alloc (Nat.le_refl _) _
  have iv1 : IsV (fun k => k < w.heap.size) W1 16 cs x := IsV.below k1 (IsV.mono (fun k hk _ => hk) _ iv)
  have HMY := Lib.hid (may_yes _ cs x W1 iv1 hm hf (hL.below k1))
  have HL6 : Hid (cs.length = 6) := iv.len
  have HBX := Lib.hid hbx
  have HK1 := Lib.hid k1
  have HIV1 := Lib.hid iv1
  have HM := Lib.hid hm
  have HZ := Lib.hid hz
  have HLA := Lib.hid (hL.below k1)
  have HCE : Hid (w.heap.size < W1.heap.size) := by have := hbx.lt; rw [Hid]; omega
  have h5 : 6 ≤ w.heap.size := hL.many
  have H5 := Lib.hid h5
  have E1 : Hid (W1 = w.alloc (.cells #[.int .i64 x.k, .bool x.b, .int .i64 x.n, .string ⟨x.t.toArray⟩, .slice a1 n1 e1, .slice a2 n2 e2] 27)) := hW1
  have EX := Lib.hid hgX
  have HC : Hid (cs.toArray = #[.int .i64 x.k, .bool x.b, .int .i64 x.n, .string ⟨x.t.toArray⟩, .slice a1 n1 e1, .slice a2 n2 e2]) := by rw [Hid, hc]; rfl
  rw [HC.out]
  clear hW1 hgX hbx k1 iv1 iv hm hf hz hL h5 hc
  go_enter Tryz.func19, Tryz.ntmps19
  go_upto_region 1 with fail
  rw [← EX.out, ← E1.out]
  clear E1
  go_wp2_with (refine wpList_load_mid rfl _ (.tmp 1) rfl gX 0 rfl cs _ (HBX.out.range 0 _ [] (by simp)) Tryz.underlying27 rfl (by rw [Tryz.sizeV]; exact congrArg some HL6.out.symm) ?_)
  refine HMY.out.mono ?_
  rintro e w2 ⟨rfl, k2⟩
  have HB2 := Lib.hid (HBX.out.below k2 HBX.out.lt)
  have HV2 := Lib.hid (HIV1.out.below k2)
  have HK2 := Lib.hid (HK1.out.trans (k2.mono HK1.out.size))
  have HLA2 := Lib.hid (HLA.out.below k2)
  clear k2 HMY HBX HIV1 HLA HK1
  obtain ⟨b, hb⟩ : ∃ b, b = w2.heap.size := ⟨_, rfl⟩
  obtain ⟨W3, hW3⟩ : ∃ W, W = w2.alloc (.cells #[.pointer none, .slice none 0 0] 78) := ⟨_, rfl⟩
  have bf : Bf b b [] W3 := by rw [hW3]; exact Bf.fresh w2 b hb
  have k3 : Below w2.heap.size w2 W3 := by rw [hW3]; exact (Below.refl _ _).alloc (Nat.le_refl _) _
  have HB3 := Lib.hid (HB2.out.below k3 HB2.out.lt)
  have hlt := bf.lt
  have HCA := Lib.hid (wrp 16 _ cs x W3 b b [] (HV2.out.below k3) HM.out (fun k hk => by have := HK2.out.size; omega) bf (by have := HZ.out; simpa using this) (Nat.le_of_lt hlt) (by have := HK2.out.size; have := H5.out; omega) (HLA2.out.below k3))
  have HK3 := Lib.hid (HK2.out.trans (k3.mono HK2.out.size))
  have HBW : Hid (w.heap.size ≤ b ∧ b ≤ W3.heap.size) := ⟨by have := HK2.out.size; omega, Nat.le_of_lt hlt⟩
  have E3 := Lib.hid hW3
  have EB := Lib.hid hb
  clear hW3 hb bf k3 hlt HB2 HV2 HLA2
  go_upto_region 4 with fail
  rw [← EB.out, ← E3.out]
  clear E3 EB
  go_wp2_with (refine wpList_load_mid rfl _ (.tmp 1) rfl gX 0 rfl cs _ (HB3.out.range 0 _ [] (by simp)) Tryz.underlying27 rfl (by rw [Tryz.sizeV]; exact congrArg some HL6.out.symm) ?_)
  refine HCA.out.mono ?_
  rintro e w4 ⟨rfl, p4⟩
  rw [List.nil_append] at p4
  have HK4 := Lib.hid (HK3.out.trans (p4.bel.mono HBW.out.1))
  have HS := Lib.hid (bStr_any b b _ w4 p4.bf (Nat.le_trans HBW.out.2 p4.bel.size))
  clear p4 HCA HB3
  go_wp2_with fail
  refine HS.out.mono ?_
  rintro e w5 ⟨rfl, _, k5⟩
  have HK5 := Lib.hid (HK4.out.trans (k5.mono HBW.out.1))
  clear k5 HS
  go_wp2
  go_ret
  exact ⟨rfl, HK5.out⟩

set_option maxHeartbeats 4000000 in
/-- A number that isn't one. -/
theorem write_far (n : Int) (w : World) (h : ¬ (-9007199254740991 ≤ n ∧ n ≤ 9007199254740991)) :
    Calls Tryz.prog 19 #[.agg (vcs 2 false n [] (.slice none 0 0) (.slice none 0 0)).toArray] w fun e w' => e = .returned (.string ⟨#[]⟩) ∧ Below w.heap.size w w' := by
  have k1 : Below w.heap.size w (w.alloc (.cells #[.int .i64 2, .bool false, .int .i64 n, .string ⟨#[]⟩, .slice none 0 0, .slice none 0 0] 27)) := (Below.refl _ _).alloc (Nat.le_refl _) _
  have HK1 := Lib.hid k1
  have HM := Lib.hid (may_far n (w.alloc (.cells #[.int .i64 2, .bool false, .int .i64 n, .string ⟨#[]⟩, .slice none 0 0, .slice none 0 0] 27)) h)
  rw [show (vcs 2 false n [] (.slice none 0 0) (.slice none 0 0)).toArray = #[.int .i64 2, .bool false, .int .i64 n, .string ⟨#[]⟩, .slice none 0 0, .slice none 0 0] from rfl] at HM ⊢
  clear h k1
  go_enter Tryz.func19, Tryz.ntmps19
  go_wp2_with fail
  refine HM.out.mono ?_
  rintro e w2 ⟨rfl, k2⟩
  have HK2 := Lib.hid (HK1.out.trans (k2.mono HK1.out.size))
  clear k2 HM
  go_wp2
  go_ret
  exact ⟨rfl, HK2.out⟩

end Go.Proofs.YtbgadfaiehkanaaGreatDoor

namespace Go.Proofs.YtbgadfaiehkanaaGreatDoor
open Go.RowKit Go.Proofs Go.Shelf
set_option linter.unusedVariables false
set_option maxRecDepth 100000

abbrev bm (nm : List UInt8) (k : Int) (b : Bool) (n : Int) (t : List UInt8) (a1 : Option Addr) (n1 e1 : Nat) (a2 : Option Addr) (n2 e2 : Nat) : Array Value := #[.string ⟨nm.toArray⟩, .int .i64 k, .bool b, .int .i64 n, .string ⟨t.toArray⟩, .slice a1 n1 e1, .slice a2 n2 e2]

set_option maxHeartbeats 2000000 in
theorem named_any (nm name : List UInt8) (k : Int) (b : Bool) (n : Int) (t : List UInt8) (a1 : Option Addr) (n1 e1 : Nat) (a2 : Option Addr) (n2 e2 : Nat) (gN : Nat) (w : World) (h : Blk w gN 9 [.string ⟨name.toArray⟩]) :
    Calls Tryz.prog 86 #[.agg (bm nm k b n t a1 n1 e1 a2 n2 e2), .pointer (some ⟨gN, 0, none⟩)] w fun e w' => e = .returned (.bool (nm == name)) ∧ Below w.heap.size w w' := by
  have k1 : Below w.heap.size w (w.alloc (.cells (bm nm k b n t a1 n1 e1 a2 n2 e2) 55)) := (Below.refl _ _).alloc (Nat.le_refl _) _
  have HK := Lib.hid k1
  have cN : (w.alloc (.cells (bm nm k b n t a1 n1 e1 a2 n2 e2) 55)).cell? ⟨gN, 0, none⟩ = some (.string ⟨name.toArray⟩) := (h.below k1 h.lt).cell 0
  obtain ⟨r, hr⟩ : ∃ r, r = (nm == name) := ⟨_, rfl⟩
  obtain ⟨X, hX⟩ : ∃ X : ByteArray, X = ⟨nm.toArray⟩ := ⟨_, rfl⟩
  obtain ⟨Y, hY⟩ : ∃ Y : ByteArray, Y = ⟨name.toArray⟩ := ⟨_, rfl⟩
  have hxy : (X.toList == Y.toList) = r := by rw [hX, hY, hr]; simp
  unfold bm at HK cN ⊢
  rw [← hX, ← hY] at cN
  rw [← hX] at HK ⊢
  rw [← hr]
  clear hX hY hr k1 h
  go_enter Tryz.func86, Tryz.ntmps86
  go_wp2
  go_ret
  exact ⟨rfl, HK.out⟩

/-- How slices.IndexFunc ends. -/
def IdxEnds (m : List (List UInt8 × M.GV)) (name : List UInt8) (e : Ending) : Prop :=
  (∃ i : Nat, i < m.length ∧ (m.getD i ([], M.vNull)).1 = name ∧ (∀ k, k < i → (m.getD k ([], M.vNull)).1 ≠ name) ∧ e = .returned (.int .i64 (i : Int))) ∨ (∀ k, k < m.length → (m.getD k ([], M.vNull)).1 ≠ name) ∧ e = .returned (.int .i64 (-1))

set_option maxHeartbeats 8000000 in
theorem idx_any (S : Nat → Prop) (d : Nat) (mv : Value) (m : List (List UInt8 × M.GV)) (ms : List (List Value)) (gN : Nat) (name : List UInt8) (w : World) (hr : MemRow S w d mv m ms) (hN : Blk w gN 9 [.string ⟨name.toArray⟩]) :
    Calls Tryz.prog 85 #[mv, .func (.func 86) #[] #[.pointer (some ⟨gN, 0, none⟩)]] w fun e w' => IdxEnds m name e ∧ Below w.heap.size w w' := by
  obtain ⟨ma, mc, hmv, hz⟩ := id hr.2.1
  subst hmv
  clear hz
  obtain ⟨ml, hmle⟩ : ∃ y, y = m.length := ⟨_, rfl⟩
  have HML := Lib.hid hmle
  have HR := Lib.hid hr
  have HN := Lib.hid hN
  have hmlb : (ml : Int) ≤ 9223372036854775807 := by obtain ⟨_, _, e, h1, h2, _⟩ := hr.2.1; unfold maxLen at h2; omega
  rw [← hmle]
  clear hr hN hmle
  go_enter Tryz.func85, Tryz.ntmps85
  go_wp2_with fail
  go_loopw [8] (fun i wr => ∃ j : Nat, i = .int .i64 (j : Int) ∧ Hid (j ≤ ml) ∧ Hid (∀ k, k < j → (m.getD k ([], M.vNull)).1 ≠ name) ∧ Hid (Below w.heap.size w wr)) (fun i _ => ml - (intOf i).toNat)
  case atStart => exact ⟨0, rfl, Nat.zero_le _, Lib.hid (fun k hk => absurd hk (Nat.not_lt_zero k)), Lib.hid (Below.refl _ _)⟩
  case round =>
    obtain ⟨wz, rfl⟩ : ∃ x, x = wr := ⟨_, rfl⟩
    obtain ⟨j, rfl, hj, NZ, KZ⟩ := hrel
    by_cases hlt : j < ml
    · have b1 : (j : Int) < (ml : Int) := by omega
      have hj0 : (0 : Int) ≤ (j : Int) := Int.natCast_nonneg j
      have HLT := Lib.hid hlt
      obtain ⟨g1, o1, c1, hla⟩ := row_some HR.out.2.1 (by rw [← HML.out]; exact hlt)
      injection hla with hla hln hlc
      clear hln
      subst hla hlc
      have hjl : j < m.length := by rw [← HML.out]; exact hlt
      have hrz := HR.out.below KZ.out
      obtain ⟨c, hcel, hiv⟩ := hrz.2.2 j hjl
      have hel := row_el hrz.2.1 (len_of hrz.1 fun i hi => by obtain ⟨c, e, iv⟩ := hrz.2.2 i hi; rw [e, List.length_cons, iv.len]) hrz.1 hjl
      obtain ⟨y, hy⟩ : ∃ y, y = m.getD j ([], M.vNull) := ⟨_, rfl⟩
      rw [hcel, ← hy] at hel
      rw [← hy] at hiv
      have HY := Lib.hid hy
      obtain ⟨a1, n1, e1, a2, n2, e2, hc⟩ := hiv.cells
      subst hc
      obtain ⟨nm, hnm⟩ : ∃ n, n = y.1 := ⟨_, rfl⟩
      rw [← hnm] at hel
      have HNM := Lib.hid hnm
      have HC := Lib.hid (named_any nm name y.2.k y.2.b y.2.n y.2.t a1 n1 e1 a2 n2 e2 gN wz (HN.out.below KZ.out HN.out.lt))
      obtain ⟨el, hl⟩ : ∃ l, l = Value.string ⟨nm.toArray⟩ :: vcs y.2.k y.2.b y.2.n y.2.t (.slice a1 n1 e1) (.slice a2 n2 e2) := ⟨_, rfl⟩
      have HE7 : Hid (el.length = 7) := by rw [hl]; rfl
      rw [← hl] at hel
      have HEL := Lib.hid hel
      rw [show bm nm y.2.k y.2.b y.2.n y.2.t a1 n1 e1 a2 n2 e2 = el.toArray from by rw [hl]; rfl] at HC
      clear hel hlt hj hjl hiv hy hcel hrz hnm hl
      cases hb : nm == name with
      | true =>
        rw [hb] at HC
        have HIS : Hid (IdxEnds m name (.returned (.int .i64 (j : Int)))) := .inl ⟨j, by rw [← HML.out]; exact HLT.out, by rw [← HY.out, ← HNM.out]; exact eq_of_beq hb, NZ.out, rfl⟩
        clear hb
        go_wp2_with (refine wpList_load_mid rfl _ (.tmp 14) rfl g1 (o1 + j * 7) rfl el _ HEL.out Tryz.underlying55 rfl (by rw [sizeM7]; exact congrArg some HE7.out.symm) ?_)
        refine HC.out.mono ?_
        rintro e w2 ⟨rfl, k2⟩
        have HK2 := Lib.hid (KZ.out.trans (k2.mono KZ.out.size))
        clear k2 HC
        go_wp2
        go_ret
        exact ⟨HIS.out, HK2.out⟩
      | false =>
        rw [hb] at HC
        have HNO : Hid (∀ k, k < j + 1 → (m.getD k ([], M.vNull)).1 ≠ name) := by
          intro k hk
          by_cases e : k = j
          · rw [e, ← HY.out, ← HNM.out]
            intro e2
            rw [e2] at hb
            simp at hb
          · exact NZ.out k (by omega)
        clear hb
        go_wp2_with (refine wpList_load_mid rfl _ (.tmp 14) rfl g1 (o1 + j * 7) rfl el _ HEL.out Tryz.underlying55 rfl (by rw [sizeM7]; exact congrArg some HE7.out.symm) ?_)
        refine HC.out.mono ?_
        rintro e w2 ⟨rfl, k2⟩
        have HK2 := Lib.hid (KZ.out.trans (k2.mono KZ.out.size))
        clear k2 HC
        go_wp2
        go_roundw
        case rel => exact ⟨j + 1, by go_num, HLT.out, HNO, HK2⟩
        case measure => have := HLT.out; simp [intOf]; omega
    · have b1 : ¬ (j : Int) < (ml : Int) := by omega
      have HIS : Hid (IdxEnds m name (.returned (.int .i64 (-1)))) := .inr ⟨fun k hk => NZ.out k (by rw [← HML.out] at hk; omega), rfl⟩
      clear hlt hj
      go_wp2
      go_ret
      exact ⟨HIS.out, KZ.out⟩

end Go.Proofs.YtbgadfaiehkanaaGreatDoor
