/-
  THE WALK OF orloptop.TopBoxes: it returns true, and writes nothing that was there. Conditions: the program's table of places lies as it was laid.
-/
import Derived.Test.YtdojalhaklkegaaDoorTopSealing
import Derived.Test.YtdojalhaklkegaaDoorOpenTop
import Derived.Test.YtdojalhaklkegaaDoorRefA
import Derived.Deep.RegionHeld3
namespace Go.Proofs.YtdojalhaklkegaaDoor
open Go.RowKit
set_option linter.unusedVariables false
set_option maxRecDepth 100000

structure BoxAt (w : World) (g : Nat) (key nonce : List UInt8) (bv tv : Value) : Prop where
  blk : Blk w g 26 (boxC key nonce bv tv)
  kl : key.length = 32
  nl : nonce.length = 12

theorem BoxAt.below {w w' : World} {g : Nat} {key nonce : List UInt8} {bv tv : Value} (h : BoxAt w g key nonce bv tv) (k : Below w.heap.size w w') : BoxAt w' g key nonce bv tv := ⟨h.blk.below k h.blk.lt, h.kl, h.nl⟩

theorem BoxAt.key {w : World} {g : Nat} {key nonce : List UInt8} {bv tv : Value} (h : BoxAt w g key nonce bv tv) : IsB w (.slice (some ⟨g, 0, none⟩) 32 32) key := by
  refine ⟨_, 32, by rw [h.kl], by rw [h.kl]; exact Nat.le_refl _, by unfold maxLen; omega, .inr ⟨g, 0, rfl, fun i hi => ?_⟩⟩
  rw [Nat.zero_add, h.blk.cell, boxC, List.getElem?_append_left (by rw [byteCells_length]; exact hi), byteCells_getElem? key i hi]

theorem BoxAt.nonce {w : World} {g : Nat} {key nonce : List UInt8} {bv tv : Value} (h : BoxAt w g key nonce bv tv) : IsB w (.slice (some ⟨g, 32, none⟩) 12 12) nonce := by
  refine ⟨_, 12, by rw [h.nl], by rw [h.nl]; exact Nat.le_refl _, by unfold maxLen; omega, .inr ⟨g, 32, rfl, fun i hi => ?_⟩⟩
  rw [h.blk.cell, boxC, List.getElem?_append_right (by rw [byteCells_length, h.kl]; omega), byteCells_length, h.kl, Nat.add_sub_cancel_left, List.getElem?_append_left (by rw [byteCells_length]; exact hi), byteCells_getElem? nonce i hi]

theorem BoxAt.bes {w : World} {g : Nat} {key nonce : List UInt8} {bv tv : Value} (h : BoxAt w g key nonce bv tv) : w.cell? ⟨g, 44, none⟩ = some bv := by
  rw [h.blk.cell, boxC, List.getElem?_append_right (by rw [byteCells_length, h.kl]; decide), byteCells_length, h.kl, List.getElem?_append_right (by rw [byteCells_length, h.nl]; decide), byteCells_length, h.nl]
  rfl

theorem BoxAt.txt {w : World} {g : Nat} {key nonce : List UInt8} {bv tv : Value} (h : BoxAt w g key nonce bv tv) : w.cell? ⟨g, 45, none⟩ = some tv := by
  rw [h.blk.cell, boxC, List.getElem?_append_right (by rw [byteCells_length, h.kl]; decide), byteCells_length, h.kl, List.getElem?_append_right (by rw [byteCells_length, h.nl]; decide), byteCells_length, h.nl]
  rfl

theorem boxAt_new (w : World) (key nonce : List UInt8) (bv tv : Value) (hk : key.length = 32) (hn : nonce.length = 12) : BoxAt (w.alloc (.cells (boxC key nonce bv tv).toArray 26)) w.heap.size key nonce bv tv :=
  ⟨Blk.newAt _ _ _ _ _ rfl (by simp), hk, hn⟩

theorem tequal_yes (v1 v2 : Value) (bs : List UInt8) (w : World) (h1 : IsB w v1 bs) (h2 : IsB w v2 bs) :
    Calls Tryd.prog 12 #[v1, v2] w fun e w' => e = .returned (.bool true) ∧ Below w.heap.size w w' := by
  refine (equal_any v1 v2 bs bs w h1 h2).mono ?_
  rintro e w' ⟨rfl, n, rfl⟩
  exact ⟨by simp, below_draws w n⟩

namespace M
theorem box_nil (key nonce beside : List UInt8) : box key nonce beside [] = boxTag key nonce beside [] := by
  have h : hide key nonce [] = [] := List.eq_nil_of_length_eq_zero (by rw [hide_length]; rfl)
  rw [box, h, List.nil_append]

theorem u8_xor_self {x b : UInt8} (h : x ^^^ b = x) : b = 0 := by
  have h2 : x ^^^ (x ^^^ b) = x ^^^ x := by rw [h]
  rwa [← UInt8.xor_assoc, UInt8.xor_self, UInt8.zero_xor] at h2

theorem turned_one {T : List UInt8} {i : Nat} (hi : i < T.length) (b : UInt8) : T = T.set i (T.getD i 0 ^^^ b) ↔ b = 0 := by
  constructor
  · intro h
    have h2 := congrArg (fun l => l.getD i 0) h
    simp only [List.getD_eq_getElem?_getD, List.getElem?_set_self hi, Option.getD_some] at h2
    exact u8_xor_self h2.symm
  · rintro rfl
    rw [UInt8.xor_zero]
    refine List.ext_getElem? fun j => ?_
    by_cases e : j = i
    · subst e
      rw [List.getElem?_set_self hi, List.getD_eq_getElem?_getD, List.getElem?_eq_getElem hi, Option.getD_some]
    · rw [List.getElem?_set_ne (fun h => e h.symm)]
end M

theorem bcSet18 (xs : List UInt8) (i : Nat) (b : UInt8) : Lib.byteCells (xs.set i b) = (Lib.byteCells xs).set i (.int .u8 (b.toNat : Int)) := by
  simp [Lib.byteCells, List.map_set]

theorem Own.nofz18 {w : World} {B g n cap : Nat} {bs : List UInt8} (h : Own w B (.slice (some ⟨g, 0, none⟩) n cap) bs) {i : Nat} (hl : 0 < bs.length) : w.frozen? ⟨g, i, none⟩ = false := by
  rcases h.row.2 with ⟨e, hz⟩ | ⟨g', cap', cur, e, hb, hg, h1, h2, h3⟩
  · rw [e] at h; omega
  · injection e with e _ _
    injection e with e
    injection e with e _ _
    subst e
    exact frozen_of_row w g i cur _ hg

set_option maxHeartbeats 8000000 in
theorem topBoxes_walk (w : World) (hL : LaidP w) (key nonce : List UInt8) (bv tv : Value) (beside text : List UInt8) (hkl : key.length = 32) (hnl : nonce.length = 12) (hb : IsB w bv beside) (ht : IsB w tv text)
    (zb : ∀ n c, bv = .slice none n c → c = 0) (zt : ∀ n c, tv = .slice none n c → c = 0) (p : Nat) (hp : p < 256) (q : Nat) (hq : q < 256) :
    Calls Tryd.prog 3 #[.agg (boxC key nonce bv tv).toArray, .int .u8 (p : Int), .int .u8 (q : Int)] w fun e w' => e = .returned (.bool true) ∧ Below w.heap.size w w' := by
  have HB := Lib.hid hb
  have HT := Lib.hid ht
  have HL := Lib.hid hL
  have ZB := Lib.hid zb
  have ZT := Lib.hid zt
  obtain ⟨ab, cb, rfl⟩ := hb.shape
  obtain ⟨av, ct, rfl⟩ := ht.shape
  have hm1 : beside.length ≤ maxLen := by obtain ⟨_, _, _, h1, h2, _⟩ := hb; omega
  have hm2 : text.length ≤ maxLen := by obtain ⟨_, _, _, h1, h2, _⟩ := ht; omega
  unfold maxLen at hm1 hm2
  obtain ⟨nb, hnb⟩ : ∃ n, n = beside.length := ⟨_, rfl⟩
  obtain ⟨nt, hnt⟩ : ∃ n, n = text.length := ⟨_, rfl⟩
  have HNB := Lib.hid hnb
  have HNT := Lib.hid hnt
  rw [← hnb] at HB ZB hm1 ⊢
  rw [← hnt] at HT ZT hm2 ⊢
  obtain ⟨g, hg⟩ : ∃ g, g = w.heap.size := ⟨_, rfl⟩
  have HA0 : Hid (BoxAt (w.alloc (.cells (boxC key nonce (.slice ab nb cb) (.slice av nt ct)).toArray 26)) g key nonce (.slice ab nb cb) (.slice av nt ct)) := by rw [hg]; exact boxAt_new w key nonce _ _ hkl hnl
  have KB : Hid (Below w.heap.size w (w.alloc (.cells (boxC key nonce (.slice ab nb cb) (.slice av nt ct)).toArray 26))) := (Below.refl _ _).alloc (Nat.le_refl _) _
  obtain ⟨X, hX⟩ : ∃ X, Hid (X = (boxC key nonce (.slice ab nb cb) (.slice av nt ct)).toArray) := ⟨_, rfl⟩
  rw [← hX.out] at HA0 KB ⊢
  have HKL := Lib.hid hkl
  have HNL := Lib.hid hnl
  clear hnb hnt hb ht zb zt hkl hnl hL
  go_enter Tryd.func3, Tryd.ntmps3
  go_wp2_with fail
  rw [← hg]
  clear hg
  refine (sealing_any _ (HL.out.below KB.out HL.out.size)).mono ?_
  rintro e w1 ⟨rfl, k1⟩
  have A1 : Hid (BoxAt w1 g key nonce (.slice ab nb cb) (.slice av nt ct)) := HA0.out.below k1
  have K1 : Hid (Below w.heap.size w w1) := KB.out.trans (k1.mono KB.out.size)
  clear k1 KB HA0 hX
  have c44 := A1.out.bes
  have c45 := A1.out.txt
  by_cases hbig : 2000 < nb
  · go_wp2
    go_ret
    exact ⟨rfl, K1.out⟩
  by_cases hbig2 : 2000 < nt
  · go_wp2
    go_ret
    exact ⟨rfl, K1.out⟩
  obtain ⟨bx, hbx⟩ : ∃ x, Hid (x = M.box key nonce beside text) := ⟨_, rfl⟩
  obtain ⟨N, hN⟩ : ∃ N, N = nt + 16 := ⟨_, rfl⟩
  have HBL : Hid (bx.length = N) := by rw [Hid, hbx.out, M.box_length, hN, HNT.out]
  have hNI : (nt : Int) + 16 = (N : Int) := by omega
  obtain ⟨T, hT⟩ : ∃ x, Hid (x = M.box key nonce beside []) := ⟨_, rfl⟩
  have HTL : Hid (T.length = 16) := by rw [Hid, hT.out, M.box_length]; rfl
  have HS1 : Hid (beside.length + text.length + 16 ≤ 70368744177600) := by rw [Hid, ← HNB.out, ← HNT.out]; omega
  have CS : Hid (∀ W (tv : Value) (t : List UInt8), Below w1.heap.size w1 W → IsB W tv t → t.length ≤ text.length → Calls Tryd.prog 10 #[.slice (some ⟨g, 0, none⟩) 32 32, .slice (some ⟨g, 32, none⟩) 12 12, .slice ab nb cb, tv] W.drew fun e w' =>
      ∃ r, e = .returned (.tuple #[r, .int .i64 0]) ∧ Own w' W.heap.size r (M.box key nonce beside t) ∧ Below W.heap.size W w') := by
    intro W tv t k1 h hle
    have k := below_draws W 1
    have k0 := K1.out.trans (k1.mono K1.out.size)
    have hs := HS1.out
    refine (aseal_any _ _ _ tv key nonce beside t W.drew (HL.out.below (k0.trans (k.mono k0.size)) HL.out.size) ((A1.out.below k1).key.below k) ((A1.out.below k1).nonce.below k) ((HB.out.below k0).below k) (h.below k) HKL.out HNL.out ZB.out (by omega)).mono ?_
    rintro e w' ⟨r, rfl, o, b⟩
    exact ⟨r, rfl, o, k.trans b⟩
  have CO : Hid (∀ W (v : Value) (x : List UInt8), Below w1.heap.size w1 W → IsB W v x → (∀ n c, v = .slice none n c → c = 0) → ∀ m, m + 16 = x.length → m ≤ text.length → Calls Tryd.prog 11 #[.slice (some ⟨g, 0, none⟩) 32 32, .slice (some ⟨g, 32, none⟩) 12 12, .slice ab nb cb, v] W.drew fun e w' =>
      (M.boxTag key nonce beside (x.take m) = x.drop m → ∃ r, e = .returned (.tuple #[r, .int .i64 0]) ∧ Own w' W.heap.size r (M.hide key nonce (x.take m))) ∧
      (¬ M.boxTag key nonce beside (x.take m) = x.drop m → e = .returned (.tuple #[.slice none 0 0, .int .i64 7])) ∧ Below W.heap.size W w') := by
    intro W v x k1 h z m hm hle
    have k := below_draws W 1
    have k0 := K1.out.trans (k1.mono K1.out.size)
    have hs := HS1.out
    refine (open_any _ _ _ v key nonce beside x W.drew (HL.out.below (k0.trans (k.mono k0.size)) HL.out.size) ((A1.out.below k1).key.below k) ((A1.out.below k1).nonce.below k) ((HB.out.below k0).below k) (h.below k) HKL.out HNL.out ZB.out z (by omega) m hm).mono ?_
    rintro e w' ⟨h1, h2, b⟩
    exact ⟨h1, h2, k.trans b⟩
  clear hN
  have S1 : Hid (∀ w', Below w1.heap.size w1 w' → w'.cell? ⟨g, 44, none⟩ = some (.slice ab nb cb) ∧ w'.cell? ⟨g, 45, none⟩ = some (.slice av nt ct)) := fun w' k => ⟨(A1.out.below k).bes, (A1.out.below k).txt⟩
  have X1 := Lib.hid (CS.out w1 (.slice av nt ct) text (Below.refl _ _) (HT.out.below K1.out) (Nat.le_refl _))
  rw [← hbx.out] at X1
  go_wp2
  go_region_held3 (fun w' => w'.cell? ⟨g, 44, none⟩ = some (.slice ab nb cb) ∧ w'.cell? ⟨g, 45, none⟩ = some (.slice av nt ct))
    (first | exact S1.out _ (below_draws _ 1) | exact S1.out _ k2)
    (first | (go_at_call 10; refine X1.out.mono ?_; rintro e w2 ⟨r2, rfl, o2, k2⟩))
  obtain ⟨g2, c2, rfl, _⟩ := o2.shape (by rw [HBL.out]; omega)
  rw [HBL.out] at o2 ⊢
  have O2 := Lib.hid o2
  have K2 := Lib.hid k2
  clear o2 k2 X1 c44 c45
  have S2 : Hid (∀ w', Below w2.heap.size w2 w' → w'.cell? ⟨g, 44, none⟩ = some (.slice ab nb cb) ∧ w'.cell? ⟨g, 45, none⟩ = some (.slice av nt ct)) := fun w' k => S1.out w' (K2.out.trans (k.mono K2.out.size))
  have X2 : Hid (Calls Tryd.prog 11 #[.slice (some ⟨g, 0, none⟩) 32 32, .slice (some ⟨g, 32, none⟩) 12 12, .slice ab nb cb, .slice (some ⟨g2, 0, none⟩) N c2] w2.drew fun e w' =>
      ∃ r, e = .returned (.tuple #[r, .int .i64 0]) ∧ Own w' w2.heap.size r text ∧ Below w2.heap.size w2 w') := by
    refine (CO.out w2 _ bx K2.out O2.out.isB O2.out.nil0 text.length (by rw [hbx.out, M.box_length]) (Nat.le_refl _)).mono ?_
    rintro e w' ⟨h, _, k⟩
    rw [hbx.out] at h
    obtain ⟨r, rfl, o⟩ := h (by rw [M.box_take, M.box_drop])
    rw [M.box_opens] at o
    exact ⟨r, rfl, o, k⟩
  go_wp2
  go_region_held3 (fun w' => w'.cell? ⟨g, 44, none⟩ = some (.slice ab nb cb) ∧ w'.cell? ⟨g, 45, none⟩ = some (.slice av nt ct))
    (first | exact S2.out _ (below_draws _ 1) | exact S2.out _ k3)
    (first | (go_at_call 11; refine X2.out.mono ?_; rintro e w3 ⟨r3, rfl, o3, k3⟩))
  have O3 := Lib.hid o3
  have K3 : Hid (Below w1.heap.size w1 w3) := K2.out.trans (k3.mono K2.out.size)
  obtain ⟨_, c45⟩ := S2.out w3 k3
  clear o3 k3 X2 S2
  have CE := Lib.hid (tequal_yes r3 (.slice av nt ct) text w3 O3.out.isB ((HT.out.below K1.out).below K3.out))
  go_wp2_with fail
  refine CE.out.mono ?_
  rintro e w4 ⟨rfl, k4⟩
  have K4 : Hid (Below w1.heap.size w1 w4) := K3.out.trans (k4.mono K3.out.size)
  clear c45 k4 CE O3 K3 O2
  obtain ⟨c44, c45⟩ := S1.out w4 K4.out
  have X3 := Lib.hid (CS.out w4 (.slice none 0 0) [] K4.out (IsB.nil w4) (Nat.zero_le _))
  rw [← hT.out] at X3
  have S4 : Hid (∀ w', Below w4.heap.size w4 w' → w'.cell? ⟨g, 44, none⟩ = some (.slice ab nb cb) ∧ w'.cell? ⟨g, 45, none⟩ = some (.slice av nt ct)) := fun w' k => S1.out w' (K4.out.trans (k.mono K4.out.size))
  go_wp2
  go_region_held3 (fun w' => w'.cell? ⟨g, 44, none⟩ = some (.slice ab nb cb) ∧ w'.cell? ⟨g, 45, none⟩ = some (.slice av nt ct))
    (first | exact S4.out _ (below_draws _ 1) | exact S4.out _ k5)
    (first | (go_at_call 10; refine X3.out.mono ?_; rintro e w5 ⟨r5, rfl, o5, k5⟩))
  obtain ⟨g5, c5, rfl, hg5⟩ := o5.shape (by rw [HTL.out]; decide)
  rw [HTL.out] at o5 ⊢
  clear c44 c45 X3 S4
  obtain ⟨i, hi⟩ : ∃ n, n = p % 16 := ⟨_, rfl⟩
  have hi16 : i < 16 := by omega
  have hrem : (p : Int).tmod 16 = (i : Int) := by rw [hi]; rfl
  obtain ⟨c, hc⟩ : ∃ c, c = (T.getD i 0).toNat := ⟨_, rfl⟩
  obtain ⟨y, hy⟩ : ∃ y, y = (T.getD i 0 ^^^ UInt8.ofNat q) := ⟨_, rfl⟩
  have hqn : (UInt8.ofNat q).toNat = q := by rw [UInt8.toNat_ofNat', Nat.mod_eq_of_lt (show q < 2 ^ 8 from hq)]
  have yx : bits BinOp.xor IntKind.u8 (c : Int) (q : Int) = (y.toNat : Int) := by
    rw [hc, hy, UInt8.toNat_xor, hqn]
    exact u8_xor_nat _ _ (UInt8.toNat_lt _) hq
  have hfz : w5.frozen? ⟨g5, i, none⟩ = false := o5.nofz18 (by rw [HTL.out]; decide)
  have h0 := o5.row
  rw [HTL.out] at h0
  have hck : w5.cell? ⟨g5, i, none⟩ = some (.int .u8 (c : Int)) := by
    rw [h0.cellAt i (by omega), byteCells_getElem? _ _ (by rw [HTL.out]; exact hi16), hc]
  have hst := (h0.stored i (.int .u8 (y.toNat : Int))).1
  have i0 : (0 : Int) ≤ (i : Int) := by omega
  have i1 : (i : Int) < (16 : Int) := by omega
  have HST2 := Lib.hid hst
  have K5 := Lib.hid k5
  have HG5 := Lib.hid hg5
  have HI := Lib.hid hi16
  have HY := Lib.hid hy
  have HQ := Lib.hid hqn
  clear hi hc hy o5 k5 hst h0 hg5 hqn
  go_upto_region 13 with fail
  obtain ⟨wS, hwS⟩ : ∃ x, x = w5.setCell ⟨g5, i, none⟩ (.int .u8 (y.toNat : Int)) := ⟨_, rfl⟩
  rw [← hwS]
  have OS : Own wS w4.heap.size (.slice (some ⟨g5, 0, none⟩) 16 c5) (T.set i y) := by
    rw [hwS, Own, List.length_set, HTL.out, bcSet18]
    exact HST2.out
  have KS : Hid (Below w1.heap.size w1 wS) := by
    rw [hwS]
    exact (K4.out.trans (K5.out.mono K4.out.size)).setCell (p := ⟨g5, i, none⟩) (Nat.le_trans K4.out.size HG5.out) _
  have X4 := CO.out wS _ (T.set i y) KS.out OS.isB OS.nil0 0 (by rw [List.length_set, HTL.out]) (Nat.zero_le _)
  have hiff : (M.boxTag key nonce beside ((T.set i y).take 0) = (T.set i y).drop 0) ↔ q = 0 := by
    rw [List.take_zero, List.drop_zero, ← M.box_nil, ← hT.out, HY.out]
    rw [M.turned_one (by rw [HTL.out]; exact HI.out)]
    constructor
    · intro h
      have := congrArg UInt8.toNat h
      rw [HQ.out] at this
      exact this
    · rintro rfl
      rfl
  have S5 : Hid (∀ w', Below wS.heap.size wS w' → w'.cell? ⟨g, 44, none⟩ = some (.slice ab nb cb) ∧ w'.cell? ⟨g, 45, none⟩ = some (.slice av nt ct)) := fun w' k => S1.out w' (KS.out.trans (k.mono KS.out.size))
  clear hwS OS hck hfz hrem i0 i1 yx HST2
  by_cases hz : q = 0
  · have X5 : Hid (Calls Tryd.prog 11 #[.slice (some ⟨g, 0, none⟩) 32 32, .slice (some ⟨g, 32, none⟩) 12 12, .slice ab nb cb, .slice (some ⟨g5, 0, none⟩) 16 c5] wS.drew fun e w' => ∃ r, e = .returned (.tuple #[r, .int .i64 0]) ∧ Below wS.heap.size wS w') := by
      refine X4.mono ?_
      rintro e w' ⟨h, _, k⟩
      obtain ⟨r, rfl, _⟩ := h (hiff.2 hz)
      exact ⟨r, rfl, k⟩
    clear X4 hiff
    subst hz
    go_wp2
    go_region_held3 (fun w' => w'.cell? ⟨g, 44, none⟩ = some (.slice ab nb cb) ∧ w'.cell? ⟨g, 45, none⟩ = some (.slice av nt ct))
      (first | exact S5.out _ (below_draws _ 1) | exact S5.out _ k6)
      (first | (go_at_call 11; refine X5.out.mono ?_; rintro e w6 ⟨r6, rfl, k6⟩))
    have K6 : Below w.heap.size w w6 := (K1.out.trans (KS.out.mono K1.out.size)).trans (k6.mono (K1.out.trans (KS.out.mono K1.out.size)).size)
    go_wp2
    go_ret
    exact ⟨rfl, K6⟩
  · have X5 : Hid (Calls Tryd.prog 11 #[.slice (some ⟨g, 0, none⟩) 32 32, .slice (some ⟨g, 32, none⟩) 12 12, .slice ab nb cb, .slice (some ⟨g5, 0, none⟩) 16 c5] wS.drew fun e w' => e = .returned (.tuple #[.slice none 0 0, .int .i64 7]) ∧ Below wS.heap.size wS w') := by
      refine X4.mono ?_
      rintro e w' ⟨_, h, k⟩
      exact ⟨h (fun h => hz (hiff.1 h)), k⟩
    clear X4 hiff
    have hzb : ((q : Int) == 0) = false := by
      rw [beq_eq_false_iff_ne]
      omega
    go_wp2
    go_region_held3 (fun w' => w'.cell? ⟨g, 44, none⟩ = some (.slice ab nb cb) ∧ w'.cell? ⟨g, 45, none⟩ = some (.slice av nt ct))
      (first | exact S5.out _ (below_draws _ 1) | exact S5.out _ k6)
      (first | (go_at_call 11; refine X5.out.mono ?_; rintro e w6 ⟨rfl, k6⟩))
    have K6 : Below w.heap.size w w6 := (K1.out.trans (KS.out.mono K1.out.size)).trans (k6.mono (K1.out.trans (KS.out.mono K1.out.size)).size)
    go_wp2
    go_ret
    exact ⟨rfl, K6⟩

end Go.Proofs.YtdojalhaklkegaaDoor
