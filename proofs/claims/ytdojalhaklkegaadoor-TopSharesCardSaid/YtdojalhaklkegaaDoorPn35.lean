/-
  CONTRACTS OF mac.keyBlock, mac.under's two closures, mac.under, mac.Mac AND mac.Extract. Conditions: the program's two tables of layer 2 lie as they were laid.
  CONTRACT OF mac.under's FIRST CLOSURE (what digests a block, each byte exclusive or a mask, and parts). Conditions: the program's two tables of layer 2 lie as they were laid; the block lies where the closure holds it.
  CONTRACTS OF mac.under's SECOND CLOSURE, mac.under, mac.Mac AND mac.Extract. Conditions: the program's two tables of layer 2 lie as they were laid.
-/
import Derived.Test.YtdojalhaklkegaaDoorPn33
import Derived.Test.YtdojalhaklkegaaDoorPn34
import Derived.Deep.RegionHeld3
import Derived.Lib.Hide
import Derived.Laws.EntriesVeiled

set_option maxRecDepth 100000
namespace Go.Proofs.YtdojalhaklkegaaDoor
open Go.RowKit
set_option linter.unusedVariables false

theorem b_xor (a b : UInt8) : bits BinOp.xor .u8 (a.toNat : Int) (b.toNat : Int) = ((a ^^^ b).toNat : Int) := by
  rw [u8_xor_nat _ _ a.toNat_lt b.toNat_lt, UInt8.toNat_xor]

/-- The cells behind a copy into zeros. -/
theorem splice_zeros (bs : List UInt8) (n : Nat) (h : bs.length ≤ n) : splice (List.replicate n (.int .u8 0)) 0 (Lib.byteCells bs) = Lib.byteCells (bs ++ List.replicate (n - bs.length) 0) := by
  simp [splice, Lib.byteCells]

theorem bytes_oneCell' (bs : List UInt8) : ∀ v ∈ (Lib.byteCells bs).toArray.toList, v.oneCell' = true := by
  intro v hv
  exact byteCells_oneCell bs v (by simpa using hv)

theorem keyBlock_tail (g : Nat) (bs : List UInt8) : ∀ w : World, Blk w g 101 (splice (List.replicate 64 (.int .u8 0)) 0 (Lib.byteCells bs)) → bs.length ≤ 64 → w.rangeAt g 0 (Lib.byteCells (bs ++ List.replicate (64 - bs.length) 0)) := by
  intro w h hl
  rw [splice_zeros bs 64 hl] at h
  exact h.range 0 _ [] (by simp)

theorem keyBlock_any (v : Value) (bs : List UInt8) (w : World) (hL : Laid w) (hv : IsB w v bs) (hlen : bs.length ≤ 562949953421312) :
    Calls Tryd.prog 99 #[v] w fun e w' => e = .returned (.agg (Lib.byteCells (M.block bs)).toArray) ∧ Below w.heap.size w w' := by
  obtain ⟨ao, cap, rfl⟩ : ∃ ao cap, v = .slice ao bs.length cap := by
    obtain ⟨ao, cap, e, _⟩ := hv
    exact ⟨ao, cap, e⟩
  have HV : Hid (IsB w (.slice ao bs.length cap) bs) := hv
  have HL : Hid (Laid w) := hL
  obtain ⟨C, hC⟩ : ∃ C, C = M.block bs := ⟨_, rfl⟩
  rw [← hC]
  have HCL : Hid (C.length = 64) := by rw [Hid, hC]; exact M.block_length bs
  have HC : Hid (C = M.block bs) := hC
  clear hv hL hC
  by_cases hk : 64 < bs.length
  · go_enter Tryd.func99, Tryd.ntmps99
    go_wp2_with fail
    refine (of_any _ bs _ (HL.out.below ((Below.refl _ _).alloc (Nat.le_refl _) _) HL.out.size) (HV.out.below ((Below.refl _ _).alloc (Nat.le_refl _) _)) hlen).mono ?_
    rintro e w1 ⟨r1, rfl, o1, b1⟩
    have hb0 : Blk w1 w.heap.size 101 (List.replicate 64 (.int .u8 0)) := (Blk.newAt _ _ _ _ _ rfl rfl).below b1 (by simp)
    have k1 : Below w.heap.size w w1 := ((Below.refl _ _).alloc (Nat.le_refl _) _).trans (b1.mono (by simp))
    obtain ⟨D, hD⟩ : ∃ D, D = M.sha bs := ⟨_, rfl⟩
    have hDl : D.length = 32 := by rw [hD]; exact M.sha_length bs
    have HCD : Hid (C = D ++ List.replicate (64 - D.length) 0) := by rw [Hid, HC.out, hD, M.block, M.keyHead, if_pos hk]
    rw [← hD] at o1
    obtain ⟨g1, c1, rfl, _⟩ := o1.shape (by omega)
    have O1 : Hid (Own w1 (w.alloc (.cells #[] 0)).heap.size (.slice (some ⟨g1, 0, none⟩) D.length c1) D) := by
      simpa [Hid] using o1
    have HB0 : Hid (Blk w1 w.heap.size 101 (List.replicate 64 (.int .u8 0))) := hb0
    have HDL : Hid (D.length = 32) := hDl
    have hw1 : w.heap.size < w1.heap.size := hb0.lt
    rw [hDl]
    clear b1 hD o1 hb0 hDl
    go_wp2_with (refine wpList_copy_blk rfl (.tmp 9) (.tmp 10) 24 24 rfl 5 Tryd.underlying24 (by kernel_rfl) (some ⟨w1.heap.size, 0, none⟩) (some ⟨g1, 0, none⟩) 64 64 32 c1 rfl rfl w1.heap.size 0 (List.replicate 64 (.int .u8 0)) 101 (Blk.newAt _ _ _ _ _ rfl rfl) (Lib.byteCells D) (by rw [byteCells_length, HDL.out]; rfl) (fun _ => ⟨rfl, _, rfl, ?p2⟩) (by rw [byteCells_length, HDL.out]; decide) (byteCells_oneCell _) ?_)
    case p2 => exact ((O1.out.below ((Below.refl _ _).alloc (Nat.le_refl _) _))).cells
    intro w2 hb2 ho2
    have B3 : Blk w2 w.heap.size 101 (List.replicate 64 (.int .u8 0)) := (HB0.out.alloc _).grown ho2 (by intro e; injection e with e; omega)
    have R3 : Hid (w2.rangeAt w1.heap.size 0 (Lib.byteCells C)) := by rw [Hid, HCD.out]; exact keyBlock_tail _ D _ hb2 (by rw [HDL.out]; decide)
    have H3 : Hid (Blk w2 w.heap.size 101 (List.replicate 64 (.int .u8 0))) := B3
    clear B3 hb2
    go_wp2_with (first
      | (refine wpList_load_mid rfl 101 (.tmp 3) rfl w1.heap.size 0 rfl (Lib.byteCells C) _ R3.out Tryd.underlying101 rfl (by rw [byteCells_length, HCL.out]; kernel_rfl) ?_)
      | (refine wpList_store_blk rfl 101 (.tmp 2) (.tmp 12) rfl w.heap.size (Lib.byteCells C).toArray rfl rfl 101 (List.replicate 64 (.int .u8 0)) H3.out (by rw [List.size_toArray, byteCells_length, HCL.out]; kernel_rfl) (by rw [List.size_toArray, byteCells_length, HCL.out, List.length_replicate]) (bytes_oneCell' C) ?_; intro w3 hb3 ho3))
    have k3 : Below w.heap.size w w3 := ((k1.alloc (Nat.le_of_lt hw1) _).trans (ho2.below (by simp; omega) (by omega))).trans (ho3.below (Nat.le_trans (by simp; omega) ho2.size) (Nat.le_refl _))
    exact bodyPost_ret (results_cell_row rfl _ _ w.heap.size _ _ _ _ rfl hb3 Tryd.underlying101 rfl (by rw [Array.toArray_toList, List.size_toArray, byteCells_length, HCL.out]; kernel_rfl)) rfl ⟨by rw [Array.toArray_toList], k3⟩
  · have HCD : Hid (C = bs ++ List.replicate (64 - bs.length) 0) := by rw [Hid, HC.out, M.block, M.keyHead, if_neg hk]
    have hk2 : bs.length ≤ 64 := by omega
    go_enter Tryd.func99, Tryd.ntmps99
    go_wp2_with (refine wpList_copy_blk rfl (.tmp 9) (.tmp 10) 24 24 rfl 5 Tryd.underlying24 (by kernel_rfl) (some ⟨w.heap.size + 1, 0, none⟩) ao 64 64 bs.length cap rfl rfl (w.heap.size + 1) 0 (List.replicate 64 (.int .u8 0)) 101 (Blk.newAt _ _ _ _ _ (by simp) rfl) (Lib.byteCells bs) (by rw [byteCells_length]; exact (Nat.min_eq_left hk2).symm) ?p2 (by rw [byteCells_length, List.length_replicate]; omega) (byteCells_oneCell _) ?_)
    case p2 =>
      intro hpos
      try refine ⟨rfl, ?_⟩
      have h := (HV.out.below ((Below.refl w.heap.size w).alloc (Nat.le_refl _) (.cells (Array.replicate 64 (.int .u8 0)) 101))).below ((Below.refl _ _).alloc (Nat.le_refl _) (.cells (Array.replicate 64 (.int .u8 0)) 101))
      obtain ⟨_, hn, hc⟩ := h.cells
      cases ao with
      | none =>
        rw [hn rfl] at hpos
        simp [Lib.byteCells] at hpos
      | some ad => exact ⟨ad, rfl, hc ad rfl⟩
    intro w2 hb2 ho2
    have B3 : Blk w2 w.heap.size 101 (List.replicate 64 (.int .u8 0)) := ((Blk.newAt _ _ _ _ _ rfl rfl).alloc _).grown ho2 (by intro e; injection e with e; omega)
    have R3 : Hid (w2.rangeAt (w.heap.size + 1) 0 (Lib.byteCells C)) := by rw [Hid, HCD.out]; exact keyBlock_tail _ bs _ hb2 hk2
    have H3 : Hid (Blk w2 w.heap.size 101 (List.replicate 64 (.int .u8 0))) := B3
    clear B3 hb2
    go_wp2_with (first
      | (refine wpList_load_mid rfl 101 (.tmp 3) rfl (w.heap.size + 1) 0 rfl (Lib.byteCells C) _ R3.out Tryd.underlying101 rfl (by rw [byteCells_length, HCL.out]; kernel_rfl) ?_)
      | (refine wpList_store_blk rfl 101 (.tmp 2) (.tmp 12) rfl w.heap.size (Lib.byteCells C).toArray rfl rfl 101 (List.replicate 64 (.int .u8 0)) H3.out (by rw [List.size_toArray, byteCells_length, HCL.out]; kernel_rfl) (by rw [List.size_toArray, byteCells_length, HCL.out, List.length_replicate]) (bytes_oneCell' C) ?_; intro w3 hb3 ho3))
    have k3 : Below w.heap.size w w3 := ((((Below.refl _ _).alloc (Nat.le_refl _) _).alloc (by simp) _).trans (ho2.below (by simp; omega) (by omega))).trans (ho3.below (Nat.le_trans (by simp; omega) ho2.size) (Nat.le_refl _))
    exact bodyPost_ret (results_cell_row rfl _ _ w.heap.size _ _ _ _ rfl hb3 Tryd.underlying101 rfl (by rw [Array.toArray_toList, List.size_toArray, byteCells_length, HCL.out]; kernel_rfl)) rfl ⟨by rw [Array.toArray_toList], k3⟩

end Go.Proofs.YtdojalhaklkegaaDoor

set_option maxRecDepth 100000
namespace Go.Proofs.YtdojalhaklkegaaDoor
open Go.RowKit
set_option linter.unusedVariables false

/-- The value is a slice of rows of bytes. -/
def Parts (w : World) (v : Value) (ls : List (List UInt8)) : Prop :=
  ∃ ao cap, v = .slice ao ls.length cap ∧ ls.length ≤ maxLen ∧ (ls = [] ∨ ∃ b off, ao = some ⟨b, off, none⟩ ∧ ∀ i, i < ls.length → ∃ x, w.cell? ⟨b, off + i, none⟩ = some x ∧ IsB w x (ls.getD i []))

theorem Parts.below {w w' : World} {v : Value} {ls : List (List UInt8)} (h : Parts w v ls) (k : Below w.heap.size w w') : Parts w' v ls := by
  obtain ⟨ao, cap, rfl, hl, h⟩ := h
  refine ⟨ao, cap, rfl, hl, ?_⟩
  rcases h with h | ⟨b, off, rfl, h⟩
  · exact .inl h
  · refine .inr ⟨b, off, rfl, fun i hi => ?_⟩
    obtain ⟨x, h1, h2⟩ := h i hi
    exact ⟨x, by rw [k.cell (by exact World.block_lt_of_cell? w _ h1), h1], h2.below k⟩

theorem isB_blk {w : World} {g : Nat} {t : TypeId} {bs : List UInt8} (h : Blk w g t (Lib.byteCells bs)) (hm : bs.length ≤ maxLen) : IsB w (.slice (some ⟨g, 0, none⟩) bs.length bs.length) bs := by
  refine ⟨_, bs.length, rfl, Nat.le_refl _, hm, .inr ⟨g, 0, rfl, fun i hi => ?_⟩⟩
  rw [h.cell, Nat.zero_add, byteCells_getElem? bs i hi]

theorem off_blk {g g' n c : Nat} (h : g ≠ g') : Off (.slice (some ⟨g, 0, none⟩) n c) g' := by
  intro ad n c e _
  injection e with e1
  injection e1 with e1
  rw [← e1]
  exact h

/-- The block behind k rounds. -/
def masked (c : UInt8) (b : List UInt8) (k : Nat) : List UInt8 := M.mask c (b.take k) ++ b.drop k

theorem masked_set (c : UInt8) (b : List UInt8) (k : Nat) (h : k < b.length) : (Lib.byteCells (masked c b k)).set k (.int .u8 (bits BinOp.xor .u8 ((b.getD k 0).toNat : Int) (c.toNat : Int))) = Lib.byteCells (masked c b (k + 1)) := by
  have hl : (M.mask c (b.take k)).length = k := by rw [M.mask_length, List.length_take]; omega
  have e : b.getD k 0 = b[k] := by simp [h]
  rw [b_xor, e, masked, masked, byteCells_append, byteCells_append, List.set_append_right _ _ (by rw [byteCells_length, hl]; exact Nat.le_refl _), byteCells_length, hl, Nat.sub_self, List.drop_eq_getElem_cons h, List.take_succ_eq_append_getElem h]
  rw [show M.mask c (b.take k ++ [b[k]]) = M.mask c (b.take k) ++ [b[k] ^^^ c] from List.map_append, byteCells_append, List.append_assoc]
  rfl

theorem masked_get (c : UInt8) (b : List UInt8) (k : Nat) (h : k < b.length) : (Lib.byteCells (masked c b k))[k]? = some (.int .u8 ((b.getD k 0).toNat : Int)) := by
  have hl : (M.mask c (b.take k)).length = k := by rw [M.mask_length, List.length_take]; omega
  rw [masked, byteCells_append, List.getElem?_append_right (by rw [byteCells_length, hl]; exact Nat.le_refl _), byteCells_length, hl, Nat.sub_self, byteCells_getElem? _ 0 (by rw [List.length_drop]; omega)]
  simp

theorem flatten_take (ls : List (List UInt8)) (k : Nat) (h : k < ls.length) : (ls.take (k + 1)).flatten = (ls.take k).flatten ++ ls.getD k [] := by
  rw [List.take_succ_eq_append_getElem h, List.flatten_append]
  simp [h]

theorem flatten_take_le (ls : List (List UInt8)) (k : Nat) : (ls.take k).flatten.length ≤ ls.flatten.length := by
  have e := congrArg (fun l => (List.flatten l).length) (List.take_append_drop k ls)
  simp only [List.flatten_append, List.length_append] at e
  omega

set_option maxHeartbeats 1000000 in
theorem digest_any (c : UInt8) (ps : Value) (ls : List (List UInt8)) (g3 : Nat) (b : List UInt8) (w : World) (hL : Laid w) (hb : Blk w g3 101 (Lib.byteCells b)) (hbl : b.length = 64) (hp : Parts w ps ls)
    (hlen : ls.flatten.length ≤ 281474976710656) :
    Calls Tryd.prog 100 #[.int .u8 (c.toNat : Int), ps, .pointer (some ⟨g3, 0, none⟩)] w (Makes w (M.sha (M.mask c b ++ ls.flatten))) := by
  obtain ⟨ao, cap, rfl, hl, hat⟩ := hp
  obtain ⟨N, hN⟩ : ∃ N, N = ls.length := ⟨_, rfl⟩
  have HR : Hid (w.rangeAt g3 0 (Lib.byteCells b)) := hb.range 0 _ [] (by simp)
  have HBL : Hid (b.length = 64) := hbl
  have HL : Hid (Laid w) := hL
  have HAT : Hid (ls = [] ∨ ∃ b off, ao = some ⟨b, off, none⟩ ∧ ∀ i, i < ls.length → ∃ x, w.cell? ⟨b, off + i, none⟩ = some x ∧ IsB w x (ls.getD i [])) := hat
  rw [← hN] at hl ⊢
  have HN : Hid (N = ls.length) := hN
  have HLEN : Hid (ls.flatten.length ≤ 281474976710656) := hlen
  unfold maxLen at hl
  clear hb hL hat hN hbl hlen
  go_enter Tryd.func100, Tryd.ntmps100
  go_wp2_with (first
    | (refine wpList_load_mid rfl 101 (.tmp 2) rfl g3 0 rfl (Lib.byteCells b) _ HR.out Tryd.underlying101 rfl (by rw [byteCells_length, HBL.out]; kernel_rfl) ?_)
    | (refine wpList_store_blk rfl 101 (.tmp 6) (.tmp 11) rfl w.heap.size (Lib.byteCells b).toArray rfl rfl 101 (List.replicate 64 (.int .u8 0)) (Blk.newAt _ _ _ _ _ rfl rfl) (by rw [List.size_toArray, byteCells_length, HBL.out]; kernel_rfl) (by rw [List.size_toArray, byteCells_length, HBL.out, List.length_replicate]) (bytes_oneCell' b) ?_; intro w1 hb1 ho1))
  have B1 : Hid (Blk w1 w.heap.size 101 (Lib.byteCells (masked c b 0))) := by
    rw [Hid]
    refine hb1.eq_ ?_
    simp [masked, M.mask]
  have k1 : Below w.heap.size w w1 := ((Below.refl _ _).alloc (Nat.le_refl _) _).trans (ho1.below (by simp) (Nat.le_refl _))
  clear hb1 ho1
  go_loopw [12] (fun i wr => ∃ k : Nat, k ≤ 64 ∧ i = .int .i64 k ∧ Hid (Blk wr w.heap.size 101 (Lib.byteCells (masked c b k))) ∧ Below w.heap.size w wr)
    (fun i _ => 64 - (intOf i).toNat)
  case atStart => exact ⟨0, by omega, rfl, B1, k1⟩
  case round =>
    clear B1 k1
    rename_i wr
    obtain ⟨k, hk, rfl, hb, kk⟩ := hrel
    by_cases hlt : k < 64
    · have hc : wr.cell? ⟨w.heap.size, k, none⟩ = some (.int .u8 ((b.getD k 0).toNat : Int)) := by rw [hb.out.cell]; exact masked_get c b k (by rw [HBL.out]; exact hlt)
      have hf : wr.frozen? ⟨w.heap.size, k, none⟩ = false := hb.out.frozen k
      have hn : Hid (Blk (wr.setCell ⟨w.heap.size, k, none⟩ (.int .u8 (bits BinOp.xor .u8 ((b.getD k 0).toNat : Int) (c.toNat : Int)))) w.heap.size 101 (Lib.byteCells (masked c b (k + 1)))) :=
        (hb.out.set_ k _).eq_ (masked_set c b k (by rw [HBL.out]; exact hlt))
      obtain ⟨x, hx⟩ : ∃ x, x = b.getD k 0 := ⟨_, rfl⟩
      rw [← hx] at hc hn
      clear hx
      go_wp2
      go_roundw
      case rel => exact ⟨k + 1, by omega, by go_num, hn, kk.setCell (by simp) _⟩
      case measure => simp [intOf]; omega
    · obtain rfl : k = 64 := by omega
      obtain ⟨m, hm⟩ : ∃ m, m = M.mask c b := ⟨_, rfl⟩
      have hml : m.length = 64 := by rw [hm, M.mask_length]; exact HBL.out
      have hbm : Blk wr w.heap.size 101 (Lib.byteCells m) := hb.out.eq_ (by rw [masked, List.take_of_length_le (by rw [HBL.out]; exact Nat.le_refl _), List.drop_eq_nil_of_le (by rw [HBL.out]; exact Nat.le_refl _), List.append_nil, hm])
      obtain ⟨wA, rfl⟩ : ∃ x, x = wr := ⟨_, rfl⟩
      have HB : Hid (Blk wA w.heap.size 101 (Lib.byteCells m)) := hbm
      have hwA : w.heap.size < wA.heap.size := hbm.lt
      have HML : Hid (m.length = 64) := hml
      have HM : Hid (m = M.mask c b) := hm
      clear hm hbm hb hml
      go_wp2_with fail
      refine (new_any wA (HL.out.below kk HL.out.size)).mono ?_
      rintro e w2 ⟨rfl, hx, b2⟩
      have k2 : Below w.heap.size w w2 := kk.trans (b2.mono kk.size)
      have hg2 : 3 ≤ wA.heap.size := Nat.le_trans HL.out.size kk.size
      obtain ⟨gx, hgx⟩ : ∃ gx, gx = wA.heap.size := ⟨_, rfl⟩
      rw [← hgx] at hx hg2 hwA b2 ⊢
      have X2 : Hid (HashIs w2 gx []) := hx
      have HB2 : Hid (IsB w2 (.slice (some ⟨w.heap.size, 0, none⟩) 64 64) m) := by
        have := isB_blk (HB.out.below b2 (by omega)) (by rw [HML.out]; unfold maxLen; omega)
        rwa [HML.out] at this
      clear hx b2 hgx
      go_wp2_with fail
      refine (add_any gx [] m _ w2 (HL.out.below k2 HL.out.size) hg2 X2.out HB2.out (off_blk (by omega)) (by simp; have := HML.out; omega)).mono ?_
      rintro e w3 ⟨rfl, hx, o3⟩
      have k3 : Below w.heap.size w w3 := k2.trans (o3.below k2.size (by omega))
      have X3 : Hid (HashIs w3 gx (m ++ (ls.take 0).flatten)) := by simpa [Hid] using hx
      clear hx o3 X2 HB2
      go_wp2
      go_loopw [28] (fun i wz => ∃ k : Nat, k ≤ N ∧ i = .int .i64 k ∧ Hid (HashIs wz gx (m ++ (ls.take k).flatten)) ∧ Below w.heap.size w wz)
        (fun i _ => N - (intOf i).toNat)
      case atStart => exact ⟨0, by omega, rfl, X3, k3⟩
      case round =>
        clear X3 k3
        obtain ⟨wz, rfl⟩ : ∃ x, x = wr := ⟨_, rfl⟩
        obtain ⟨j, hj, rfl, hx, kz⟩ := hrel
        by_cases hlt2 : j < N
        · obtain ⟨bb, off, rfl, hcells⟩ : ∃ b off, ao = some ⟨b, off, none⟩ ∧ ∀ i, i < ls.length → ∃ x, w.cell? ⟨b, off + i, none⟩ = some x ∧ IsB w x (ls.getD i []) := by
            rcases HAT.out with h0 | h0
            · have := HN.out
              rw [h0] at this
              simp at this
              omega
            · exact h0
          obtain ⟨x, hxc, hxb⟩ := hcells j (by rw [← HN.out]; exact hlt2)
          have hxc2 : wz.cell? ⟨bb, off + j, none⟩ = some x := by rw [kz.cell (by exact World.block_lt_of_cell? w _ hxc), hxc]
          have XB : Hid (IsB w x (ls.getD j [])) := hxb
          have hsum : (m ++ (ls.take (j + 1)).flatten) = (m ++ (ls.take j).flatten) ++ ls.getD j [] := by
            rw [flatten_take ls j (by rw [← HN.out]; exact hlt2), List.append_assoc]
          have hb1 : (m ++ (ls.take j).flatten).length + (ls.getD j []).length ≤ 1125899906842624 := by
            have e := congrArg List.length hsum
            have e2 := flatten_take_le ls (j + 1)
            have e3 := HLEN.out
            have e4 := HML.out
            simp only [List.length_append] at e e2 ⊢
            omega
          have HSUM : Hid ((m ++ (ls.take (j + 1)).flatten) = (m ++ (ls.take j).flatten) ++ ls.getD j []) := hsum
          have HB1 := Lib.hid hb1
          clear hcells hxc hxb hsum hb1
          go_wp2_with fail
          refine (add_any gx _ (ls.getD j []) _ wz (HL.out.below kz HL.out.size) hg2 hx.out (XB.out.below kz) (XB.out.off (by omega)) HB1.out).mono ?_
          rintro e w4 ⟨rfl, hx4, o4⟩
          rw [← HSUM.out] at hx4
          have X4 : Hid (HashIs w4 gx (m ++ (ls.take (j + 1)).flatten)) := hx4
          have k4 : Below w.heap.size w w4 := kz.trans (o4.below kz.size (by omega))
          clear hx4 o4
          go_wp2
          go_roundw
          case rel => exact ⟨j + 1, by omega, by go_num, X4, k4⟩
          case measure => simp [intOf]; omega
        · obtain rfl : j = N := by omega
          have hx' := hx.out
          rw [HN.out, List.take_length] at hx'
          have X5 : Hid (HashIs wz gx (m ++ ls.flatten)) := hx'
          clear hx' hx
          go_wp2_with fail
          refine (sum_any gx (m ++ ls.flatten) wz (HL.out.below kz HL.out.size) X5.out (by have := HLEN.out; have := HML.out; rw [List.length_append]; omega)).mono ?_
          rintro e w6 ⟨r, rfl, o6, b6⟩
          go_wp2
          go_ret
          rw [← HM.out]
          exact ⟨r, rfl, o6.mono kz.size, kz.trans (b6.mono kz.size)⟩

end Go.Proofs.YtdojalhaklkegaaDoor

set_option maxRecDepth 100000
namespace Go.Proofs.YtdojalhaklkegaaDoor
open Go.RowKit
set_option linter.unusedVariables false

/-- The value tells codes under the block b. -/
def Coder (w : World) (v : Value) (b : List UInt8) : Prop :=
  ∃ g3 g4, v = .func (.func 104) #[] #[.pointer (some ⟨g4, 0, none⟩)] ∧
    w.cell? ⟨g4, 0, none⟩ = some (.func (.func 100) #[] #[.pointer (some ⟨g3, 0, none⟩)]) ∧ Blk w g3 101 (Lib.byteCells b) ∧ b.length = 64

theorem Coder.below {w w' : World} {v : Value} {b : List UInt8} (h : Coder w v b) (k : Below w.heap.size w w') : Coder w' v b := by
  obtain ⟨g3, g4, rfl, h1, h2, h3⟩ := h
  exact ⟨g3, g4, rfl, by rw [k.cell (by exact World.block_lt_of_cell? w _ h1), h1], h2.below k h2.lt, h3⟩

theorem under_any (v : Value) (key : List UInt8) (w : World) (hL : Laid w) (hv : IsB w v key) (hlen : key.length ≤ 562949953421312) :
    Calls Tryd.prog 71 #[v] w fun e w' => ∃ r, e = .returned r ∧ Coder w' r (M.block key) ∧ Below w.heap.size w w' := by
  have hmf : ∀ (fn : Fn) (first cap : Array Value) (w : World), (Instr.makeFunc fn first cap).run Tryd.prog w = .ok (.func fn first cap) w := fun _ _ _ _ => rfl
  have HC := Lib.hid (keyBlock_any v key w hL hv hlen)
  clear hL hv
  obtain ⟨b, hb⟩ : ∃ b, b = M.block key := ⟨_, rfl⟩
  have HBL : Hid (b.length = 64) := by rw [Hid, hb]; exact M.block_length key
  rw [← hb] at HC ⊢
  clear hb
  go_enter Tryd.func71, Tryd.ntmps71
  go_wp2_with fail
  refine HC.out.mono ?_
  rintro e w1 ⟨rfl, k1⟩
  go_wp2_with (refine wpList_store_blk rfl 101 (.tmp 3) (.tmp 6) rfl w1.heap.size (Lib.byteCells b).toArray rfl rfl 101 (List.replicate 64 (.int .u8 0)) (Blk.newAt _ _ _ _ _ rfl rfl) (by rw [List.size_toArray, byteCells_length, HBL.out]; kernel_rfl) (by rw [List.size_toArray, byteCells_length, HBL.out, List.length_replicate]) (bytes_oneCell' b) ?_; intro w2 hb2 ho2)
  go_ret
  have hl2 : w1.heap.size < w2.heap.size := hb2.lt
  have k2 : Below w.heap.size w w2 := (k1.alloc k1.size _).trans (ho2.below (by have := k1.size; simp; omega) k1.size)
  have hw2 : w.heap.size ≤ w2.heap.size := k2.size
  refine ⟨_, rfl, ⟨w1.heap.size, w2.heap.size, rfl, ?_, hb2.alloc _, HBL.out⟩, k2.alloc hw2 _⟩
  rw [(Blk.newAt w2 _ _ w2.heap.size _ rfl rfl).cell]
  rfl

/-- The parts of a call. -/
theorem parts_one {w : World} {t : TypeId} {fr : Nat × Nat} {x : Value} {bs : List UInt8} (h : IsB w x bs) : Parts (w.alloc (.cells #[x] t fr)) (.slice (some ⟨w.heap.size, 0, none⟩) 1 1) [bs] := by
  refine ⟨_, 1, rfl, by simp [maxLen], .inr ⟨w.heap.size, 0, rfl, fun i hi => ?_⟩⟩
  match i, hi with
  | 0, _ => exact ⟨x, by rw [World.cell?_alloc_mark]; rfl, h.below ((Below.refl _ _).alloc (Nat.le_refl _) _)⟩

theorem coder_any (v : Value) (b : List UInt8) (ps : Value) (ls : List (List UInt8)) (w : World) (hL : Laid w) (hc : Coder w (.func (.func 104) #[] #[v]) b) (hp : Parts w ps ls) (hlen : ls.flatten.length ≤ 281474976710656) :
    Calls Tryd.prog 104 #[ps, v] w (Makes w (M.hm b ls.flatten)) := by
  obtain ⟨g3, g4, hv, h1, h2, h3⟩ := hc
  injection hv with _ _ hv
  injection hv with hv
  injection hv with hv _
  subst hv
  obtain ⟨F, hF⟩ : ∃ F, F = ls.flatten := ⟨_, rfl⟩
  have hg4 : g4 < w.heap.size := by exact World.block_lt_of_cell? w _ h1
  have KP := Lib.hid (show ∀ w', Below w.heap.size w w' → w'.cell? ⟨g4, 0, none⟩ = some (.func (.func 100) #[] #[.pointer (some ⟨g3, 0, none⟩)]) from fun w' k => (k.cell hg4).trans h1)
  obtain ⟨I, hI⟩ : ∃ I, I = M.sha (M.mask 54 b ++ F) := ⟨_, rfl⟩
  have C1 := Lib.hid (show ∀ w', Below w.heap.size w w' → Calls Tryd.prog 100 #[.int .u8 54, ps, .pointer (some ⟨g3, 0, none⟩)] w' (fun e w1 => ∃ g c, e = .returned (.slice (some ⟨g, 0, none⟩) 32 c) ∧ Own w1 w.heap.size (.slice (some ⟨g, 0, none⟩) 32 c) I ∧ Below w.heap.size w w1) from fun w' k => by
    refine (digest_any 54 ps ls g3 b w' (hL.below k hL.size) (h2.below k h2.lt) h3 (hp.below k) hlen).mono ?_
    rintro e w1 ⟨r, rfl, o, k1⟩
    rw [← hF, ← hI] at o
    have hIl : I.length = 32 := by rw [hI]; exact M.sha_length _
    obtain ⟨g, c, rfl, _⟩ := o.shape (by omega)
    have o' := o.mono k.size
    rw [hIl] at o' ⊢
    exact ⟨g, c, rfl, o', k.trans (k1.mono k.size)⟩)
  have C2 := Lib.hid (show ∀ w1 x, Below w.heap.size w w1 → IsB w1 x I → Calls Tryd.prog 100 #[.int .u8 92, .slice (some ⟨w1.heap.size, 0, none⟩) 1 1, .pointer (some ⟨g3, 0, none⟩)] (w1.alloc (.cells #[x] 24)) (fun e w2 => ∃ r, e = .returned r ∧ Own w2 w.heap.size r (M.hm b F) ∧ Below w.heap.size w w2) from fun w1 x k hx => by
    have k' : Below w.heap.size w (w1.alloc (.cells #[x] 24)) := k.alloc k.size _
    refine (digest_any 92 _ [I] g3 b _ (hL.below k' hL.size) (h2.below k' h2.lt) h3 (parts_one hx) (by simp [hI, M.sha_length])).mono ?_
    rintro e w2 ⟨r, rfl, o, k2⟩
    refine ⟨r, rfl, ?_, k'.trans (k2.mono k'.size)⟩
    have o' := o.mono k'.size
    rw [hI] at o'
    simpa [M.hm] using o')
  rw [← hF]
  clear hL hp h2 h3 hI hF h1
  go_enter Tryd.func104, Tryd.ntmps104
  go_wp2
  go_region_held3 (fun w' => w'.cell? ⟨g4, 0, none⟩ = some (.func (.func 100) #[] #[.pointer (some ⟨g3, 0, none⟩)]))
    (first | exact KP.out _ (Below.refl _ _).drew | exact KP.out _ k1 | exact KP.out _ (k1.alloc k1.size _) | exact KP.out _ k2)
    (first
      | (go_at_call_of 100 (Value.int IntKind.u8 54); refine (C1.out _ (Below.refl _ _).drew).mono ?_; rintro e w1 ⟨g1, c1, rfl, o1, k1⟩)
      | (go_at_call_of 100 (Value.int IntKind.u8 92); refine (C2.out _ _ k1 o1.isB).mono ?_; rintro e w2 ⟨r2, rfl, o2, k2⟩))
  all_goals go_wp2
  all_goals go_ret
  all_goals exact ⟨_, rfl, o2, k2⟩

end Go.Proofs.YtdojalhaklkegaaDoor
