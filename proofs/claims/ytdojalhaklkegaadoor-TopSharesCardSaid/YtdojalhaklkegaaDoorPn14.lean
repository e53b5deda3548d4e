/-
  CONTRACTS OF chacha.mayBe, chacha.beginning AND chacha.Block. Conditions: the program's table of places lies as it was laid; keys and nonces of whatever lengths (refused, if they aren't 32 and 12).
  CONTRACTS OF aead.tagged AND aead.tagOf: what is tagged, and its tag. Conditions: layer 4's table of places lies as it was laid; what is tagged has up to 2^46 bytes; what is nil has no spare room.
  THE CONTRACT OF slices.Chunk AT BYTES AND 64: what it hands back is called with a loop's body for each piece of at most 64 bytes, in their order. Conditions: none but that the slice lies within its reach.
-/
import Derived.Test.YtdojalhaklkegaaDoorPn13
import Derived.Test.YtdojalhaklkegaaDoorPn3
import Derived.Test.YtdojalhaklkegaaDoorPn12
import Derived.Test.YtdojalhaklkegaaDoorPn5
import Derived.Test.YtdojalhaklkegaaDoorPn11
import Derived.Deep.RegionHeld3
import Derived.Deep.RegionWith
import Derived.Test.YtdojalhaklkegaaDoorPn8
import Derived.RangeFuncBound
import Derived.RangeFuncLeaves
import Derived.RangeFuncBox
import Derived.Shelf.Abstract
import Derived.Shelf.RegionOpen
import Derived.WalkKit
import Derived.OwnWalkIn
import Derived.TacticsInMore
import Derived.LoopNIn
import Derived.LoopIn

set_option maxRecDepth 100000
namespace Go.Proofs.YtdojalhaklkegaaDoor
open Go.RowKit
set_option linter.unusedVariables false

/-- A row of at least one byte: where it lies. -/
theorem IsB.lies {w : World} {v : Value} {bs : List UInt8} (h : IsB w v bs) (hne : 0 < bs.length) :
    ∃ b off cap, v = .slice (some ⟨b, off, none⟩) bs.length cap ∧ bs.length ≤ cap ∧ cap ≤ maxLen ∧ ∀ i, i < bs.length → w.cell? ⟨b, off + i, none⟩ = some (.int .u8 ((bs.getD i 0).toNat : Int)) := by
  obtain ⟨ao, cap, rfl, h1, h2, h3⟩ := h
  rcases h3 with h | ⟨b, off, rfl, h⟩
  · rw [h] at hne; simp at hne
  · exact ⟨b, off, cap, rfl, h1, h2, h⟩

theorem isB_part {w : World} {b off : Nat} {bs : List UInt8} (hc : ∀ i, i < bs.length → w.cell? ⟨b, off + i, none⟩ = some (.int .u8 ((bs.getD i 0).toNat : Int))) (m n cap : Nat) (hn : n ≤ bs.length - m) (hcap : n ≤ cap) (hmax : cap ≤ maxLen) :
    IsB w (.slice (some ⟨b, off + m, none⟩) n cap) ((bs.drop m).take n) := by
  have hl : ((bs.drop m).take n).length = n := by simp; omega
  refine ⟨_, cap, by rw [hl], by rw [hl]; exact hcap, hmax, .inr ⟨b, off + m, rfl, fun i hi => ?_⟩⟩
  rw [hl] at hi
  have := hc (m + i) (by omega)
  rw [Nat.add_assoc, this]
  simp [List.getD_eq_getElem?_getD, hi]

theorem isB_drop {w : World} {b off : Nat} {bs : List UInt8} (hc : ∀ i, i < bs.length → w.cell? ⟨b, off + i, none⟩ = some (.int .u8 ((bs.getD i 0).toNat : Int))) (m n cap : Nat) (hn : n = bs.length - m) (hcap : n ≤ cap) (hmax : cap ≤ maxLen) :
    IsB w (.slice (some ⟨b, off + m, none⟩) n cap) (bs.drop m) := by
  have h := isB_part hc m n cap (by omega) hcap hmax
  rwa [List.take_of_length_le (by simp; omega)] at h

theorem isB_block {w : World} {g : Nat} {t : TypeId} {bs : List UInt8} (h : Blk w g t (Lib.byteCells bs)) (hm : bs.length ≤ maxLen) : IsB w (.slice (some ⟨g, 0, none⟩) bs.length bs.length) bs := by
  refine ⟨_, bs.length, rfl, Nat.le_refl _, hm, .inr ⟨g, 0, rfl, fun i hi => ?_⟩⟩
  rw [h.cell, Nat.zero_add, byteCells_getElem? bs i hi]

theorem mayBe_yes (a1 a2 : Option Addr) (c1 c2 : Nat) (w : World) :
    Calls Tryd.prog 51 #[.slice a1 32 c1, .slice a2 12 c2] w fun e w' => e = .returned (.bool true) ∧ w' = w := by
  go_enter Tryd.func51, Tryd.ntmps51
  go_wp2
  go_ret
  exact ⟨rfl, rfl⟩

theorem set_mid (xs ys : List Value) (u v : Value) (n : Nat) (h : xs.length = n) : (xs ++ u :: ys).set n v = (xs ++ [v]) ++ ys := by
  subst h
  rw [List.set_append_right _ _ (Nat.le_refl _), Nat.sub_self, List.set_cons_zero, List.append_assoc]
  rfl

/-- The numbers behind k of the key's. -/
def beg1 (key : List UInt8) (ctr : UInt32) (k : Nat) : List Value := wc (M.sigma ++ M.wds key k) ++ (List.replicate (8 - k) (.int .u32 0) ++ wc [ctr, 0, 0, 0])

/-- The numbers behind k of the nonce's. -/
def beg2 (key nonce : List UInt8) (ctr : UInt32) (k : Nat) : List Value := wc (M.sigma ++ M.wds key 8 ++ [ctr] ++ M.wds nonce k) ++ List.replicate (3 - k) (.int .u32 0)

theorem beg1_len (key : List UInt8) (k : Nat) : (wc (M.sigma ++ M.wds key k)).length = 4 + k := by rw [wc_length, List.length_append, M.wds_length]; rfl

theorem beg2_len (key nonce : List UInt8) (ctr : UInt32) (k : Nat) : (wc (M.sigma ++ M.wds key 8 ++ [ctr] ++ M.wds nonce k)).length = 13 + k := by
  rw [wc_length]
  simp [M.wds_length, M.sigma]
  omega

theorem c32_gl (b : List UInt8) : Value.int .u32 (M.gl b 4 : Nat) = c32 (UInt32.ofNat (M.gl b 4)) := by
  rw [c32, UInt32.toNat_ofNat', Nat.mod_eq_of_lt (M.gl_lt b 4)]

theorem wc_snoc (l : List UInt32) (x : UInt32) : wc l ++ [c32 x] = wc (l ++ [x]) := by simp [wc]

theorem beg1_one (key : List UInt8) (ctr : UInt32) (k : Nat) : ∀ v ∈ (beg1 key ctr k).toArray.toList, v.oneCell' = true := by
  intro v hv
  rw [beg1, List.mem_append, List.mem_append] at hv
  rcases hv with h | h | h
  · exact wc_oneCell _ v (by simpa using h)
  · rw [List.eq_of_mem_replicate h]; rfl
  · exact wc_oneCell _ v (by simpa using h)

theorem beg1_set (key : List UInt8) (ctr : UInt32) (k : Nat) (h : k < 8) : (beg1 key ctr k).set (4 + k) (.int .u32 (M.gl (key.drop (4 * k)) 4 : Nat)) = beg1 key ctr (k + 1) := by
  obtain ⟨m, hm⟩ : ∃ m, 8 - k = m + 1 := ⟨7 - k, by omega⟩
  rw [c32_gl, beg1, hm, List.replicate_succ, List.cons_append, set_mid _ _ _ _ _ (beg1_len key k), beg1, show 8 - (k + 1) = m by omega, wc_snoc, List.append_assoc, show M.wds key (k + 1) = M.wds key k ++ [UInt32.ofNat (M.gl (key.drop (4 * k)) 4)] from rfl]

theorem beg1_end (key nonce : List UInt8) (ctr : UInt32) : beg1 key ctr 8 = beg2 key nonce ctr 0 := by
  rw [beg1, beg2]
  simp [wc, M.wds, c32]

theorem beg2_set (key nonce : List UInt8) (ctr : UInt32) (k : Nat) (h : k < 3) : (beg2 key nonce ctr k).set (13 + k) (.int .u32 (M.gl (nonce.drop (4 * k)) 4 : Nat)) = beg2 key nonce ctr (k + 1) := by
  obtain ⟨m, hm⟩ : ∃ m, 3 - k = m + 1 := ⟨2 - k, by omega⟩
  rw [c32_gl, beg2, hm, List.replicate_succ, set_mid _ _ _ _ _ (beg2_len key nonce ctr k), beg2, show 3 - (k + 1) = m by omega, wc_snoc, List.append_assoc, show M.wds nonce (k + 1) = M.wds nonce k ++ [UInt32.ofNat (M.gl (nonce.drop (4 * k)) 4)] from rfl]

theorem beg2_end (key nonce : List UInt8) (ctr : UInt32) : beg2 key nonce ctr 3 = wc (M.first key nonce ctr) := by
  rw [beg2, M.first]
  simp

theorem beg1_get (key : List UInt8) (ctr : UInt32) (k : Nat) (h : k < 8) : (beg1 key ctr k)[4 + k]? = some (.int .u32 0) := by
  obtain ⟨m, hm⟩ : ∃ m, 8 - k = m + 1 := ⟨7 - k, by omega⟩
  rw [beg1, List.getElem?_append_right (by rw [beg1_len]; omega), beg1_len, Nat.sub_self, hm, List.replicate_succ]
  rfl

theorem beg2_get (key nonce : List UInt8) (ctr : UInt32) (k : Nat) (h : k < 3) : (beg2 key nonce ctr k)[13 + k]? = some (.int .u32 0) := by
  obtain ⟨m, hm⟩ : ∃ m, 3 - k = m + 1 := ⟨2 - k, by omega⟩
  rw [beg2, List.getElem?_append_right (by rw [beg2_len]; omega), beg2_len, Nat.sub_self, hm, List.replicate_succ]
  rfl

set_option maxHeartbeats 1000000 in
theorem beginning_any (kv nv : Value) (key nonce : List UInt8) (ctr : UInt32) (w : World) (hk : IsB w kv key) (hn : IsB w nv nonce) (hkl : key.length = 32) (hnl : nonce.length = 12) :
    Calls Tryd.prog 52 #[kv, nv, .int .u32 ctr.toNat] w fun e w' => e = .returned (.agg (wc (M.first key nonce ctr)).toArray) ∧ Below w.heap.size w w' := by
  obtain ⟨b1, o1, p1, rfl, hp1, hq1, hc1⟩ := hk.lies (by omega)
  obtain ⟨b2, o2, p2, rfl, hp2, hq2, hc2⟩ := hn.lies (by omega)
  have hb1 : b1 < w.heap.size := by exact World.block_lt_of_cell? w _ (hc1 0 (by omega))
  have hb2 : b2 < w.heap.size := by exact World.block_lt_of_cell? w _ (hc2 0 (by omega))
  have C1 : Hid (∀ w', Below w.heap.size w w' → ∀ i, i < key.length → w'.cell? ⟨b1, o1 + i, none⟩ = some (.int .u8 ((key.getD i 0).toNat : Int))) := fun w' k i hi => by
    rw [k.cell hb1]; exact hc1 i hi
  have C2 : Hid (∀ w', Below w.heap.size w w' → ∀ i, i < nonce.length → w'.cell? ⟨b2, o2 + i, none⟩ = some (.int .u8 ((nonce.getD i 0).toNat : Int))) := fun w' k i hi => by
    rw [k.cell hb2]; exact hc2 i hi
  rw [hkl] at hp1 ⊢
  rw [hnl] at hp2 ⊢
  have HK := Lib.hid hkl
  have HN := Lib.hid hnl
  have HM1 := Lib.hid hq1
  have HM2 := Lib.hid hq2
  unfold maxLen at hq1 hq2
  clear hk hn hc1 hc2 hkl hnl
  go_enter Tryd.func52, Tryd.ntmps52
  go_wp2_with (refine wpList_store_blk rfl 96 (.tmp 7) (.tmp 11) rfl (w.heap.size + 1) (beg1 key ctr 0).toArray rfl rfl 96 (List.replicate 16 (.int .u32 0)) (Blk.newAt _ _ _ _ _ (by simp) rfl) (by kernel_rfl) rfl (beg1_one key ctr 0) ?_; intro w1 hb1 ho1)
  have B1 : Hid (Blk w1 (w.heap.size + 1) 96 (beg1 key ctr 0)) := hb1
  have B0 : Hid (Blk w1 w.heap.size 96 (List.replicate 16 (.int .u32 0))) := ((Blk.newAt _ _ _ _ _ rfl rfl).alloc _).grown ho1 (by intro e; injection e with e; omega)
  have k1 : Below w.heap.size w w1 := (((Below.refl _ _).alloc (Nat.le_refl _) _).alloc (by simp) _).trans (ho1.below (by simp; omega) (by omega))
  clear hb1 ho1
  go_wp2
  go_loopw [12] (fun i wr => ∃ k : Nat, k ≤ 8 ∧ i = .int .i64 k ∧ Hid (Blk wr (w.heap.size + 1) 96 (beg1 key ctr k)) ∧ Hid (Blk wr w.heap.size 96 (List.replicate 16 (.int .u32 0))) ∧ Below w.heap.size w wr)
    (fun i _ => 8 - (intOf i).toNat)
  case atStart => exact ⟨0, by omega, rfl, B1, B0, k1⟩
  case round =>
    clear B1 B0 k1
    rename_i wr
    obtain ⟨k, hk, rfl, b1', b0, kk⟩ := hrel
    by_cases hlt : k < 8
    · have hs : IsB wr (.slice (some ⟨b1, o1 + 4 * k, none⟩) (32 - 4 * k) (p1 - 4 * k)) (key.drop (4 * k)) := isB_drop (C1.out wr kk) (4 * k) _ _ (by rw [HK.out]) (by omega) (Nat.le_trans (Nat.sub_le _ _) HM1.out)
      have HS := Lib.hid hs
      have HG : Hid (M.gl (key.drop (4 * k)) 4 < 4294967296) := M.gl_lt (key.drop (4 * k)) 4
      have hne : ¬ p1 = 4 * k := by omega
      have hc : wr.cell? ⟨w.heap.size + 1, 4 + k, none⟩ = some (.int .u32 0) := by rw [b1'.out.cell, beg1_get key ctr k hlt]
      have hf : wr.frozen? ⟨w.heap.size + 1, 4 + k, none⟩ = false := b1'.out.frozen _
      have N1 : Hid (Blk (wr.setCell ⟨w.heap.size + 1, 4 + k, none⟩ (.int .u32 (M.gl (key.drop (4 * k)) 4 : Nat))) (w.heap.size + 1) 96 (beg1 key ctr (k + 1))) := (b1'.out.set_ _ _).eq_ (beg1_set key ctr k hlt)
      have N0 : Hid (Blk (wr.setCell ⟨w.heap.size + 1, 4 + k, none⟩ (.int .u32 (M.gl (key.drop (4 * k)) 4 : Nat))) w.heap.size 96 (List.replicate 16 (.int .u32 0))) := b0.out.far (by simp) _
      have NK : Hid (Below w.heap.size w (wr.setCell ⟨w.heap.size + 1, 4 + k, none⟩ (.int .u32 (M.gl (key.drop (4 * k)) 4 : Nat)))) := kk.setCell (by simp) _
      clear hs
      go_wp2_with fail
      refine (get32_any _ _ _ HS.out).mono ?_
      rintro e w2 ⟨rfl, rfl⟩
      obtain ⟨q, hq⟩ : ∃ q : Nat, q = M.gl (key.drop (4 * k)) 4 := ⟨_, rfl⟩
      rw [← hq] at N1 N0 NK HG ⊢
      clear hq
      go_wp2
      go_roundw
      case rel => exact ⟨k + 1, by omega, by go_num, N1, N0, NK.out⟩
      case measure => simp [intOf]; omega
    · obtain rfl : k = 8 := by omega
      obtain ⟨wA, rfl⟩ : ∃ x, x = wr := ⟨_, rfl⟩
      have B1 : Hid (Blk wA (w.heap.size + 1) 96 (beg2 key nonce ctr 0)) := b1'.out.eq_ (beg1_end key nonce ctr)
      clear b1'
      go_wp2
      go_loopw [24] (fun i wz => ∃ k : Nat, k ≤ 3 ∧ i = .int .i64 k ∧ Hid (Blk wz (w.heap.size + 1) 96 (beg2 key nonce ctr k)) ∧ Hid (Blk wz w.heap.size 96 (List.replicate 16 (.int .u32 0))) ∧ Below w.heap.size w wz)
        (fun i _ => 3 - (intOf i).toNat)
      case atStart => exact ⟨0, by omega, rfl, B1, b0, kk⟩
      case round =>
        clear B1 b0 kk
        obtain ⟨wz, rfl⟩ : ∃ x, x = wr := ⟨_, rfl⟩
        obtain ⟨k, hk, rfl, b1', b0, kk⟩ := hrel
        by_cases hlt : k < 3
        · have hs : IsB wz (.slice (some ⟨b2, o2 + 4 * k, none⟩) (12 - 4 * k) (p2 - 4 * k)) (nonce.drop (4 * k)) := isB_drop (C2.out wz kk) (4 * k) _ _ (by rw [HN.out]) (by omega) (Nat.le_trans (Nat.sub_le _ _) HM2.out)
          have HS := Lib.hid hs
          have HG : Hid (M.gl (nonce.drop (4 * k)) 4 < 4294967296) := M.gl_lt (nonce.drop (4 * k)) 4
          have hne : ¬ p2 = 4 * k := by omega
          have hc : wz.cell? ⟨w.heap.size + 1, 13 + k, none⟩ = some (.int .u32 0) := by rw [b1'.out.cell, beg2_get key nonce ctr k hlt]
          have hf : wz.frozen? ⟨w.heap.size + 1, 13 + k, none⟩ = false := b1'.out.frozen _
          have N1 : Hid (Blk (wz.setCell ⟨w.heap.size + 1, 13 + k, none⟩ (.int .u32 (M.gl (nonce.drop (4 * k)) 4 : Nat))) (w.heap.size + 1) 96 (beg2 key nonce ctr (k + 1))) := (b1'.out.set_ _ _).eq_ (beg2_set key nonce ctr k hlt)
          have N0 : Hid (Blk (wz.setCell ⟨w.heap.size + 1, 13 + k, none⟩ (.int .u32 (M.gl (nonce.drop (4 * k)) 4 : Nat))) w.heap.size 96 (List.replicate 16 (.int .u32 0))) := b0.out.far (by simp) _
          have NK : Hid (Below w.heap.size w (wz.setCell ⟨w.heap.size + 1, 13 + k, none⟩ (.int .u32 (M.gl (nonce.drop (4 * k)) 4 : Nat)))) := kk.setCell (by simp) _
          clear hs
          go_wp2_with fail
          refine (get32_any _ _ _ HS.out).mono ?_
          rintro e w2 ⟨rfl, rfl⟩
          obtain ⟨q, hq⟩ : ∃ q : Nat, q = M.gl (nonce.drop (4 * k)) 4 := ⟨_, rfl⟩
          rw [← hq] at N1 N0 NK HG ⊢
          clear hq
          go_wp2
          go_roundw
          case rel => exact ⟨_, .int .i64 ((k : Int) + 1), _, _, _, _, _, _, _, _, _, _, _, ⟨k + 1, by omega, by go_num, N1, N0, NK.out⟩, rfl⟩
          case measure => simp [intOf]; omega
        · obtain rfl : k = 3 := by omega
          obtain ⟨F, hF⟩ : ∃ F, Hid (F = M.first key nonce ctr) := ⟨_, rfl⟩
          have HFL : Hid (F.length = 16) := by rw [Hid, hF.out]; exact M.first_length key nonce ctr
          have RG : Hid (wz.rangeAt (w.heap.size + 1) 0 (wc F)) := by
            have := b1'.out.eq_ (beg2_end key nonce ctr)
            rw [← hF.out] at this
            exact this.range 0 _ [] (by simp)
          clear b1'
          go_wp2_with (first
            | (refine wpList_load_mid rfl 96 (.tmp 7) rfl (w.heap.size + 1) 0 rfl (wc F) _ RG.out Tryd.underlying96 rfl (by rw [wc_length, HFL.out]; kernel_rfl) ?_)
            | (refine wpList_store_blk rfl 96 (.tmp 6) (.tmp 36) rfl w.heap.size (wc F).toArray rfl rfl 96 (List.replicate 16 (.int .u32 0)) b0.out (by rw [List.size_toArray, wc_length, HFL.out]; kernel_rfl) (by rw [List.size_toArray, wc_length, HFL.out, List.length_replicate]) (wc_oneCell F) ?_; intro w3 hb3 ho3))
          have k3 : Below w.heap.size w w3 := kk.trans (ho3.below kk.size (by omega))
          exact bodyPost_ret (results_cell_row rfl _ _ w.heap.size _ _ _ _ rfl hb3 Tryd.underlying96 rfl (by rw [Array.toArray_toList, List.size_toArray, wc_length, HFL.out]; kernel_rfl)) rfl ⟨by rw [Array.toArray_toList, hF.out], k3⟩

theorem block_any (kv nv : Value) (key nonce : List UInt8) (ctr : UInt32) (w : World) (hL : LaidP w) (hk : IsB w kv key) (hn : IsB w nv nonce) (hkl : key.length = 32) (hnl : nonce.length = 12) :
    Calls Tryd.prog 55 #[kv, nv, .int .u32 ctr.toNat] w fun e w' => ∃ g, e = .returned (.tuple #[.slice (some ⟨g, 0, none⟩) 64 64, .int .i64 0]) ∧ w.heap.size ≤ g ∧ IsB w' (.slice (some ⟨g, 0, none⟩) 64 64) (M.cblk key nonce ctr) ∧ Below w.heap.size w w' := by
  have HCB := Lib.hid (beginning_any kv nv key nonce ctr w hk hn hkl hnl)
  have HCO := Lib.hid (fun w' (k : Below w.heap.size w w') => blockOf_any (M.first key nonce ctr) w' (hL.below k hL.size) (M.first_length key nonce ctr))
  obtain ⟨C, hC⟩ : ∃ C, Hid (C = M.cblk key nonce ctr) := ⟨_, rfl⟩
  have HCL : Hid (C.length = 64) := by rw [Hid, hC.out]; exact M.cblk_length key nonce ctr
  obtain ⟨F, hF⟩ : ∃ F, Hid (F = M.first key nonce ctr) := ⟨_, rfl⟩
  have hCF : M.blk F = C := by rw [hC.out, hF.out]; rfl
  rw [← hF.out] at HCB HCO
  rw [hCF] at HCO
  rw [← hC.out]
  obtain ⟨a1, c1, rfl, _, _, _⟩ := hk
  obtain ⟨a2, c2, rfl, _, _, _⟩ := hn
  rw [hkl, hnl] at HCB ⊢
  clear hkl hnl hL hC hF hCF
  go_enter Tryd.func55, Tryd.ntmps55
  go_wp2_with fail
  refine (mayBe_yes _ _ _ _ _).mono ?_
  rintro e w1 ⟨rfl, rfl⟩
  go_wp2_with fail
  refine HCB.out.mono ?_
  rintro e w2 ⟨rfl, k2⟩
  go_wp2_with fail
  refine (HCO.out _ k2).mono ?_
  rintro e w3 ⟨rfl, k3⟩
  have k3' := k2.trans (k3.mono k2.size)
  go_wp2_with (refine wpList_store_blk rfl 101 (.tmp 8) (.tmp 17) rfl w3.heap.size (Lib.byteCells C).toArray rfl rfl 101 (List.replicate 64 (.int .u8 0)) (Blk.newAt _ _ _ _ _ rfl rfl) (by rw [List.size_toArray, byteCells_length, HCL.out]; kernel_rfl) (by rw [List.size_toArray, byteCells_length, HCL.out, List.length_replicate]) (bytes_oneCell C) ?_; intro w4 hb4 ho4)
  go_ret2
  refine ⟨_, rfl, k3'.size, ?_, (k3'.alloc k3'.size _).trans (ho4.below (by have := k3'.size; simp; omega) k3'.size)⟩
  have h := isB_block hb4 (by rw [HCL.out]; unfold maxLen; omega)
  rwa [HCL.out] at h

end Go.Proofs.YtdojalhaklkegaaDoor

set_option maxRecDepth 100000
namespace Go.Proofs.YtdojalhaklkegaaDoor
open Go.RowKit
set_option linter.unusedVariables false

namespace M

/-- The first k parts, each filled up. -/
def tgs (ls : List (List UInt8)) (k : Nat) : List UInt8 := (ls.take k).flatMap fullA

/-- How long the first k parts are. -/
def lns (ls : List (List UInt8)) (k : Nat) : List UInt8 := (ls.take k).flatMap fun p => le p.length 8

theorem tgs_next (ls : List (List UInt8)) (k : Nat) (h : k < ls.length) : tgs ls (k + 1) = tgs ls k ++ ls.getD k [] ++ List.replicate ((16 - (ls.getD k []).length % 16) % 16) 0 := by
  rw [tgs, tgs, List.take_succ_eq_append_getElem h, List.flatMap_append, List.append_assoc]
  simp [fullA, h]

theorem lns_next (ls : List (List UInt8)) (k : Nat) (h : k < ls.length) : lns ls (k + 1) = lns ls k ++ le (ls.getD k []).length 8 := by
  rw [lns, lns, List.take_succ_eq_append_getElem h, List.flatMap_append]
  simp [h]

theorem tgs_le (ls : List (List UInt8)) (k : Nat) : (tgs ls k).length ≤ (tgs ls ls.length).length := by
  rw [tgs, tgs, List.take_length]
  have e := congrArg (fun l => (List.flatMap fullA l).length) (List.take_append_drop k ls)
  simp only [List.flatMap_append, List.length_append] at e
  omega

theorem lns_length (ls : List (List UInt8)) (k : Nat) (h : k ≤ ls.length) : (lns ls k).length = 8 * k := by
  induction k with
  | zero => simp [lns]
  | succ k ih => rw [lns_next ls k (by omega), List.length_append, le_length, ih (by omega)]; omega

theorem tgs_two (a b : List UInt8) : tgs [a, b] [a, b].length = fullA a ++ fullA b := by simp [tgs]

theorem lns_two (a b : List UInt8) : lns [a, b] [a, b].length = le a.length 8 ++ le b.length 8 := by simp [lns]

end M

/-- The value is a slice of rows of bytes; what is nil has no spare room. -/
def PartsN (w : World) (v : Value) (ls : List (List UInt8)) : Prop :=
  ∃ ao cap, v = .slice ao ls.length cap ∧ ls.length ≤ maxLen ∧ (ls = [] ∨ ∃ b off, ao = some ⟨b, off, none⟩ ∧ ∀ i, i < ls.length → ∃ x, w.cell? ⟨b, off + i, none⟩ = some x ∧ IsB w x (ls.getD i []) ∧ ∀ n c, x = .slice none n c → c = 0)

theorem partsN_two {w' : World} {t : TypeId} {fr : Nat × Nat} {x y : Value} {a b : List UInt8} (hx : IsB w' x a) (hy : IsB w' y b) (nx : ∀ n c, x = .slice none n c → c = 0) (ny : ∀ n c, y = .slice none n c → c = 0) :
    PartsN (w'.alloc (.cells #[x, y] t fr)) (.slice (some ⟨w'.heap.size, 0, none⟩) 2 2) [a, b] := by
  refine ⟨_, 2, rfl, by simp [maxLen], .inr ⟨w'.heap.size, 0, rfl, fun i hi => ?_⟩⟩
  match i, hi with
  | 0, _ => exact ⟨x, by rw [World.cell?_alloc_mark]; rfl, hx.below ((Below.refl _ _).alloc (Nat.le_refl _) _), nx⟩
  | 1, _ => exact ⟨y, by rw [World.cell?_alloc_mark]; rfl, hy.below ((Below.refl _ _).alloc (Nat.le_refl _) _), ny⟩

set_option maxHeartbeats 2000000 in
theorem tagged_any (ps : Value) (ls : List (List UInt8)) (w : World) (hp : PartsN w ps ls) (hlen : (M.tgs ls ls.length).length + 8 * ls.length ≤ 140737488355328) :
    Calls Tryd.prog 57 #[ps] w (Makes w (M.tgs ls ls.length ++ M.lns ls ls.length)) := by
  obtain ⟨ao, cap, rfl, hl, hat⟩ := hp
  obtain ⟨N, hN⟩ : ∃ N, N = ls.length := ⟨_, rfl⟩
  have HAT : Hid (ls = [] ∨ ∃ b off, ao = some ⟨b, off, none⟩ ∧ ∀ i, i < ls.length → ∃ x, w.cell? ⟨b, off + i, none⟩ = some x ∧ IsB w x (ls.getD i []) ∧ ∀ n c, x = .slice none n c → c = 0) := hat
  rw [← hN] at hl hlen ⊢
  have HN : Hid (N = ls.length) := hN
  have HLEN : Hid ((M.tgs ls N).length + 8 * N ≤ 140737488355328) := hlen
  have HTL : Hid (∀ k, (M.tgs ls k).length ≤ (M.tgs ls N).length) := fun k => by rw [hN]; exact M.tgs_le ls k
  unfold maxLen at hl
  clear hat hN hlen
  go_enter Tryd.func57, Tryd.ntmps57
  go_wp2
  go_loopw [3, 4, 10] (fun x y i wr => ∃ k : Nat, k ≤ N ∧ i = .int .i64 k ∧ Hid (Own wr w.heap.size x (M.tgs ls k)) ∧ Hid (Own wr w.heap.size y (M.lns ls k)) ∧ Hid (Apart x y) ∧ Hid (Below w.heap.size w wr))
    (fun _ _ i _ => N - (intOf i).toNat)
  case atStart => exact ⟨0, by omega, rfl, World.ownsRow_nil _ _ _ _, World.ownsRow_nil _ _ _ _, (by intro k h; simp [Value.ownBlock] at h), Below.refl _ _⟩
  case round =>
    obtain ⟨wz, rfl⟩ : ∃ x, x = wr := ⟨_, rfl⟩
    obtain ⟨j, hj, rfl, ox, oy, ap, kz⟩ := hrel
    obtain ⟨vx, rfl⟩ : ∃ z, z = u3 := ⟨_, rfl⟩
    obtain ⟨vy, rfl⟩ : ∃ z, z = u4 := ⟨_, rfl⟩
    by_cases hlt : j < N
    · obtain ⟨bb, off, rfl, hcells⟩ : ∃ b off, ao = some ⟨b, off, none⟩ ∧ ∀ i, i < ls.length → ∃ x, w.cell? ⟨b, off + i, none⟩ = some x ∧ IsB w x (ls.getD i []) ∧ ∀ n c, x = .slice none n c → c = 0 := by
        rcases HAT.out with h0 | h0
        · have := HN.out
          rw [h0] at this
          simp at this
          omega
        · exact h0
      obtain ⟨x, hxc, hxb, hxn⟩ := hcells j (by rw [← HN.out]; exact hlt)
      have hxc2 : wz.cell? ⟨bb, off + j, none⟩ = some x := by rw [kz.out.cell (by exact World.block_lt_of_cell? w _ hxc), hxc]
      obtain ⟨P, hP⟩ : ∃ P, P = ls.getD j [] := ⟨_, rfl⟩
      obtain ⟨n, hn⟩ : ∃ n, n = P.length := ⟨_, rfl⟩
      have HT1 : Hid (M.tgs ls (j + 1) = M.tgs ls j ++ (P ++ List.replicate ((16 - n % 16) % 16) 0)) := by rw [hn, hP, Hid, ← List.append_assoc]; exact M.tgs_next ls j (by rw [← HN.out]; exact hlt)
      have HL1 : Hid (M.lns ls (j + 1) = M.lns ls j ++ M.le n 8) := by rw [hn, hP]; exact M.lns_next ls j (by rw [← HN.out]; exact hlt)
      have HLL : Hid ((M.lns ls j).length = 8 * j) := M.lns_length ls j (by rw [← HN.out]; exact hj)
      rw [← hP] at hxb
      obtain ⟨q, hq⟩ : ∃ q, q = (16 - n % 16) % 16 := ⟨_, rfl⟩
      rw [← hq] at HT1
      obtain ⟨r, hr⟩ : ∃ r, r = n % 16 := ⟨_, rfl⟩
      obtain ⟨s, hs⟩ : ∃ s, s = 16 - r := ⟨_, rfl⟩
      have hbound : (M.tgs ls j).length + n + q + 8 * N ≤ 140737488355328 := by
        have e1 := HTL.out (j + 1)
        rw [HT1.out, List.length_append, List.length_append, List.length_replicate, ← hn] at e1
        have := HLEN.out
        omega
      have HB := Lib.hid hbound
      have hn47 : n ≤ 140737488355328 := by omega
      have m1 : (n : Int) % 16 = (r : Int) := by omega
      have m1' : (n : Int).tmod 16 = (r : Int) := by rw [Int.tmod_eq_emod_of_nonneg (by omega)]; exact m1
      have m2 : (16 : Int) - (r : Int) = (s : Int) := by omega
      have m3 : (s : Int) % 16 = (q : Int) := by omega
      have m3' : (s : Int).tmod 16 = (q : Int) := by rw [Int.tmod_eq_emod_of_nonneg (by omega)]; exact m3
      have HN2 := Lib.hid hn
      obtain ⟨ap2, cp2, rfl⟩ := hxb.shape
      rw [← hn] at hxc2 hxn hxb
      have HXN := Lib.hid hxn
      have XB : Hid (IsB w (.slice ap2 n cp2) P) := hxb
      have hjN : (j : Int) < (N : Int) := by omega
      clear hcells hxc hxb hxn hP hq hr hs hbound hlt hn
      go_wp2_with (at_builtin; go_must (refine wpList_app3 _ rfl _ _ rfl w.heap.size _ (M.tgs ls j) rfl ox.out _ P rfl ?c1 HXN.out ?c2 kz.out.size ?_))
      case c1 => exact XB.out.below kz.out
      case c2 => have := HB.out; have := HN2.out; omega
      intro v1 w1 o1 g1 at1
      have A1 : Hid (Apart v1 vy) := ap.out.next oy.out wz.heap.size (Nat.le_refl _) at1
      have Y1 : Hid (Own w1 w.heap.size vy (M.lns ls j)) := oy.out.kept g1 fun k hk e => ap.out k e hk
      have K1 : Hid (Below w.heap.size w w1) := kz.out.grown g1 kz.out.size fun k hk => (ox.out.block_lt k hk).1
      have O1 := Lib.hid o1
      clear o1 g1 at1 ap oy ox kz
      go_wp2_with (at_builtin; go_must (refine wpList_app_zeros3 _ rfl _ _ rfl w.heap.size _ (M.tgs ls j ++ P) rfl O1.out q rfl ?d2 K1.out.size ?_))
      case d2 => have := HB.out; have := HN2.out; rw [List.length_append]; omega
      intro v2 w2 o2 g2 at2
      rw [← HT1.out] at o2
      have A2 : Hid (Apart v2 vy) := A1.out.next Y1.out w1.heap.size (Nat.le_refl _) at2
      have Y2 : Hid (Own w2 w.heap.size vy (M.lns ls j)) := Y1.out.kept g2 fun k hk e => A1.out k e hk
      have K2 : Hid (Below w.heap.size w w2) := K1.out.grown g2 K1.out.size fun k hk => (O1.out.block_lt k hk).1
      have O2 := Lib.hid o2
      have wn : IntKind.u64.wrap (n : Int) = (n : Int) := wraps_u64 _ (by omega) (by omega)
      clear o2 g2 at2 A1 Y1 K1 O1
      go_wp2_with fail
      refine (put64_any n w2).mono ?_
      rintro e w3 ⟨r3, rfl, o3, k3⟩
      have K3 : Hid (Below w.heap.size w w3) := K2.out.trans (k3.mono K2.out.size)
      have O3 : Hid (Own w3 w.heap.size v2 (M.tgs ls (j + 1))) := O2.out.below k3
      have Y3 : Hid (Own w3 w.heap.size vy (M.lns ls j)) := Y2.out.below k3
      have R3 := Lib.hid o3
      clear o3 k3 K2 O2 Y2
      go_wp2_with (at_builtin; go_must (refine wpList_app3 _ rfl _ _ rfl w.heap.size _ (M.lns ls j) rfl Y3.out _ (M.le n 8) rfl R3.out.isB R3.out.nil0 ?f2 K3.out.size ?_))
      case f2 => have := HB.out; have := HLL.out; rw [M.le_length]; omega
      intro v4 w4 o4 g4 at4
      rw [← HL1.out] at o4
      have A4 : Hid (Apart v2 v4) := (A2.out.symm.next O3.out w3.heap.size (Nat.le_refl _) at4).symm
      have O4 : Hid (Own w4 w.heap.size v2 (M.tgs ls (j + 1))) := O3.out.kept g4 fun k hk e => A2.out k hk e
      have K4 : Hid (Below w.heap.size w w4) := K3.out.grown g4 K3.out.size fun k hk => (Y3.out.block_lt k hk).1
      have Y4 := Lib.hid o4
      clear o4 g4 at4 A2 O3 K3 Y3 R3
      go_wp2
      go_roundw
      case rel => exact ⟨j + 1, by omega, by go_num, O4, Y4, A4, K4⟩
      case measure => simp [intOf]; omega
    · obtain rfl : j = N := by omega
      have HLL : Hid ((M.lns ls j).length = 8 * j) := M.lns_length ls j (by rw [← HN.out]; exact hj)
      go_wp2_with (at_builtin; go_must (refine wpList_app3 _ rfl _ _ rfl w.heap.size _ (M.tgs ls j) rfl ox.out _ (M.lns ls j) rfl oy.out.isB oy.out.nil0 ?h2 kz.out.size ?_))
      case h2 => have := HLEN.out; have := HLL.out; omega
      intro v1 w1 o1 g1 at1
      have K1 : Hid (Below w.heap.size w w1) := kz.out.grown g1 kz.out.size fun k hk => (ox.out.block_lt k hk).1
      have O1 := Lib.hid o1
      clear o1 g1 at1
      go_wp2
      go_ret
      exact ⟨_, rfl, O1.out, K1.out⟩

set_option maxHeartbeats 2000000 in
theorem tagOf_any (kv nv bv hv : Value) (key nonce beside hidden : List UInt8) (w : World) (hL : LaidP w) (hk : IsB w kv key) (hn : IsB w nv nonce) (hb : IsB w bv beside) (hh : IsB w hv hidden) (hkl : key.length = 32) (hnl : nonce.length = 12)
    (zb : ∀ n c, bv = .slice none n c → c = 0) (zh : ∀ n c, hv = .slice none n c → c = 0) (hlen : beside.length + hidden.length ≤ 70368744177600) :
    Calls Tryd.prog 26 #[kv, nv, bv, hv] w fun e w' => ∃ r, e = .returned (.tuple #[r, .int .i64 0]) ∧ Own w' w.heap.size r (M.boxTag key nonce beside hidden) ∧ Below w.heap.size w w' := by
  obtain ⟨a3, c3, rfl⟩ := hb.shape
  obtain ⟨a4, c4, rfl⟩ := hh.shape
  have HC := Lib.hid (block_any kv nv key nonce 0 w hL hk hn hkl hnl)
  have HB := Lib.hid hb
  have HH := Lib.hid hh
  obtain ⟨T, hT⟩ : ∃ T, Hid (T = M.toTag beside hidden) := ⟨_, rfl⟩
  obtain ⟨Y, hK⟩ : ∃ Y, Hid (Y = M.under key nonce) := ⟨_, rfl⟩
  have HKL : Hid (Y.length = 32) := by rw [hK.out]; exact M.under_length _ _
  have HTL : Hid (T.length ≤ 70368744177664) := by rw [Hid, hT.out]; have := M.toTag_le beside hidden; omega
  obtain ⟨C, hC⟩ : ∃ C, Hid (C = M.cblk key nonce 0) := ⟨_, rfl⟩
  have HKC : Hid (Y = C.take 32) := by rw [hK.out, hC.out]; rfl
  have HR : Hid (M.tag Y T = M.boxTag key nonce beside hidden) := by rw [hK.out, hT.out]; rfl
  obtain ⟨R, hR⟩ : ∃ R, Hid (R = M.boxTag key nonce beside hidden) := ⟨_, rfl⟩
  rw [← hR.out] at HR ⊢
  rw [← hC.out] at HC
  have CT := Lib.hid (show ∀ W ps, PartsN W ps [beside, hidden] → Calls Tryd.prog 57 #[ps] W (Makes W T) from fun W ps h => by
    have := tagged_any ps _ W h (by rw [M.tgs_two, List.length_append, M.fullA_length, M.fullA_length]; simp only [List.length_cons, List.length_nil]; omega)
    rw [M.tgs_two, M.lns_two, ← List.append_assoc] at this
    rw [hT.out]
    exact this)
  have CP := Lib.hid (show ∀ W k m, IsB W k Y → IsB W m T → Calls Tryd.prog 56 #[k, m] W (fun e w' => ∃ r, e = .returned (.tuple #[r, .int .i64 0]) ∧ Own w' W.heap.size r R ∧ Below W.heap.size W w') from fun W k m h1 h2 => by
    rw [← HR.out]
    exact tag_yes k m Y T W h1 h2 HKL.out HTL.out)
  have ZB := Lib.hid zb
  have ZH := Lib.hid zh
  obtain ⟨n3, hn3⟩ : ∃ n, n = beside.length := ⟨_, rfl⟩
  obtain ⟨n4, hn4⟩ : ∃ n, n = hidden.length := ⟨_, rfl⟩
  rw [← hn3] at HB ZB ⊢
  rw [← hn4] at HH ZH ⊢
  clear hT hK hC hR hL hk hn hb hh hlen zb zh hn3 hn4
  go_enter Tryd.func26, Tryd.ntmps26
  go_wp2_with fail
  refine HC.out.mono ?_
  rintro e w1 ⟨g, rfl, hg, i1, k1⟩
  have I1 : Hid (IsB w1 (.slice (some ⟨g, 0, none⟩) 32 64) Y) := by rw [HKC.out]; exact i1.take 32 (by decide)
  have B1 : Hid (IsB w1 (.slice a3 n3 c3) beside) := HB.out.below k1
  have H1 : Hid (IsB w1 (.slice a4 n4 c4) hidden) := HH.out.below k1
  have HK1 := Lib.hid k1
  clear i1 k1 HB HH hg
  go_upto_region 4 with fail
  refine wp_region_any (by kernel_rfl) ?_
  change wpAny _ _ _ _ _ _ _ (World.drew _)
  refine wpAny_of_held (S := fun _ => True) _ _ _ _ ?_
  refine wpAnyH_take_at (i := 0) (v := .slice (some ⟨g, 0, none⟩) 64 64) rfl rfl (by kernel_rfl) (by kernel_rfl) (by kernel_rfl) (fun _ _ _ h => h) (Or.inl ⟨by rfl, fun w _ => by go_simp⟩) trivial ?_
  simp only [List.setIfInBounds_toArray, List.set_cons_zero, List.set_cons_succ]
  refine wpAnyH_take_at (i := 1) (v := .slice (some ⟨g, 0, none⟩) 32 64) rfl rfl (by kernel_rfl) (by kernel_rfl) (by kernel_rfl) (fun _ _ _ h => h) (Or.inl ⟨by rfl, fun w _ => by go_simp⟩) trivial ?_
  simp only [List.setIfInBounds_toArray, List.set_cons_zero, List.set_cons_succ]
  refine wpAnyH_take_at (i := 2) (v := .slice a3 n3 c3) rfl rfl (by kernel_rfl) (by kernel_rfl) (by kernel_rfl) (fun _ _ _ h => h) (Or.inl ⟨by rfl, fun w _ => by go_simp⟩) trivial ?_
  simp only [List.setIfInBounds_toArray, List.set_cons_zero, List.set_cons_succ]
  refine wpAnyH_take_at (i := 3) (v := .slice a4 n4 c4) rfl rfl (by kernel_rfl) (by kernel_rfl) (by kernel_rfl) (fun _ _ _ h => h) (Or.inl ⟨by rfl, fun w _ => by go_simp⟩) trivial ?_
  simp only [List.setIfInBounds_toArray, List.set_cons_zero, List.set_cons_succ]
  refine wpAnyH_ready (rs := [4]) (by kernel_rfl) (by simp) ?_
  refine AllReadyH.cons rfl (fun K hK => ?_) AllReadyH.nil
  go_simp
  obtain ⟨w2, hw2⟩ : ∃ W, Hid (W = (w1.alloc (.cells #[.slice a3 n3 c3, .slice a4 n4 c4] 24)).drew) := ⟨_, rfl⟩
  have P2 : Hid (PartsN w2 (.slice (some ⟨w1.heap.size, 0, none⟩) 2 2) [beside, hidden]) := by
    have := partsN_two (t := 24) (fr := (0, 0)) B1.out H1.out ZB.out ZH.out
    rw [hw2.out]
    obtain ⟨ao, cap, e, hl, h⟩ := this
    exact ⟨ao, cap, e, hl, h⟩
  have K2 : Hid (Below w1.heap.size w1 w2) := by rw [hw2.out]; exact drewN_below ((Below.refl _ _).alloc (Nat.le_refl _) _) 1
  rw [← hw2.out]
  refine hK.out _ _ trivial (fun _ => ?_)
  clear hK K hw2
  refine wpAnyH_ready (rs := [5]) (by kernel_rfl) (by simp) ?_
  refine AllReadyH.cons rfl (fun K hK => ?_) AllReadyH.nil
  go_simp
  refine (CT.out w2 _ P2.out).mono ?_
  rintro e w3 ⟨r3, rfl, o3, k3⟩
  have K3 : Hid (Below w1.heap.size w1 w3) := K2.out.trans (k3.mono K2.out.size)
  have O3 := Lib.hid o3.isB
  refine hK.out _ _ trivial (fun _ => ?_)
  clear hK K o3 k3
  refine wpAnyH_ready (rs := [6]) (by kernel_rfl) (by simp) ?_
  refine AllReadyH.cons rfl (fun K hK => ?_) AllReadyH.nil
  go_simp
  refine (CP.out w3 _ _ (I1.out.below K3.out) O3.out).mono ?_
  rintro e w4 ⟨r4, rfl, o4, k4⟩
  have K4 : Hid (Below w.heap.size w w4) := HK1.out.trans ((K3.out.trans (k4.mono K3.out.size)).mono HK1.out.size)
  have O4 : Hid (Own w4 w.heap.size r4 R) := o4.mono (Nat.le_trans HK1.out.size K3.out.size)
  refine hK.out _ _ trivial (fun _ => ?_)
  clear hK K o4 k4
  refine wpAnyH_take_at (i := 7) (v := r4) rfl rfl (by kernel_rfl) (by kernel_rfl) (by kernel_rfl) (fun _ _ _ h => h) (Or.inl ⟨by rfl, fun w _ => by go_simp⟩) trivial ?_
  simp only [List.setIfInBounds_toArray, List.set_cons_zero, List.set_cons_succ]
  refine wpAnyH_take_at (i := 8) (v := .int .i64 0) rfl rfl (by kernel_rfl) (by kernel_rfl) (by kernel_rfl) (fun _ _ _ h => h) (Or.inl ⟨by rfl, fun w _ => by go_simp⟩) trivial ?_
  simp only [List.setIfInBounds_toArray, List.set_cons_zero, List.set_cons_succ]
  refine wpAnyH_take_at (i := 9) (v := r4) rfl rfl (by kernel_rfl) (by kernel_rfl) (by kernel_rfl) (fun _ _ _ h => h) (Or.inl ⟨by rfl, fun w _ => by go_simp⟩) trivial ?_
  simp only [List.setIfInBounds_toArray, List.set_cons_zero, List.set_cons_succ]
  refine wpAnyH_take_at (i := 10) (v := .int .i64 0) rfl rfl (by kernel_rfl) (by kernel_rfl) (by kernel_rfl) (fun _ _ _ h => h) (Or.inl ⟨by rfl, fun w _ => by go_simp⟩) trivial ?_
  simp only [List.setIfInBounds_toArray, List.set_cons_zero, List.set_cons_succ]
  refine wpAnyH_done (by kernel_rfl) ?_ _
  go_wp2
  go_ret2
  exact ⟨_, rfl, O4.out, K4.out⟩

end Go.Proofs.YtdojalhaklkegaaDoor

set_option maxRecDepth 100000
namespace Go.Proofs.YtdojalhaklkegaaDoor
open Go.RowKit Go.Shelf
set_option linter.unusedVariables false

attribute [local go_sem] Oper.semAt_some

/-- Piece c of a slice. -/
def piece (b off len c : Nat) : Value := .slice (some ⟨b, off + 64 * c, none⟩) (min 64 (len - 64 * c)) (min 64 (len - 64 * c))

/-- What a round that goes on keeps: the iterator's own two variables. -/
def KeepTwo (B1 B2 : Nat) (W W' : World) : Prop := W'.heap[B1]? = W.heap[B1]? ∧ W'.heap[B2]? = W.heap[B2]?

theorem KeepTwo.trans {B1 B2 : Nat} {X Y Z : World} (h : KeepTwo B1 B2 X Y) (k : KeepTwo B1 B2 Y Z) : KeepTwo B1 B2 X Z := ⟨k.1.trans h.1, k.2.trans h.2⟩

theorem cell_same {W W' : World} {B : Nat} (h : W'.heap[B]? = W.heap[B]?) (i : Nat) : W'.cell? ⟨B, i, none⟩ = W.cell? ⟨B, i, none⟩ := by
  simp [World.cell?, h]

theorem chunk_any (a : Option Addr) (n c : Nat) (w : World) :
    Calls Tryd.prog 53 #[.slice a n c, .int .i64 64] w fun e w' =>
      e = .returned (.func (.func 74) #[] #[.pointer (some ⟨w.heap.size, 0, none⟩), .pointer (some ⟨w.heap.size + 1, 0, none⟩)]) ∧ w' = (w.alloc (.cells #[.slice a n c] 24)).alloc (.cells #[.int .i64 64] 3) := by
  have hmf : ∀ (fn : Fn) (first cap : Array Value) (w : World), (Instr.makeFunc fn first cap).run Tryd.prog w = .ok (.func fn first cap) w := fun _ _ _ _ => rfl
  go_enter Tryd.func53, Tryd.ntmps53
  go_wp2
  go_ret
  exact ⟨by simp, rfl⟩

set_option maxRecDepth 100000 in
set_option maxHeartbeats 2000000 in
theorem chunk1_in (n l B1 B2 b off len cap : Nat) (hn : 1 ≤ n) (hlen : 0 < len) (hcap : len ≤ cap) (hmax : cap ≤ maxLen) (hsm : len ≤ 281474976710656) (J Jx : List Nat → World → Prop) (hJA : ∀ s W, J s W → J s W.drew)
    (hY : ∀ pre x W, J pre W → pre.length < (len + 63) / 64 → YieldAt Fence.wide (n - 1) Tryd.prog l #[piece b off len x] W fun e W' =>
      (e = .returned (.bool true) ∧ J (pre ++ [x]) W' ∧ KeepTwo B1 B2 W W') ∨ (e = .returned (.bool false) ∧ Jx (pre ++ [x]) W'))
    (W : World) (h1 : W.cell? ⟨B1, 0, none⟩ = some (.slice (some ⟨b, off, none⟩) len cap)) (h2 : W.cell? ⟨B2, 0, none⟩ = some (.int .i64 64)) (h0 : J [] W) :
    CallsIn Fence.wide n Tryd.prog 74 #[.func (.yield l) #[] #[], .pointer (some ⟨B1, 0, none⟩), .pointer (some ⟨B2, 0, none⟩)] W fun e W' => (∃ v, e = .returned v) ∧
      ((∃ ys, ys = List.range ((len + 63) / 64) ∧ J ys W') ∨ (∃ pre, (∃ k, k ≤ (len + 63) / 64 ∧ pre = List.range k) ∧ Jx pre W')) := by
  have HY := Lib.hid hY
  unfold maxLen at hmax
  clear hY
  refine callsIn_of_wp Tryd.func74 rfl trivial ?_ rfl
  simp only [Tryd.ntmps74, List.size_toArray, List.length_cons, List.length_nil, Nat.reduceAdd, Nat.reduceSub, Array.replicate_succ, Array.replicate_zero, List.push_toArray, List.append_toArray, List.nil_append, List.cons_append]
  gi_wp2
  gi_loopw [4] (fun i wr => ∃ k p : Nat, Hid (p = 64 * k) ∧ p < len + 64 ∧ i = .int .i64 p ∧ J (List.range k) wr ∧ wr.cell? ⟨B1, 0, none⟩ = some (.slice (some ⟨b, off, none⟩) len cap) ∧ wr.cell? ⟨B2, 0, none⟩ = some (.int .i64 64))
    (fun i _ => len + 64 - (intOf i).toNat)
  case atStart => exact ⟨0, 0, rfl, by omega, rfl, h0, h1, h2⟩
  case round =>
    clear h0 h1 h2
    obtain ⟨k, p, hp, hpl, rfl, hJ, h1, h2⟩ := hrel
    by_cases hlt : p < len
    · have hne : ¬ cap = p := by omega
      have hmix : Tryd.prog.follows .mixedOrders = true := by kernel_rfl
      gi_wp2
      gi_region
      obtain ⟨q, hq⟩ : ∃ q, q = min 64 (len - p) := ⟨_, rfl⟩
      have hq1 : 1 ≤ q := by omega
      have hq2 : p + q ≤ len := by omega
      have HQ : Hid (q = min 64 (len - p)) := hq
      rw [show (if ((len - p : Nat) : Int) < 64 then ((len - p : Nat) : Int) else 64) = (q : Int) from by split <;> omega]
      have hlk : (List.range k).length < (len + 63) / 64 := by have := hp.out; simp; omega
      obtain ⟨fn, tmps, assign, body, hy, hR⟩ := HY.out (List.range k) k wr.drew (hJA _ _ hJ) hlk
      have hpc : piece b off len k = .slice (some ⟨b, off + p, none⟩) q q := by rw [piece, hp.out, hq, hp.out]
      rw [hpc] at hy
      have h1' : wr.drew.cell? ⟨B1, 0, none⟩ = some (.slice (some ⟨b, off, none⟩) len cap) := h1
      clear hq hpc
      gi_wp2
      refine hR.mono ?_
      rintro e W3 (⟨rfl, hJ3, hk3⟩ | ⟨rfl, hJx3⟩)
      · have c1 : W3.cell? ⟨B1, 0, none⟩ = some (.slice (some ⟨b, off, none⟩) len cap) := (cell_same hk3.1 0).trans h1
        have c2 : W3.cell? ⟨B2, 0, none⟩ = some (.int .i64 64) := (cell_same hk3.2 0).trans h2
        clear hR hy h1 h2 h1'
        gi_wp2
        go_roundw
        case rel => exact ⟨k + 1, p + 64, by have := hp.out; rw [Hid]; omega, by omega, by go_num, by rw [List.range_succ]; exact hJ3, c1, c2⟩
        case measure => simp [intOf]; omega
      · gi_wp2
        refine bodyPost_ret (results_none rfl _ _ _) rfl ?_
        have e := hp.out
        exact ⟨⟨_, rfl⟩, .inr ⟨_, ⟨k + 1, by omega, rfl⟩, by rw [List.range_succ]; exact hJx3⟩⟩
    · gi_wp2
      go_end0
      have e := hp.out
      exact ⟨⟨_, rfl⟩, .inl ⟨_, rfl, by rw [show (len + 63) / 64 = k by omega]; exact hJ⟩⟩

/-- At no bytes: no round. -/
theorem chunk0_in (n l B1 B2 cap : Nat) (a : Option Addr) (J : List Nat → World → Prop) (W : World) (h1 : W.cell? ⟨B1, 0, none⟩ = some (.slice a 0 cap)) (h0 : J [] W) :
    CallsIn Fence.wide n Tryd.prog 74 #[.func (.yield l) #[] #[], .pointer (some ⟨B1, 0, none⟩), .pointer (some ⟨B2, 0, none⟩)] W fun e W' => (∃ v, e = .returned v) ∧ J [] W' := by
  refine callsIn_of_wp Tryd.func74 rfl trivial ?_ rfl
  simp only [Tryd.ntmps74, List.size_toArray, List.length_cons, List.length_nil, Nat.reduceAdd, Nat.reduceSub, Array.replicate_succ, Array.replicate_zero, List.push_toArray, List.append_toArray, List.nil_append, List.cons_append]
  gi_wp2
  gi_loopw [4] (fun i wr => i = .int .i64 0 ∧ J [] wr ∧ wr.cell? ⟨B1, 0, none⟩ = some (.slice a 0 cap)) (fun _ _ => 0)
  case atStart => exact ⟨rfl, h0, h1⟩
  case round =>
    clear h0 h1
    obtain ⟨rfl, hJ, h1⟩ := hrel
    gi_wp2
    go_end0
    exact ⟨⟨_, rfl⟩, hJ⟩

/-- The pieces of a slice: none, or where they lie. -/
def pieceOf (v : Value) (c : Nat) : Value :=
  match v with
  | .slice (some ⟨b, off, none⟩) len _ => piece b off len c
  | _ => .slice none 0 0

/-- What Chunk hands back calls a loop's body for each piece. -/
theorem chunk_stops (n B1 B2 : Nat) (hn : 1 ≤ n) (v : Value) (bs : List UInt8) (w : World) (hv : IsB w v bs) (hsm : bs.length ≤ 281474976710656) (hB1 : B1 < w.heap.size) (hB2 : B2 < w.heap.size)
    (h1 : w.cell? ⟨B1, 0, none⟩ = some v) (h2 : w.cell? ⟨B2, 0, none⟩ = some (.int .i64 64)) :
    SeqStopsK Fence.wide n Tryd.prog 74 #[.pointer (some ⟨B1, 0, none⟩), .pointer (some ⟨B2, 0, none⟩)] (fun c : Nat => #[pieceOf v c]) (KeepTwo B1 B2)
      (fun ys => ys = List.range ((bs.length + 63) / 64)) (fun pre => ∃ k, k ≤ (bs.length + 63) / 64 ∧ pre = List.range k) ((bs.length + 63) / 64) w := by
  intro l J Jx W hW hJ hJx hY h0
  have c1 : W.cell? ⟨B1, 0, none⟩ = some v := (hW.cell (p := ⟨B1, 0, none⟩) hB1).trans h1
  have c2 : W.cell? ⟨B2, 0, none⟩ = some (.int .i64 64) := (hW.cell (p := ⟨B2, 0, none⟩) hB2).trans h2
  obtain ⟨ao, cap, rfl, hl1, hl2, hat⟩ := hv
  by_cases hz : bs.length = 0
  · rw [hz] at c1 ⊢
    exact (chunk0_in n l B1 B2 cap ao J W c1 h0).mono fun e W' ⟨he, hj⟩ => ⟨he, .inl ⟨_, rfl, hj⟩⟩
  · obtain ⟨b, off, rfl, _⟩ : ∃ b off, ao = some ⟨b, off, none⟩ ∧ True := by
      rcases hat with h | ⟨b, off, h, _⟩
      · rw [h] at hz; simp at hz
      · exact ⟨b, off, h, trivial⟩
    refine (chunk1_in n l B1 B2 b off bs.length cap hn (by omega) hl1 hl2 hsm J Jx (fun s W hs => hJ s W W.drew none hs ⟨rfl, rfl, rfl, Nat.le_refl _, fun _ _ _ => rfl⟩ (fun r e => by cases e)) hY W c1 c2 h0).mono ?_
    rintro e W' ⟨he, ⟨ys, rfl, hj⟩ | ⟨pre, hp, hj⟩⟩
    · exact ⟨he, .inl ⟨_, rfl, hj⟩⟩
    · exact ⟨he, .inr ⟨_, hp, hj⟩⟩

end Go.Proofs.YtdojalhaklkegaaDoor
