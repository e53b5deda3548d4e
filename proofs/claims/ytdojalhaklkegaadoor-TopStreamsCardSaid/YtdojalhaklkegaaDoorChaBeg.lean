/-
  CONTRACTS OF chacha.mayBe, chacha.beginning AND chacha.Block. Conditions: the program's table of places lies as it was laid; keys and nonces of whatever lengths (refused, if they aren't 32 and 12).
-/
import Derived.Test.YtdojalhaklkegaaDoorChaBlk
import Derived.Test.YtdojalhaklkegaaDoorWordB
set_option maxRecDepth 100000
namespace Go.Proofs.YtdojalhaklkegaaDoor
open Go.RowKit
set_option linter.unusedVariables false

/-- A row of at least one byte: where it lies. -/
theorem IsB.lies {w : World} {v : Value} {bs : List UInt8} (h : IsB w v bs) (hne : 0 < bs.length) :
    ∃ b off cap, v = .slice (some ⟨b, off, none⟩) bs.length cap ∧ bs.length ≤ cap ∧ cap ≤ maxLen ∧ ∀ i, i < bs.length → w.cell? ⟨b, off + i, none⟩ = some (.int .u8 ((bs.getD i 0).toNat : Int)) := by
  obtain ⟨ao, cap, rfl, h1, h2, h3⟩ := h
  rcases h3 with h | ⟨b, off, rfl, h⟩
  · rw [h] at hne; simp at hne
  · exact ⟨b, off, cap, rfl, h1, h2, h⟩

theorem isB_part {w : World} {b off : Nat} {bs : List UInt8} (hc : ∀ i, i < bs.length → w.cell? ⟨b, off + i, none⟩ = some (.int .u8 ((bs.getD i 0).toNat : Int))) (m n cap : Nat) (hn : n ≤ bs.length - m) (hcap : n ≤ cap) (hmax : cap ≤ maxLen) :
    IsB w (.slice (some ⟨b, off + m, none⟩) n cap) ((bs.drop m).take n) := by
  have hl : ((bs.drop m).take n).length = n := by simp; omega
  refine ⟨_, cap, by rw [hl], by rw [hl]; exact hcap, hmax, .inr ⟨b, off + m, rfl, fun i hi => ?_⟩⟩
  rw [hl] at hi
  have := hc (m + i) (by omega)
  rw [Nat.add_assoc, this]
  simp [List.getD_eq_getElem?_getD, hi]

theorem isB_drop {w : World} {b off : Nat} {bs : List UInt8} (hc : ∀ i, i < bs.length → w.cell? ⟨b, off + i, none⟩ = some (.int .u8 ((bs.getD i 0).toNat : Int))) (m n cap : Nat) (hn : n = bs.length - m) (hcap : n ≤ cap) (hmax : cap ≤ maxLen) :
    IsB w (.slice (some ⟨b, off + m, none⟩) n cap) (bs.drop m) := by
  have h := isB_part hc m n cap (by omega) hcap hmax
  rwa [List.take_of_length_le (by simp; omega)] at h

theorem isB_block {w : World} {g : Nat} {t : TypeId} {bs : List UInt8} (h : Blk w g t (Lib.byteCells bs)) (hm : bs.length ≤ maxLen) : IsB w (.slice (some ⟨g, 0, none⟩) bs.length bs.length) bs := by
  refine ⟨_, bs.length, rfl, Nat.le_refl _, hm, .inr ⟨g, 0, rfl, fun i hi => ?_⟩⟩
  rw [h.cell, Nat.zero_add, byteCells_getElem? bs i hi]

theorem mayBe_yes (a1 a2 : Option Addr) (c1 c2 : Nat) (w : World) :
    Calls Tryd.prog 51 #[.slice a1 32 c1, .slice a2 12 c2] w fun e w' => e = .returned (.bool true) ∧ w' = w := by
  go_enter Tryd.func51, Tryd.ntmps51
  go_wp2
  go_ret
  exact ⟨rfl, rfl⟩

theorem mayBe_no (a1 a2 : Option Addr) (n m c1 c2 : Nat) (w : World) (h : ¬ (n = 32 ∧ m = 12)) :
    Calls Tryd.prog 51 #[.slice a1 n c1, .slice a2 m c2] w fun e w' => e = .returned (.bool false) ∧ w' = w := by
  by_cases h1 : n = 32
  · have h2 : ¬ m = 12 := fun e => h ⟨h1, e⟩
    subst h1
    have h3 : ((m : Int) == 12) = false := by simp; omega
    go_enter Tryd.func51, Tryd.ntmps51
    go_wp2
    go_ret
    exact ⟨rfl, rfl⟩
  · have h3 : ((n : Int) == 32) = false := by simp; omega
    go_enter Tryd.func51, Tryd.ntmps51
    go_wp2
    go_ret
    exact ⟨rfl, rfl⟩

theorem set_mid (xs ys : List Value) (u v : Value) (n : Nat) (h : xs.length = n) : (xs ++ u :: ys).set n v = (xs ++ [v]) ++ ys := by
  subst h
  rw [List.set_append_right _ _ (Nat.le_refl _), Nat.sub_self, List.set_cons_zero, List.append_assoc]
  rfl

/-- The numbers behind k of the key's. -/
def beg1 (key : List UInt8) (ctr : UInt32) (k : Nat) : List Value := wc (M.sigma ++ M.wds key k) ++ (List.replicate (8 - k) (.int .u32 0) ++ wc [ctr, 0, 0, 0])

/-- The numbers behind k of the nonce's. -/
def beg2 (key nonce : List UInt8) (ctr : UInt32) (k : Nat) : List Value := wc (M.sigma ++ M.wds key 8 ++ [ctr] ++ M.wds nonce k) ++ List.replicate (3 - k) (.int .u32 0)

theorem beg1_len (key : List UInt8) (k : Nat) : (wc (M.sigma ++ M.wds key k)).length = 4 + k := by rw [wc_length, List.length_append, M.wds_length]; rfl

theorem beg2_len (key nonce : List UInt8) (ctr : UInt32) (k : Nat) : (wc (M.sigma ++ M.wds key 8 ++ [ctr] ++ M.wds nonce k)).length = 13 + k := by
  rw [wc_length]
  simp [M.wds_length, M.sigma]
  omega

theorem c32_gl (b : List UInt8) : Value.int .u32 (M.gl b 4 : Nat) = c32 (UInt32.ofNat (M.gl b 4)) := by
  rw [c32, UInt32.toNat_ofNat', Nat.mod_eq_of_lt (M.gl_lt b 4)]

theorem wc_snoc (l : List UInt32) (x : UInt32) : wc l ++ [c32 x] = wc (l ++ [x]) := by simp [wc]

theorem beg1_one (key : List UInt8) (ctr : UInt32) (k : Nat) : ∀ v ∈ (beg1 key ctr k).toArray.toList, v.oneCell' = true := by
  intro v hv
  rw [beg1, List.mem_append, List.mem_append] at hv
  rcases hv with h | h | h
  · exact wc_oneCell _ v (by simpa using h)
  · rw [List.eq_of_mem_replicate h]; rfl
  · exact wc_oneCell _ v (by simpa using h)

theorem beg1_set (key : List UInt8) (ctr : UInt32) (k : Nat) (h : k < 8) : (beg1 key ctr k).set (4 + k) (.int .u32 (M.gl (key.drop (4 * k)) 4 : Nat)) = beg1 key ctr (k + 1) := by
  obtain ⟨m, hm⟩ : ∃ m, 8 - k = m + 1 := ⟨7 - k, by omega⟩
  rw [c32_gl, beg1, hm, List.replicate_succ, List.cons_append, set_mid _ _ _ _ _ (beg1_len key k), beg1, show 8 - (k + 1) = m by omega, wc_snoc, List.append_assoc, show M.wds key (k + 1) = M.wds key k ++ [UInt32.ofNat (M.gl (key.drop (4 * k)) 4)] from rfl]

theorem beg1_end (key nonce : List UInt8) (ctr : UInt32) : beg1 key ctr 8 = beg2 key nonce ctr 0 := by
  rw [beg1, beg2]
  simp [wc, M.wds, c32]

theorem beg2_set (key nonce : List UInt8) (ctr : UInt32) (k : Nat) (h : k < 3) : (beg2 key nonce ctr k).set (13 + k) (.int .u32 (M.gl (nonce.drop (4 * k)) 4 : Nat)) = beg2 key nonce ctr (k + 1) := by
  obtain ⟨m, hm⟩ : ∃ m, 3 - k = m + 1 := ⟨2 - k, by omega⟩
  rw [c32_gl, beg2, hm, List.replicate_succ, set_mid _ _ _ _ _ (beg2_len key nonce ctr k), beg2, show 3 - (k + 1) = m by omega, wc_snoc, List.append_assoc, show M.wds nonce (k + 1) = M.wds nonce k ++ [UInt32.ofNat (M.gl (nonce.drop (4 * k)) 4)] from rfl]

theorem beg2_end (key nonce : List UInt8) (ctr : UInt32) : beg2 key nonce ctr 3 = wc (M.first key nonce ctr) := by
  rw [beg2, M.first]
  simp

theorem beg1_get (key : List UInt8) (ctr : UInt32) (k : Nat) (h : k < 8) : (beg1 key ctr k)[4 + k]? = some (.int .u32 0) := by
  obtain ⟨m, hm⟩ : ∃ m, 8 - k = m + 1 := ⟨7 - k, by omega⟩
  rw [beg1, List.getElem?_append_right (by rw [beg1_len]; omega), beg1_len, Nat.sub_self, hm, List.replicate_succ]
  rfl

theorem beg2_get (key nonce : List UInt8) (ctr : UInt32) (k : Nat) (h : k < 3) : (beg2 key nonce ctr k)[13 + k]? = some (.int .u32 0) := by
  obtain ⟨m, hm⟩ : ∃ m, 3 - k = m + 1 := ⟨2 - k, by omega⟩
  rw [beg2, List.getElem?_append_right (by rw [beg2_len]; omega), beg2_len, Nat.sub_self, hm, List.replicate_succ]
  rfl

set_option maxHeartbeats 1000000 in
theorem beginning_any (kv nv : Value) (key nonce : List UInt8) (ctr : UInt32) (w : World) (hk : IsB w kv key) (hn : IsB w nv nonce) (hkl : key.length = 32) (hnl : nonce.length = 12) :
    Calls Tryd.prog 52 #[kv, nv, .int .u32 ctr.toNat] w fun e w' => e = .returned (.agg (wc (M.first key nonce ctr)).toArray) ∧ Below w.heap.size w w' := by
  obtain ⟨b1, o1, p1, rfl, hp1, hq1, hc1⟩ := hk.lies (by omega)
  obtain ⟨b2, o2, p2, rfl, hp2, hq2, hc2⟩ := hn.lies (by omega)
  have hb1 : b1 < w.heap.size := by exact World.block_lt_of_cell? w _ (hc1 0 (by omega))
  have hb2 : b2 < w.heap.size := by exact World.block_lt_of_cell? w _ (hc2 0 (by omega))
  have C1 : Hid (∀ w', Below w.heap.size w w' → ∀ i, i < key.length → w'.cell? ⟨b1, o1 + i, none⟩ = some (.int .u8 ((key.getD i 0).toNat : Int))) := fun w' k i hi => by
    rw [k.cell hb1]; exact hc1 i hi
  have C2 : Hid (∀ w', Below w.heap.size w w' → ∀ i, i < nonce.length → w'.cell? ⟨b2, o2 + i, none⟩ = some (.int .u8 ((nonce.getD i 0).toNat : Int))) := fun w' k i hi => by
    rw [k.cell hb2]; exact hc2 i hi
  rw [hkl] at hp1 ⊢
  rw [hnl] at hp2 ⊢
  have HK := Lib.hid hkl
  have HN := Lib.hid hnl
  have HM1 := Lib.hid hq1
  have HM2 := Lib.hid hq2
  unfold maxLen at hq1 hq2
  clear hk hn hc1 hc2 hkl hnl
  go_enter Tryd.func52, Tryd.ntmps52
  go_wp2_with (refine wpList_store_blk rfl 96 (.tmp 7) (.tmp 11) rfl (w.heap.size + 1) (beg1 key ctr 0).toArray rfl rfl 96 (List.replicate 16 (.int .u32 0)) (Blk.newAt _ _ _ _ _ (by simp) rfl) (by kernel_rfl) rfl (beg1_one key ctr 0) ?_; intro w1 hb1 ho1)
  have B1 : Hid (Blk w1 (w.heap.size + 1) 96 (beg1 key ctr 0)) := hb1
  have B0 : Hid (Blk w1 w.heap.size 96 (List.replicate 16 (.int .u32 0))) := ((Blk.newAt _ _ _ _ _ rfl rfl).alloc _).grown ho1 (by intro e; injection e with e; omega)
  have k1 : Below w.heap.size w w1 := (((Below.refl _ _).alloc (Nat.le_refl _) _).alloc (by simp) _).trans (ho1.below (by simp; omega) (by omega))
  clear hb1 ho1
  go_wp2
  go_loopw [12] (fun i wr => ∃ k : Nat, k ≤ 8 ∧ i = .int .i64 k ∧ Hid (Blk wr (w.heap.size + 1) 96 (beg1 key ctr k)) ∧ Hid (Blk wr w.heap.size 96 (List.replicate 16 (.int .u32 0))) ∧ Below w.heap.size w wr)
    (fun i _ => 8 - (intOf i).toNat)
  case atStart => exact ⟨0, by omega, rfl, B1, B0, k1⟩
  case round =>
    clear B1 B0 k1
    rename_i wr
    obtain ⟨k, hk, rfl, b1', b0, kk⟩ := hrel
    by_cases hlt : k < 8
    · have hs : IsB wr (.slice (some ⟨b1, o1 + 4 * k, none⟩) (32 - 4 * k) (p1 - 4 * k)) (key.drop (4 * k)) := isB_drop (C1.out wr kk) (4 * k) _ _ (by rw [HK.out]) (by omega) (Nat.le_trans (Nat.sub_le _ _) HM1.out)
      have HS := Lib.hid hs
      have HG : Hid (M.gl (key.drop (4 * k)) 4 < 4294967296) := M.gl_lt (key.drop (4 * k)) 4
      have hne : ¬ p1 = 4 * k := by omega
      have hc : wr.cell? ⟨w.heap.size + 1, 4 + k, none⟩ = some (.int .u32 0) := by rw [b1'.out.cell, beg1_get key ctr k hlt]
      have hf : wr.frozen? ⟨w.heap.size + 1, 4 + k, none⟩ = false := b1'.out.frozen _
      have N1 : Hid (Blk (wr.setCell ⟨w.heap.size + 1, 4 + k, none⟩ (.int .u32 (M.gl (key.drop (4 * k)) 4 : Nat))) (w.heap.size + 1) 96 (beg1 key ctr (k + 1))) := (b1'.out.set_ _ _).eq_ (beg1_set key ctr k hlt)
      have N0 : Hid (Blk (wr.setCell ⟨w.heap.size + 1, 4 + k, none⟩ (.int .u32 (M.gl (key.drop (4 * k)) 4 : Nat))) w.heap.size 96 (List.replicate 16 (.int .u32 0))) := b0.out.far (by simp) _
      have NK : Hid (Below w.heap.size w (wr.setCell ⟨w.heap.size + 1, 4 + k, none⟩ (.int .u32 (M.gl (key.drop (4 * k)) 4 : Nat)))) := kk.setCell (by simp) _
      clear hs
      go_wp2_with fail
      refine (get32_any _ _ _ HS.out).mono ?_
      rintro e w2 ⟨rfl, rfl⟩
      obtain ⟨q, hq⟩ : ∃ q : Nat, q = M.gl (key.drop (4 * k)) 4 := ⟨_, rfl⟩
      rw [← hq] at N1 N0 NK HG ⊢
      clear hq
      go_wp2
      go_roundw
      case rel => exact ⟨k + 1, by omega, by go_num, N1, N0, NK.out⟩
      case measure => simp [intOf]; omega
    · obtain rfl : k = 8 := by omega
      obtain ⟨wA, rfl⟩ : ∃ x, x = wr := ⟨_, rfl⟩
      have B1 : Hid (Blk wA (w.heap.size + 1) 96 (beg2 key nonce ctr 0)) := b1'.out.eq_ (beg1_end key nonce ctr)
      clear b1'
      go_wp2
      go_loopw [24] (fun i wz => ∃ k : Nat, k ≤ 3 ∧ i = .int .i64 k ∧ Hid (Blk wz (w.heap.size + 1) 96 (beg2 key nonce ctr k)) ∧ Hid (Blk wz w.heap.size 96 (List.replicate 16 (.int .u32 0))) ∧ Below w.heap.size w wz)
        (fun i _ => 3 - (intOf i).toNat)
      case atStart => exact ⟨0, by omega, rfl, B1, b0, kk⟩
      case round =>
        clear B1 b0 kk
        obtain ⟨wz, rfl⟩ : ∃ x, x = wr := ⟨_, rfl⟩
        obtain ⟨k, hk, rfl, b1', b0, kk⟩ := hrel
        by_cases hlt : k < 3
        · have hs : IsB wz (.slice (some ⟨b2, o2 + 4 * k, none⟩) (12 - 4 * k) (p2 - 4 * k)) (nonce.drop (4 * k)) := isB_drop (C2.out wz kk) (4 * k) _ _ (by rw [HN.out]) (by omega) (Nat.le_trans (Nat.sub_le _ _) HM2.out)
          have HS := Lib.hid hs
          have HG : Hid (M.gl (nonce.drop (4 * k)) 4 < 4294967296) := M.gl_lt (nonce.drop (4 * k)) 4
          have hne : ¬ p2 = 4 * k := by omega
          have hc : wz.cell? ⟨w.heap.size + 1, 13 + k, none⟩ = some (.int .u32 0) := by rw [b1'.out.cell, beg2_get key nonce ctr k hlt]
          have hf : wz.frozen? ⟨w.heap.size + 1, 13 + k, none⟩ = false := b1'.out.frozen _
          have N1 : Hid (Blk (wz.setCell ⟨w.heap.size + 1, 13 + k, none⟩ (.int .u32 (M.gl (nonce.drop (4 * k)) 4 : Nat))) (w.heap.size + 1) 96 (beg2 key nonce ctr (k + 1))) := (b1'.out.set_ _ _).eq_ (beg2_set key nonce ctr k hlt)
          have N0 : Hid (Blk (wz.setCell ⟨w.heap.size + 1, 13 + k, none⟩ (.int .u32 (M.gl (nonce.drop (4 * k)) 4 : Nat))) w.heap.size 96 (List.replicate 16 (.int .u32 0))) := b0.out.far (by simp) _
          have NK : Hid (Below w.heap.size w (wz.setCell ⟨w.heap.size + 1, 13 + k, none⟩ (.int .u32 (M.gl (nonce.drop (4 * k)) 4 : Nat)))) := kk.setCell (by simp) _
          clear hs
          go_wp2_with fail
          refine (get32_any _ _ _ HS.out).mono ?_
          rintro e w2 ⟨rfl, rfl⟩
          obtain ⟨q, hq⟩ : ∃ q : Nat, q = M.gl (nonce.drop (4 * k)) 4 := ⟨_, rfl⟩
          rw [← hq] at N1 N0 NK HG ⊢
          clear hq
          go_wp2
          go_roundw
          case rel => exact ⟨_, .int .i64 ((k : Int) + 1), _, _, _, _, _, _, _, _, _, _, _, ⟨k + 1, by omega, by go_num, N1, N0, NK.out⟩, rfl⟩
          case measure => simp [intOf]; omega
        · obtain rfl : k = 3 := by omega
          obtain ⟨F, hF⟩ : ∃ F, Hid (F = M.first key nonce ctr) := ⟨_, rfl⟩
          have HFL : Hid (F.length = 16) := by rw [Hid, hF.out]; exact M.first_length key nonce ctr
          have RG : Hid (wz.rangeAt (w.heap.size + 1) 0 (wc F)) := by
            have := b1'.out.eq_ (beg2_end key nonce ctr)
            rw [← hF.out] at this
            exact this.range 0 _ [] (by simp)
          clear b1'
          go_wp2_with (first
            | (refine wpList_load_mid rfl 96 (.tmp 7) rfl (w.heap.size + 1) 0 rfl (wc F) _ RG.out Tryd.underlying96 rfl (by rw [wc_length, HFL.out]; kernel_rfl) ?_)
            | (refine wpList_store_blk rfl 96 (.tmp 6) (.tmp 36) rfl w.heap.size (wc F).toArray rfl rfl 96 (List.replicate 16 (.int .u32 0)) b0.out (by rw [List.size_toArray, wc_length, HFL.out]; kernel_rfl) (by rw [List.size_toArray, wc_length, HFL.out, List.length_replicate]) (wc_oneCell F) ?_; intro w3 hb3 ho3))
          have k3 : Below w.heap.size w w3 := kk.trans (ho3.below kk.size (by omega))
          exact bodyPost_ret (results_cell_row rfl _ _ w.heap.size _ _ _ _ rfl hb3 Tryd.underlying96 rfl (by rw [Array.toArray_toList, List.size_toArray, wc_length, HFL.out]; kernel_rfl)) rfl ⟨by rw [Array.toArray_toList, hF.out], k3⟩

theorem block_no (kv nv : Value) (key nonce : List UInt8) (ctr : UInt32) (w : World) (hk : IsB w kv key) (hn : IsB w nv nonce) (hl : ¬ (key.length = 32 ∧ nonce.length = 12)) :
    Calls Tryd.prog 55 #[kv, nv, .int .u32 ctr.toNat] w fun e w' => e = .returned (.tuple #[.slice none 0 0, .int .i64 1]) ∧ w' = w := by
  obtain ⟨a1, c1, rfl, _, _, _⟩ := hk
  obtain ⟨a2, c2, rfl, _, _, _⟩ := hn
  have HC := Lib.hid (mayBe_no a1 a2 _ _ c1 c2 w hl)
  obtain ⟨n, hn⟩ : ∃ n, n = key.length := ⟨_, rfl⟩
  obtain ⟨m, hm⟩ : ∃ n, n = nonce.length := ⟨_, rfl⟩
  rw [← hn, ← hm] at HC ⊢
  clear hn hm hl
  go_enter Tryd.func55, Tryd.ntmps55
  go_wp2_with fail
  refine HC.out.mono ?_
  rintro e w1 ⟨rfl, rfl⟩
  go_wp2
  go_ret2
  exact ⟨rfl, rfl⟩

theorem block_any (kv nv : Value) (key nonce : List UInt8) (ctr : UInt32) (w : World) (hL : LaidP w) (hk : IsB w kv key) (hn : IsB w nv nonce) (hkl : key.length = 32) (hnl : nonce.length = 12) :
    Calls Tryd.prog 55 #[kv, nv, .int .u32 ctr.toNat] w fun e w' => ∃ g, e = .returned (.tuple #[.slice (some ⟨g, 0, none⟩) 64 64, .int .i64 0]) ∧ w.heap.size ≤ g ∧ IsB w' (.slice (some ⟨g, 0, none⟩) 64 64) (M.cblk key nonce ctr) ∧ Below w.heap.size w w' := by
  have HCB := Lib.hid (beginning_any kv nv key nonce ctr w hk hn hkl hnl)
  have HCO := Lib.hid (fun w' (k : Below w.heap.size w w') => blockOf_any (M.first key nonce ctr) w' (hL.below k hL.size) (M.first_length key nonce ctr))
  obtain ⟨C, hC⟩ : ∃ C, Hid (C = M.cblk key nonce ctr) := ⟨_, rfl⟩
  have HCL : Hid (C.length = 64) := by rw [Hid, hC.out]; exact M.cblk_length key nonce ctr
  obtain ⟨F, hF⟩ : ∃ F, Hid (F = M.first key nonce ctr) := ⟨_, rfl⟩
  have hCF : M.blk F = C := by rw [hC.out, hF.out]; rfl
  rw [← hF.out] at HCB HCO
  rw [hCF] at HCO
  rw [← hC.out]
  obtain ⟨a1, c1, rfl, _, _, _⟩ := hk
  obtain ⟨a2, c2, rfl, _, _, _⟩ := hn
  rw [hkl, hnl] at HCB ⊢
  clear hkl hnl hL hC hF hCF
  go_enter Tryd.func55, Tryd.ntmps55
  go_wp2_with fail
  refine (mayBe_yes _ _ _ _ _).mono ?_
  rintro e w1 ⟨rfl, rfl⟩
  go_wp2_with fail
  refine HCB.out.mono ?_
  rintro e w2 ⟨rfl, k2⟩
  go_wp2_with fail
  refine (HCO.out _ k2).mono ?_
  rintro e w3 ⟨rfl, k3⟩
  have k3' := k2.trans (k3.mono k2.size)
  go_wp2_with (refine wpList_store_blk rfl 101 (.tmp 8) (.tmp 17) rfl w3.heap.size (Lib.byteCells C).toArray rfl rfl 101 (List.replicate 64 (.int .u8 0)) (Blk.newAt _ _ _ _ _ rfl rfl) (by rw [List.size_toArray, byteCells_length, HCL.out]; kernel_rfl) (by rw [List.size_toArray, byteCells_length, HCL.out, List.length_replicate]) (bytes_oneCell C) ?_; intro w4 hb4 ho4)
  go_ret2
  refine ⟨_, rfl, k3'.size, ?_, (k3'.alloc k3'.size _).trans (ho4.below (by have := k3'.size; simp; omega) k3'.size)⟩
  have h := isB_block hb4 (by rw [HCL.out]; unfold maxLen; omega)
  rwa [HCL.out] at h

end Go.Proofs.YtdojalhaklkegaaDoor
