/-
  THE CONTRACT OF told: just the table that makes the bytes, if there is one. Conditions: 8192 bytes, at most 2048 blocks, sha's tables laid.
-/
import Derived.Test.YtphcbpfpelonaaaGreatDoorPf23
import Derived.Test.YtphcbpfpelonaaaGreatDoorPw2
namespace Go.Proofs.YtphcbpfpelonaaaGreatDoor
open Go.RowKit Go.Maps
set_option linter.unusedVariables false
set_option maxRecDepth 100000

/-- What told hands back: w is the world ahead, w' the one behind. -/
def ToldIs (w : World) (nb : Nat) (m : List UInt8) (e : Ending) (w' : World) : Prop := Below w.heap.size w w' ∧
  ((∃ t b, M.TabOk nb t ∧ M.tbytes t = m ∧ e = .returned (.tuple #[.map (some b), .bool true]) ∧ w.heap.size ≤ b ∧ TabIn (fun k => w.heap.size ≤ k ∧ k < w'.heap.size) w' b t) ∨
   ((∀ t, M.TabOk nb t → M.tbytes t ≠ m) ∧ ∃ x, e = .returned (.tuple #[x, .bool false])))

theorem range_at {α : Type} (f : Nat → α) (c k : Nat) (h : k < c) : ((List.range c).map f)[k]? = some (f k) := by
  rw [List.getElem?_map, List.getElem?_range h]
  rfl

theorem range_getD (f : Nat → Nat) (c k : Nat) (h : k < c) : ((List.range c).map f).getD k 0 = f k := by
  rw [List.getD_eq_getElem?_getD, range_at f c k h]
  rfl

theorem encStr_mk (l : List UInt8) : encStr l = .string ⟨l.toArray⟩ := rfl

theorem size_mk (l : List UInt8) : (⟨l.toArray⟩ : ByteArray).size = l.length := rfl

theorem M.rdSz_lt (m : List UInt8) (k : Nat) : M.rdSz m k < 4294967296 := M.gl_lt _ 4

theorem pls_take (n : Nat) (m : List UInt8) (c k : Nat) (h : k < c) : ((M.pls n m c).take (k + 1)).foldl M.tput [] = M.tput (((M.pls n m c).take k).foldl M.tput []) ⟨M.rdNm m k, M.rdSz m k, M.lst n m k⟩ := by
  have e : (M.pls n m c)[k]? = some ⟨M.rdNm m k, M.rdSz m k, M.lst n m k⟩ := range_at _ _ _ h
  rw [List.take_add_one, e, List.foldl_append]
  rfl

theorem tabFits {n : Nat} {t : M.Tab} (h : M.TabOk n t) : TabFits t where
  few := h.few
  nm := fun p hp => (h.nm p hp).2
  sz := h.size
  lt := fun p hp b hb => Nat.lt_of_lt_of_le (h.lt p hp b hb) h.n
  len := fun p hp => Nat.le_trans (M.up_le (h.up p hp) (h.lt p hp)) h.n

set_option maxHeartbeats 8000000 in
theorem told_any {w : World} {v : Value} {m : List UInt8} {nb : Nat} (h : IsB w v m) (hm : m.length = 8192) (hn : nb ≤ 2048) (hL : Laid w) :
    Calls Tryz.prog 50 #[v, .int .i64 (nb : Int)] w (ToldIs w nb m) := by
  have hI := h
  obtain ⟨ao, cap, rfl, h1, h2, h3⟩ := h
  obtain ⟨b, off, rfl, hc⟩ : ∃ b off, ao = some ⟨b, off, none⟩ ∧ ∀ i, i < 8192 → w.cell? ⟨b, off + i, none⟩ = some (.int .u8 ((m.getD i 0).toNat : Int)) := by
    rcases h3 with h | ⟨b, off, h, hc⟩
    · rw [h] at hm; cases hm
    · exact ⟨b, off, h, fun i hi => hc i (by omega)⟩
  have HC := Lib.hid hc
  have hcap : 8192 ≤ cap := by omega
  have HCAP := Lib.hid hcap
  have HM := Lib.hid hm
  have HI := Lib.hid hI
  have HNB := Lib.hid hn
  have HL := Lib.hid hL
  have CR := Lib.hid (rows_any hI hm)
  rw [hm]
  rw [hm] at CR
  clear h1 h3 hc hI hm h2 hn hL
  go_enter Tryz.func50, Tryz.ntmps50
  go_wp2_with fail
  refine CR.out.mono ?_
  rintro e w1 ⟨c, nv, sv, hcnt, rfl, on, os, k1⟩
  obtain ⟨na, nc, rfl⟩ := ownShape on
  obtain ⟨sa, sc, rfl⟩ := ownShape os
  rw [rowsNm_len, rowsSz_len] at *
  obtain ⟨C, hC0, hC⟩ := make_lists c (by have := hcnt.le; omega)
  have hmk := hC w1
  obtain ⟨W, hW⟩ : ∃ x, Hid (x = w1.alloc (.cells C 108)) := ⟨_, rfl⟩
  obtain ⟨g, hg⟩ : ∃ x, Hid (x = w1.heap.size) := ⟨_, rfl⟩
  have KW1 : Hid (Below w1.heap.size w1 W) := by rw [hW.out]; exact (Below.refl _ _).alloc (Nat.le_refl _) _
  have KW : Hid (Below w.heap.size w W) := k1.trans (KW1.out.mono k1.size)
  have HG : Hid (w.heap.size ≤ g ∧ g < W.heap.size) := by
    refine ⟨by rw [hg.out]; exact k1.size, ?_⟩
    rw [hW.out, World.size_alloc, hg.out]
    omega
  have IL0 : Hid (IsLs W W.heap.size g c 0 m (List.replicate c (.slice none 0 0))) := by
    refine ⟨?_, List.length_replicate, fun i hi => ?_, fun i j hi hj _ x hx => ?_, HG.out.2, Nat.le_refl _⟩
    · rw [← hC0, hW.out]
      exact Blk.newAt _ _ C g _ hg.out rfl
    · rw [List.getD_eq_getElem?_getD, List.getElem?_replicate, if_pos hi]
      exact ownI_nil _ _
    · rw [List.getD_eq_getElem?_getD, List.getElem?_replicate, if_pos hi] at hx
      simp [Value.ownBlock] at hx
  have ON := Lib.hid (own_below on KW1.out)
  have OS := Lib.hid (own_below os KW1.out)
  have HNG : Hid (∀ k, (Value.slice na c nc).ownBlock = some k → w.heap.size ≤ k ∧ k < g) := fun k hk => by rw [hg.out]; exact on.lt k hk
  have HSG : Hid (∀ k, (Value.slice sa c sc).ownBlock = some k → w.heap.size ≤ k ∧ k < g) := fun k hk => by rw [hg.out]; exact os.lt k hk
  have HCNT := Lib.hid hcnt
  have HC64 : Hid (c ≤ 64) := hcnt.le
  have e1 : ¬ cap = 2912 := by omega
  have e2 : (nb : Int) ≤ ((cap - 2912 : Nat) : Int) := by have := HNB.out; omega
  have e3 : ¬ ((cap - 2912 : Nat) : Int) < (nb : Int) := by omega
  have e4 : (0 : Int) ≤ (nb : Int) := Int.natCast_nonneg _
  have HMK : Hid (∀ x, Below w.heap.size w x → ∀ k, k < nb → x.cell? ⟨b, off + 2912 + k, none⟩ = some (.int .u8 ((M.mark m k : Nat) : Int))) := fun x kx k hk => by
    have h0 := HC.out (2912 + k) (by have := HNB.out; omega)
    rw [← Nat.add_assoc] at h0
    exact (kx.cell (p := ⟨b, off + 2912 + k, none⟩) (World.block_lt_of_cell? w _ h0)).trans h0
  clear hC hC0 on os k1 hcnt CR KW1
  go_upto_region 3 with fail
  rw [← hW.out, ← hg.out]
  clear hmk hW hg
  obtain ⟨cp, hcp⟩ : ∃ z, z = cap - 2912 := ⟨_, rfl⟩
  go_wp2
  rw [← hcp]
  clear e1 e2 e3 hcp
  go_loopw [9, 10, 27] (fun _ _ i wr => ∃ k cs, i = .int .i64 ((k : Nat) : Int) ∧ Hid (k ≤ nb) ∧ Hid (∀ j, j < k → M.mark m j ≤ c) ∧ Hid (IsLs wr W.heap.size g c k m cs) ∧ Hid (Chg (fun b => b = g ∨ W.heap.size ≤ b) W wr) ∧ Hid (Below w.heap.size w wr))
    (fun _ _ i _ => nb - numOf i)
  case atStart => exact ⟨0, _, rfl, Nat.zero_le _, fun j hj => absurd hj (Nat.not_lt_zero _), IL0.out, Chg.refl _ _, KW.out⟩
  case round =>
    clear IL0
    obtain ⟨wz, rfl⟩ : ∃ x, x = wr := ⟨_, rfl⟩
    obtain ⟨k, cs, rfl, hk, hmk, il, cg, kk⟩ := hrel
    by_cases hlt : k < nb
    · have b1 : (k : Int) < (nb : Int) := by omega
      have HK := Lib.hid hlt
      obtain ⟨n, hn⟩ : ∃ z, z = M.mark m k := ⟨_, rfl⟩
      have c0 := HMK.out wz kk.out k hlt
      rw [← hn] at c0
      have hn256 : n < 256 := by rw [hn]; exact UInt8.toNat_lt _
      have g2 : (0 : Int) ≤ (k : Int) := Int.natCast_nonneg k
      have g3 : ((k : Int)).toNat = k := Int.toNat_natCast k
      have HN := Lib.hid hn
      have a3 : IntKind.i64.wrap (n : Int) = (n : Int) := IntWalk.i64_in _ (by omega)
      have n3 : wrap64 ((k : Int) + 1) = ((k + 1 : Nat) : Int) := by have := HNB.out; unfold wrap64; omega
      have N3 := Lib.hid n3
      clear hn n3
      by_cases hgt : c < n
      · have b2 : (c : Int) < (n : Int) := by omega
        go_wp2
        go_ret2
        refine ⟨kk.out, .inr ⟨fun t ht e => ?_, _, rfl⟩⟩
        have := (M.told_iff HM.out HCNT.out HNB.out t ht e).1.marks k HK.out
        rw [← HN.out] at this
        omega
      · have b2 : ¬ (c : Int) < (n : Int) := by omega
        have HNC : Hid (n ≤ c) := by rw [Hid]; omega
        have HMK2 : Hid (∀ j, j < k + 1 → M.mark m j ≤ c) := fun j hj => by
          rcases Nat.lt_or_ge j k with h | h
          · exact hmk.out j h
          · have : j = k := by omega
            subst this
            rw [← HN.out]
            exact HNC.out
        by_cases hz : n = 0
        · have b3 : ¬ (0 : Int) < (n : Int) := by omega
          have IL := Lib.hid (il.out.skip (by rw [← HN.out]; exact hz))
          clear hgt hmk il a3 hn256
          go_wp2
          go_roundw
          case rel => exact ⟨k + 1, cs, by first | rw [N3.out] | rfl, HK.out, HMK2.out, IL.out, cg.out, kk.out⟩
          case measure =>
            first | rw [N3.out] | skip
            exact step_down HK.out
        · have b3 : (0 : Int) < (n : Int) := by omega
          obtain ⟨i, hi⟩ : ∃ i, i = n - 1 := ⟨_, rfl⟩
          have HI : Hid (n = i + 1 ∧ i < c) := by have := HNC.out; rw [Hid]; omega
          have w8 : IntKind.u8.wrap ((n : Int) - 1) = (i : Int) := by
            have := u8_of i (by omega)
            rw [show (n : Int) - 1 = (i : Int) by omega]
            rw [this]
          have g4 : (0 : Int) ≤ (i : Int) := Int.natCast_nonneg i
          have g5 : ((i : Int)).toNat = i := Int.toNat_natCast i
          have g6 : (i : Int) < (c : Int) := by have := HI.out; omega
          obtain ⟨cv, hcv⟩ : ∃ x, x = cs.getD i undef := ⟨_, rfl⟩
          have oi := il.out.each i HI.out.2
          rw [← hcv] at oi
          obtain ⟨la, lc, hsh⟩ := ownShape oi
          obtain ⟨ln, hln⟩ : ∃ z, z = (M.lst k m i).length := ⟨_, rfl⟩
          have HLN : Hid (ln ≤ 2048) := by have h1 := M.lst_le k m i; have h2 := HNB.out; rw [Hid, hln]; omega
          have HLE := Lib.hid hln
          rw [hsh] at oi hcv
          rw [← hln] at hcv
          have HCV := Lib.hid hcv
          have c1 : wz.cell? ⟨g, i, none⟩ = some (.slice la ln lc) := by
            rw [il.out.blk.cell, hcv, List.getD_eq_getElem?_getD, List.getElem?_eq_getElem (by rw [il.out.len]; exact HI.out.2)]
            rfl
          obtain ⟨w7, hw7⟩ : ∃ y, Hid (y = wz.alloc (.cells #[.int .i64 (k : Int)] 3)) := ⟨_, rfl⟩
          obtain ⟨g7, hg7⟩ : ∃ y, Hid (y = wz.heap.size) := ⟨_, rfl⟩
          have K67 : Hid (Below wz.heap.size wz w7) := by rw [hw7.out]; exact (Below.refl _ _).alloc (Nat.le_refl _) _
          have BB7 : Hid (Blk w7 g7 3 [.int .i64 (k : Int)]) := by rw [hw7.out]; exact Blk.newAt _ _ _ _ _ hg7.out rfl
          have O7 := Lib.hid (own_below oi K67.out)
          rw [← hln] at O7
          have B7 := Lib.hid (il.out.blk.below K67.out il.out.blk.lt)
          have HB7 : Hid (W.heap.size ≤ w7.heap.size) := Nat.le_trans il.out.there K67.out.size
          have HBLK : Hid (∀ e, (Value.slice la ln lc).ownBlock = some e → W.heap.size ≤ e) := fun e he => (O7.out.lt e he).1
          clear hgt hmk hsh oi hln hcv hz hi hn256
          go_upto_region 10 with (rw [← hw7.out, ← hg7.out]; refine wpList_app_row ints11 _ rfl (.tmp 46) (.tmp 48) rfl W.heap.size (.slice la ln lc) ln _ rfl O7.out ⟨g7, 0, none⟩ 1 1 [.int .i64 (k : Int)] rfl rfl (fun j u hj => by rw [Addr.add_lit, Nat.zero_add, BB7.out.cell]; exact hj) (by intro u hu; simp only [List.mem_cons, List.not_mem_nil, or_false] at hu; rw [hu]; rfl) (by have := HLN.out; unfold maxLen; omega) (by have := HLN.out; omega) HB7.out ?_; intro v8 w8' o8 g8 a8; obtain ⟨xa, xc, rfl⟩ := ownShape o8; have b8 := B7.out.grown g8 (fun e => by have h1 := HBLK.out g e.symm; have h2 := HG.out; omega); have f8 := b8.frozen i; have c8 : w8'.cell? ⟨g, i, none⟩ = some (.slice la ln lc) := (by rw [b8.cell, HCV.out, List.getD_eq_getElem?_getD, List.getElem?_eq_getElem (by rw [il.out.len]; exact HI.out.2)]; rfl))
          have IL := Lib.hid (il.out.take (w1 := w7) (w2 := w8') HI.out.2 (by rw [← HN.out]; exact HI.out.1) K67.out (by rw [← HLE.out]; exact o8) (by rw [← HCV.out]; exact g8) (by rw [← HCV.out]; exact a8))
          have CH : Chg (fun b => b = g ∨ wz.heap.size ≤ b ∨ (Value.slice la ln lc).ownBlock = some b) wz (w8'.setCell ⟨g, i, none⟩ (.slice xa (ln + 1) xc)) :=
            ((Chg.of_below (F := fun b => b = g ∨ wz.heap.size ≤ b ∨ (Value.slice la ln lc).ownBlock = some b) K67.out).trans (Chg.of_grown (F := fun b => (Value.slice la ln lc).ownBlock = some b) g8 fun b hb => hb) fun b _ e => .inr (.inr e)).setCell ⟨g, i, none⟩ _ (.inl (.inl rfl))
          have CG := Lib.hid (cg.out.trans CH fun b hb e => by
            rcases e with e | e | e
            · exact .inl e
            · have := cg.out.size
              exact .inr (by omega)
            · exact .inr (HBLK.out b e))
          have KK : Hid (Below w.heap.size w (w8'.setCell ⟨g, i, none⟩ (.slice xa (ln + 1) xc))) := KW.out.trans (CG.out.below KW.out.size fun b hb => by
            have := HG.out
            rcases hb with rfl | hb
            · exact this.1
            · omega)
          clear o8 g8 a8 b8 f8 c8 CH w8 a3 O7 B7 BB7 K67 HBLK il cg kk
          go_wp2
          go_roundw
          case rel => exact ⟨k + 1, _, by first | rw [N3.out] | rfl, HK.out, HMK2.out, IL.out, CG.out, KK.out⟩
          case measure =>
            first | rw [N3.out] | skip
            exact step_down HK.out
    · have b1 : ¬ (k : Int) < (nb : Int) := by omega
      obtain rfl : nb = k := by have := hk.out; omega
      obtain ⟨W3, hW3⟩ : ∃ x, Hid (x = wz.alloc (.map #[] 0)) := ⟨_, rfl⟩
      obtain ⟨mb, hmb⟩ : ∃ x, Hid (x = wz.heap.size) := ⟨_, rfl⟩
      have KZ3 : Hid (Below wz.heap.size wz W3) := by rw [hW3.out]; exact (Below.refl _ _).alloc (Nat.le_refl _) _
      have K3 : Hid (Below w.heap.size w W3) := kk.out.trans (KZ3.out.mono kk.out.size)
      have IL3 := Lib.hid (il.out.below KZ3.out)
      have CG3 : Hid (Chg (fun b => b = g ∨ W.heap.size ≤ b) W W3) := cg.out.trans (Chg.of_below (F := fun _ => False) KZ3.out) fun _ _ h => h.elim
      have ON3 := Lib.hid (own_chg ON.out CG3.out fun b hb e => by
        have h1 := HNG.out b hb
        have h2 := HG.out
        rcases e with e | e <;> omega)
      have OS3 := Lib.hid (own_chg OS.out CG3.out fun b hb e => by
        have h1 := HSG.out b hb
        have h2 := HG.out
        rcases e with e | e <;> omega)
      have HMB : Hid (w.heap.size ≤ mb ∧ W.heap.size ≤ mb ∧ mb < W3.heap.size) := by
        refine ⟨by rw [hmb.out]; exact kk.out.size, by rw [hmb.out]; exact il.out.there, ?_⟩
        rw [hW3.out, World.size_alloc, hmb.out]
        omega
      have T3 : Hid (∃ vs, IsTabV W3 mb [] vs ∧ ∀ i, i < ([] : M.Tab).length → Lies (fun k => w.heap.size ≤ k ∧ k < W3.heap.size) (vs.getD i undef)) := ⟨[], by rw [hW3.out, hmb.out]; exact tab_made wz, fun i hi => by cases hi⟩
      have HLM : Hid (∀ i, i < c → ∀ b, (cs.getD i undef).ownBlock = some b → b < mb) := fun i hi b hb => by rw [hmb.out]; exact ((il.out.each i hi).lt b hb).2
      have HMK := Lib.hid hmk.out
      clear hlt hmk il cg kk KZ3 ON OS hk
      have hmm : (Instr.makeMap 68 none).run Tryz.prog wz = .ok (.map (some wz.heap.size)) (wz.alloc (.map #[] 0)) := rfl
      go_upto_region 12 with fail
      rw [← hW3.out, ← hmb.out]
      clear hW3 hmb hmm
      go_wp2
      go_loopw [12, 13, 55] (fun _ _ i wr => ∃ k : Nat, i = .int .i64 (k : Int) ∧ Hid (k ≤ c) ∧ Hid (∀ j, j < k → (M.rdNm m j).length ≤ 40 ∧ (M.lst nb m j).length = M.need (M.rdSz m j)) ∧ Hid (∃ vs, IsTabV wr mb (((M.pls nb m c).take k).foldl M.tput []) vs ∧ ∀ i, i < (((M.pls nb m c).take k).foldl M.tput []).length → Lies (fun k => w.heap.size ≤ k ∧ k < W3.heap.size) (vs.getD i undef)) ∧ Hid (W3.grownBy wr (some mb)) ∧ Hid (wr.heap.size = W3.heap.size))
        (fun _ _ i _ => c - numOf i)
      case atStart => exact ⟨0, rfl, Nat.zero_le _, fun j hj => absurd hj (Nat.not_lt_zero _), by rw [List.take_zero]; exact T3.out, World.grownBy.refl _ _, rfl⟩
      case round =>
        clear T3
        obtain ⟨wz, rfl⟩ : ∃ x, x = wr := ⟨_, rfl⟩
        obtain ⟨k, rfl, hk, hok, ht, gz, hsz⟩ := hrel
        have CZ : Hid (Chg (fun b => b = mb) W3 wz) := Chg.of_grown (F := fun b => b = mb) gz.out fun b hb => by injection hb with hb; exact hb.symm
        have KZ : Hid (Below w.heap.size w wz) := K3.out.trans (CZ.out.below K3.out.size fun b hb => by rw [hb]; exact HMB.out.1)
        by_cases hlt : k < c
        · have b1 : (k : Int) < (c : Int) := by omega
          have HK := Lib.hid hlt
          have onz := own_chg ON3.out CZ.out fun b hb e => by
            have h1 := HNG.out b hb
            have h2 := HG.out
            have h3 := HMB.out
            omega
          have osz := own_chg OS3.out CZ.out fun b hb e => by
            have h1 := HSG.out b hb
            have h2 := HG.out
            have h3 := HMB.out
            omega
          rw [rowsNm_len] at onz
          rw [rowsSz_len] at osz
          obtain ⟨ng, rfl, -, cn, -⟩ := ownCells onz (by omega)
          obtain ⟨sg, rfl, -, cs', -⟩ := ownCells osz (by omega)
          obtain ⟨nm, hnm⟩ : ∃ s : ByteArray, s = ⟨(M.rdNm m k).toArray⟩ := ⟨_, rfl⟩
          obtain ⟨sz, hs⟩ : ∃ z, z = M.rdSz m k := ⟨_, rfl⟩
          obtain ⟨q, hq⟩ : ∃ z, z = (M.rdNm m k).length := ⟨_, rfl⟩
          have c0 : wz.cell? ⟨ng, k, none⟩ = some (.string nm) := by
            rw [cn k (by rw [List.length_map, rowsNm_len]; exact hlt), List.getElem?_map, rowsNm, range_at _ _ _ hlt, Option.map_some, encStr_mk, hnm]
          have c1 : wz.cell? ⟨sg, k, none⟩ = some (.int .i64 (sz : Int)) := by
            rw [cs' k (by rw [ic_length, rowsSz_len]; exact hlt), ic_get _ _ (by rw [rowsSz_len]; exact hlt), rowsSz, range_getD _ _ _ hlt, hs]
          have hszl : sz < 4294967296 := by rw [hs]; exact M.rdSz_lt _ _
          have hqs : nm.size = q := by rw [hnm, hq]; exact size_mk _
          have oi := IL3.out.each k hlt
          obtain ⟨cv, hcv⟩ : ∃ x, x = cs.getD k undef := ⟨_, rfl⟩
          have hlm := HLM.out k hlt
          rw [← hcv] at oi hlm
          have oz := own_chg oi CZ.out fun b hb e => by
            have := hlm b hb
            omega
          obtain ⟨la, lc, hsh⟩ := ownShape oz
          obtain ⟨ln, hln⟩ : ∃ z, z = (M.lst nb m k).length := ⟨_, rfl⟩
          rw [hsh] at oi oz hcv hlm
          rw [← hln] at hcv oi oz
          have bz : Blk wz g 108 cs := IL3.out.blk.chg CZ.out fun e => by
            have h1 := HMB.out
            have h2 := HG.out
            omega
          have c2 : wz.cell? ⟨g, k, none⟩ = some (.slice la ln lc) := by
            rw [bz.cell, hcv, List.getD_eq_getElem?_getD, List.getElem?_eq_getElem (by rw [IL3.out.len]; exact hlt)]
            rfl
          have g2 : (0 : Int) ≤ (k : Int) := Int.natCast_nonneg k
          have g3 : ((k : Int)).toNat = k := Int.toNat_natCast k
          obtain ⟨nd, hnd⟩ : ∃ z, z = M.need sz := ⟨_, rfl⟩
          have CN : Hid (∀ x, Calls Tryz.prog 52 #[.int .i64 (sz : Int)] x fun e w' => e = .returned (.int .i64 (nd : Int)) ∧ w' = x) := fun x => by
            rw [hnd]
            exact need_any sz x (by omega)
          have HSZL := Lib.hid hszl
          have HNM := Lib.hid hnm
          have HS := Lib.hid hs
          have HQ := Lib.hid hq
          have HLN := Lib.hid hln
          have HND := Lib.hid hnd
          have OZ := Lib.hid oz
          have OI := Lib.hid oi
          have n3 : wrap64 ((k : Int) + 1) = ((k + 1 : Nat) : Int) := by have := HC64.out; unfold wrap64; omega
          have N3 := Lib.hid n3
          clear hnm hs hq hln hnd oz oi hszl hcv hsh hlm cn cs' onz osz bz n3
          by_cases h40 : 40 < q
          · as_aux_lemma =>
            have b2 : (40 : Int) < (q : Int) := by omega
            go_upto_region 15 with fail
            go_quiet (fail)
            go_wp2
            go_ret2
            refine ⟨KZ.out.trans ((drewN_below (Below.refl _ wz) nq).mono KZ.out.size), .inr ⟨fun t ht e => ?_, _, rfl⟩⟩
            have := ((M.told_iff HM.out HCNT.out HNB.out t ht e).1.each k HK.out).1
            rw [← HQ.out] at this
            omega
          · have b2 : ¬ (40 : Int) < (q : Int) := by omega
            by_cases he : ln = nd
            · as_aux_lemma =>
              have e5 : ((ln : Int) != (nd : Int)) = false := by rw [he]; simp
              have e6 : ((ln : Int) == (nd : Int)) = true := by rw [he]; simp
              have e7 : decide ((ln : Int) = (nd : Int)) = true := by rw [he]; simp
              have HE := Lib.hid he
              have H40 := Lib.hid h40
              clear he h40
              go_upto_region 15 with fail
              go_quiet ((go_at_call 52; exact Calls.quiet_of_same (CN.out _)))
              obtain ⟨wq, hwq⟩ : ∃ x, Hid (x = wz.drewN nq) := ⟨_, rfl⟩
              rw [← hwq.out]
              have KQ : Hid (Below wz.heap.size wz wq) := by rw [hwq.out]; exact drewN_below (Below.refl _ wz) nq
              have KZQ : Hid (Below w.heap.size w wq) := KZ.out.trans (KQ.out.mono KZ.out.size)
              have c0q : wq.cell? ⟨sg, k, none⟩ = some (.int .i64 (sz : Int)) := by rw [hwq.out]; exact c1
              have c2q : wq.cell? ⟨g, k, none⟩ = some (.slice la ln lc) := by rw [hwq.out]; exact c2
              have GZ : Hid (W3.grownBy wq (some mb)) := by
                have h1 : Only mb wz wq := Only.of_below KQ.out
                exact Only.trans gz.out h1
              have HSQ : Hid (wq.heap.size = W3.heap.size) := by rw [Hid, hwq.out]; exact hsz.out
              clear hwq c0 c1 c2 e5 e6 e7 b2
              go_upto_region 17 with fail
              refine wp_region_still 11 (by kernel_rfl) (by kernel_rfl) ?_
              simp only [List.take_succ_cons, List.take_zero, List.drop_succ_cons, List.drop_zero]
              repeat still_step
              refine wpStill_nil ?_
              obtain ⟨vs, htv, hts⟩ := ht.out
              have KD : Below wz.heap.size wz wq.drew := KQ.out.trans ((drewN_below (Below.refl _ wq) 1).mono KQ.out.size)
              have HV : IsI wq.drew (.slice la ln lc) (M.lst nb m k) := by
                have h1 := OZ.out
                rw [HLN.out] at h1 ⊢
                exact (OwnI.isI h1).below KD
              have HVS : Lies (fun k => w.heap.size ≤ k ∧ k < W3.heap.size) (.slice la ln lc) := lies_own OI.out fun x h1 h2 => ⟨by have := HG.out; omega, h2⟩
              obtain ⟨w5, vs', hrun, h1, h2, h3, h4⟩ := (htv.below KD).storeL hts ⟨M.rdNm m k, sz, M.lst nb m k⟩ (.slice la ln lc) HV HVS (by show (M.rdNm m k).length ≤ maxLen; have := HQ.out; have := H40.out; unfold maxLen; omega) (by
                have h5 := M.puts_few ((M.pls nb m c).take k) []
                have h6 := HC64.out
                rw [List.length_take, M.pls_length] at h5
                simp only [List.length_nil] at h5
                omega)
              rw [show (ByteArray.mk (M.Pl.mk (M.rdNm m k) sz (M.lst nb m k)).nm.toArray) = nm from HNM.out.symm, show plV (M.Pl.mk (M.rdNm m k) sz (M.lst nb m k)) (.slice la ln lc) = .agg #[.int .i64 (sz : Int), .slice la ln lc] from rfl] at hrun
              have HT5 : Hid (∃ vs, IsTabV w5 mb (((M.pls nb m c).take (k + 1)).foldl M.tput []) vs ∧ ∀ i, i < (((M.pls nb m c).take (k + 1)).foldl M.tput []).length → Lies (fun k => w.heap.size ≤ k ∧ k < W3.heap.size) (vs.getD i undef)) := by
                rw [Hid, pls_take nb m c k HK.out, ← HS.out]
                exact ⟨vs', h1, h2⟩
              have G5 : Hid (W3.grownBy w5 (some mb)) := by
                have h5 : Only mb wq wq.drew := Only.of_below (drewN_below (Below.refl _ wq) 1)
                exact Only.trans (Only.trans GZ.out h5) h3
              have S5 : Hid (w5.heap.size = W3.heap.size) := h4.trans HSQ.out
              have HOK5 : Hid (∀ j, j < k + 1 → (M.rdNm m j).length ≤ 40 ∧ (M.lst nb m j).length = M.need (M.rdSz m j)) := fun j hj => by
                rcases Nat.lt_or_ge j k with h | h
                · exact hok.out j h
                · have : j = k := by omega
                  subst this
                  refine ⟨by rw [← HQ.out]; have := H40.out; omega, ?_⟩
                  rw [← HLN.out, ← HS.out, ← HND.out]
                  exact HE.out
              clear h1 h2 h3 h4 HV HVS KD htv hts c0q c2q hok ht gz hsz
              go_wp2
              clear hrun
              go_wp2
              go_roundw
              case rel => exact ⟨k + 1, by first | rw [N3.out] | rfl, HK.out, HOK5.out, HT5.out, G5.out, S5.out⟩
              case measure =>
                first | rw [N3.out] | skip
                exact step_down HK.out
            · as_aux_lemma =>
              have e5 : ((ln : Int) != (nd : Int)) = true := by simp; omega
              have e6 : ((ln : Int) == (nd : Int)) = false := by simp; omega
              have e7 : decide ((ln : Int) = (nd : Int)) = false := by simp; omega
              have HE := Lib.hid he
              clear he
              go_upto_region 15 with fail
              go_quiet ((go_at_call 52; exact Calls.quiet_of_same (CN.out _)))
              go_wp2
              go_ret2
              refine ⟨KZ.out.trans ((drewN_below (Below.refl _ wz) nq).mono KZ.out.size), .inr ⟨fun t ht e => ?_, _, rfl⟩⟩
              have := ((M.told_iff HM.out HCNT.out HNB.out t ht e).1.each k HK.out).2
              rw [← HLN.out, ← HS.out, ← HND.out] at this
              exact HE.out this
        · as_aux_lemma =>
          have b1 : ¬ (k : Int) < (c : Int) := by omega
          obtain rfl : k = c := by have := hk.out; omega
          have TL : Hid (M.Tells nb m k) := ⟨HMK.out, hok.out⟩
          have TO := Lib.hid (M.told_ok HM.out HCNT.out TL.out HNB.out)
          have hT := ht.out
          rw [List.take_of_length_le (by rw [M.pls_length]; exact Nat.le_refl _)] at hT
          obtain ⟨t, htt⟩ : ∃ t, t = (M.pls nb m k).foldl M.tput [] := ⟨_, rfl⟩
          rw [← htt] at hT TO
          obtain ⟨vs, hv1, hv2⟩ := hT
          have HTT := Lib.hid htt
          have CB := Lib.hid (tbytes_any hv1 (tabFits TO.out) (HL.out.below KZ.out HL.out.size))
          obtain ⟨bs, hbs⟩ : ∃ x, x = M.tbytes t := ⟨_, rfl⟩
          have HBL : Hid (bs.length = 8192) := by rw [Hid, hbs]; exact M.tbytes_len TO.out
          rw [← hbs] at CB
          have HBS := Lib.hid hbs
          have HV1 := Lib.hid hv1
          have HV2 := Lib.hid hv2
          clear hlt htt hv1 hv2 hbs ht gz hok
          go_wp2_with fail
          refine CB.out.mono ?_
          rintro e w4 ⟨mv, rfl, o4, k4⟩
          obtain ⟨ma, mc, rfl⟩ := o4.shape'
          rw [HBL.out] at o4 ⊢
          have hIm := (HI.out.below (KZ.out.trans (k4.mono KZ.out.size)))
          rw [HM.out] at hIm
          have CE := Lib.hid (bytesEqual_any _ _ bs m w4 o4.isB hIm (by intro e; have := HBL.out; rw [e] at this; cases this) (by intro e; have := HM.out; rw [e] at this; cases this))
          obtain ⟨eq, heq⟩ : ∃ b, b = decide (bs = m) := ⟨_, rfl⟩
          rw [← heq] at CE
          have HEQ := Lib.hid heq
          have K4 := Lib.hid k4
          clear heq hIm k4
          go_wp2_with fail
          refine CE.out.mono ?_
          rintro e w5 ⟨rfl, rfl⟩
          go_wp2
          go_ret2
          have KK := KZ.out.trans (K4.out.mono KZ.out.size)
          refine ⟨KK, ?_⟩
          cases eq with
          | true =>
            have hm : bs = m := of_decide_eq_true HEQ.out.symm
            refine .inl ⟨t, mb, TO.out, HBS.out.symm.trans hm, rfl, HMB.out.1, ⟨vs, HV1.out.below K4.out, fun i hi => (HV2.out i hi).mono fun x hx => ⟨hx.1, ?_⟩⟩⟩
            have h1 := hsz.out
            have h2 := K4.out.size
            omega
          | false =>
            have hm : bs ≠ m := of_decide_eq_false HEQ.out.symm
            refine .inr ⟨fun t' ht' e => ?_, _, rfl⟩
            have := (M.told_iff HM.out HCNT.out HNB.out t' ht' e).2
            rw [← HTT.out] at this
            rw [this] at e
            exact hm (HBS.out.trans e)

end Go.Proofs.YtphcbpfpelonaaaGreatDoor
