/-
  THE CONTRACT OF rows: names and sizes that rows tell, up to the first one with no name. Conditions: 8192 bytes.
  LISTS OF INTS IN ONE ROW (IsLs: each taker's blocks), 'make([][]int, n)'; TABLES WHOSE ROWS LIE IN BLOCKS S (TabIn). Conditions: none.
-/
import Derived.Test.YtphcbpfpelonaaaGreatDoorPfR
import Derived.Test.YtphcbpfpelonaaaGreatDoorFileE
import Derived.Test.YtphcbpfpelonaaaGreatDoorPf22
import Derived.Laws.IdiomStrings

namespace Go.Proofs.YtphcbpfpelonaaaGreatDoor
open Go.RowKit Go.Maps
set_option linter.unusedVariables false
set_option maxRecDepth 100000

theorem strs11 : RowTy 48 9 1 16 (.string ⟨#[]⟩) := ⟨Tryz.underlying48, by kernel_rfl, rfl, by decide⟩

/-- A row stays while one of another type grows. -/
theorem own_kept {w w' : World} {B B' n n' size size' : Nat} {e e' : TypeId} {v v' : Value} {xs xs' : List Value} (h : w.ownsRow B e size v n xs) (k : w.ownsRow B' e' size' v' n' xs') (hne : e ≠ e') (g : w.grownBy w' v'.ownBlock) : w'.ownsRow B e size v n xs := by
  refine owns_last h g fun b hb e1 => ?_
  rcases h.2 with ⟨rfl, _⟩ | ⟨k1, cap, cur, rfl, hb', hg', _⟩
  · simp [Value.ownBlock] at hb
  · obtain rfl : k1 = b := by simpa [Value.ownBlock] using hb
    rcases k.2 with ⟨rfl, _⟩ | ⟨k2, cap2, cur2, rfl, hb2, hg2, _⟩
    · simp [Value.ownBlock] at e1
    · obtain rfl : k2 = k1 := by simpa [Value.ownBlock] using e1
      have e2 := (Option.some.inj (hg'.symm.trans hg2))
      injection e2 with _ e2 _
      exact hne e2

theorem own_below {w w' : World} {B n size : Nat} {e : TypeId} {v : Value} {xs : List Value} (h : w.ownsRow B e size v n xs) (k : Below w.heap.size w w') : w'.ownsRow B e size v n xs :=
  own_chg h (Chg.of_below (F := fun _ => False) k) fun _ _ h => h

theorem conv_name {w : World} {b off : Nat} {n c : Nat} {l : List UInt8} (hl : l.length = n) (h : ∀ i, i < n → w.cell? ⟨b, off + i, none⟩ = some (.int .u8 ((l.getD i 0).toNat : Int))) :
    (convert 38 9 (.slice (some ⟨b, off, none⟩) n c)).run Tryz.prog w = .ok (.string ⟨l.toArray⟩) w := by
  subst hl
  exact run_convert_bytes_back w 38 9 5 ⟨b, off, none⟩ c l Tryz.underlying38 Tryz.underlying5 Tryz.underlying9 fun j hj => by
    rw [Addr.add_lit, h j hj, List.getD_eq_getElem?_getD, List.getElem?_eq_getElem hj]
    rfl

def rowsNm (m : List UInt8) (k : Nat) : List (List UInt8) := (List.range k).map (M.rdNm m)
def rowsSz (m : List UInt8) (k : Nat) : List Nat := (List.range k).map (M.rdSz m)

theorem rowsNm_next (m : List UInt8) (k : Nat) : (rowsNm m (k + 1)).map encStr = (rowsNm m k).map encStr ++ [.string ⟨(M.rdNm m k).toArray⟩] := by
  rw [rowsNm, List.range_succ, List.map_append, List.map_append]
  rfl

theorem rowsSz_next (m : List UInt8) (k : Nat) : ic (rowsSz m (k + 1)) = ic (rowsSz m k) ++ [.int .i64 ((M.rdSz m k : Nat) : Int)] := by
  rw [rowsSz, List.range_succ, List.map_append, ic_append]
  rfl

theorem rowsNm_len (m : List UInt8) (k : Nat) : (rowsNm m k).length = k := by rw [rowsNm, List.length_map, List.length_range]
theorem rowsSz_len (m : List UInt8) (k : Nat) : (rowsSz m k).length = k := by rw [rowsSz, List.length_map, List.length_range]

set_option maxHeartbeats 8000000 in
theorem rows_any {w : World} {v : Value} {m : List UInt8} (h : IsB w v m) (hm : m.length = 8192) :
    Calls Tryz.prog 80 #[v] w fun e w' => ∃ c nv sv, M.IsCnt m c ∧ e = .returned (.tuple #[nv, sv]) ∧ OwnS w' w.heap.size nv (rowsNm m c) ∧ OwnI w' w.heap.size sv (rowsSz m c) ∧ Below w.heap.size w w' := by
  have hI := h
  obtain ⟨ao, cap, rfl, h1, h2, h3⟩ := h
  obtain ⟨b, off, rfl, hc⟩ : ∃ b off, ao = some ⟨b, off, none⟩ ∧ ∀ i, i < 8192 → w.cell? ⟨b, off + i, none⟩ = some (.int .u8 ((m.getD i 0).toNat : Int)) := by
    rcases h3 with h | ⟨b, off, h, hc⟩
    · rw [h] at hm; cases hm
    · exact ⟨b, off, h, fun i hi => hc i (by omega)⟩
  have HC := Lib.hid hc
  have hcap : 8192 ≤ cap := by omega
  have HCAP := Lib.hid hcap
  have HM := Lib.hid hm
  have HI := Lib.hid hI
  rw [hm]
  rw [hm] at hI
  clear h1 h3 hc hI
  go_enter Tryz.func80, Tryz.ntmps80
  go_wp2
  go_loopw [4, 5, 6, 7, 8] (fun nv sv _ _ i wr => ∃ k : Nat, i = .int .i64 (k : Int) ∧ Hid (k ≤ 64) ∧ Hid (∀ j, j < k → M.rdN m j ≠ 0) ∧ Hid (OwnS wr w.heap.size nv (rowsNm m k)) ∧ Hid (OwnI wr w.heap.size sv (rowsSz m k)) ∧ Hid (Below w.heap.size w wr))
    (fun _ _ _ _ i _ => 64 - numOf i)
  case atStart => exact ⟨0, rfl, by rw [Hid]; omega, fun j hj => absurd hj (Nat.not_lt_zero _), World.ownsRow_nil _ _ _ _, ownI_nil _ _, Below.refl _ _⟩
  case round =>
    obtain ⟨wz, rfl⟩ : ∃ x, x = wr := ⟨_, rfl⟩
    obtain ⟨k, rfl, hk, hno, on, os, kk⟩ := hrel
    obtain ⟨nv, rfl⟩ : ∃ x, x = u4 := ⟨_, rfl⟩
    obtain ⟨sv, rfl⟩ : ∃ x, x = u5 := ⟨_, rfl⟩
    by_cases hlt : k < 64
    · have b1 : (k : Int) < 64 := by omega
      have HK := Lib.hid hlt
      have e45 : ¬ cap = 32 + k * 45 := by omega
      have e46 : ¬ 8192 = 32 + k * 45 := by omega
      go_upto_region 7 with fail
      obtain ⟨r, hr⟩ : ∃ r, r = 32 + k * 45 := ⟨_, rfl⟩
      have HR : Hid (r = M.rowAt k) := by rw [Hid, M.rowAt]; omega
      have hr2 : r ≤ 2867 := by omega
      rw [← hr]
      obtain ⟨ro, hro⟩ : ∃ z, z = off + r := ⟨_, rfl⟩
      obtain ⟨rl, hrl⟩ : ∃ z, z = 8192 - r := ⟨_, rfl⟩
      obtain ⟨rc, hrc⟩ : ∃ z, z = cap - r := ⟨_, rfl⟩
      have HRL : Hid (5000 ≤ rl ∧ rl ≤ 8192 ∧ rl ≤ rc) := by rw [Hid]; omega
      have HRO : Hid (ro = off + r ∧ r ≤ 2867 ∧ rl = 8192 - r) := ⟨hro, hr2, hrl⟩
      have HRM : Hid (rc - 41 ≤ maxLen) := by rw [Hid]; omega
      rw [← hro, ← hrl, ← hrc]
      have HZC : Hid (∀ x, Below w.heap.size w x → ∀ i, i < 5000 → x.cell? ⟨b, ro + i, none⟩ = some (.int .u8 ((m.getD (r + i) 0).toNat : Int))) := fun x kx i hi => by
        have h0 := HC.out (r + i) (by omega)
        rw [← Nat.add_assoc, ← hro] at h0
        exact (kx.cell (p := ⟨b, ro + i, none⟩) (World.block_lt_of_cell? w _ h0)).trans h0
      have c0 := HZC.out wz kk.out 0 (by omega)
      rw [Nat.add_zero, Nat.add_zero] at c0
      obtain ⟨n, hn⟩ : ∃ z, z = M.rdN m k := ⟨_, rfl⟩
      have en : ((m.getD r 0).toNat) = n := by rw [hn, M.rdN, HR.out]
      have hn256 : n < 256 := by rw [← en]; exact UInt8.toNat_lt _
      rw [en] at c0
      have HN := Lib.hid hn
      have HN256 := Lib.hid hn256
      have d0 : ¬ rl = 0 := by have := HRL.out; omega
      clear hr hro hrl hrc en e45 e46 hr2 hn
      by_cases hz : n = 0
      · subst hz
        go_wp2
        go_ret2
        exact ⟨k, nv, sv, ⟨hk.out, hno.out, .inr HN.out.symm⟩, rfl, on.out, os.out, kk.out⟩
      · have q1 : ¬ (n : Int) = 0 := by omega
        have q2 : ((n : Int) == 0) = false := by simpa using hz
        go_upto_region 8 with fail
        obtain ⟨nm, hnm⟩ : ∃ s : ByteArray, s = ⟨(M.rdNm m k).toArray⟩ := ⟨_, rfl⟩
        have HNL : Hid ((M.rdNm m k).length = n) := by
          have := HM.out
          have := HRO.out
          have := HR.out
          have := HN256.out
          rw [Hid, M.rdNm, ← HN.out, List.length_take, List.length_drop, HM.out, ← HR.out]
          omega
        have HCV : Hid (∀ x, Below w.heap.size w x → ∀ c, (convert 38 9 (.slice (some ⟨b, ro + 1, none⟩) n c)).run Tryz.prog x = .ok (.string nm) x) := fun x kx c => by
          rw [hnm]
          refine conv_name HNL.out fun i hi => ?_
          have := HN256.out
          rw [show ro + 1 + i = ro + (1 + i) by omega, HZC.out x kx (1 + i) (by omega)]
          congr 3
          rw [M.rdNm, List.getD_eq_getElem?_getD, List.getD_eq_getElem?_getD, List.getElem?_take, if_pos (by rw [← HN.out]; exact hi), List.getElem?_drop, HR.out, Nat.add_assoc]
        have HNM := Lib.hid hnm
        clear hnm
        refine wp_region_any (by kernel_rfl) ?_
        change wpAny _ _ _ _ _ _ _ (World.drew _)
        refine wpAny_of_held (S := fun w' => w'.cell? ⟨b, ro, none⟩ = some (.int .u8 (n : Int)) ∧ ∀ c, (convert 38 9 (.slice (some ⟨b, ro + 1, none⟩) n c)).run Tryz.prog w' = .ok (.string nm) w') _ _ _ _ ?_
        have KD : Below w.heap.size w wz.drew := drewN_below kk.out 1
        have S0 : wz.drew.cell? ⟨b, ro, none⟩ = some (.int .u8 (n : Int)) ∧ ∀ c, (convert 38 9 (.slice (some ⟨b, ro + 1, none⟩) n c)).run Tryz.prog wz.drew = .ok (.string nm) wz.drew := ⟨c0, HCV.out _ KD⟩
        refine wpAnyH_take_at (i := 0) (v := nv) rfl rfl (by kernel_rfl) (by kernel_rfl) (by kernel_rfl) (fun _ _ _ h => h) (Or.inl ⟨by rfl, fun w hS => by go_simp⟩) S0 ?_
        simp only [List.setIfInBounds_toArray, List.set_cons_zero, List.set_cons_succ]
        refine wpAnyH_take_at (i := 1) (v := .slice (some ⟨b, ro, none⟩) rl rc) rfl rfl (by kernel_rfl) (by kernel_rfl) (by kernel_rfl) (fun _ _ _ h => h) (Or.inl ⟨by rfl, fun w hS => by go_simp⟩) S0 ?_
        simp only [List.setIfInBounds_toArray, List.set_cons_zero, List.set_cons_succ]
        refine wpAnyH_take_at (i := 2) (v := .slice (some ⟨b, ro + 1, none⟩) (rl - 1) (rc - 1)) rfl rfl (by kernel_rfl) (by kernel_rfl) (by kernel_rfl) (fun _ _ _ h => h) (Or.inl ⟨by rfl, fun w hS => by have e := HRL.out; have e1 : ¬ rc = 1 := (by omega); have e2 : 1 ≤ rl := (by omega); have e5 : ¬ (rl : Int) < 1 := (by omega); go_simp⟩) S0 ?_
        simp only [List.setIfInBounds_toArray, List.set_cons_zero, List.set_cons_succ]
        refine wpAnyH_take_at (i := 3) (v := .slice (some ⟨b, ro, none⟩) rl rc) rfl rfl (by kernel_rfl) (by kernel_rfl) (by kernel_rfl) (fun _ _ _ h => h) (Or.inl ⟨by rfl, fun w hS => by go_simp⟩) S0 ?_
        simp only [List.setIfInBounds_toArray, List.set_cons_zero, List.set_cons_succ]
        refine wpAnyH_take_at (i := 4) (v := .pointer (some ⟨b, ro, none⟩)) rfl rfl (by kernel_rfl) (by kernel_rfl) (by kernel_rfl) (fun _ _ _ h => h) (Or.inl ⟨by rfl, fun w hS => by have e := HRL.out; have e1 : ¬ rl = 0 := (by omega); go_simp⟩) S0 ?_
        simp only [List.setIfInBounds_toArray, List.set_cons_zero, List.set_cons_succ]
        refine wpAnyH_take_at (i := 5) (v := .int .u8 (n : Int)) rfl rfl (by kernel_rfl) (by kernel_rfl) (by kernel_rfl) (fun _ _ _ h => h) (Or.inl ⟨by rfl, fun w hS => by have c := hS.1; go_simp⟩) S0 ?_
        simp only [List.setIfInBounds_toArray, List.set_cons_zero, List.set_cons_succ]
        refine wpAnyH_take_at (i := 6) (v := .slice (some ⟨b, ro + 1, none⟩) n (rc - 1)) rfl rfl (by kernel_rfl) (by kernel_rfl) (by kernel_rfl) (fun _ _ _ h => h) (Or.inl ⟨by rfl, fun w hS => by have e := HRL.out; have e1 : (n : Int) ≤ ((rc - 1 : Nat) : Int) := (by have := HN256.out; omega); go_simp⟩) S0 ?_
        simp only [List.setIfInBounds_toArray, List.set_cons_zero, List.set_cons_succ]
        refine wpAnyH_take_at (i := 7) (v := .string nm) rfl rfl (by kernel_rfl) (by kernel_rfl) (by kernel_rfl) (fun _ _ _ h => h) (Or.inl ⟨by rfl, fun w hS => by have c := hS.2 (rc - 1); go_simp⟩) S0 ?_
        simp only [List.setIfInBounds_toArray, List.set_cons_zero, List.set_cons_succ]
        have HDR : Hid (∀ x, Below w.heap.size w x → IsB x (.slice (some ⟨b, ro + 41, none⟩) (rl - 41) (rc - 41)) (m.drop (r + 41))) := fun x kx => by
          have e1 := HRO.out
          have e2 := HRL.out
          have e3 := HM.out
          have e4 : (m.drop (r + 41)).length = rl - 41 := by rw [List.length_drop]; omega
          refine ⟨_, rc - 41, by rw [e4], by rw [e4]; omega, HRM.out, .inr ⟨b, ro + 41, rfl, fun i hi => ?_⟩⟩
          rw [e4] at hi
          have h0 := HC.out (r + 41 + i) (by omega)
          rw [show off + (r + 41 + i) = ro + 41 + i by omega] at h0
          rw [(kx.cell (p := ⟨b, ro + 41 + i, none⟩) (World.block_lt_of_cell? w _ h0)).trans h0, List.getD_eq_getElem?_getD, List.getD_eq_getElem?_getD, List.getElem?_drop]
        obtain ⟨g5, hg5⟩ : ∃ y, Hid (y = wz.heap.size) := ⟨_, rfl⟩
        refine wpAnyH_ready (rs := [8]) (by kernel_rfl) (by simp) ?_
        refine AllReadyH.cons rfl (fun K hK => ?_) AllReadyH.nil
        go_simp
        obtain ⟨w5, hw5⟩ : ∃ x, Hid (x = (wz.alloc (.cells #[.string nm] 9)).drew) := ⟨_, rfl⟩
        have KZ5 : Hid (Below wz.heap.size wz w5) := by rw [hw5.out]; exact drewN_below ((Below.refl _ wz).alloc (Nat.le_refl _) _) 1
        have BB5 : Hid (Blk w5 g5 9 [.string nm]) := by rw [hw5.out]; have := Blk.newAt wz 9 #[.string nm] g5 [.string nm] hg5.out rfl; exact this
        rw [← hw5.out, ← hg5.out]
        have K5 : Hid (Below w.heap.size w w5) := kk.out.trans (KZ5.out.mono kk.out.size)
        refine hK.out _ _ ⟨by have := HZC.out w5 K5.out 0 (by omega); rw [Nat.add_zero, Nat.add_zero] at this; rw [this, HR.out, HN.out, M.rdN], HCV.out _ K5.out⟩ (fun _ => ?_)
        clear hK K S0
        have O5 := Lib.hid (own_below on.out KZ5.out)
        have S5 := Lib.hid (own_below os.out KZ5.out)
        rw [rowsNm_len] at O5
        rw [rowsSz_len] at S5
        refine wpAnyH_ready (rs := [9]) (by kernel_rfl) (by simp) ?_
        refine AllReadyH.cons rfl (fun K hK => ?_) AllReadyH.nil
        refine step_app_row strs11 rfl (.tmp 20) (.tmp 28) rfl w.heap.size nv k _ rfl O5.out ⟨g5, 0, none⟩ 1 1 [.string nm] rfl rfl (fun j u hj => by rw [Addr.add_lit, Nat.zero_add, BB5.out.cell]; exact hj) (by intro u hu; simp only [List.mem_cons, List.not_mem_nil, or_false] at hu; rw [hu]; rfl) (by have := HK.out; unfold maxLen; omega) (by have := HK.out; omega) K5.out.size ?_
        intro v6 w6 o6 g6 a6
        have K6 : Hid (Below w.heap.size w w6) := K5.out.grown g6 K5.out.size fun j hj => (O5.out.lt j hj).1
        refine hK.out _ _ ⟨by have := HZC.out w6 K6.out 0 (by omega); rw [Nat.add_zero, Nat.add_zero] at this; rw [this, HR.out, HN.out, M.rdN], HCV.out _ K6.out⟩ (fun _ => ?_)
        clear hK K
        have O6 : Hid (OwnS w6 w.heap.size v6 (rowsNm m (k + 1))) := by
          rw [Hid, OwnS, rowsNm_next, rowsNm_len, ← HNM.out]
          exact o6
        have S6 := Lib.hid (own_kept S5.out O5.out (by decide) g6)
        refine wpAnyH_ready (rs := [10]) (by kernel_rfl) (by simp) ?_
        refine AllReadyH.cons rfl (fun K hK => ?_) AllReadyH.nil
        go_simp
        refine hK.out _ _ ⟨by have := HZC.out w6 K6.out 0 (by omega); rw [Nat.add_zero, Nat.add_zero] at this; rw [this, HR.out, HN.out, M.rdN], HCV.out _ K6.out⟩ (fun _ => ?_)
        clear hK K
        refine wpAnyH_done (by kernel_rfl) ?_ _
        obtain ⟨sz, hsz⟩ : ∃ z, z = M.rdSz m k := ⟨_, rfl⟩
        have hszl : sz < 4294967296 := by rw [hsz]; exact M.gl_lt _ 4
        have C32 := Lib.hid (get32_any _ _ w6 (HDR.out w6 K6.out))
        have esz : M.gl (m.drop (r + 41)) 4 = sz := by rw [hsz, M.rdSz, HR.out]
        rw [esz] at C32
        have HSZ := Lib.hid hsz
        have HSL := Lib.hid hszl
        have e41 : ¬ rc = 41 := by have := HRL.out; omega
        have e42 : ¬ (rl : Int) < 41 := by have := HRL.out; omega
        have a3 : IntKind.i64.wrap (sz : Int) = (sz : Int) := IntWalk.i64_in _ (by omega)
        obtain ⟨w7, hw7⟩ : ∃ y, Hid (y = w6.alloc (.cells #[.int .i64 (sz : Int)] 3)) := ⟨_, rfl⟩
        obtain ⟨g7, hg7⟩ : ∃ y, Hid (y = w6.heap.size) := ⟨_, rfl⟩
        have K67 : Hid (Below w6.heap.size w6 w7) := by rw [hw7.out]; exact (Below.refl _ _).alloc (Nat.le_refl _) _
        have BB7 : Hid (Blk w7 g7 3 [.int .i64 (sz : Int)]) := by rw [hw7.out]; exact Blk.newAt _ _ _ _ _ hg7.out rfl
        have K7 : Hid (Below w.heap.size w w7) := K6.out.trans (K67.out.mono K6.out.size)
        have O7 := Lib.hid (own_below O6.out K67.out)
        have S7 := Lib.hid (own_below S6.out K67.out)
        clear o6 g6 a6 hsz hszl esz c0 hn256 d0 KD on os O5 S5 KZ5 BB5 K5 O6 S6 K67
        go_upto_region 10 with (first
          | (go_at_call 101; go_must (refine C32.out.mono ?_); rintro e wq ⟨rfl, rfl⟩)
          | (rw [← hw7.out, ← hg7.out]; refine wpList_app_row ints11 _ rfl (.tmp 30) (.tmp 35) rfl w.heap.size sv k _ rfl S7.out ⟨g7, 0, none⟩ 1 1 [.int .i64 (sz : Int)] rfl rfl (fun j u hj => by rw [Addr.add_lit, Nat.zero_add, BB7.out.cell]; exact hj) (by intro u hu; simp only [List.mem_cons, List.not_mem_nil, or_false] at hu; rw [hu]; rfl) (by have := HK.out; unfold maxLen; omega) (by have := HK.out; omega) K7.out.size ?_; intro v8 w8 o8 g8 a8))
        have K8 : Hid (Below w.heap.size w w8) := K7.out.grown g8 K7.out.size fun j hj => (S7.out.lt j hj).1
        have S8 : Hid (OwnI w8 w.heap.size v8 (rowsSz m (k + 1))) := by
          rw [Hid, OwnI, rowsSz_next, rowsSz_len, ← HSZ.out]
          exact o8
        have O8 := Lib.hid (own_kept O7.out S7.out (by decide) g8)
        clear o8 g8 a8 O7 S7 K7 BB7 a3 C32 e41 e42
        obtain ⟨v8, rfl⟩ : ∃ x, x = v8 := ⟨_, rfl⟩
        obtain ⟨v6, rfl⟩ : ∃ x, x = v6 := ⟨_, rfl⟩
        have n3 : wrap64 ((k : Int) + 1) = ((k + 1 : Nat) : Int) := by have := HK.out; unfold wrap64; omega
        have N3 := Lib.hid n3
        clear n3
        go_wp2
        go_roundw
        case rel => exact ⟨k + 1, by first | rw [N3.out] | rfl, HK.out, fun j hj => by
          rcases Nat.lt_or_ge j k with h | h
          · exact hno.out j h
          · have : j = k := by omega
            subst this
            rw [← HN.out]
            exact hz, O8.out, S8.out, K8.out⟩
        case measure =>
          first | rw [N3.out] | skip
          exact step_down HK.out
    · have b1 : ¬ (k : Int) < 64 := by omega
      have hk64 : k = 64 := by have := hk.out; omega
      go_wp2
      go_ret2
      exact ⟨k, ⟨hk.out, hno.out, .inl hk64⟩, nv, sv, rfl, on.out, os.out, kk.out⟩

end Go.Proofs.YtphcbpfpelonaaaGreatDoor

namespace Go.Proofs.YtphcbpfpelonaaaGreatDoor
open Go.RowKit Go.Maps
set_option linter.unusedVariables false
set_option maxRecDepth 100000

theorem IsI.chg {F : Nat → Prop} {w w' : World} {v : Value} {bs : List Nat} (h : IsI w v bs) (k : Chg F w w') (hl : Lies (fun b => ¬ F b) v) : IsI w' v bs := by
  obtain ⟨ao, cap, rfl, h1, h2, h3⟩ := h
  refine ⟨ao, cap, rfl, h1, h2, ?_⟩
  rcases h3 with h | ⟨b, off, rfl, h⟩
  · exact .inl h
  · refine .inr ⟨b, off, rfl, fun i hi => ?_⟩
    have hc := h i hi
    have hb := World.block_lt_of_cell? w _ hc
    rw [World.cell?_of_block (k.block b hb (hl _ _ _ rfl)), hc]

/-- Block b is a map that reads as the table t; the lists of its rows lie in S. -/
def TabIn (S : Nat → Prop) (w : World) (b : Nat) (t : M.Tab) : Prop := ∃ vs, IsTabV w b t vs ∧ ∀ i, i < t.length → Lies S (vs.getD i undef)

theorem IsTabV.chg {F : Nat → Prop} {w w' : World} {b : Nat} {t : M.Tab} {vs : List Value} (h : IsTabV w b t vs) (k : Chg F w w') (hb : ¬ F b) (hl : ∀ i, i < t.length → Lies (fun b => ¬ F b) (vs.getD i undef)) : IsTabV w' b t vs := by
  refine ⟨h.len, ?_, fun i hi => (h.each i hi).chg k (hl i hi)⟩
  have hlt := h.map.lt
  obtain ⟨es, clock, hb', Fm, hs, hD⟩ := h.map
  exact ⟨es, clock, (k.block b hlt hb).trans hb', Fm, hs, hD⟩

theorem TabIn.chg {S F : Nat → Prop} {w w' : World} {b : Nat} {t : M.Tab} (h : TabIn S w b t) (k : Chg F w w') (hb : ¬ F b) (hl : ∀ k, S k → ¬ F k) : TabIn S w' b t := by
  obtain ⟨vs, h1, h2⟩ := h
  exact ⟨vs, h1.chg k hb fun i hi => (h2 i hi).mono hl, h2⟩

theorem TabIn.mono {S R : Nat → Prop} {w : World} {b : Nat} {t : M.Tab} (h : TabIn S w b t) (hs : ∀ k, S k → R k) : TabIn R w b t := by
  obtain ⟨vs, h1, h2⟩ := h
  exact ⟨vs, h1, fun i hi => (h2 i hi).mono hs⟩

/-- 'm[k] = v', and where the rows lie. -/
theorem IsTabV.storeL {S : Nat → Prop} {w : World} {b : Nat} {t : M.Tab} {vs : List Value} (h : IsTabV w b t vs) (hS : ∀ i, i < t.length → Lies S (vs.getD i undef)) (p : M.Pl) (v : Value) (hv : IsI w v p.bs) (hvS : Lies S v) (hnm : p.nm.length ≤ maxLen) (hfew : t.length < 100000) :
    ∃ w' vs', (Instr.mapUpdate 68 (.map (some b)) (.string ⟨p.nm.toArray⟩) (plV p v)).run Tryz.prog w = .ok () w' ∧ IsTabV w' b (M.tput t p) vs' ∧ (∀ i, i < (M.tput t p).length → Lies S (vs'.getD i undef)) ∧ w.grownBy w' (some b) ∧ w'.heap.size = w.heap.size := by
  obtain ⟨w', hrun, ho, hm⟩ := h.map.store keyed Tryz.underlying68 (by unfold maxLen; omega) (key_of p.nm hnm) (placeR_plV hv)
  have hg := hm.grown
  rw [DataW.put_eq, ChangeMaps.putKey] at ho
  obtain ⟨v1, l1, e1, q1⟩ := tabL_del (fun p v => IsI w v p.bs ∧ Lies S v) p.nm t vs h.len fun i hi => ⟨h.each i hi, hS i hi⟩
  obtain ⟨v2, l2, e2, q2⟩ := tabL_ins (fun p v => IsI w v p.bs ∧ Lies S v) p v ⟨hv, hvS⟩ (M.tdel t p.nm) v1 l1 q1
  rw [e1, e2] at ho
  have ho2 := tight ho
  rw [Maps.size_eq, tabL_length l2] at ho2
  refine ⟨w', v2, hrun, ⟨l2, ho2, fun i hi => (q2 i hi).1.turned h.isMap hg⟩, fun i hi => (q2 i hi).2, hg, ?_⟩
  obtain ⟨es, clock, es', clock', hb, rfl⟩ := hm
  simp [ChangeMaps.setBlock]

/-- 'delete(m, k)', and where the rows lie. -/
theorem IsTabV.dropL {S : Nat → Prop} {w : World} {b : Nat} {t : M.Tab} {vs : List Value} (h : IsTabV w b t vs) (hS : ∀ i, i < t.length → Lies S (vs.getD i undef)) (k : List UInt8) (hk : k.length ≤ maxLen) (ty : TypeId) :
    ∃ w' vs', (Builtin.delete_ #[68, 9] ty #[.map (some b), .string ⟨k.toArray⟩]).run Tryz.prog w = .ok (.tuple #[]) w' ∧ IsTabV w' b (M.tdel t k) vs' ∧ (∀ i, i < (M.tdel t k).length → Lies S (vs'.getD i undef)) ∧ w.grownBy w' (some b) ∧ w'.heap.size = w.heap.size := by
  obtain ⟨w', hrun, ho, hm⟩ := h.map.drop keyed Tryz.underlying68 (key_of k hk) ty
  have hg := hm.grown
  rw [DataW.del_eq, ChangeMaps.delKey] at ho
  obtain ⟨v1, l1, e1, q1⟩ := tabL_del (fun p v => IsI w v p.bs ∧ Lies S v) k t vs h.len fun i hi => ⟨h.each i hi, hS i hi⟩
  rw [e1] at ho
  have ho2 := tight ho
  rw [Maps.size_eq, tabL_length l1] at ho2
  refine ⟨w', v1, hrun, ⟨l1, ho2, fun i hi => (q1 i hi).1.turned h.isMap hg⟩, fun i hi => (q1 i hi).2, hg, ?_⟩
  obtain ⟨es, clock, es', clock', hb, rfl⟩ := hm
  simp [ChangeMaps.setBlock]

theorem rowsI : RowTy 134 108 1 24 (.slice none 0 0) := ⟨Tryz.underlying134, by kernel_rfl, rfl, by decide⟩

/-- 'make([][]int, n)'. -/
theorem make_lists (n : Nat) (hm : n ≤ 1000000) : ∃ C : Array Value, C.toList = List.replicate n (.slice none 0 0) ∧ ∀ w : World, (Instr.makeSlice 134 (.int .i64 (n : Int)) (.int .i64 (n : Int))).run Tryz.prog w = .ok (.slice (some ⟨w.heap.size, 0, none⟩) n n) (w.alloc (.cells C 108)) := by
  obtain ⟨hu, hi, hz, h0⟩ := rowsI
  obtain ⟨i0, hi0, hz0, hz1, hz2⟩ := info_any hi
  have hb : (i0.bytes : Int) * (n : Int) ≤ 281474976710656 := by rw [hz2]; omega
  refine ⟨madeCells (Value.slice none 0 0).cells (n * i0.size), ?_, fun w => ?_⟩
  · rw [hz1, Nat.mul_one]
    exact toList_madeCells_one _ _
  · have hrun := run_make (P := Tryz.prog) w 134 108 i0 (.slice none 0 0) hu hi0 hz0 .i64 .i64 n n (by omega) (by omega) hb (by omega)
    simp only [Int.toNat_natCast] at hrun
    exact hrun

/-- The row g of c lists: each the blocks below k that its taker has. -/
structure IsLs (w : World) (B g c k : Nat) (m : List UInt8) (cs : List Value) : Prop where
  blk : Blk w g 108 cs
  len : cs.length = c
  each : ∀ i, i < c → OwnI w B (cs.getD i undef) (M.lst k m i)
  apart : ∀ i j, i < c → j < c → i ≠ j → ∀ b, (cs.getD i undef).ownBlock = some b → (cs.getD j undef).ownBlock ≠ some b
  ahead : g < B
  there : B ≤ w.heap.size

theorem M.lst_next (k : Nat) (m : List UInt8) (i : Nat) : M.lst (k + 1) m i = if M.mark m k = i + 1 then M.lst k m i ++ [k] else M.lst k m i := by
  rw [M.lst, M.lst, List.range_succ, List.filter_append]
  by_cases h : M.mark m k = i + 1
  · rw [if_pos h, List.filter_cons_of_pos (by simpa using h)]
    rfl
  · rw [if_neg h, List.filter_cons_of_neg (by simpa using h)]
    simp

theorem M.lst_le (k : Nat) (m : List UInt8) (i : Nat) : (M.lst k m i).length ≤ k := Nat.le_trans (List.length_filter_le _ _) (by rw [List.length_range]; exact Nat.le_refl _)

theorem IsLs.below {w w' : World} {B g c k : Nat} {m : List UInt8} {cs : List Value} (h : IsLs w B g c k m cs) (kk : Below w.heap.size w w') : IsLs w' B g c k m cs :=
  ⟨h.blk.below kk h.blk.lt, h.len, fun i hi => own_below (h.each i hi) kk, h.apart, h.ahead, Nat.le_trans h.there kk.size⟩

/-- No file has the block. -/
theorem IsLs.skip {w : World} {B g c k : Nat} {m : List UInt8} {cs : List Value} (h : IsLs w B g c k m cs) (h0 : M.mark m k = 0) : IsLs w B g c (k + 1) m cs :=
  ⟨h.blk, h.len, fun i hi => by rw [M.lst_next, if_neg (by omega)]; exact h.each i hi, h.apart, h.ahead, h.there⟩

/-- File i has the block. -/
theorem IsLs.take {w w1 w2 : World} {B g c k i : Nat} {m : List UInt8} {cs : List Value} {v' : Value} (h : IsLs w B g c k m cs) (hi : i < c) (hm : M.mark m k = i + 1) (k1 : Below w.heap.size w w1)
    (o : w2.ownsRow B 3 1 v' ((M.lst k m i).length + 1) (ic (M.lst k m i) ++ [.int .i64 (k : Int)])) (gr : w1.grownBy w2 (cs.getD i undef).ownBlock) (at_ : v'.ownBlock = (cs.getD i undef).ownBlock ∨ v'.ownBlock = some w1.heap.size) :
    IsLs (w2.setCell ⟨g, i, none⟩ v') B g c (k + 1) m (cs.set i v') := by
  have hc := h.len
  have hgw := h.blk.lt
  have hne : ∀ j, j < c → (cs.getD j undef).ownBlock ≠ some g := fun j hj e => by
    have := ((h.each j hj).lt g e).1
    have := h.ahead
    omega
  have hv : ∀ b, v'.ownBlock = some b → B ≤ b ∧ b ≠ g := fun b hb => by
    have h1 := h.ahead
    have h2 := (o.lt b hb).1
    omega
  have hset : ∀ j, j < c → (cs.set i v').getD j undef = if j = i then v' else cs.getD j undef := fun j hj => by
    rw [List.getD_eq_getElem?_getD]
    by_cases e : j = i
    · subst e
      rw [if_pos rfl, List.getElem?_set_self (by omega)]
      rfl
    · rw [if_neg e, List.getElem?_set_ne (by omega), ← List.getD_eq_getElem?_getD]
  have CH : Chg (fun b => (cs.getD i undef).ownBlock = some b) w w2 := (Chg.of_below (F := fun b => (cs.getD i undef).ownBlock = some b) k1).trans (Chg.of_grown (F := fun b => (cs.getD i undef).ownBlock = some b) gr fun b hb => hb) fun _ _ e => e
  have CG : Chg (fun b => b = g) w2 (w2.setCell ⟨g, i, none⟩ v') := (Chg.refl _ _).cell i v'
  have b2 : Blk w2 g 108 cs := h.blk.chg CH (hne i hi)
  refine ⟨b2.set_ i v', by rw [List.length_set, hc], fun j hj => ?_, fun a b ha hb hab x hx => ?_, h.ahead, Nat.le_trans h.there (Nat.le_trans CH.size CG.size)⟩
  · rw [hset j hj, M.lst_next]
    by_cases e : j = i
    · subst e
      rw [if_pos rfl, if_pos hm]
      refine own_chg ?_ CG fun b hb e => (hv b hb).2 e
      rw [List.length_append, ic_append]
      exact o
    · rw [if_neg e, if_neg (by omega)]
      exact own_chg (own_chg (h.each j hj) CH fun b hb e2 => h.apart i j hi hj (Ne.symm e) b e2 hb) CG fun b hb e => hne j hj (e ▸ hb)
  · rw [hset a ha] at hx
    rw [hset b hb]
    have hnew : ∀ j, j < c → ∀ x, (cs.getD j undef).ownBlock = some x → x < w1.heap.size := fun j hj x hx => Nat.lt_of_lt_of_le ((h.each j hj).lt x hx).2 k1.size
    by_cases ea : a = i
    · rw [if_pos ea] at hx
      rw [if_neg (by omega)]
      rcases at_ with e | e
      · exact h.apart i b hi hb (by omega) x (e ▸ hx)
      · intro e2
        rw [e] at hx
        injection hx with hx
        have := hnew b hb x e2
        omega
    · rw [if_neg ea] at hx
      by_cases eb : b = i
      · rw [if_pos eb]
        rcases at_ with e | e
        · rw [e]
          exact h.apart a i ha hi ea x hx
        · rw [e]
          intro e2
          injection e2 with e2
          have := hnew a ha x hx
          omega
      · rw [if_neg eb]
        exact h.apart a b ha hb hab x hx

end Go.Proofs.YtphcbpfpelonaaaGreatDoor
