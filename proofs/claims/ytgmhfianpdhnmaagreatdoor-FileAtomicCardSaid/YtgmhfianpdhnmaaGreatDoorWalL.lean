/-
  CONTRACT OF package wal's whole: the changes that the journal tells (WholeOk Laid decJ). Conditions: none besides WholeOk's own.
-/
import Derived.Test.YtgmhfianpdhnmaaGreatDoorWalK
namespace Go.Proofs.YtgmhfianpdhnmaaGreatDoor
open Go.RowKit
set_option linter.unusedVariables false
set_option maxRecDepth 100000

theorem M.told_next (s : List (List UInt8)) (k : Nat) : (List.range (k + 1)).map (M.toldAt s) = (List.range k).map (M.toldAt s) ++ [M.toldAt s k] := by rw [List.range_succ, List.map_append]; rfl

theorem getD_ite {α : Type} {c : Prop} [Decidable c] (l : List α) : (if c then some l else none).getD [] = if c then l else [] := by
  split <;> rfl

theorem M.decJ_getD (s : List (List UInt8)) : (M.decJ s).getD [] = if M.toldOf s ≠ [] ∧ M.May (s.length - 42) (M.toldOf s) ∧ s.getD 0 [] = M.headOf (M.toldOf s) then M.toldOf s else [] := by
  rw [M.decJ]
  exact getD_ite _

theorem M.decJ_yes (s : List (List UInt8)) (h : M.May (s.length - 42) (M.toldOf s)) (e : s.getD 0 [] = M.headOf (M.toldOf s)) : (M.decJ s).getD [] = M.toldOf s := by
  rw [M.decJ_getD]
  by_cases h0 : M.toldOf s = []
  · rw [if_neg (fun h => h.1 h0)]
    exact h0.symm
  · rw [if_pos ⟨h0, h, e⟩]

theorem M.decJ_no (s : List (List UInt8)) (h : ¬ (M.May (s.length - 42) (M.toldOf s) ∧ s.getD 0 [] = M.headOf (M.toldOf s))) : (M.decJ s).getD [] = [] := by
  rw [M.decJ_getD, if_neg (fun h' => h h'.2)]

set_option maxHeartbeats 8000000 in
theorem whole_ok : WholeOk Laid M.decJ := by
  intro T x gw g m d hw h42 hW hL hv hvb
  have hf := d.ok.few
  have h256 : (m.safe.getD 0 []).length = 256 := d.ok.full _ (by rw [List.getD_eq_getElem?_getD, List.getElem?_eq_getElem (by omega)]; exact List.getElem_mem _)
  obtain ⟨ao, cap, rfl⟩ := hvb.shape
  obtain ⟨hb, ho, rfl⟩ : ∃ b o, ao = some ⟨b, o, none⟩ := by
    obtain ⟨ao', cap', e, h1, h2, h3⟩ := hvb
    injection e with e1 e2 e3
    rcases h3 with h | ⟨b, off, h, _⟩
    · rw [h] at h256; cases h256
    · exact ⟨b, off, by rw [e1, h]⟩
  have hcl : 256 ≤ cap := by
    obtain ⟨ao', cap', e, h1, h2, h3⟩ := hvb
    injection e with e1 e2 e3
    omega
  have HCL := Lib.hid hcl
  rw [h256] at hvb ⊢
  obtain ⟨hd, hhd⟩ : ∃ b, b = m.safe.getD 0 [] := ⟨_, rfl⟩
  rw [← hhd] at hvb
  have HHD := Lib.hid hhd
  obtain ⟨n, hn⟩ : ∃ n, n = M.toldN m.safe := ⟨_, rfl⟩
  have HN := Lib.hid hn
  have hgl : M.gl hd 4 < 4294967296 := M.gl_lt hd 4
  obtain ⟨q, hq⟩ : ∃ q, q = M.gl hd 4 := ⟨_, rfl⟩
  have hnq : n = min q 40 := by rw [hn, M.toldN, ← hhd, ← hq]
  rw [← hq] at hgl
  have n40 : n ≤ 40 := by omega
  have HQ := Lib.hid hq
  have N40 := Lib.hid n40
  have D := Lib.hid d
  have HW := Lib.hid hw
  have WI := Lib.hid hW
  have HL := Lib.hid hL
  have IH := Lib.hid hvb
  have H42 := Lib.hid h42
  have HF := Lib.hid hf
  have H256 : Hid (hd.length = 256) := by rw [Hid, hhd]; exact h256
  have cg : x.cell? ⟨gw, 0, none⟩ = some (.pointer (some ⟨g, 0, none⟩)) := hW.cell 0
  have CG := Lib.hid cg
  have m1 : (if (40 : Int) < (q : Int) then (40 : Int) else (q : Int)) = (n : Int) := by split <;> omega
  have m2 : (if (q : Int) < 40 then (q : Int) else 40) = (n : Int) := by split <;> omega
  have m3 : (min (q : Int) 40) = (n : Int) := by omega
  have m4 : (if (q : Int) ≤ 40 then (q : Int) else 40) = (n : Int) := by split <;> omega
  have CG32 := Lib.hid (get32_any (.slice (some ⟨hb, ho, none⟩) 256 cap) hd x hvb)
  rw [← hq] at CG32
  have w64 : IntKind.i64.wrap (n : Int) = (n : Int) := IntWalk.i64_in _ (by omega)
  clear d hw hW hL hvb h42 hf hhd hn hnq hq h256 hgl cg
  go_enter Tryz.func70, Tryz.ntmps70
  go_wp2_with fail
  refine CG32.out.mono ?_
  rintro e x1 ⟨rfl, rfl⟩
  go_wp2
  go_loopw [5, 6, 7, 8, 9, 14] (fun v bi b7 b8 b9 i wr => ∃ (k : Nat) (xs : List Value), i = .int .i64 (k : Int) ∧ Hid (k ≤ n) ∧ Hid (OwnCL wr x.heap.size v ((List.range k).map (M.toldAt m.safe)) xs) ∧ Hid (Below x.heap.size x wr))
    (fun v bi b7 b8 b9 i _ => n - numOf i)
  case atStart => exact ⟨0, [], rfl, Nat.zero_le _, OwnCL.nil _ _, Below.refl _ _⟩
  case round =>
    clear m1 m2 m3 m4 w64
    obtain ⟨wz, rfl⟩ : ∃ x, x = wr := ⟨_, rfl⟩
    obtain ⟨v5, rfl⟩ : ∃ x, x = u5 := ⟨_, rfl⟩
    obtain ⟨k, xs, rfl, hk, oo, kk⟩ := hrel
    by_cases hlt : k < n
    · have b1 : (k : Int) < (n : Int) := by omega
      have HK := Lib.hid hlt
      have hk40 : k < 40 := by omega
      have HK40 := Lib.hid hk40
      obtain ⟨fa, hfa, ifa⟩ := IH.out.from10 (4 * (1 + k)) (by omega)
      have efa : fa = some ⟨hb, ho + 4 * (1 + k), none⟩ ∧ True := by
        have h1 := hfa x
        rw [from9 _ 256 cap (4 * (1 + k)) (by omega) x, if_neg (by omega), Option.map_some, Addr.add_lit] at h1
        injection h1 with h1 _
        injection h1 with h1 _ _
        exact ⟨h1.symm, trivial⟩
      obtain ⟨rfl, _⟩ := efa
      have hgl := M.gl_lt (hd.drop (4 * (1 + k))) 4
      obtain ⟨p, hp⟩ : ∃ p, p = M.gl (hd.drop (4 * (1 + k))) 4 := ⟨_, rfl⟩
      have C32 := Lib.hid (get32_any _ (hd.drop (4 * (1 + k))) wz (ifa.below kk.out))
      rw [← hp] at C32 hgl
      have HGL : Hid (p < 4294967296) := hgl
      have CR := Lib.hid (codeDk_read (D.out.below kk.out) (by rw [HW.out]; decide) (1 + (k : Int)))
      have e1 : m.doRead (1 + (k : Int)) = (m.read (1 + k), 0) := by
        have h42 := H42.out
        rw [M.Dsk.doRead, if_pos ⟨by omega, by omega⟩]
        congr 2
      rw [e1] at CR
      have e2 : m.read (1 + k) = m.safe.getD (1 + k) [] := by rw [M.Dsk.read, HW.out]; rfl
      rw [e2] at CR
      obtain ⟨y, hy⟩ : ∃ y, y = m.safe.getD (1 + k) [] := ⟨_, rfl⟩
      rw [← hy] at CR
      have HYL : Hid (y.length = 256) := by
        rw [hy]
        refine D.out.ok.full _ ?_
        have h42 := H42.out
        rw [List.getD_eq_getElem?_getD, List.getElem?_eq_getElem (by omega)]
        exact List.getElem_mem _
      have HT : Hid ((List.range (k + 1)).map (M.toldAt m.safe) = (List.range k).map (M.toldAt m.safe) ++ [((p : Int), y)]) := by
        rw [Hid, M.told_next, M.toldAt, ← HHD.out, ← hp, ← hy]
      obtain ⟨lk, hlk⟩ : ∃ lk, lk = (List.range k).map (M.toldAt m.safe) := ⟨_, rfl⟩
      have HLK : Hid (lk.length = k) := by rw [Hid, hlk, List.length_map, List.length_range]
      rw [← hlk] at oo HT
      have c0 : wz.cell? ⟨gw, 0, none⟩ = some (.pointer (some ⟨g, 0, none⟩)) := (kk.out.cell (p := ⟨gw, 0, none⟩) (World.block_lt_of_cell? x _ CG.out)).trans CG.out
      have b2 : ¬ cap = 4 * (1 + k) := by omega
      clear hfa ifa hgl hp hy hlk e1 e2
      go_wp2_with fail
      refine C32.out.mono ?_
      rintro e x2 ⟨rfl, rfl⟩
      go_wp2_with fail
      refine CR.out.mono ?_
      rintro e x3 ⟨r, rfl, o3, k3⟩
      obtain ⟨ra, rc, rfl⟩ := o3.shape'
      rw [HYL.out] at o3 ⊢
      have O3 := Lib.hid o3
      have K3 := Lib.hid k3
      clear o3 k3 c0 CR C32
      have a3 : IntKind.i64.wrap (p : Int) = (p : Int) := by have := HGL.out; exact IntWalk.i64_in _ (by omega)
      obtain ⟨x4, hx4⟩ : ∃ y, Hid (y = x3.alloc (.cells #[.int .i64 (p : Int), .slice ra 256 rc] 140)) := ⟨_, rfl⟩
      obtain ⟨pp, hpp⟩ : ∃ y, Hid (y = x3.heap.size) := ⟨_, rfl⟩
      have k4 : Below wz.heap.size wz x4 := by rw [hx4.out]; exact K3.out.alloc K3.out.size _
      have k34 : Below x3.heap.size x3 x4 := by rw [hx4.out]; exact (Below.refl _ _).alloc (Nat.le_refl _) _
      have b4 : Blk x4 pp 140 [.int .i64 (p : Int), .slice ra 256 rc] := by rw [hx4.out]; exact Blk.newAt _ _ _ _ _ hpp.out rfl
      have d4 : Own x4 wz.heap.size (.slice ra 256 rc) y := by have := O3.out.below k34; rw [← HYL.out] at this ⊢; exact this
      have r4 := own_chg oo.out.row (Chg.of_below (F := fun _ => False) k4) (fun _ _ h => h)
      have R4 := Lib.hid r4
      have B4 := Lib.hid b4
      have KX4 : Hid (x.heap.size ≤ x4.heap.size) := Nat.le_trans kk.out.size k4.size
      clear r4 b4 k34
      go_upto_region 8 with (rw [← hx4.out, ← hpp.out]; refine wpList_app_row change10 _ rfl (.tmp 33) (.tmp 38) rfl x.heap.size v5 lk.length _ rfl R4.out ⟨pp, 0, none⟩ 1 1 [.int .i64 (p : Int), .slice ra 256 rc] rfl rfl (fun j u hj => by rw [Addr.add_lit, Nat.zero_add, B4.out.cell]; exact hj) (by intro u hu; simp only [List.mem_cons, List.not_mem_nil, or_false] at hu; rcases hu with rfl | rfl <;> rfl) (by have := HLK.out; have := HK40.out; unfold maxLen; omega) (by have := HLK.out; have := HK40.out; omega) KX4.out ?_; intro v6 x6 o6 g6 a6)
      have OO := Lib.hid (oo.out.add k4 kk.out.size d4 ⟨by omega, by have := HGL.out; omega⟩ o6 g6 (a6.imp_right fun h => ⟨_, h, Nat.le_refl _⟩))
      rw [← HT.out] at OO
      have KK : Hid (Below x.heap.size x x6) := (kk.out.trans (k4.mono kk.out.size)).grown g6 KX4.out fun j hj => (oo.out.row.lt j hj).1
      have n3 : wrap64 ((k : Int) + 1) = ((k + 1 : Nat) : Int) := by have := HK40.out; unfold wrap64; omega
      have N3 := Lib.hid n3
      clear n3 o6 g6 a6 d4 k4 R4 B4 KX4 O3 K3 hx4 hpp oo kk a3 b2
      obtain ⟨v6, rfl⟩ : ∃ x, x = v6 := ⟨_, rfl⟩
      go_wp2
      go_roundw
      case rel => exact ⟨k + 1, _, by first | rw [N3.out] | rfl, HK.out, OO.out, KK.out⟩
      case measure =>
        first | rw [N3.out] | skip
        exact step_down HK.out
    · have b1 : ¬ (k : Int) < (n : Int) := by omega
      obtain rfl : k = n := by have := hk.out; omega
      have e : (List.range k).map (M.toldAt m.safe) = M.toldOf m.safe := by rw [M.toldOf, HN.out]
      rw [e] at oo
      obtain ⟨L, hL⟩ : ∃ L, Hid (L = M.toldOf m.safe) := ⟨_, rfl⟩
      rw [← hL.out] at oo
      obtain ⟨va, vc, rfl⟩ := oo.out.isCL.shape
      obtain ⟨ok, hok⟩ : ∃ b, b = decide (M.May (m.safe.length - 42) L) := ⟨_, rfl⟩
      have CM := Lib.hid (wmay_any (D.out.below kk.out) H42.out (WI.out.below kk.out) _ L xs oo.out.isCL ok hok)
      have HOK := Lib.hid hok
      clear e hok hlt
      go_wp2_with fail
      refine CM.out.mono ?_
      rintro e w1 ⟨rfl, k1⟩
      have K1 : Hid (Below x.heap.size x w1) := kk.out.trans (k1.mono kk.out.size)
      have O1 := Lib.hid (oo.out.below k1)
      clear CM k1 oo kk
      cases ok with
      | false =>
        have hno : (M.decJ m.safe).getD [] = [] := M.decJ_no _ fun h => by
          have h1 := HOK.out
          rw [decide_eq_true (show M.May (m.safe.length - 42) L by rw [hL.out]; exact h.1)] at h1
          cases h1
        have HNO := Lib.hid hno
        clear hno HOK
        go_wp2
        go_ret
        exact ⟨_, [], rfl, K1.out, by rw [HNO.out]; exact (OwnCL.nil _ _).gains⟩
      | true =>
        have hmay : M.May (m.safe.length - 42) L := of_decide_eq_true HOK.out.symm
        have CH := Lib.hid (headOf_any w1 (HL.out.below K1.out HL.out.size) _ L xs O1.out.isCL hmay.1 fun c hc => by
          have h1 := hmay.2 c hc
          have h2 := HF.out
          exact ⟨h1.1, by omega, h1.2.2⟩)
        have HM := Lib.hid hmay
        clear hmay HOK
        go_wp2_with fail
        refine CH.out.mono ?_
        rintro e w2 ⟨nv, rfl, o2, k2⟩
        obtain ⟨na, nc, rfl⟩ := o2.shape'
        have CE := Lib.hid (bytesEqual_any _ _ hd (M.headOf L) w2 (IH.out.below (K1.out.trans (k2.mono K1.out.size))) o2.isB (by intro e; have := H256.out; rw [e] at this; cases this) (by intro e; have := M.headOf_length L; rw [e] at this; cases this))
        obtain ⟨eq, heq⟩ : ∃ b, b = decide (hd = M.headOf L) := ⟨_, rfl⟩
        rw [← heq] at CE
        have HEQ := Lib.hid heq
        have K2 : Hid (Below x.heap.size x w2) := K1.out.trans (k2.mono K1.out.size)
        have O2 := Lib.hid (O1.out.below k2)
        clear CH o2 k2 heq O1 K1
        go_wp2_with fail
        refine CE.out.mono ?_
        rintro e w3 ⟨rfl, rfl⟩
        clear CE
        cases eq with
        | false =>
          have hno : (M.decJ m.safe).getD [] = [] := M.decJ_no _ fun h => by
            have h1 := HEQ.out
            rw [decide_eq_true (show hd = M.headOf L by rw [hL.out, HHD.out]; exact h.2)] at h1
            cases h1
          have HNO := Lib.hid hno
          clear hno HEQ
          go_wp2
          go_ret
          exact ⟨_, [], rfl, K2.out, by rw [HNO.out]; exact (OwnCL.nil _ _).gains⟩
        | true =>
          have hyes : (M.decJ m.safe).getD [] = L := by
            rw [hL.out]
            exact M.decJ_yes _ (by rw [← hL.out]; exact HM.out) (by rw [← HHD.out, ← hL.out]; exact of_decide_eq_true HEQ.out.symm)
          have HY := Lib.hid hyes
          clear hyes HEQ
          go_wp2
          go_ret
          exact ⟨_, xs, rfl, K2.out, by rw [HY.out]; exact O2.out.gains⟩

end Go.Proofs.YtgmhfianpdhnmaaGreatDoor
