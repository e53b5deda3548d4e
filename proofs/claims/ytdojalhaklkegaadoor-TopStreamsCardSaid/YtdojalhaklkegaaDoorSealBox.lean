/-
  CONTRACTS OF crypt.may AND crypt.boxOf. Conditions: up to 2^46 bytes.
-/
import Derived.Test.YtdojalhaklkegaaDoorPtH
import Derived.Test.YtdojalhaklkegaaDoorSealCat
import Derived.Test.YtdojalhaklkegaaDoorPkB
namespace Go.Proofs.YtdojalhaklkegaaDoor
open Go.RowKit Go.Maps
set_option linter.unusedVariables false
set_option maxRecDepth 100000

set_option maxHeartbeats 2000000 in
theorem may12_any (kv nv : Value) (key nonce : List UInt8) (w : World) (hk : IsB w kv key) (hn : IsB w nv nonce) :
    Calls Tryd.prog 138 #[kv, nv] w fun e w' => e = .returned (.bool (decide (key.length = 32) && decide (nonce.length = 12))) ∧ w' = w := by
  obtain ⟨ka, kc, rfl⟩ := hk.shape
  obtain ⟨na, nc, rfl⟩ := hn.shape
  obtain ⟨a, ha⟩ : ∃ a, a = key.length := ⟨_, rfl⟩
  obtain ⟨b, hb⟩ : ∃ b, b = nonce.length := ⟨_, rfl⟩
  rw [← ha, ← hb]
  clear ha hb hk hn
  by_cases h1 : a = 32
  · subst h1
    by_cases h2 : b = 12
    · subst h2
      go_enter Tryd.func138, Tryd.ntmps138
      go_wp2
      go_ret
      exact ⟨rfl, rfl⟩
    · have q : ((b : Int) == 12) = false := beq_false_of_ne (by omega)
      have HE : Hid (decide (b = 12) = false) := decide_eq_false h2
      clear h2
      go_enter Tryd.func138, Tryd.ntmps138
      go_wp2
      go_ret
      exact ⟨by rw [HE.out]; rfl, rfl⟩
  · have q : ((a : Int) == 32) = false := beq_false_of_ne (by omega)
    have HE : Hid (decide (a = 32) = false) := decide_eq_false h1
    clear h1
    go_enter Tryd.func138, Tryd.ntmps138
    go_wp2
    go_ret
    exact ⟨by rw [HE.out]; rfl, rfl⟩

theorem bbox_next (n len k : Nat) : M.bbox n (k + 1) = M.bbox n k ++ [(M.bg8 n).getD (k % 8) 0] := by
  unfold M.bbox
  rw [List.range_succ, List.map_append]
  rfl

set_option maxHeartbeats 4000000 in
theorem boxOf_any (n len : Nat) (w : World) (hl : len ≤ 70368744177664) :
    Calls Tryd.prog 139 #[.int .u64 (n : Int), .int .i64 (len : Int)] w (Makes w (M.bbox n len)) := by
  obtain ⟨i0, hi, hz0, hz1, hz2⟩ := info_parts Tryd.info5
  have CB := Lib.hid (big64_any n w)
  have h8 : (M.le n 8).reverse.length = 8 := by rw [List.length_reverse, M.le_length]
  obtain ⟨yb, hyb⟩ : ∃ yb, yb = (M.le n 8).reverse := ⟨_, rfl⟩
  rw [← hyb] at CB h8
  have HYB : Hid (yb = M.bg8 n) := hyb
  have H8 := Lib.hid h8
  have HL := Lib.hid hl
  clear hyb h8
  go_enter Tryd.func139, Tryd.ntmps139
  go_wp2_with fail
  refine CB.out.mono ?_
  rintro e w3 ⟨ev, rfl, o3, k3⟩
  obtain ⟨ga, gc, rfl, hga⟩ := o3.shape (by rw [H8.out]; decide)
  have CE := Lib.hid o3.cells
  rw [H8.out]
  have K3 := Lib.hid k3
  clear CB o3 k3 hga
  go_wp2_with (at_make; go_must (refine wpList_make_full _ rfl _ _ 24 rfl w.heap.size 5 i0 (.int .u8 0) 1 Tryd.underlying24 hi hz0 hz1 .i64 .i64 len len len rfl rfl rfl rfl (by rw [hz2]; have := HL.out; omega) (by have := HL.out; unfold maxLen; omega) K3.out.size ?_))
  intro w1 hown hgrow
  obtain ⟨g, hg⟩ : ∃ g, g = w3.heap.size := ⟨_, rfl⟩
  rw [← hg] at hown ⊢
  have k31 : Below w3.heap.size w3 w1 := (Below.refl _ _).grown hgrow (Nat.le_refl _) (by intro k hk; cases hk)
  have HO : Hid (w1.ownsRow w.heap.size 5 1 (.slice (some ⟨g, 0, none⟩) len len) len (Lib.byteCells (M.bbox n 0) ++ List.replicate (len - 0) (.int .u8 0))) := by
    have e : Lib.byteCells (M.bbox n 0) ++ List.replicate (len - 0) (Value.int .u8 0) = (madeCells #[Value.int IntKind.u8 0] len).toList := by
      simp [M.bbox, Lib.byteCells, toList_madeCells_one]
    rw [Hid, e]
    exact hown
  have HA : Hid (∀ j, j < 8 → w1.cell? ⟨ga, j, none⟩ = some (.int .u8 ((yb.getD j 0).toNat : Int)) ∧ ga ≠ g) := by
    intro j hj
    have h3 := CE.out j _ (byteCells_getElem? yb j (by rw [H8.out]; exact hj))
    rw [Addr.add_mid, Nat.zero_add] at h3
    have hb3 : ga < w3.heap.size := World.block_lt_of_cell? w3 _ h3
    exact ⟨(k31.cell (p := ⟨ga, j, none⟩) hb3).trans h3, by rw [hg]; omega⟩
  have K1 : Hid (Below w.heap.size w w1) := K3.out.trans (k31.mono K3.out.size)
  have HGW : Hid (w.heap.size ≤ g) := by rw [Hid, hg]; exact K3.out.size
  have HLT1 : Hid (g < w1.heap.size) := by
    have := (hown.lt g rfl).2
    exact this
  clear hown hgrow hi hz0 hz1 hz2 k31 hg CE K3
  go_wp2
  go_loopw [14] (fun i wr => ∃ k : Nat, k ≤ len ∧ i = .int .i64 (k : Int) ∧ Hid (wr.ownsRow w.heap.size 5 1 (.slice (some ⟨g, 0, none⟩) len len) len (Lib.byteCells (M.bbox n k) ++ List.replicate (len - k) (.int .u8 0))) ∧ Hid (Below w.heap.size w wr) ∧ Hid (Chg (fun b => b = g) w1 wr))
    (fun i _ => len - (intOf i).toNat)
  case atStart => exact ⟨0, Nat.zero_le _, rfl, HO, K1, Lib.hid (Chg.refl _ w1)⟩
  case round =>
    obtain ⟨wz, rfl⟩ : ∃ x, x = wr := ⟨_, rfl⟩
    obtain ⟨k, hk, rfl, hown, hb, ho⟩ := hrel
    by_cases hlt : k < len
    · have b1 : (k : Int) < (len : Int) := by omega
      have hl2 := HL.out
      have hc : wz.cell? ⟨g, k, none⟩ = some (.int .u8 0) := by
        rw [hown.out.cellAt k (by omega)]
        rw [List.getElem?_append_right (by simp [byteCells_length, M.bbox_len])]
        rw [byteCells_length, M.bbox_len, Nat.sub_self, List.getElem?_replicate, if_pos (by omega)]
      have hf : wz.frozen? ⟨g, k, none⟩ = false := hown.out.frozenAt k
      obtain ⟨r, hr⟩ : ∃ r, r = k % 8 := ⟨_, rfl⟩
      have hr8 : r < 8 := by omega
      have m1 : (k : Int).tmod 8 = (r : Int) := by rw [Int.tmod_eq_emod_of_nonneg (by omega)]; omega
      have m2 : (k : Int) % 8 = (r : Int) := by omega
      obtain ⟨hcell, hne⟩ := HA.out r hr8
      have hl1 : wz.cell? ⟨ga, r, none⟩ = some (.int .u8 ((yb.getD r 0).toNat : Int)) := by
        rw [World.cell?_of_block (ho.out.block ga (World.block_lt_of_cell? w1 _ hcell) hne), hcell]
      obtain ⟨c, hcc⟩ : ∃ c, c = yb.getD r 0 := ⟨_, rfl⟩
      rw [← hcc] at hl1
      have HCC : Hid (c = (M.bg8 n).getD (k % 8) 0) := by rw [Hid, hcc, hr, HYB.out]
      have r0 : (0 : Int) ≤ (r : Int) := Int.natCast_nonneg r
      have r8 : (r : Int) < 8 := by omega
      have HLT := Lib.hid hlt
      clear hcell hcc hr hl2 hlt hne
      go_wp2
      go_roundw
      case rel =>
        refine ⟨k + 1, HLT.out, by go_num, ?_, hb.out.setCell HGW.out _, ho.out.cell k _⟩
        have h := (hown.out.stored k (Value.int .u8 (c.toNat : Int))).1
        rw [set_next _ _ _ k (len - k) (by simp [byteCells_length, M.bbox_len]) (by have := HLT.out; omega)] at h
        rw [Hid, bbox_next n len k, byteCells_append, Nat.sub_add_eq, ← HCC.out]
        exact h
      case measure => have := HLT.out; simp [intOf]; omega
    · have b1 : ¬ (k : Int) < (len : Int) := by omega
      obtain rfl : k = len := by omega
      have HE : Hid (Own wz w.heap.size (.slice (some ⟨g, 0, none⟩) k k) (M.bbox n k)) := by
        have h := hown.out
        rw [Nat.sub_self, List.replicate_zero, List.append_nil] at h
        rw [Hid, Own, M.bbox_len]
        exact h
      clear hown hlt
      go_wp2
      go_ret
      exact ⟨_, rfl, HE.out, hb.out⟩

end Go.Proofs.YtdojalhaklkegaaDoor
