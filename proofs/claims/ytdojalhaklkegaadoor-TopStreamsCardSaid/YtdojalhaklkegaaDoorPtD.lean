/-
  CONTRACTS OF aead.tagged AND aead.tagOf: what is tagged, and its tag. Conditions: layer 4's table of places lies as it was laid; what is tagged has up to 2^46 bytes; what is nil has no spare room.
  CONTRACTS OF aead.Seal AND aead.Open. Conditions: layer 4's table of places lies as it was laid; what is sealed, and said beside, has up to 2^46 - 64 bytes together; what is nil has no spare room; keys and nonces of whatever lengths (refused, if they aren't 32 and 12).
-/
import Derived.Test.YtdojalhaklkegaaDoorPtL
import Derived.Test.YtdojalhaklkegaaDoorPtO
import Derived.Test.YtdojalhaklkegaaDoorWordA
import Derived.Test.YtdojalhaklkegaaDoorChaBeg
import Derived.Test.YtdojalhaklkegaaDoorPolyTag
import Derived.Deep.RegionHeld3
import Derived.Deep.RegionWith
import Derived.Test.YtdojalhaklkegaaDoorChaXor
import Derived.Test.YtdojalhaklkegaaDoorWordC
import Derived.Deep.QuietTactic
import Derived.BigQuiet

set_option maxRecDepth 100000
namespace Go.Proofs.YtdojalhaklkegaaDoor
open Go.RowKit
set_option linter.unusedVariables false

namespace M

/-- The first k parts, each filled up. -/
def tgs (ls : List (List UInt8)) (k : Nat) : List UInt8 := (ls.take k).flatMap fullA

/-- How long the first k parts are. -/
def lns (ls : List (List UInt8)) (k : Nat) : List UInt8 := (ls.take k).flatMap fun p => le p.length 8

theorem tgs_next (ls : List (List UInt8)) (k : Nat) (h : k < ls.length) : tgs ls (k + 1) = tgs ls k ++ ls.getD k [] ++ List.replicate ((16 - (ls.getD k []).length % 16) % 16) 0 := by
  rw [tgs, tgs, List.take_succ_eq_append_getElem h, List.flatMap_append, List.append_assoc]
  simp [fullA, h]

theorem lns_next (ls : List (List UInt8)) (k : Nat) (h : k < ls.length) : lns ls (k + 1) = lns ls k ++ le (ls.getD k []).length 8 := by
  rw [lns, lns, List.take_succ_eq_append_getElem h, List.flatMap_append]
  simp [h]

theorem tgs_le (ls : List (List UInt8)) (k : Nat) : (tgs ls k).length ≤ (tgs ls ls.length).length := by
  rw [tgs, tgs, List.take_length]
  have e := congrArg (fun l => (List.flatMap fullA l).length) (List.take_append_drop k ls)
  simp only [List.flatMap_append, List.length_append] at e
  omega

theorem lns_length (ls : List (List UInt8)) (k : Nat) (h : k ≤ ls.length) : (lns ls k).length = 8 * k := by
  induction k with
  | zero => simp [lns]
  | succ k ih => rw [lns_next ls k (by omega), List.length_append, le_length, ih (by omega)]; omega

theorem tgs_two (a b : List UInt8) : tgs [a, b] [a, b].length = fullA a ++ fullA b := by simp [tgs]

theorem lns_two (a b : List UInt8) : lns [a, b] [a, b].length = le a.length 8 ++ le b.length 8 := by simp [lns]

end M

/-- The value is a slice of rows of bytes; what is nil has no spare room. -/
def PartsN (w : World) (v : Value) (ls : List (List UInt8)) : Prop :=
  ∃ ao cap, v = .slice ao ls.length cap ∧ ls.length ≤ maxLen ∧ (ls = [] ∨ ∃ b off, ao = some ⟨b, off, none⟩ ∧ ∀ i, i < ls.length → ∃ x, w.cell? ⟨b, off + i, none⟩ = some x ∧ IsB w x (ls.getD i []) ∧ ∀ n c, x = .slice none n c → c = 0)

theorem partsN_two {w' : World} {t : TypeId} {fr : Nat × Nat} {x y : Value} {a b : List UInt8} (hx : IsB w' x a) (hy : IsB w' y b) (nx : ∀ n c, x = .slice none n c → c = 0) (ny : ∀ n c, y = .slice none n c → c = 0) :
    PartsN (w'.alloc (.cells #[x, y] t fr)) (.slice (some ⟨w'.heap.size, 0, none⟩) 2 2) [a, b] := by
  refine ⟨_, 2, rfl, by simp [maxLen], .inr ⟨w'.heap.size, 0, rfl, fun i hi => ?_⟩⟩
  match i, hi with
  | 0, _ => exact ⟨x, by rw [World.cell?_alloc_mark]; rfl, hx.below ((Below.refl _ _).alloc (Nat.le_refl _) _), nx⟩
  | 1, _ => exact ⟨y, by rw [World.cell?_alloc_mark]; rfl, hy.below ((Below.refl _ _).alloc (Nat.le_refl _) _), ny⟩

set_option maxHeartbeats 2000000 in
theorem tagged_any (ps : Value) (ls : List (List UInt8)) (w : World) (hp : PartsN w ps ls) (hlen : (M.tgs ls ls.length).length + 8 * ls.length ≤ 140737488355328) :
    Calls Tryd.prog 57 #[ps] w (Makes w (M.tgs ls ls.length ++ M.lns ls ls.length)) := by
  obtain ⟨ao, cap, rfl, hl, hat⟩ := hp
  obtain ⟨N, hN⟩ : ∃ N, N = ls.length := ⟨_, rfl⟩
  have HAT : Hid (ls = [] ∨ ∃ b off, ao = some ⟨b, off, none⟩ ∧ ∀ i, i < ls.length → ∃ x, w.cell? ⟨b, off + i, none⟩ = some x ∧ IsB w x (ls.getD i []) ∧ ∀ n c, x = .slice none n c → c = 0) := hat
  rw [← hN] at hl hlen ⊢
  have HN : Hid (N = ls.length) := hN
  have HLEN : Hid ((M.tgs ls N).length + 8 * N ≤ 140737488355328) := hlen
  have HTL : Hid (∀ k, (M.tgs ls k).length ≤ (M.tgs ls N).length) := fun k => by rw [hN]; exact M.tgs_le ls k
  unfold maxLen at hl
  clear hat hN hlen
  go_enter Tryd.func57, Tryd.ntmps57
  go_wp2
  go_loopw [3, 4, 10] (fun x y i wr => ∃ k : Nat, k ≤ N ∧ i = .int .i64 k ∧ Hid (Own wr w.heap.size x (M.tgs ls k)) ∧ Hid (Own wr w.heap.size y (M.lns ls k)) ∧ Hid (Apart x y) ∧ Hid (Below w.heap.size w wr))
    (fun _ _ i _ => N - (intOf i).toNat)
  case atStart => exact ⟨0, by omega, rfl, World.ownsRow_nil _ _ _ _, World.ownsRow_nil _ _ _ _, (by intro k h; simp [Value.ownBlock] at h), Below.refl _ _⟩
  case round =>
    obtain ⟨wz, rfl⟩ : ∃ x, x = wr := ⟨_, rfl⟩
    obtain ⟨j, hj, rfl, ox, oy, ap, kz⟩ := hrel
    obtain ⟨vx, rfl⟩ : ∃ z, z = u3 := ⟨_, rfl⟩
    obtain ⟨vy, rfl⟩ : ∃ z, z = u4 := ⟨_, rfl⟩
    by_cases hlt : j < N
    · obtain ⟨bb, off, rfl, hcells⟩ : ∃ b off, ao = some ⟨b, off, none⟩ ∧ ∀ i, i < ls.length → ∃ x, w.cell? ⟨b, off + i, none⟩ = some x ∧ IsB w x (ls.getD i []) ∧ ∀ n c, x = .slice none n c → c = 0 := by
        rcases HAT.out with h0 | h0
        · have := HN.out
          rw [h0] at this
          simp at this
          omega
        · exact h0
      obtain ⟨x, hxc, hxb, hxn⟩ := hcells j (by rw [← HN.out]; exact hlt)
      have hxc2 : wz.cell? ⟨bb, off + j, none⟩ = some x := by rw [kz.out.cell (by exact World.block_lt_of_cell? w _ hxc), hxc]
      obtain ⟨P, hP⟩ : ∃ P, P = ls.getD j [] := ⟨_, rfl⟩
      obtain ⟨n, hn⟩ : ∃ n, n = P.length := ⟨_, rfl⟩
      have HT1 : Hid (M.tgs ls (j + 1) = M.tgs ls j ++ (P ++ List.replicate ((16 - n % 16) % 16) 0)) := by rw [hn, hP, Hid, ← List.append_assoc]; exact M.tgs_next ls j (by rw [← HN.out]; exact hlt)
      have HL1 : Hid (M.lns ls (j + 1) = M.lns ls j ++ M.le n 8) := by rw [hn, hP]; exact M.lns_next ls j (by rw [← HN.out]; exact hlt)
      have HLL : Hid ((M.lns ls j).length = 8 * j) := M.lns_length ls j (by rw [← HN.out]; exact hj)
      rw [← hP] at hxb
      obtain ⟨q, hq⟩ : ∃ q, q = (16 - n % 16) % 16 := ⟨_, rfl⟩
      rw [← hq] at HT1
      obtain ⟨r, hr⟩ : ∃ r, r = n % 16 := ⟨_, rfl⟩
      obtain ⟨s, hs⟩ : ∃ s, s = 16 - r := ⟨_, rfl⟩
      have hbound : (M.tgs ls j).length + n + q + 8 * N ≤ 140737488355328 := by
        have e1 := HTL.out (j + 1)
        rw [HT1.out, List.length_append, List.length_append, List.length_replicate, ← hn] at e1
        have := HLEN.out
        omega
      have HB := Lib.hid hbound
      have hn47 : n ≤ 140737488355328 := by omega
      have m1 : (n : Int) % 16 = (r : Int) := by omega
      have m1' : (n : Int).tmod 16 = (r : Int) := by rw [Int.tmod_eq_emod_of_nonneg (by omega)]; exact m1
      have m2 : (16 : Int) - (r : Int) = (s : Int) := by omega
      have m3 : (s : Int) % 16 = (q : Int) := by omega
      have m3' : (s : Int).tmod 16 = (q : Int) := by rw [Int.tmod_eq_emod_of_nonneg (by omega)]; exact m3
      have HN2 := Lib.hid hn
      obtain ⟨ap2, cp2, rfl⟩ := hxb.shape
      rw [← hn] at hxc2 hxn hxb
      have HXN := Lib.hid hxn
      have XB : Hid (IsB w (.slice ap2 n cp2) P) := hxb
      have hjN : (j : Int) < (N : Int) := by omega
      clear hcells hxc hxb hxn hP hq hr hs hbound hlt hn
      go_wp2_with (at_builtin; go_must (refine wpList_app3 _ rfl _ _ rfl w.heap.size _ (M.tgs ls j) rfl ox.out _ P rfl ?c1 HXN.out ?c2 kz.out.size ?_))
      case c1 => exact XB.out.below kz.out
      case c2 => have := HB.out; have := HN2.out; omega
      intro v1 w1 o1 g1 at1
      have A1 : Hid (Apart v1 vy) := ap.out.next oy.out wz.heap.size (Nat.le_refl _) at1
      have Y1 : Hid (Own w1 w.heap.size vy (M.lns ls j)) := oy.out.kept g1 fun k hk e => ap.out k e hk
      have K1 : Hid (Below w.heap.size w w1) := kz.out.grown g1 kz.out.size fun k hk => (ox.out.block_lt k hk).1
      have O1 := Lib.hid o1
      clear o1 g1 at1 ap oy ox kz
      go_wp2_with (at_builtin; go_must (refine wpList_app_zeros3 _ rfl _ _ rfl w.heap.size _ (M.tgs ls j ++ P) rfl O1.out q rfl ?d2 K1.out.size ?_))
      case d2 => have := HB.out; have := HN2.out; rw [List.length_append]; omega
      intro v2 w2 o2 g2 at2
      rw [← HT1.out] at o2
      have A2 : Hid (Apart v2 vy) := A1.out.next Y1.out w1.heap.size (Nat.le_refl _) at2
      have Y2 : Hid (Own w2 w.heap.size vy (M.lns ls j)) := Y1.out.kept g2 fun k hk e => A1.out k e hk
      have K2 : Hid (Below w.heap.size w w2) := K1.out.grown g2 K1.out.size fun k hk => (O1.out.block_lt k hk).1
      have O2 := Lib.hid o2
      have wn : IntKind.u64.wrap (n : Int) = (n : Int) := wraps_u64 _ (by omega) (by omega)
      clear o2 g2 at2 A1 Y1 K1 O1
      go_wp2_with fail
      refine (put64_any n w2).mono ?_
      rintro e w3 ⟨r3, rfl, o3, k3⟩
      have K3 : Hid (Below w.heap.size w w3) := K2.out.trans (k3.mono K2.out.size)
      have O3 : Hid (Own w3 w.heap.size v2 (M.tgs ls (j + 1))) := O2.out.below k3
      have Y3 : Hid (Own w3 w.heap.size vy (M.lns ls j)) := Y2.out.below k3
      have R3 := Lib.hid o3
      clear o3 k3 K2 O2 Y2
      go_wp2_with (at_builtin; go_must (refine wpList_app3 _ rfl _ _ rfl w.heap.size _ (M.lns ls j) rfl Y3.out _ (M.le n 8) rfl R3.out.isB R3.out.nil0 ?f2 K3.out.size ?_))
      case f2 => have := HB.out; have := HLL.out; rw [M.le_length]; omega
      intro v4 w4 o4 g4 at4
      rw [← HL1.out] at o4
      have A4 : Hid (Apart v2 v4) := (A2.out.symm.next O3.out w3.heap.size (Nat.le_refl _) at4).symm
      have O4 : Hid (Own w4 w.heap.size v2 (M.tgs ls (j + 1))) := O3.out.kept g4 fun k hk e => A2.out k hk e
      have K4 : Hid (Below w.heap.size w w4) := K3.out.grown g4 K3.out.size fun k hk => (Y3.out.block_lt k hk).1
      have Y4 := Lib.hid o4
      clear o4 g4 at4 A2 O3 K3 Y3 R3
      go_wp2
      go_roundw
      case rel => exact ⟨j + 1, by omega, by go_num, O4, Y4, A4, K4⟩
      case measure => simp [intOf]; omega
    · obtain rfl : j = N := by omega
      have HLL : Hid ((M.lns ls j).length = 8 * j) := M.lns_length ls j (by rw [← HN.out]; exact hj)
      go_wp2_with (at_builtin; go_must (refine wpList_app3 _ rfl _ _ rfl w.heap.size _ (M.tgs ls j) rfl ox.out _ (M.lns ls j) rfl oy.out.isB oy.out.nil0 ?h2 kz.out.size ?_))
      case h2 => have := HLEN.out; have := HLL.out; omega
      intro v1 w1 o1 g1 at1
      have K1 : Hid (Below w.heap.size w w1) := kz.out.grown g1 kz.out.size fun k hk => (ox.out.block_lt k hk).1
      have O1 := Lib.hid o1
      clear o1 g1 at1
      go_wp2
      go_ret
      exact ⟨_, rfl, O1.out, K1.out⟩

set_option maxHeartbeats 2000000 in
theorem tagOf_any (kv nv bv hv : Value) (key nonce beside hidden : List UInt8) (w : World) (hL : LaidP w) (hk : IsB w kv key) (hn : IsB w nv nonce) (hb : IsB w bv beside) (hh : IsB w hv hidden) (hkl : key.length = 32) (hnl : nonce.length = 12)
    (zb : ∀ n c, bv = .slice none n c → c = 0) (zh : ∀ n c, hv = .slice none n c → c = 0) (hlen : beside.length + hidden.length ≤ 70368744177600) :
    Calls Tryd.prog 26 #[kv, nv, bv, hv] w fun e w' => ∃ r, e = .returned (.tuple #[r, .int .i64 0]) ∧ Own w' w.heap.size r (M.boxTag key nonce beside hidden) ∧ Below w.heap.size w w' := by
  obtain ⟨a3, c3, rfl⟩ := hb.shape
  obtain ⟨a4, c4, rfl⟩ := hh.shape
  have HC := Lib.hid (block_any kv nv key nonce 0 w hL hk hn hkl hnl)
  have HB := Lib.hid hb
  have HH := Lib.hid hh
  obtain ⟨T, hT⟩ : ∃ T, Hid (T = M.toTag beside hidden) := ⟨_, rfl⟩
  obtain ⟨Y, hK⟩ : ∃ Y, Hid (Y = M.under key nonce) := ⟨_, rfl⟩
  have HKL : Hid (Y.length = 32) := by rw [hK.out]; exact M.under_length _ _
  have HTL : Hid (T.length ≤ 70368744177664) := by rw [Hid, hT.out]; have := M.toTag_le beside hidden; omega
  obtain ⟨C, hC⟩ : ∃ C, Hid (C = M.cblk key nonce 0) := ⟨_, rfl⟩
  have HKC : Hid (Y = C.take 32) := by rw [hK.out, hC.out]; rfl
  have HR : Hid (M.tag Y T = M.boxTag key nonce beside hidden) := by rw [hK.out, hT.out]; rfl
  obtain ⟨R, hR⟩ : ∃ R, Hid (R = M.boxTag key nonce beside hidden) := ⟨_, rfl⟩
  rw [← hR.out] at HR ⊢
  rw [← hC.out] at HC
  have CT := Lib.hid (show ∀ W ps, PartsN W ps [beside, hidden] → Calls Tryd.prog 57 #[ps] W (Makes W T) from fun W ps h => by
    have := tagged_any ps _ W h (by rw [M.tgs_two, List.length_append, M.fullA_length, M.fullA_length]; simp only [List.length_cons, List.length_nil]; omega)
    rw [M.tgs_two, M.lns_two, ← List.append_assoc] at this
    rw [hT.out]
    exact this)
  have CP := Lib.hid (show ∀ W k m, IsB W k Y → IsB W m T → Calls Tryd.prog 56 #[k, m] W (fun e w' => ∃ r, e = .returned (.tuple #[r, .int .i64 0]) ∧ Own w' W.heap.size r R ∧ Below W.heap.size W w') from fun W k m h1 h2 => by
    rw [← HR.out]
    exact tag_yes k m Y T W h1 h2 HKL.out HTL.out)
  have ZB := Lib.hid zb
  have ZH := Lib.hid zh
  obtain ⟨n3, hn3⟩ : ∃ n, n = beside.length := ⟨_, rfl⟩
  obtain ⟨n4, hn4⟩ : ∃ n, n = hidden.length := ⟨_, rfl⟩
  rw [← hn3] at HB ZB ⊢
  rw [← hn4] at HH ZH ⊢
  clear hT hK hC hR hL hk hn hb hh hlen zb zh hn3 hn4
  go_enter Tryd.func26, Tryd.ntmps26
  go_wp2_with fail
  refine HC.out.mono ?_
  rintro e w1 ⟨g, rfl, hg, i1, k1⟩
  have I1 : Hid (IsB w1 (.slice (some ⟨g, 0, none⟩) 32 64) Y) := by rw [HKC.out]; exact i1.take 32 (by decide)
  have B1 : Hid (IsB w1 (.slice a3 n3 c3) beside) := HB.out.below k1
  have H1 : Hid (IsB w1 (.slice a4 n4 c4) hidden) := HH.out.below k1
  have HK1 := Lib.hid k1
  clear i1 k1 HB HH hg
  go_upto_region 4 with fail
  refine wp_region_any (by kernel_rfl) ?_
  change wpAny _ _ _ _ _ _ _ (World.drew _)
  refine wpAny_of_held (S := fun _ => True) _ _ _ _ ?_
  refine wpAnyH_take_at (i := 0) (v := .slice (some ⟨g, 0, none⟩) 64 64) rfl rfl (by kernel_rfl) (by kernel_rfl) (by kernel_rfl) (fun _ _ _ h => h) (Or.inl ⟨by rfl, fun w _ => by go_simp⟩) trivial ?_
  simp only [List.setIfInBounds_toArray, List.set_cons_zero, List.set_cons_succ]
  refine wpAnyH_take_at (i := 1) (v := .slice (some ⟨g, 0, none⟩) 32 64) rfl rfl (by kernel_rfl) (by kernel_rfl) (by kernel_rfl) (fun _ _ _ h => h) (Or.inl ⟨by rfl, fun w _ => by go_simp⟩) trivial ?_
  simp only [List.setIfInBounds_toArray, List.set_cons_zero, List.set_cons_succ]
  refine wpAnyH_take_at (i := 2) (v := .slice a3 n3 c3) rfl rfl (by kernel_rfl) (by kernel_rfl) (by kernel_rfl) (fun _ _ _ h => h) (Or.inl ⟨by rfl, fun w _ => by go_simp⟩) trivial ?_
  simp only [List.setIfInBounds_toArray, List.set_cons_zero, List.set_cons_succ]
  refine wpAnyH_take_at (i := 3) (v := .slice a4 n4 c4) rfl rfl (by kernel_rfl) (by kernel_rfl) (by kernel_rfl) (fun _ _ _ h => h) (Or.inl ⟨by rfl, fun w _ => by go_simp⟩) trivial ?_
  simp only [List.setIfInBounds_toArray, List.set_cons_zero, List.set_cons_succ]
  refine wpAnyH_ready (rs := [4]) (by kernel_rfl) (by simp) ?_
  refine AllReadyH.cons rfl (fun K hK => ?_) AllReadyH.nil
  go_simp
  obtain ⟨w2, hw2⟩ : ∃ W, Hid (W = (w1.alloc (.cells #[.slice a3 n3 c3, .slice a4 n4 c4] 24)).drew) := ⟨_, rfl⟩
  have P2 : Hid (PartsN w2 (.slice (some ⟨w1.heap.size, 0, none⟩) 2 2) [beside, hidden]) := by
    have := partsN_two (t := 24) (fr := (0, 0)) B1.out H1.out ZB.out ZH.out
    rw [hw2.out]
    obtain ⟨ao, cap, e, hl, h⟩ := this
    exact ⟨ao, cap, e, hl, h⟩
  have K2 : Hid (Below w1.heap.size w1 w2) := by rw [hw2.out]; exact drewN_below ((Below.refl _ _).alloc (Nat.le_refl _) _) 1
  rw [← hw2.out]
  refine hK.out _ _ trivial (fun _ => ?_)
  clear hK K hw2
  refine wpAnyH_ready (rs := [5]) (by kernel_rfl) (by simp) ?_
  refine AllReadyH.cons rfl (fun K hK => ?_) AllReadyH.nil
  go_simp
  refine (CT.out w2 _ P2.out).mono ?_
  rintro e w3 ⟨r3, rfl, o3, k3⟩
  have K3 : Hid (Below w1.heap.size w1 w3) := K2.out.trans (k3.mono K2.out.size)
  have O3 := Lib.hid o3.isB
  refine hK.out _ _ trivial (fun _ => ?_)
  clear hK K o3 k3
  refine wpAnyH_ready (rs := [6]) (by kernel_rfl) (by simp) ?_
  refine AllReadyH.cons rfl (fun K hK => ?_) AllReadyH.nil
  go_simp
  refine (CP.out w3 _ _ (I1.out.below K3.out) O3.out).mono ?_
  rintro e w4 ⟨r4, rfl, o4, k4⟩
  have K4 : Hid (Below w.heap.size w w4) := HK1.out.trans ((K3.out.trans (k4.mono K3.out.size)).mono HK1.out.size)
  have O4 : Hid (Own w4 w.heap.size r4 R) := o4.mono (Nat.le_trans HK1.out.size K3.out.size)
  refine hK.out _ _ trivial (fun _ => ?_)
  clear hK K o4 k4
  refine wpAnyH_take_at (i := 7) (v := r4) rfl rfl (by kernel_rfl) (by kernel_rfl) (by kernel_rfl) (fun _ _ _ h => h) (Or.inl ⟨by rfl, fun w _ => by go_simp⟩) trivial ?_
  simp only [List.setIfInBounds_toArray, List.set_cons_zero, List.set_cons_succ]
  refine wpAnyH_take_at (i := 8) (v := .int .i64 0) rfl rfl (by kernel_rfl) (by kernel_rfl) (by kernel_rfl) (fun _ _ _ h => h) (Or.inl ⟨by rfl, fun w _ => by go_simp⟩) trivial ?_
  simp only [List.setIfInBounds_toArray, List.set_cons_zero, List.set_cons_succ]
  refine wpAnyH_take_at (i := 9) (v := r4) rfl rfl (by kernel_rfl) (by kernel_rfl) (by kernel_rfl) (fun _ _ _ h => h) (Or.inl ⟨by rfl, fun w _ => by go_simp⟩) trivial ?_
  simp only [List.setIfInBounds_toArray, List.set_cons_zero, List.set_cons_succ]
  refine wpAnyH_take_at (i := 10) (v := .int .i64 0) rfl rfl (by kernel_rfl) (by kernel_rfl) (by kernel_rfl) (fun _ _ _ h => h) (Or.inl ⟨by rfl, fun w _ => by go_simp⟩) trivial ?_
  simp only [List.setIfInBounds_toArray, List.set_cons_zero, List.set_cons_succ]
  refine wpAnyH_done (by kernel_rfl) ?_ _
  go_wp2
  go_ret2
  exact ⟨_, rfl, O4.out, K4.out⟩

theorem tagOf_no (kv nv bv hv : Value) (key nonce : List UInt8) (w : World) (hk : IsB w kv key) (hn : IsB w nv nonce) (hl : ¬ (key.length = 32 ∧ nonce.length = 12)) :
    Calls Tryd.prog 26 #[kv, nv, bv, hv] w fun e w' => e = .returned (.tuple #[.slice none 0 0, .int .i64 1]) ∧ w' = w := by
  have HC := Lib.hid (block_no kv nv key nonce 0 w hk hn hl)
  clear hk hn hl
  go_enter Tryd.func26, Tryd.ntmps26
  go_wp2_with fail
  refine HC.out.mono ?_
  rintro e w1 ⟨rfl, rfl⟩
  go_wp2
  go_ret2
  exact ⟨rfl, rfl⟩

end Go.Proofs.YtdojalhaklkegaaDoor

set_option maxRecDepth 100000
namespace Go.Proofs.YtdojalhaklkegaaDoor
open Go.RowKit
set_option linter.unusedVariables false

set_option maxHeartbeats 1000000 in
theorem aseal_any (kv nv bv tv : Value) (key nonce beside text : List UInt8) (w : World) (hL : LaidP w) (hk : IsB w kv key) (hn : IsB w nv nonce) (hb : IsB w bv beside) (ht : IsB w tv text) (hkl : key.length = 32) (hnl : nonce.length = 12)
    (zb : ∀ n c, bv = .slice none n c → c = 0) (hlen : beside.length + text.length ≤ 70368744177600) :
    Calls Tryd.prog 10 #[kv, nv, bv, tv] w fun e w' => ∃ r, e = .returned (.tuple #[r, .int .i64 0]) ∧ Own w' w.heap.size r (M.box key nonce beside text) ∧ Below w.heap.size w w' := by
  obtain ⟨H, hH⟩ : ∃ H, Hid (H = M.hide key nonce text) := ⟨_, rfl⟩
  have HHL : Hid (H.length = text.length) := by rw [hH.out]; exact M.hide_length _ _ _
  obtain ⟨T, hT⟩ : ∃ T, Hid (T = M.boxTag key nonce beside H) := ⟨_, rfl⟩
  have HTL : Hid (T.length = 16) := by rw [hT.out]; exact M.boxTag_length _ _ _ _
  obtain ⟨X, hX⟩ : ∃ X, Hid (X = M.box key nonce beside text) := ⟨_, rfl⟩
  have HX : Hid (H ++ T = X) := by rw [hX.out, hT.out, hH.out]; rfl
  have C1 := Lib.hid (xor_any kv nv tv key nonce text 1 w hL hk hn ht hkl hnl (by omega))
  rw [show M.xo (M.strm key nonce 1) text text.length = M.hide key nonce text from rfl, ← hH.out] at C1
  have C2 := Lib.hid (fun w' hv (k : Below w.heap.size w w') (hh : IsB w' hv H) zh => tagOf_any kv nv bv hv key nonce beside H w' (hL.below k hL.size) (hk.below k) (hn.below k) (hb.below k) hh hkl hnl zb zh (by rw [HHL.out]; exact hlen))
  rw [← hT.out] at C2
  rw [← hX.out]
  have HS : Hid (H.length + T.length ≤ 140737488355328) := by rw [Hid, HHL.out, HTL.out]; omega
  clear hL hk hn hb ht hkl hnl zb hlen hH hT hX
  go_enter Tryd.func10, Tryd.ntmps10
  go_wp2_with fail
  refine C1.out.mono ?_
  rintro e w1 ⟨r1, rfl, o1, k1⟩
  have O1 := Lib.hid o1
  have K1 := Lib.hid k1
  clear o1 k1
  go_wp2_with fail
  refine (C2.out w1 _ K1.out O1.out.isB O1.out.nil0).mono ?_
  rintro e w2 ⟨r2, rfl, o2, k2⟩
  have O2 := Lib.hid o2
  have O12 : Hid (Own w2 w.heap.size r1 H) := O1.out.below k2
  have K2 : Hid (Below w.heap.size w w2) := K1.out.trans (k2.mono K1.out.size)
  clear o2 k2
  go_wp2_with (at_builtin; go_must (refine wpList_app _ rfl _ _ rfl w.heap.size _ H rfl O12.out _ T rfl O2.out.isB O2.out.nil0 HS.out K2.out.size ?_))
  intro r3 w3 o3 k3 _
  rw [HX.out] at o3
  have O3 := Lib.hid o3
  have K3 : Hid (Below w.heap.size w w3) := K2.out.trans k3
  clear o3 k3
  go_wp2
  go_ret2
  exact ⟨_, rfl, O3.out, K3.out⟩

theorem aseal_no (kv nv bv tv : Value) (key nonce : List UInt8) (w : World) (hk : IsB w kv key) (hn : IsB w nv nonce) (hl : ¬ (key.length = 32 ∧ nonce.length = 12)) :
    Calls Tryd.prog 10 #[kv, nv, bv, tv] w fun e w' => e = .returned (.tuple #[.slice none 0 0, .int .i64 1]) ∧ w' = w := by
  have HC := Lib.hid (xor_no kv nv tv key nonce 1 w hk hn hl)
  clear hk hn hl
  go_enter Tryd.func10, Tryd.ntmps10
  go_wp2_with fail
  refine HC.out.mono ?_
  rintro e w1 ⟨rfl, rfl⟩
  go_wp2
  go_ret2
  exact ⟨rfl, rfl⟩

/-- 'b[m:]'. -/
theorem IsB.from_ {w : World} {ao : Option Addr} {n cap : Nat} {bs : List UInt8} (h : IsB w (.slice ao n cap) bs) (m : Nat) (hm : m ≤ n) : ∃ a, (∀ W : World, (Instr.slice 24 (.slice ao n cap) (some (.int .i64 (m : Int))) none none).run Tryd.prog W = .ok (.slice a (n - m) (cap - m)) W) ∧ IsB w (.slice a (n - m) (cap - m)) (bs.drop m) := by
  have hel : Tryd.prog.elem 24 = 5 := by simp [Program.elem, Tryd.underlying24]
  refine ⟨if cap = m then ao else ao.map (·.add m), fun W => ?_, ?_⟩
  · rw [run_slice_l W 24 ao n cap (by rw [hel]; exact Tryd.underlying24) .i64 (m : Int) (by omega) (by omega), hel, Tryd.sizeOf5]
    simp only [Result.andThen_ok, sliced, Int.toNat_natCast, Nat.mul_one]
  · obtain ⟨ao', cap', e, h1, h2, h3⟩ := h
    injection e with e1 e2 e3
    subst e1 e2 e3
    have hl : (bs.drop m).length = bs.length - m := by rw [List.length_drop]
    refine ⟨_, cap - m, by rw [hl], by rw [hl]; omega, by omega, ?_⟩
    by_cases hc : cap = m
    · exact .inl (List.eq_nil_of_length_eq_zero (by rw [hl]; omega))
    · rw [if_neg hc]
      rcases h3 with h | ⟨b, off, rfl, h⟩
      · exact .inl (by rw [h]; simp)
      · refine .inr ⟨b, off + m, by rw [Option.map_some, Addr.add_lit], fun i hi => ?_⟩
        rw [hl] at hi
        rw [Nat.add_assoc, h (m + i) (by omega)]
        simp [List.getD_eq_getElem?_getD]

set_option maxHeartbeats 2000000 in
theorem open_any (kv nv bv tv : Value) (key nonce beside box : List UInt8) (w : World) (hL : LaidP w) (hk : IsB w kv key) (hn : IsB w nv nonce) (hb : IsB w bv beside) (ht : IsB w tv box) (hkl : key.length = 32) (hnl : nonce.length = 12)
    (zb : ∀ n c, bv = .slice none n c → c = 0) (zt : ∀ n c, tv = .slice none n c → c = 0) (hlen : beside.length + box.length ≤ 70368744177600) (q : Nat) (hq : q + 16 = box.length) :
    Calls Tryd.prog 11 #[kv, nv, bv, tv] w fun e w' => (M.boxTag key nonce beside (box.take q) = box.drop q → ∃ r, e = .returned (.tuple #[r, .int .i64 0]) ∧ Own w' w.heap.size r (M.hide key nonce (box.take q))) ∧
      (¬ M.boxTag key nonce beside (box.take q) = box.drop q → e = .returned (.tuple #[.slice none 0 0, .int .i64 7])) ∧ Below w.heap.size w w' := by
  obtain ⟨a4, c4, rfl⟩ := ht.shape
  have hc4 : box.length ≤ c4 := by obtain ⟨_, _, e, h1, _⟩ := ht; injection e with _ _ e; omega
  have hqn : q ≤ box.length := by omega
  obtain ⟨a5, hsl, ht5⟩ := ht.from_ q hqn
  have hn16 : box.length - q = 16 := by omega
  rw [hn16] at hsl ht5
  obtain ⟨c5, hc5⟩ : ∃ c, c = c4 - q := ⟨_, rfl⟩
  rw [← hc5] at hsl ht5
  have ht6 := ht.take q hqn
  have z6 : ∀ n c, Value.slice a4 q c4 = .slice none n c → c = 0 := fun n c e => by injection e with e1 e2 e3; subst e1; exact e3 ▸ zt _ _ rfl
  obtain ⟨H, hH⟩ : ∃ H, Hid (H = box.take q) := ⟨_, rfl⟩
  have HHL : Hid (H.length = q) := by rw [Hid, hH.out, List.length_take]; omega
  obtain ⟨T, hT⟩ : ∃ T, Hid (T = box.drop q) := ⟨_, rfl⟩
  obtain ⟨R, hR⟩ : ∃ R, Hid (R = M.boxTag key nonce beside H) := ⟨_, rfl⟩
  obtain ⟨X, hX⟩ : ∃ X, Hid (X = M.hide key nonce H) := ⟨_, rfl⟩
  rw [← hH.out] at ht6 ⊢
  rw [← hT.out] at ht5 ⊢
  rw [← hR.out, ← hX.out]
  have C1 := Lib.hid (fun w' (k : Below w.heap.size w w') => tagOf_any kv nv bv (.slice a4 q c4) key nonce beside H w' (hL.below k hL.size) (hk.below k) (hn.below k) (hb.below k) (ht6.below k) hkl hnl zb z6 (by rw [HHL.out]; omega))
  have C2 := Lib.hid (fun w' (k : Below w.heap.size w w') => xor_any kv nv (.slice a4 q c4) key nonce H 1 w' (hL.below k hL.size) (hk.below k) (hn.below k) (ht6.below k) hkl hnl (by rw [HHL.out]; omega))
  rw [← hR.out] at C1
  simp only [show M.xo (M.strm key nonce 1) H H.length = M.hide key nonce H from rfl] at C2
  rw [← hX.out] at C2
  have HT5 := Lib.hid ht5
  obtain ⟨n, hn4⟩ : ∃ n, n = box.length := ⟨_, rfl⟩
  rw [← hn4] at hlen hc4 hqn hq hsl ⊢
  have s1 : (n : Int) - 16 = (q : Int) := by omega
  have hqc : (q : Int) ≤ (c4 : Int) := by omega
  have hqn' : (q : Int) ≤ (n : Int) := by omega
  clear hc5 hq hn16 hn4 hL hk hn hb ht hkl hnl zb zt ht5 ht6 z6 hH hT hR hX
  go_enter Tryd.func11, Tryd.ntmps11
  go_wp2
  go_quiet (fail)
  obtain ⟨w1, hw1⟩ : ∃ W, Hid (W = w.drewN nq) := ⟨_, rfl⟩
  have K1 : Hid (Below w.heap.size w w1) := by rw [hw1.out]; exact below_draws w nq
  have T1 : Hid (IsB w1 (.slice a5 16 c5) T) := HT5.out.below K1.out
  rw [← hw1.out]
  clear hw1 HT5 hsl
  go_wp2_with fail
  refine (C1.out w1 K1.out).mono ?_
  rintro e w2 ⟨r2, rfl, o2, k2⟩
  have O2 := Lib.hid o2
  have T2 : Hid (IsB w2 (.slice a5 16 c5) T) := T1.out.below k2
  have K2 : Hid (Below w.heap.size w w2) := K1.out.trans (k2.mono K1.out.size)
  clear o2 k2 T1 C1 K1
  by_cases hyes : R = T
  · have HY := Lib.hid hyes
    have C3 := Lib.hid (wequal_yes (.slice a5 16 c5) r2 T w2 T2.out (hyes ▸ O2.out.isB))
    clear hyes
    go_wp2_with fail
    refine C3.out.mono ?_
    rintro e w3 ⟨rfl, k3⟩
    have K3 : Hid (Below w.heap.size w w3) := K2.out.trans (k3.mono K2.out.size)
    clear k3 C3 O2 T2 K2
    go_wp2_with fail
    refine (C2.out w3 K3.out).mono ?_
    rintro e w4 ⟨r4, rfl, o4, k4⟩
    have K4 : Hid (Below w.heap.size w w4) := K3.out.trans (k4.mono K3.out.size)
    have O4 : Hid (Own w4 w.heap.size r4 X) := o4.mono K3.out.size
    clear o4 k4 C2 K3
    go_wp2
    go_ret2
    exact ⟨fun _ => ⟨_, rfl, O4.out⟩, fun h => absurd HY.out h, K4.out⟩
  · have HY := Lib.hid hyes
    have C3 := Lib.hid (wequal_no (.slice a5 16 c5) r2 T R w2 T2.out O2.out.isB (fun e => hyes e.symm))
    clear hyes
    go_wp2_with fail
    refine C3.out.mono ?_
    rintro e w3 ⟨rfl, k3⟩
    have K3 : Hid (Below w.heap.size w w3) := K2.out.trans (k3.mono K2.out.size)
    clear k3 C3 O2 T2 K2
    go_wp2
    go_ret2
    exact ⟨fun h => absurd h HY.out, fun _ => rfl, K3.out⟩

/-- Fewer bytes than a tag's. -/
theorem open_short (kv nv bv tv : Value) (key nonce beside box : List UInt8) (w : World) (hL : LaidP w) (hk : IsB w kv key) (hn : IsB w nv nonce) (hb : IsB w bv beside) (ht : IsB w tv box) (hkl : key.length = 32) (hnl : nonce.length = 12)
    (zb : ∀ n c, bv = .slice none n c → c = 0) (zt : ∀ n c, tv = .slice none n c → c = 0) (hlen : beside.length ≤ 70368744177600) (hq : box.length < 16) :
    Calls Tryd.prog 11 #[kv, nv, bv, tv] w fun e w' => e = .returned (.tuple #[.slice none 0 0, .int .i64 8]) ∧ Below w.heap.size w w' := by
  obtain ⟨a4, c4, rfl⟩ := ht.shape
  have ht6 := ht.take 0 (Nat.zero_le _)
  have z6 : ∀ n c, Value.slice a4 0 c4 = .slice none n c → c = 0 := fun n c e => by injection e with e1 e2 e3; subst e1; exact e3 ▸ zt _ _ rfl
  have C1 := Lib.hid (fun w' (k : Below w.heap.size w w') => tagOf_any kv nv bv (.slice a4 0 c4) key nonce beside (box.take 0) w' (hL.below k hL.size) (hk.below k) (hn.below k) (hb.below k) (ht6.below k) hkl hnl zb z6 (by simpa using hlen))
  obtain ⟨n, hn4⟩ : ∃ n, n = box.length := ⟨_, rfl⟩
  rw [← hn4] at hq ⊢
  have s1 : (n : Int) - 16 < 0 := by omega
  have s2 : (n : Int) < 16 := by omega
  obtain ⟨R, hR⟩ : ∃ R, Hid (R = M.boxTag key nonce beside (box.take 0)) := ⟨_, rfl⟩
  rw [← hR.out] at C1
  clear hn4 hL hk hn hb ht hkl hnl zb zt ht6 z6 hR hlen
  go_enter Tryd.func11, Tryd.ntmps11
  go_wp2
  go_quiet (fail)
  have K1 : Hid (Below w.heap.size w (w.drewN nq)) := below_draws w nq
  go_wp2_with fail
  refine (C1.out _ K1.out).mono ?_
  rintro e w2 ⟨r2, rfl, o2, k2⟩
  have K2 : Hid (Below w.heap.size w w2) := K1.out.trans (k2.mono K1.out.size)
  clear k2 o2
  go_wp2
  go_ret2
  exact ⟨rfl, K2.out⟩

/-- Another key's or nonce's length. -/
theorem open_no (kv nv bv tv : Value) (key nonce box : List UInt8) (w : World) (hk : IsB w kv key) (hn : IsB w nv nonce) (ht : IsB w tv box) (hl : ¬ (key.length = 32 ∧ nonce.length = 12)) :
    Calls Tryd.prog 11 #[kv, nv, bv, tv] w fun e w' => e = .returned (.tuple #[.slice none 0 0, .int .i64 1]) ∧ Below w.heap.size w w' := by
  have C1 := Lib.hid (fun w' hv (k : Below w.heap.size w w') => tagOf_no kv nv bv hv key nonce w' (hk.below k) (hn.below k) hl)
  obtain ⟨a4, c4, rfl⟩ := ht.shape
  have hc4 : box.length ≤ c4 := by obtain ⟨_, _, e, h1, _⟩ := ht; injection e with _ _ e; omega
  have hcm : c4 ≤ 9223372036854775807 := by obtain ⟨_, _, e, _, h1, _⟩ := ht; injection e with _ _ e; unfold maxLen at h1; omega
  by_cases hq : box.length < 16
  · obtain ⟨n, hn4⟩ : ∃ n, n = box.length := ⟨_, rfl⟩
    rw [← hn4] at hq ⊢
    have s1 : (n : Int) - 16 < 0 := by omega
    clear hn4 hk hn ht hl hc4
    go_enter Tryd.func11, Tryd.ntmps11
    go_wp2
    go_quiet (fail)
    have K1 : Hid (Below w.heap.size w (w.drewN nq)) := below_draws w nq
    go_wp2_with fail
    refine (C1.out _ _ K1.out).mono ?_
    rintro e w2 ⟨rfl, rfl⟩
    go_wp2
    go_ret2
    exact ⟨rfl, K1.out⟩
  · obtain ⟨q, hq'⟩ : ∃ q, q = box.length - 16 := ⟨_, rfl⟩
    have hqn : q ≤ box.length := by omega
    obtain ⟨a5, hsl, ht5⟩ := ht.from_ q hqn
    have hn16 : box.length - q = 16 := by omega
    rw [hn16] at hsl ht5
    obtain ⟨c5, hc5⟩ : ∃ c, c = c4 - q := ⟨_, rfl⟩
    rw [← hc5] at hsl ht5
    obtain ⟨n, hn4⟩ : ∃ n, n = box.length := ⟨_, rfl⟩
    rw [← hn4] at hq hc4 hqn hq' hsl ⊢
    have s1 : (n : Int) - 16 = (q : Int) := by omega
    have hqc : (q : Int) ≤ (c4 : Int) := by omega
    have hqn' : (q : Int) ≤ (n : Int) := by omega
    clear hc5 hq' hn16 hn4 hk hn ht hl ht5
    go_enter Tryd.func11, Tryd.ntmps11
    go_wp2
    go_quiet (fail)
    have K1 : Hid (Below w.heap.size w (w.drewN nq)) := below_draws w nq
    go_wp2_with fail
    refine (C1.out _ _ K1.out).mono ?_
    rintro e w2 ⟨rfl, rfl⟩
    go_wp2
    go_ret2
    exact ⟨rfl, K1.out⟩

end Go.Proofs.YtdojalhaklkegaaDoor
