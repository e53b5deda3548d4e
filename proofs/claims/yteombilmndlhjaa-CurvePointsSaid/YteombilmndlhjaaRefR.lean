/-
  CONTRACTS OF orlopref07.Rest, From, Bytes AND Small. Conditions: numbers below 2^256.
-/
import Derived.Test.YteombilmndlhjaaRefF
namespace Go.Proofs.Yteombilmndlhjaa
open Go.RowKit
set_option linter.unusedVariables false

def cellNat : Option Value → Nat
  | some (.int _ k) => k.toNat
  | _ => 0

/-- The number that lies in a block. -/
def numAt (w : World) (g : Nat) : Nat := M.gi ((List.range 32).map fun i => cellNat (w.cell? ⟨g, i, none⟩)) 32

theorem numAt_nm {w : World} {g : Nat} {t : TypeId} {v : Nat} (h : Blk w g t (nm v)) (hv : v < 256 ^ 32) : numAt w g = v := by
  have e : ((List.range 32).map fun i => cellNat (w.cell? ⟨g, i, none⟩)) = M.dg v 32 := by
    apply M.ext_getDN
    · rw [List.length_map, List.length_range, M.dg_length]
    · intro i hi
      rw [List.length_map, List.length_range] at hi
      rw [M.dg_get v 32 i hi]
      simp only [List.getD_eq_getElem?_getD, List.getElem?_map, List.getElem?_range hi, Option.map_some, Option.getD_some, h.cell, nm_get v i hi, cellNat]
      omega
  rw [numAt, e, M.gi_dg v 32 32 (Nat.le_refl _), Nat.mod_eq_of_lt hv]

theorem z32_arr : z32.toArray = #[Value.int .i64 0, Value.int .i64 0, Value.int .i64 0, Value.int .i64 0, Value.int .i64 0, Value.int .i64 0, Value.int .i64 0, Value.int .i64 0, Value.int .i64 0, Value.int .i64 0, Value.int .i64 0, Value.int .i64 0, Value.int .i64 0, Value.int .i64 0, Value.int .i64 0, Value.int .i64 0, Value.int .i64 0, Value.int .i64 0, Value.int .i64 0, Value.int .i64 0, Value.int .i64 0, Value.int .i64 0, Value.int .i64 0, Value.int .i64 0, Value.int .i64 0, Value.int .i64 0, Value.int .i64 0, Value.int .i64 0, Value.int .i64 0, Value.int .i64 0, Value.int .i64 0, Value.int .i64 0] := rfl

/-- The cells are those of a number below 2^256. -/
def IsN (L : List Value) (v : Nat) : Prop := L = nm v ∧ v < 256 ^ 32

theorem IsN.len {L : List Value} {v : Nat} (h : IsN L v) : L.length = 32 := by rw [h.1]; exact nm_length v

theorem IsN.one {L : List Value} {v : Nat} (h : IsN L v) : ∀ u ∈ L, u.oneCell' = true := by rw [h.1]; exact nm_one v

theorem numAt_isN {w : World} {g : Nat} {t : TypeId} {L : List Value} {v : Nat} (h : Blk w g t L) (hv : IsN L v) : numAt w g = v := numAt_nm (h.eq_ hv.1) hv.2

/-- The call hands back a number. -/
def GivesN (w : World) (v : Nat) (e : Ending) (w' : World) : Prop := ∃ R : List Value, e = .returned (.agg R.toArray) ∧ IsN R v ∧ Below w.heap.size w w'

theorem Q_lt : M.Q < 256 ^ 32 := by decide +kernel

theorem prime_n (w : World) : Calls Try.prog 55 #[] w (GivesN w M.Q) :=
  (prime_any w).mono fun e w' h => ⟨nm M.Q, h.1, ⟨rfl, Q_lt⟩, h.2⟩

theorem less_n {K L : List Value} {x y : Nat} (w : World) (hx : IsN K x) (hy : IsN L y) : Calls Try.prog 56 #[.agg K.toArray, .agg L.toArray] w fun e w' => e = .returned (.bool (decide (x < y))) ∧ Below w.heap.size w w' := by
  rw [hx.1, hy.1]
  exact less_any x y w hx.2 hy.2

theorem minus_n {K L : List Value} {x y : Nat} (w : World) (hx : IsN K x) (hy : IsN L y) (hle : y ≤ x) : Calls Try.prog 54 #[.agg K.toArray, .agg L.toArray] w (GivesN w (x - y)) := by
  rw [hx.1, hy.1]
  exact (minus_any x y w hx.2 hle).mono fun e w' h => ⟨nm (x - y), h.1, ⟨rfl, by have := hx.2; omega⟩, h.2⟩

/-- A whole number out of a block, and into one. -/
theorem wpList_load_num {ops : Array Oper} {rest : List Oper} {o : Oper} {a : Act} {w : World} {Q : Exit → Act → World → Prop} (hg : o.guard = none) (x : Operand) (ho : o.op = .load 49 x) (b : Nat) (hx : a.eval x = .pointer (some ⟨b, 0, none⟩)) (L : List Value) (hb : Blk w b 49 L) (hl : L.length = 32)
    (h : wpList Try.prog ops Q rest (a.put o.dst (.agg L.toArray)) w) : wpList Try.prog ops Q (o :: rest) a w :=
  wpList_load_mid hg 49 x ho b 0 hx L _ (hb.range 0 _ [] (by simp)) Try.underlying49 rfl (by rw [hl]; kernel_rfl) h

theorem wpList_store_num {ops : Array Oper} {rest : List Oper} {o : Oper} {a : Act} {w : World} {Q : Exit → Act → World → Prop} (hg : o.guard = none) (hd : o.dst = none) (x y : Operand) (ho : o.op = .store 49 x y) (b : Nat) (hx : a.eval x = .pointer (some ⟨b, 0, none⟩)) (L M : List Value) (hy : a.eval y = .agg L.toArray) (hb : Blk w b 49 M) (hm : M.length = 32) (hl : L.length = 32) (h1 : ∀ u ∈ L, u.oneCell' = true)
    (h : ∀ w', Blk w' b 49 L → Only b w w' → wpList Try.prog ops Q rest a w') : wpList Try.prog ops Q (o :: rest) a w :=
  wpList_store_blk hg 49 x y ho b L.toArray hx hy 49 M hb (by rw [List.size_toArray, hl]; kernel_rfl) (by rw [List.size_toArray, hm, hl]) h1 (fun w' h2 h3 => by rw [hd]; exact h w' h2 h3)

theorem z32_len : z32.length = 32 := z32_length

set_option maxRecDepth 100000 in
set_option maxHeartbeats 4000000 in
theorem rest_n (AL : List Value) (a : Nat) (w : World) (hA : IsN AL a) : Calls Try.prog 39 #[.agg AL.toArray] w (GivesN w (a % M.Q)) := by
  obtain ⟨q, hq⟩ : ∃ q, Hid (q = M.Q) := ⟨_, rfl⟩
  have HQ0 : Hid (0 < q) := by rw [hq.out]; exact M.Q_pos
  have HSUB : Hid (∀ v, q ≤ v → (v - q) % q = v % q) := by rw [hq.out]; exact M.rest_sub
  have CP : Hid (∀ w, Calls Try.prog 55 #[] w (GivesN w q)) := by rw [hq.out]; exact prime_n
  obtain ⟨r, hr⟩ : ∃ r, Hid (r = a % q) := ⟨_, rfl⟩
  rw [← hq.out, ← hr.out]
  have HA := Lib.hid hA
  clear hq hA
  obtain ⟨W, hW⟩ : ∃ W, Hid (W = (w.alloc (.cells AL.toArray 49)).alloc (.cells z32.toArray 49)) := ⟨_, rfl⟩
  obtain ⟨g, hg⟩ : ∃ g, g = w.heap.size := ⟨_, rfl⟩
  have B0 : Hid (Blk W g 49 AL) := by rw [hW.out, hg]; exact (Blk.newAt _ _ _ _ _ rfl rfl).alloc _
  have B1 : Hid (Blk W (g + 1) 49 z32) := by rw [hW.out, hg]; exact Blk.newAt _ _ _ _ _ (by simp) rfl
  have K : Hid (Below w.heap.size w W) := by rw [hW.out]; exact ((Below.refl _ _).alloc (Nat.le_refl _) _).alloc (by simp) _
  have HG : Hid (g = w.heap.size) := hg
  go_enter Try.func39, Try.ntmps39
  go_wp2_with fail
  rw [← z32_arr, ← hW.out, ← hg]
  clear hW hg
  refine (CP.out W).mono ?_
  rintro e w1 ⟨P, rfl, hP, k1⟩
  have HP := Lib.hid hP
  have E0 := B0.out.below k1 B0.out.lt
  have E1 := B1.out.below k1 B1.out.lt
  have KK := K.out.trans (k1.mono K.out.size)
  clear B0 B1 K k1 hP
  obtain ⟨g3, hg3⟩ : ∃ g, g = w1.heap.size := ⟨_, rfl⟩
  have HGG : Hid (g + 1 < g3 ∧ w.heap.size ≤ g) := ⟨by rw [hg3]; exact E1.lt, Nat.le_of_eq HG.out.symm⟩
  have E3 : Blk (w1.alloc (.cells z32.toArray 49)) g3 49 z32 := Blk.newAt _ _ _ _ _ hg3 rfl
  go_wp2_with (rw [← z32_arr, ← hg3]; refine wpList_store_num rfl rfl (.tmp 3) (.tmp 4) rfl g3 rfl P z32 rfl E3 z32_len HP.out.len HP.out.one ?_; intro w2 hb2 ho2)
  have n1 : some g ≠ some g3 := by have := HGG.out; intro e; injection e with e; omega
  have n2 : some (g + 1) ≠ some g3 := by have := HGG.out; intro e; injection e with e; omega
  have D0 : Hid (Blk w2 g 49 AL) := (E0.alloc _).grown ho2 n1
  have D1 : Hid (Blk w2 (g + 1) 49 z32) := (E1.alloc _).grown ho2 n2
  have D3 : Hid (Blk w2 g3 49 P) := hb2
  have K2 : Hid (Below w.heap.size w w2) := (KK.alloc KK.size _).trans (ho2.below (by have := KK.size; simp; omega) (by have := HGG.out; omega))
  clear E0 E1 E3 KK hb2 ho2 hg3 n1 n2
  go_wp2
  go_loopw [8] (fun b wr => ∃ (v : Nat) (L : List Value), Hid (IsN L v) ∧ Hid (v % q = r) ∧ Hid (Blk wr g 49 L) ∧ Hid (Blk wr g3 49 P) ∧ Hid (Blk wr (g + 1) 49 z32) ∧ Hid (Below w.heap.size w wr))
    (fun _ wr => numAt wr g)
  case atStart => exact ⟨a, AL, HA, hr.out.symm, D0, D3, D1, K2⟩
  case round =>
    clear D0 D1 D3 K2 HA hr
    obtain ⟨wz, rfl⟩ : ∃ x, x = wr := ⟨_, rfl⟩
    obtain ⟨v, L, hv, hvq, b0, b3, b1, kk⟩ := hrel
    have n1 : some g ≠ some g3 := by have := HGG.out; intro e; injection e with e; omega
    have CL := Lib.hid (less_n wz hv.out HP.out)
    go_wp2_with (first
      | (refine wpList_load_num rfl (.tmp 1) rfl g rfl L b0.out hv.out.len ?_)
      | (refine wpList_load_num rfl (.tmp 3) rfl g3 rfl P b3.out HP.out.len ?_))
    by_cases hlt : v < q
    · have HR : Hid (v = r) := by rw [Hid, ← hvq.out, Nat.mod_eq_of_lt hlt]
      rw [decide_eq_true hlt] at CL
      refine CL.out.mono ?_
      rintro e w3 ⟨rfl, k3⟩
      have K3 : Hid (Below w.heap.size w w3) := kk.out.trans (k3.mono kk.out.size)
      have F0 : Hid (Blk w3 g 49 L) := b0.out.below k3 b0.out.lt
      have F1 : Hid (Blk w3 (g + 1) 49 z32) := b1.out.below k3 b1.out.lt
      have HLR : Hid (IsN L r) := by rw [← HR.out]; exact hv.out
      clear CL b0 b1 b3 k3 hlt kk HR hv hvq n1
      go_wp2_with (first
        | (refine wpList_load_num rfl (.tmp 1) rfl g rfl L F0.out HLR.out.len ?_)
        | (refine wpList_store_num rfl rfl (.tmp 2) (.tmp 12) rfl (g + 1) rfl L z32 rfl F1.out z32_len HLR.out.len HLR.out.one ?_; intro w9 hb9 ho9))
      exact bodyPost_ret (results_cell_row rfl _ _ (g + 1) _ _ _ _ rfl hb9 Try.underlying49 rfl (by rw [List.size_toArray, HLR.out.len]; kernel_rfl)) rfl ⟨L, rfl, HLR.out, K3.out.trans (ho9.below K3.out.size (by have := HGG.out; omega))⟩
    · rw [decide_eq_false hlt] at CL
      have HLE : Hid (q ≤ v) := by rw [Hid]; omega
      refine CL.out.mono ?_
      rintro e w3 ⟨rfl, k3⟩
      have K3 : Hid (Below w.heap.size w w3) := kk.out.trans (k3.mono kk.out.size)
      have F0 : Hid (Blk w3 g 49 L) := b0.out.below k3 b0.out.lt
      have F3 : Hid (Blk w3 g3 49 P) := b3.out.below k3 b3.out.lt
      have F1 : Hid (Blk w3 (g + 1) 49 z32) := b1.out.below k3 b1.out.lt
      have CM := Lib.hid (minus_n w3 hv.out HP.out HLE.out)
      have NM : Hid (numAt wz g = v) := numAt_isN b0.out hv.out
      have NQ : Hid ((v - q) % q = r) := by rw [Hid, HSUB.out v HLE.out]; exact hvq.out
      have NL : Hid (v - q < v) := by have := HQ0.out; have := HLE.out; rw [Hid]; omega
      clear CL b0 b1 b3 k3 hlt kk
      go_wp2_with (first
        | (refine wpList_load_num rfl (.tmp 1) rfl g rfl L F0.out hv.out.len ?_)
        | (refine wpList_load_num rfl (.tmp 3) rfl g3 rfl P F3.out HP.out.len ?_))
      refine CM.out.mono ?_
      rintro e w4 ⟨N, rfl, hN, k4⟩
      have HN := Lib.hid hN
      have G0 : Hid (Blk w4 g 49 L) := F0.out.below k4 F0.out.lt
      have G3 : Hid (Blk w4 g3 49 P) := F3.out.below k4 F3.out.lt
      have G1 : Hid (Blk w4 (g + 1) 49 z32) := F1.out.below k4 F1.out.lt
      have K4 : Hid (Below w.heap.size w w4) := K3.out.trans (k4.mono K3.out.size)
      clear F0 F1 F3 K3 CM k4 hN
      go_wp2_with (refine wpList_store_num rfl rfl (.tmp 1) (.tmp 11) rfl g rfl N L rfl G0.out hv.out.len HN.out.len HN.out.one ?_; intro w5 hb5 ho5)
      have J0 : Hid (Blk w5 g 49 N) := hb5
      have J3 : Hid (Blk w5 g3 49 P) := G3.out.grown ho5 (fun e => n1 e.symm)
      have J1 : Hid (Blk w5 (g + 1) 49 z32) := G1.out.grown ho5 (by intro e; injection e with e; omega)
      have K5 : Hid (Below w.heap.size w w5) := K4.out.trans (ho5.below K4.out.size (by have := HGG.out; omega))
      have NM2 : Hid (numAt w5 g = v - q) := numAt_isN hb5 HN.out
      clear G0 G1 G3 K4 hb5 ho5
      go_wp2
      go_roundw
      case rel => exact ⟨v - q, N, HN, NQ, J0, J3, J1, K5⟩
      case measure =>
        show numAt w5 g < numAt wz g
        rw [NM.out, NM2.out]
        exact NL.out

end Go.Proofs.Yteombilmndlhjaa
