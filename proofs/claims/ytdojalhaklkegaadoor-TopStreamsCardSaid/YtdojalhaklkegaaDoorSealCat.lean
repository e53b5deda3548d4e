/-
  CONTRACTS OF slices.Grow (of nil) AND slices.Concat: rows of bytes one behind the other, in memory of their own; for []byte and for seal.head. Conditions: up to 2^46 bytes; what is nil has no spare room.
-/
import Derived.Test.YtdojalhaklkegaaDoorPtO
import Derived.Test.YtdojalhaklkegaaDoorWordA
import Derived.Test.YtdojalhaklkegaaDoorStrAny
import Derived.Test.YtdojalhaklkegaaDoorPtQ
import Derived.Test.YtdojalhaklkegaaDoorShaMem
import Derived.Lib.Hide
namespace Go.Proofs.YtdojalhaklkegaaDoor
open Go.RowKit
set_option linter.unusedVariables false
set_option maxRecDepth 100000

/-- The value is a slice of rows of bytes; what is nil has no spare room. -/
def RowsN (w : World) (v : Value) (ls : List (List UInt8)) : Prop :=
  ∃ ao cap, v = .slice ao ls.length cap ∧ ls.length ≤ maxLen ∧ (ls = [] ∨ ∃ b off, ao = some ⟨b, off, none⟩ ∧ ∀ i, i < ls.length → ∃ x, w.cell? ⟨b, off + i, none⟩ = some x ∧ IsB w x (ls.getD i []) ∧ ∀ n c, x = .slice none n c → c = 0)

/-- As wpList_app3, whatever the slice's type is called. -/
theorem wpList_appT {t : TypeId} (hu : Tryd.prog.underlying t = some (.slice 5)) (w : World) {ops : Array Oper} {rest : List Oper} {o : Oper} {a : Act} {Q : Exit → Act → World → Prop} (hg : o.guard = none) (s x : Operand)
    (ho : o.op = .call { callee := .builtin .append, args := #[s, x], argTypes := #[t, t] })
    (B : Nat) (v : Value) (bs : List UInt8) (hs : a.eval s = v) (hown : Own w B v bs) (sv : Value) (ys : List UInt8) (hx : a.eval x = sv) (hi : IsB w sv ys) (hnil : ∀ n c, sv = .slice none n c → c = 0)
    (hlen : bs.length + ys.length ≤ 140737488355328) (hB : B ≤ w.heap.size)
    (h : ∀ v' w', Own w' B v' (bs ++ ys) → w.grownBy w' v.ownBlock → (v'.ownBlock = v.ownBlock ∨ v'.ownBlock = some w.heap.size) → wpList Tryd.prog ops Q rest (a.put o.dst v') w') : wpList Tryd.prog ops Q (o :: rest) a w := by
  obtain ⟨i0, h0, hz0, hz1, hz2⟩ := info_parts Tryd.info5
  obtain ⟨ao, cap, rfl⟩ : ∃ ao cap, sv = .slice ao ys.length cap := by
    obtain ⟨ao, cap, e, _⟩ := hi
    exact ⟨ao, cap, e⟩
  obtain ⟨_, hn, hc⟩ := hi.cells
  cases ao with
  | none =>
    obtain rfl := hn rfl
    obtain rfl := hnil _ _ rfl
    exact wpList_append_own_none hg s x _ ho B 5 i0 1 hu h0 v bs.length _ hs hown.row hx (h _ _ (by rw [List.append_nil]; exact hown) (World.grownBy.refl _ _) (.inl rfl))
  | some ad =>
    refine wpList_append_own_at w hg s x _ ho B 5 i0 (.int .u8 0) 1 1 hu h0 hz0 hz1 hz2 rfl (by decide) v bs.length _ hs hown.row ad ys.length cap (Lib.byteCells ys) hx (by rw [byteCells_length, Nat.mul_one]) (hc ad rfl) (byteCells_oneCell _) (by unfold maxLen; omega) (by omega) hB ?_
    intro v' w' hown' hgrow hz hat
    refine h v' w' ?_ hgrow hat
    rw [Own, List.length_append, byteCells_append]
    exact hown'

theorem flat_take (ls : List (List UInt8)) (k : Nat) (h : k < ls.length) : (ls.take (k + 1)).flatten = (ls.take k).flatten ++ ls.getD k [] := by
  rw [List.take_succ_eq_append_getElem h, List.flatten_append]
  simp [h]
theorem flat_take_le (ls : List (List UInt8)) (k : Nat) : ((ls.take k).flatten).length ≤ ls.flatten.length := by
  have e := congrArg (fun l => (List.flatten l).length) (List.take_append_drop k ls)
  simp only [List.flatten_append, List.length_append] at e
  omega

set_option maxHeartbeats 4000000 in
theorem growB_any (n : Nat) (w : World) (hn : n ≤ 140737488355328) : Calls Tryd.prog 96 #[.slice none 0 0, .int .i64 (n : Int)] w fun e w' => ∃ v, e = .returned v ∧ Own w' w.heap.size v [] ∧ Below w.heap.size w w' := by
  obtain ⟨i0, h0, hz0, hz1, hz2⟩ := info_parts Tryd.info5
  have hn0 : ¬ (n : Int) < 0 := by omega
  by_cases hz : n = 0
  · subst hz
    go_enter Tryd.func96, Tryd.ntmps96
    go_wp2
    go_ret
    exact ⟨_, rfl, World.ownsRow_nil _ _ _ _, Below.refl _ _⟩
  · have hp : (0 : Int) < (n : Int) := by omega
    have w1 : wrap64 ((n : Int) - 0) = (n : Int) := by unfold wrap64; omega
    have hr : ∀ ty, (Builtin.append_ #[24, 3] ty #[.slice none 0 0, .int .i64 (n : Int)]).run Tryd.prog w = _ := fun ty => Lib.run_append_nil_zeros (P := Tryd.prog) w 24 3 ty 5 i0 (.int .u8 0) .i64 .i64 Tryd.underlying24 Tryd.underlying3 h0 hz0 n (by omega) (by omega) (by omega) (by rw [hz2]; omega)
    have hge := grownCap_ge w n 0 5
    have hcm : grownCap w n 0 5 ≤ maxLen := grownCap_le_maxLen w n 0 5 (by unfold maxLen; omega)
    obtain ⟨cp, hcp⟩ : ∃ c, c = grownCap w n 0 5 := ⟨_, rfl⟩
    rw [← hcp] at hr hge hcm
    have hcw : IntKind.i64.wrap (cp : Int) = (cp : Int) := by rw [IntKind.wrap_i64]; unfold maxLen at hcm; omega
    obtain ⟨W1, hW1⟩ : ∃ W, W = w.drew.alloc (.cells (Builtin.zeroCells (Value.int IntKind.u8 0).cells n ++ Builtin.zeroCells (Value.int IntKind.u8 0).cells (cp - n)) 5) := ⟨_, rfl⟩
    have k1 : Below w.heap.size w W1 := by rw [hW1]; exact (Below.refl _ _).drew.alloc (Nat.le_refl _) _
    have o1 : Own W1 w.heap.size (.slice (some ⟨w.heap.size, 0, none⟩) 0 cp) [] := by
      rw [hW1]
      refine ⟨rfl, .inr ⟨w.heap.size, cp, _, rfl, Nat.le_refl _, heap_alloc_new w.drew _, Nat.zero_le _, hcm, ?_, by simp [Lib.byteCells]⟩⟩
      simp [size_zeroCells, Value.cells]
      omega
    rw [← hW1] at hr
    have HR := Lib.hid hr
    have HK := Lib.hid k1
    have HO := Lib.hid o1
    have hsl : ∀ W : World, (Instr.slice 24 (.slice (some ⟨w.heap.size, 0, none⟩) n cp) none (some (.int .i64 0)) none).run Tryd.prog W = .ok (.slice (some ⟨w.heap.size, 0, none⟩) 0 cp) W := fun W => by
      have hel : Tryd.prog.elem 24 = 5 := by simp [Program.elem, Tryd.underlying24]
      rw [run_slice_h W 24 _ n cp (by rw [hel]; exact Tryd.underlying24) .i64 0 (by omega) (by omega), hel, Tryd.sizeOf5]
      simp [Result.andThen_ok, sliced, Addr.add_lit]
    clear hz hge hcm hW1 k1 o1 hr hcw hcp h0 hz0 hz1 hz2
    go_enter Tryd.func96, Tryd.ntmps96
    go_wp2_with (at_builtin; go_must (refine Lib.wpList_append_run _ rfl _ _ _ _ rfl _ _ rfl rfl _ _ (HR.out _) ?_))
    go_ret
    exact ⟨_, rfl, HO.out, HK.out⟩

set_option maxHeartbeats 8000000 in
theorem concatB_any (v : Value) (ls : List (List UInt8)) (w : World) (hp : RowsN w v ls) (hlen : ls.flatten.length ≤ 70368744177664) :
    Calls Tryd.prog 65 #[v] w (Makes w ls.flatten) := by
  obtain ⟨ao, cap, rfl, hl, hat⟩ := hp
  obtain ⟨N, hN⟩ : ∃ N, N = ls.length := ⟨_, rfl⟩
  have HAT : Hid (ls = [] ∨ ∃ b off, ao = some ⟨b, off, none⟩ ∧ ∀ i, i < ls.length → ∃ x, w.cell? ⟨b, off + i, none⟩ = some x ∧ IsB w x (ls.getD i []) ∧ ∀ n c, x = .slice none n c → c = 0) := hat
  have hrow : Hid (∀ j, j < N → ∃ b off, ao = some ⟨b, off, none⟩ ∧ ∃ x, w.cell? ⟨b, off + j, none⟩ = some x ∧ IsB w x (ls.getD j []) ∧ ∀ n c, x = .slice none n c → c = 0) := by
    intro j hj
    rcases HAT.out with h0 | ⟨b, off, h1, h2⟩
    · rw [hN, h0] at hj
      exact absurd hj (Nat.not_lt_zero j)
    · exact ⟨b, off, h1, h2 j (by rw [← hN]; exact hj)⟩
  rw [← hN] at hl ⊢
  have HN : Hid (N = ls.length) := hN
  obtain ⟨Z, hZ⟩ : ∃ Z, Z = ls.flatten.length := ⟨_, rfl⟩
  have HZ : Hid (Z = ls.flatten.length ∧ Z ≤ 70368744177664) := ⟨hZ, by rw [hZ]; exact hlen⟩
  have HTL : Hid (∀ k, ((ls.take k).flatten).length ≤ Z) := fun k => by rw [hZ]; exact flat_take_le ls k
  unfold maxLen at hl
  clear hat hN hlen HAT hZ
  go_enter Tryd.func65, Tryd.ntmps65
  go_wp2
  go_loopw [3, 11] (fun s i wr => ∃ k z : Nat, k ≤ N ∧ i = .int .i64 (k : Int) ∧ s = .int .i64 (z : Int) ∧ Hid (z = ((ls.take k).flatten).length) ∧ Hid (Below w.heap.size w wr))
    (fun _ i _ => N - (intOf i).toNat)
  case atStart => exact ⟨0, 0, Nat.zero_le _, rfl, rfl, rfl, Lib.hid (Below.refl _ _)⟩
  case round =>
    obtain ⟨wA, rfl⟩ : ∃ x, x = wr := ⟨_, rfl⟩
    obtain ⟨k, z, hk, rfl, rfl, hz, kA⟩ := hrel
    by_cases hlt : k < N
    · have b1 : (k : Int) < (N : Int) := by omega
      obtain ⟨b, off, rfl, x, hx0, hxb, hxn⟩ := hrow.out k hlt
      have hx : wA.cell? ⟨b, off + k, none⟩ = some x := by rw [kA.out.cell (by exact World.block_lt_of_cell? w _ hx0), hx0]
      obtain ⟨xa, xc, rfl⟩ := hxb.shape
      obtain ⟨n, hn⟩ : ∃ n, n = (ls.getD k []).length := ⟨_, rfl⟩
      rw [← hn] at hx
      have ht := flat_take ls k (by rw [← HN.out]; exact hlt)
      have HQ : Hid (z + n = ((ls.take (k + 1)).flatten).length) := by rw [Hid, ht, List.length_append, ← hn, ← hz.out]
      have hb1 := HTL.out (k + 1)
      rw [← HQ.out] at hb1
      have hb2 := HZ.out.2
      have q1 : wrap64 ((z : Int) + (n : Int)) = ((z + n : Nat) : Int) := by unfold wrap64; omega
      have q2 : ¬ (((z + n : Nat) : Int) < 0) := by omega
      have HLT := Lib.hid hlt
      clear ht hx0 hxb hxn hn hb1 hb2 hlt hz
      go_wp2
      go_roundw
      case rel => exact ⟨k + 1, z + n, HLT.out, by go_num, by first | rfl | (rw [q1]), HQ, kA⟩
      case measure => have := HLT.out; simp [intOf]; omega
    · have b1 : ¬ (k : Int) < (N : Int) := by omega
      have hkN : k = N := by omega
      have hzZ : z = Z := by rw [hz.out, hkN, HN.out, List.take_length, HZ.out.1]
      subst hkN hzZ
      have HG := Lib.hid (growB_any z wA (by have := HZ.out.2; omega))
      clear hlt hk hz
      go_wp2_with fail
      refine HG.out.mono ?_
      rintro e w1 ⟨v1, rfl, o1, k1⟩
      have O1 := Lib.hid (o1.mono kA.out.size)
      have K1 := Lib.hid (kA.out.trans (k1.mono kA.out.size))
      clear o1 k1 HG kA
      go_wp2
      go_loopw [6, 27] (fun s i wz => ∃ j : Nat, j ≤ k ∧ i = .int .i64 (j : Int) ∧ Hid (Own wz w.heap.size s ((ls.take j).flatten)) ∧ Hid (Below w.heap.size w wz))
        (fun _ i _ => k - (intOf i).toNat)
      case atStart => exact ⟨0, Nat.zero_le _, rfl, O1, K1⟩
      case round =>
        obtain ⟨wq, rfl⟩ : ∃ x, x = wr := ⟨_, rfl⟩
        obtain ⟨j, hj, rfl, oj, kj⟩ := hrel
        by_cases hlt : j < k
        · have c1 : (j : Int) < (k : Int) := by omega
          obtain ⟨b, off, rfl, x, hx, hxb, hxn⟩ := hrow.out j hlt
          have hx2 : wq.cell? ⟨b, off + j, none⟩ = some x := by rw [kj.out.cell (by exact World.block_lt_of_cell? w _ hx), hx]
          have ht := flat_take ls j (by rw [← HN.out]; exact hlt)
          have hb1 := HTL.out (j + 1)
          rw [ht, List.length_append] at hb1
          obtain ⟨P, hP⟩ : ∃ P, P = ls.getD j [] := ⟨_, rfl⟩
          rw [← hP] at ht hb1 hxb
          have HT := Lib.hid ht
          have HXB : Hid (IsB wq x P) := hxb.below kj.out
          have HXN := Lib.hid hxn
          have HLT := Lib.hid hlt
          have HB1 := Lib.hid hb1
          obtain ⟨vs, rfl⟩ : ∃ q, q = u6 := ⟨_, rfl⟩
          clear ht hx hxb hxn hb1 hlt hP
          go_wp2_with (at_builtin; go_must (refine wpList_appT Tryd.underlying24 _ rfl _ _ rfl w.heap.size _ ((ls.take j).flatten) rfl oj.out _ P rfl HXB.out HXN.out ?c1 kj.out.size ?_))
          case c1 => have := HB1.out; have := HZ.out.2; omega
          intro v3 w3 o3 g3 a3
          rw [← HT.out] at o3
          have O3 := Lib.hid o3
          have K3 : Hid (Below w.heap.size w w3) := kj.out.grown g3 kj.out.size fun q hq => (oj.out.block_lt q hq).1
          clear o3 g3 a3 oj kj
          go_wp2
          go_roundw
          case rel => exact ⟨j + 1, HLT.out, by go_num, O3, K3⟩
          case measure => have := HLT.out; simp [intOf]; omega
        · have c1 : ¬ (j : Int) < (k : Int) := by omega
          have hjk : j = k := by omega
          have HE : Hid (Own wq w.heap.size u6 ls.flatten) := by
            have := oj.out
            rw [hjk, HN.out, List.take_length] at this
            exact this
          clear hlt hjk oj
          go_wp2
          go_ret
          exact ⟨_, rfl, HE.out, kj.out⟩

set_option maxHeartbeats 4000000 in
theorem growH_any (n : Nat) (w : World) (hn : n ≤ 140737488355328) : Calls Tryd.prog 67 #[.slice none 0 0, .int .i64 (n : Int)] w fun e w' => ∃ v, e = .returned v ∧ Own w' w.heap.size v [] ∧ Below w.heap.size w w' := by
  obtain ⟨i0, h0, hz0, hz1, hz2⟩ := info_parts Tryd.info5
  have hn0 : ¬ (n : Int) < 0 := by omega
  by_cases hz : n = 0
  · subst hz
    go_enter Tryd.func67, Tryd.ntmps67
    go_wp2
    go_ret
    exact ⟨_, rfl, World.ownsRow_nil _ _ _ _, Below.refl _ _⟩
  · have hp : (0 : Int) < (n : Int) := by omega
    have w1 : wrap64 ((n : Int) - 0) = (n : Int) := by unfold wrap64; omega
    have hr : ∀ ty, (Builtin.append_ #[84, 3] ty #[.slice none 0 0, .int .i64 (n : Int)]).run Tryd.prog w = _ := fun ty => Lib.run_append_nil_zeros (P := Tryd.prog) w 84 3 ty 5 i0 (.int .u8 0) .i64 .i64 Tryd.underlying84 Tryd.underlying3 h0 hz0 n (by omega) (by omega) (by omega) (by rw [hz2]; omega)
    have hge := grownCap_ge w n 0 5
    have hcm : grownCap w n 0 5 ≤ maxLen := grownCap_le_maxLen w n 0 5 (by unfold maxLen; omega)
    obtain ⟨cp, hcp⟩ : ∃ c, c = grownCap w n 0 5 := ⟨_, rfl⟩
    rw [← hcp] at hr hge hcm
    have hcw : IntKind.i64.wrap (cp : Int) = (cp : Int) := by rw [IntKind.wrap_i64]; unfold maxLen at hcm; omega
    obtain ⟨W1, hW1⟩ : ∃ W, W = w.drew.alloc (.cells (Builtin.zeroCells (Value.int IntKind.u8 0).cells n ++ Builtin.zeroCells (Value.int IntKind.u8 0).cells (cp - n)) 5) := ⟨_, rfl⟩
    have k1 : Below w.heap.size w W1 := by rw [hW1]; exact (Below.refl _ _).drew.alloc (Nat.le_refl _) _
    have o1 : Own W1 w.heap.size (.slice (some ⟨w.heap.size, 0, none⟩) 0 cp) [] := by
      rw [hW1]
      refine ⟨rfl, .inr ⟨w.heap.size, cp, _, rfl, Nat.le_refl _, heap_alloc_new w.drew _, Nat.zero_le _, hcm, ?_, by simp [Lib.byteCells]⟩⟩
      simp [size_zeroCells, Value.cells]
      omega
    rw [← hW1] at hr
    have HR := Lib.hid hr
    have HK := Lib.hid k1
    have HO := Lib.hid o1
    have hsl : ∀ W : World, (Instr.slice 84 (.slice (some ⟨w.heap.size, 0, none⟩) n cp) none (some (.int .i64 0)) none).run Tryd.prog W = .ok (.slice (some ⟨w.heap.size, 0, none⟩) 0 cp) W := fun W => by
      have hel : Tryd.prog.elem 84 = 5 := by simp [Program.elem, Tryd.underlying84]
      rw [run_slice_h W 84 _ n cp (by rw [hel]; exact Tryd.underlying84) .i64 0 (by omega) (by omega), hel, Tryd.sizeOf5]
      simp [Result.andThen_ok, sliced, Addr.add_lit]
    clear hz hge hcm hW1 k1 o1 hr hcw hcp h0 hz0 hz1 hz2
    go_enter Tryd.func67, Tryd.ntmps67
    go_wp2_with (at_builtin; go_must (refine Lib.wpList_append_run _ rfl _ _ _ _ rfl _ _ rfl rfl _ _ (HR.out _) ?_))
    go_ret
    exact ⟨_, rfl, HO.out, HK.out⟩

set_option maxHeartbeats 8000000 in
theorem concatH_any (v : Value) (ls : List (List UInt8)) (w : World) (hp : RowsN w v ls) (hlen : ls.flatten.length ≤ 70368744177664) :
    Calls Tryd.prog 40 #[v] w (Makes w ls.flatten) := by
  obtain ⟨ao, cap, rfl, hl, hat⟩ := hp
  obtain ⟨N, hN⟩ : ∃ N, N = ls.length := ⟨_, rfl⟩
  have HAT : Hid (ls = [] ∨ ∃ b off, ao = some ⟨b, off, none⟩ ∧ ∀ i, i < ls.length → ∃ x, w.cell? ⟨b, off + i, none⟩ = some x ∧ IsB w x (ls.getD i []) ∧ ∀ n c, x = .slice none n c → c = 0) := hat
  have hrow : Hid (∀ j, j < N → ∃ b off, ao = some ⟨b, off, none⟩ ∧ ∃ x, w.cell? ⟨b, off + j, none⟩ = some x ∧ IsB w x (ls.getD j []) ∧ ∀ n c, x = .slice none n c → c = 0) := by
    intro j hj
    rcases HAT.out with h0 | ⟨b, off, h1, h2⟩
    · rw [hN, h0] at hj
      exact absurd hj (Nat.not_lt_zero j)
    · exact ⟨b, off, h1, h2 j (by rw [← hN]; exact hj)⟩
  rw [← hN] at hl ⊢
  have HN : Hid (N = ls.length) := hN
  obtain ⟨Z, hZ⟩ : ∃ Z, Z = ls.flatten.length := ⟨_, rfl⟩
  have HZ : Hid (Z = ls.flatten.length ∧ Z ≤ 70368744177664) := ⟨hZ, by rw [hZ]; exact hlen⟩
  have HTL : Hid (∀ k, ((ls.take k).flatten).length ≤ Z) := fun k => by rw [hZ]; exact flat_take_le ls k
  unfold maxLen at hl
  clear hat hN hlen HAT hZ
  go_enter Tryd.func40, Tryd.ntmps40
  go_wp2
  go_loopw [3, 11] (fun s i wr => ∃ k z : Nat, k ≤ N ∧ i = .int .i64 (k : Int) ∧ s = .int .i64 (z : Int) ∧ Hid (z = ((ls.take k).flatten).length) ∧ Hid (Below w.heap.size w wr))
    (fun _ i _ => N - (intOf i).toNat)
  case atStart => exact ⟨0, 0, Nat.zero_le _, rfl, rfl, rfl, Lib.hid (Below.refl _ _)⟩
  case round =>
    obtain ⟨wA, rfl⟩ : ∃ x, x = wr := ⟨_, rfl⟩
    obtain ⟨k, z, hk, rfl, rfl, hz, kA⟩ := hrel
    by_cases hlt : k < N
    · have b1 : (k : Int) < (N : Int) := by omega
      obtain ⟨b, off, rfl, x, hx0, hxb, hxn⟩ := hrow.out k hlt
      have hx : wA.cell? ⟨b, off + k, none⟩ = some x := by rw [kA.out.cell (by exact World.block_lt_of_cell? w _ hx0), hx0]
      obtain ⟨xa, xc, rfl⟩ := hxb.shape
      obtain ⟨n, hn⟩ : ∃ n, n = (ls.getD k []).length := ⟨_, rfl⟩
      rw [← hn] at hx
      have ht := flat_take ls k (by rw [← HN.out]; exact hlt)
      have HQ : Hid (z + n = ((ls.take (k + 1)).flatten).length) := by rw [Hid, ht, List.length_append, ← hn, ← hz.out]
      have hb1 := HTL.out (k + 1)
      rw [← HQ.out] at hb1
      have hb2 := HZ.out.2
      have q1 : wrap64 ((z : Int) + (n : Int)) = ((z + n : Nat) : Int) := by unfold wrap64; omega
      have q2 : ¬ (((z + n : Nat) : Int) < 0) := by omega
      have HLT := Lib.hid hlt
      clear ht hx0 hxb hxn hn hb1 hb2 hlt hz
      go_wp2
      go_roundw
      case rel => exact ⟨k + 1, z + n, HLT.out, by go_num, by first | rfl | (rw [q1]), HQ, kA⟩
      case measure => have := HLT.out; simp [intOf]; omega
    · have b1 : ¬ (k : Int) < (N : Int) := by omega
      have hkN : k = N := by omega
      have hzZ : z = Z := by rw [hz.out, hkN, HN.out, List.take_length, HZ.out.1]
      subst hkN hzZ
      have HG := Lib.hid (growH_any z wA (by have := HZ.out.2; omega))
      clear hlt hk hz
      go_wp2_with fail
      refine HG.out.mono ?_
      rintro e w1 ⟨v1, rfl, o1, k1⟩
      have O1 := Lib.hid (o1.mono kA.out.size)
      have K1 := Lib.hid (kA.out.trans (k1.mono kA.out.size))
      clear o1 k1 HG kA
      go_wp2
      go_loopw [6, 27] (fun s i wz => ∃ j : Nat, j ≤ k ∧ i = .int .i64 (j : Int) ∧ Hid (Own wz w.heap.size s ((ls.take j).flatten)) ∧ Hid (Below w.heap.size w wz))
        (fun _ i _ => k - (intOf i).toNat)
      case atStart => exact ⟨0, Nat.zero_le _, rfl, O1, K1⟩
      case round =>
        obtain ⟨wq, rfl⟩ : ∃ x, x = wr := ⟨_, rfl⟩
        obtain ⟨j, hj, rfl, oj, kj⟩ := hrel
        by_cases hlt : j < k
        · have c1 : (j : Int) < (k : Int) := by omega
          obtain ⟨b, off, rfl, x, hx, hxb, hxn⟩ := hrow.out j hlt
          have hx2 : wq.cell? ⟨b, off + j, none⟩ = some x := by rw [kj.out.cell (by exact World.block_lt_of_cell? w _ hx), hx]
          have ht := flat_take ls j (by rw [← HN.out]; exact hlt)
          have hb1 := HTL.out (j + 1)
          rw [ht, List.length_append] at hb1
          obtain ⟨P, hP⟩ : ∃ P, P = ls.getD j [] := ⟨_, rfl⟩
          rw [← hP] at ht hb1 hxb
          have HT := Lib.hid ht
          have HXB : Hid (IsB wq x P) := hxb.below kj.out
          have HXN := Lib.hid hxn
          have HLT := Lib.hid hlt
          have HB1 := Lib.hid hb1
          obtain ⟨vs, rfl⟩ : ∃ q, q = u6 := ⟨_, rfl⟩
          clear ht hx hxb hxn hb1 hlt hP
          go_wp2_with (at_builtin; go_must (refine wpList_appT Tryd.underlying84 _ rfl _ _ rfl w.heap.size _ ((ls.take j).flatten) rfl oj.out _ P rfl HXB.out HXN.out ?c1 kj.out.size ?_))
          case c1 => have := HB1.out; have := HZ.out.2; omega
          intro v3 w3 o3 g3 a3
          rw [← HT.out] at o3
          have O3 := Lib.hid o3
          have K3 : Hid (Below w.heap.size w w3) := kj.out.grown g3 kj.out.size fun q hq => (oj.out.block_lt q hq).1
          clear o3 g3 a3 oj kj
          go_wp2
          go_roundw
          case rel => exact ⟨j + 1, HLT.out, by go_num, O3, K3⟩
          case measure => have := HLT.out; simp [intOf]; omega
        · have c1 : ¬ (j : Int) < (k : Int) := by omega
          have hjk : j = k := by omega
          have HE : Hid (Own wq w.heap.size u6 ls.flatten) := by
            have := oj.out
            rw [hjk, HN.out, List.take_length] at this
            exact this
          clear hlt hjk oj
          go_wp2
          go_ret
          exact ⟨_, rfl, HE.out, kj.out⟩

end Go.Proofs.YtdojalhaklkegaaDoor
