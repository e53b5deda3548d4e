/-
  ROWS OF THE CALL'S OWN SIDE BY SIDE: 'append' onto one of them, what has turned, where the new row lies. Conditions: the sum of the lengths is at most 2^47.
  'append(x, make([]byte, n)...)' ONTO A ROW OF THE CALL'S OWN, AS A LAW FOR THE WALK. Conditions: the sum of the lengths is at most 2^47.
  CONTRACT OF chacha.blockOf: the block that begins with sixteen numbers. Conditions: the program's table of places lies as it was laid.
-/
import Derived.Test.YtdojalhaklkegaaDoorPn1
import Derived.Maps.AppendAt
import Derived.Lib.AppendZerosOnto
import Derived.Test.YtdojalhaklkegaaDoorPn5
import Derived.Lib.Hide
import Derived.Deep.RegionHeld3

namespace Go.Proofs.YtdojalhaklkegaaDoor
open Go.RowKit
set_option linter.unusedVariables false

theorem IsB.shape {w : World} {v : Value} {bs : List UInt8} (h : IsB w v bs) : ∃ ao cap, v = .slice ao bs.length cap := by
  obtain ⟨ao, cap, e, _⟩ := h
  exact ⟨ao, cap, e⟩

theorem IsB.take {w : World} {ao : Option Addr} {n cap : Nat} {bs : List UInt8} (h : IsB w (.slice ao n cap) bs) (m : Nat) (hm : m ≤ n) : IsB w (.slice ao m cap) (bs.take m) := by
  obtain ⟨ao', cap', e, h1, h2, h3⟩ := h
  injection e with e1 e2 e3
  subst e1 e2 e3
  have hl : (bs.take m).length = m := by rw [List.length_take]; omega
  refine ⟨ao, cap, by rw [hl], by omega, h2, ?_⟩
  rcases h3 with h | ⟨b, off, e, h⟩
  · exact .inl (by rw [h]; simp)
  · refine .inr ⟨b, off, e, fun i hi => ?_⟩
    rw [hl] at hi
    rw [h i (by omega)]
    simp [List.getD_eq_getElem?_getD, hi]

theorem Own.shape' {w : World} {B : Nat} {v : Value} {bs : List UInt8} (h : Own w B v bs) : ∃ ao cap, v = .slice ao bs.length cap := h.isB.shape

/-- As wpList_app; what is appended to is all that has turned. -/
theorem wpList_app2 (w : World) {ops : Array Oper} {rest : List Oper} {o : Oper} {a : Act} {Q : Exit → Act → World → Prop} (hg : o.guard = none) (s x : Operand)
    (ho : o.op = .call { callee := .builtin .append, args := #[s, x], argTypes := #[24, 24] })
    (B : Nat) (v : Value) (bs : List UInt8) (hs : a.eval s = v) (hown : Own w B v bs) (sv : Value) (ys : List UInt8) (hx : a.eval x = sv) (hi : IsB w sv ys) (hnil : ∀ n c, sv = .slice none n c → c = 0)
    (hlen : bs.length + ys.length ≤ 140737488355328) (hB : B ≤ w.heap.size)
    (h : ∀ v' w', Own w' B v' (bs ++ ys) → w.grownBy w' v.ownBlock → wpList Tryd.prog ops Q rest (a.put o.dst v') w') : wpList Tryd.prog ops Q (o :: rest) a w := by
  obtain ⟨i0, h0, hz0, hz1, hz2⟩ := info_parts Tryd.info5
  obtain ⟨ao, cap, rfl⟩ : ∃ ao cap, sv = .slice ao ys.length cap := by
    obtain ⟨ao, cap, e, _⟩ := hi
    exact ⟨ao, cap, e⟩
  obtain ⟨_, hn, hc⟩ := hi.cells
  cases ao with
  | none =>
    obtain rfl := hn rfl
    obtain rfl := hnil _ _ rfl
    exact wpList_append_own_none hg s x _ ho B 5 i0 1 Tryd.underlying24 h0 v bs.length _ hs hown.row hx (h _ _ (by rw [List.append_nil]; exact hown) (World.grownBy.refl _ _))
  | some ad =>
    refine wpList_append_own w hg s x _ ho B 5 i0 (.int .u8 0) 1 1 Tryd.underlying24 h0 hz0 hz1 hz2 rfl (by decide) v bs.length _ hs hown.row ad ys.length cap (Lib.byteCells ys) hx (by rw [byteCells_length, Nat.mul_one]) (hc ad rfl) (byteCells_oneCell _) (by unfold maxLen; omega) (by omega) hB ?_
    intro v' w' hown' hgrow hz
    refine h v' w' ?_ hgrow
    rw [Own, List.length_append, byteCells_append]
    exact hown'

/-- The block of a row of the call's own is there. -/
theorem Own.block_lt {w : World} {B : Nat} {v : Value} {bs : List UInt8} (h : Own w B v bs) : ∀ k, v.ownBlock = some k → B ≤ k ∧ k < w.heap.size := fun k hk => by
  have := h.row.lt k hk
  exact this

theorem Own.far {w w' : World} {B g n cap : Nat} {bs : List UInt8} {row : Option Nat} (h : Own w B (.slice (some ⟨g, 0, none⟩) n cap) bs) (hgrow : w.grownBy w' row) (hne : row ≠ some g) : Own w' B (.slice (some ⟨g, 0, none⟩) n cap) bs :=
  h.row.kept hgrow (.inr fun e => hne e.symm)

/-- As wpList_app2; and where the new row lies. -/
theorem wpList_app3 (w : World) {ops : Array Oper} {rest : List Oper} {o : Oper} {a : Act} {Q : Exit → Act → World → Prop} (hg : o.guard = none) (s x : Operand)
    (ho : o.op = .call { callee := .builtin .append, args := #[s, x], argTypes := #[24, 24] })
    (B : Nat) (v : Value) (bs : List UInt8) (hs : a.eval s = v) (hown : Own w B v bs) (sv : Value) (ys : List UInt8) (hx : a.eval x = sv) (hi : IsB w sv ys) (hnil : ∀ n c, sv = .slice none n c → c = 0)
    (hlen : bs.length + ys.length ≤ 140737488355328) (hB : B ≤ w.heap.size)
    (h : ∀ v' w', Own w' B v' (bs ++ ys) → w.grownBy w' v.ownBlock → (v'.ownBlock = v.ownBlock ∨ v'.ownBlock = some w.heap.size) → wpList Tryd.prog ops Q rest (a.put o.dst v') w') : wpList Tryd.prog ops Q (o :: rest) a w := by
  obtain ⟨i0, h0, hz0, hz1, hz2⟩ := info_parts Tryd.info5
  obtain ⟨ao, cap, rfl⟩ : ∃ ao cap, sv = .slice ao ys.length cap := by
    obtain ⟨ao, cap, e, _⟩ := hi
    exact ⟨ao, cap, e⟩
  obtain ⟨_, hn, hc⟩ := hi.cells
  cases ao with
  | none =>
    obtain rfl := hn rfl
    obtain rfl := hnil _ _ rfl
    exact wpList_append_own_none hg s x _ ho B 5 i0 1 Tryd.underlying24 h0 v bs.length _ hs hown.row hx (h _ _ (by rw [List.append_nil]; exact hown) (World.grownBy.refl _ _) (.inl rfl))
  | some ad =>
    refine wpList_append_own_at w hg s x _ ho B 5 i0 (.int .u8 0) 1 1 Tryd.underlying24 h0 hz0 hz1 hz2 rfl (by decide) v bs.length _ hs hown.row ad ys.length cap (Lib.byteCells ys) hx (by rw [byteCells_length, Nat.mul_one]) (hc ad rfl) (byteCells_oneCell _) (by unfold maxLen; omega) (by omega) hB ?_
    intro v' w' hown' hgrow hz hat
    refine h v' w' ?_ hgrow hat
    rw [Own, List.length_append, byteCells_append]
    exact hown'

theorem Own.kept {w w' : World} {B : Nat} {v : Value} {bs : List UInt8} {row : Option Nat} (h : Own w B v bs) (g : w.grownBy w' row) (hne : ∀ k, v.ownBlock = some k → row ≠ some k) : Own w' B v bs := by
  refine h.row.kept g ?_
  cases hv : v.ownBlock with
  | none => exact .inl rfl
  | some k => exact .inr fun e => hne k hv e.symm

/-- Two rows of the call's own don't lie in one block. -/
def Apart (x y : Value) : Prop := ∀ k, x.ownBlock = some k → y.ownBlock ≠ some k

theorem Apart.symm {x y : Value} (h : Apart x y) : Apart y x := fun k e1 e2 => h k e2 e1

theorem Apart.next {w : World} {B : Nat} {x x' y : Value} {bs : List UInt8} (h : Apart x y) (hy : Own w B y bs) (n : Nat) (hn : w.heap.size ≤ n) (hat : x'.ownBlock = x.ownBlock ∨ x'.ownBlock = some n) : Apart x' y := by
  intro k e1 e2
  rcases hat with hat | hat
  · exact h k (hat ▸ e1) e2
  · rw [hat] at e1
    injection e1 with e1
    have := (hy.block_lt k e2).2
    omega

/-- 'make([]byte, n)'. -/
theorem make_run (n : Nat) (hm : n ≤ 140737488355328) : ∃ C : Array Value, ∀ w : World, (Instr.makeSlice 24 (.int .i64 (n : Int)) (.int .i64 (n : Int))).run Tryd.prog w = .ok (.slice (some ⟨w.heap.size, 0, none⟩) n n) (w.alloc (.cells C 5)) ∧
    Own (w.alloc (.cells C 5)) w.heap.size (.slice (some ⟨w.heap.size, 0, none⟩) n n) (List.replicate n 0) := by
  obtain ⟨i0, h0, hz0, hz1, hz2⟩ := info_parts Tryd.info5
  have hb : (i0.bytes : Int) * (n : Int) ≤ 281474976710656 := by rw [hz2]; omega
  have e : (madeCells (Value.int IntKind.u8 0).cells (n * i0.size)).toList = List.replicate n (.int .u8 0) := by
    rw [hz1, Nat.mul_one]
    exact toList_madeCells_one _ _
  have hsz : (madeCells (Value.int IntKind.u8 0).cells (n * i0.size)).size = n := by rw [← Array.length_toList, e, List.length_replicate]
  refine ⟨madeCells (Value.int IntKind.u8 0).cells (n * i0.size), fun w => ⟨?_, ?_⟩⟩
  · have hrun := run_make (P := Tryd.prog) w 24 5 i0 (.int .u8 0) Tryd.underlying24 h0 hz0 .i64 .i64 n n (by omega) (by omega) hb (by omega)
    simp only [Int.toNat_natCast] at hrun
    exact hrun
  · refine ⟨by rw [byteCells_length, Nat.mul_one], .inr ⟨w.heap.size, n, _, by rw [List.length_replicate], Nat.le_refl _, heap_alloc_new w _, by rw [List.length_replicate]; exact Nat.le_refl _, by unfold maxLen; omega, by rw [hsz, Nat.mul_one], ?_⟩⟩
    rw [e, List.length_replicate, Nat.mul_one, List.take_replicate, Nat.min_eq_left (Nat.le_refl _)]
    simp [Lib.byteCells]

end Go.Proofs.YtdojalhaklkegaaDoor

namespace Go.Proofs.YtdojalhaklkegaaDoor
open Go.RowKit
set_option linter.unusedVariables false

theorem zeroCells_bytes (n : Nat) : (Builtin.zeroCells (Value.int IntKind.u8 0).cells n).toList = Lib.byteCells (List.replicate n 0) := by
  have h : (Builtin.zeroCells (Value.int IntKind.u8 0).cells n).toList = List.replicate n (.int .u8 0) := by
    rw [show Builtin.zeroCells (Value.int IntKind.u8 0).cells n = Builtin.zeroCells #[.int .u8 0] n from rfl]
    apply List.eq_replicate_iff.2
    refine ⟨by simp [Builtin.zeroCells], fun b hb => ?_⟩
    simp [Builtin.zeroCells, Nat.mod_one] at hb
    obtain ⟨_, _, rfl⟩ := hb
    rfl
  rw [h]
  simp [Lib.byteCells]

theorem run_append_room_zeros (w : World) (ty : TypeId) (g n cap : Nat) (cur : Array Value) (hg : w.heap[g]? = some (.cells cur 5 (0, 0))) (m : Nat) (hm : m ≤ 140737488355328) (hroom : n + m ≤ cap) (hfit : n + m ≤ cur.size) :
    (Builtin.append_ #[24, 3] ty #[.slice (some ⟨g, 0, none⟩) n cap, .int .i64 (m : Int)]).run Tryd.prog w =
      .ok (.slice (some ⟨g, 0, none⟩) (n + m) cap) (w.setRow g (cur.toList.take n ++ Lib.byteCells (List.replicate m 0) ++ cur.toList.drop (n + m)).toArray) := by
  obtain ⟨i0, h0, hz0, hz1, hz2⟩ := info_parts Tryd.info5
  have hst := run_storeCells_at Tryd.prog g n 5 (Lib.byteCells (List.replicate m 0)) 0 cur w hg (by rw [byteCells_length, List.length_replicate, Nat.add_zero]; exact hfit) (byteCells_oneCell _)
  rw [byteCells_length, List.length_replicate] at hst
  simp only [Nat.add_zero] at hst
  have hw : IntKind.i64.wrap (m : Int) = m := by rw [IntKind.wrap_i64]; omega
  have hneg : ¬ ((m : Int) < 0) := by omega
  have h48i : ¬ (281474976710656 < (m : Int) * (i0.bytes : Int)) := by rw [hz2]; omega
  by_cases hm0 : m = 0
  · subst hm0
    have hw0 : IntKind.i64.wrap (0 : Int) = 0 := rfl
    simp [hw0, Builtin.append_, run_underlying Tryd.underlying24, run_underlying Tryd.underlying3, sizeOf, typeInfo, zeroValue, h0, hz0, hz1, asInt, asIntOf, Addr.add_lit] at hst ⊢
    have hst2 : (storeCells ⟨g, n, none⟩ ([] : List Value)).run Tryd.prog w = .ok () (w.setRow g cur) := by simpa [Lib.byteCells] using hst
    have hroom0 : n ≤ cap := by omega
    simp [hroom0, hst2, Lib.byteCells]
  · have hns : ¬ (m * i0.size = 0) := by rw [hz1]; omega
    have hns' : ¬ m = 0 := hm0
    have hzl := zeroCells_bytes m
    simp [Builtin.append_, run_underlying Tryd.underlying24, run_underlying Tryd.underlying3, sizeOf, typeInfo, zeroValue, h0, hz0, hz1, asInt, asIntOf, hw, hneg, h48i, hroom, hns', Addr.add_lit, hzl, hst]

theorem append_zeros_own (w : World) (ty : TypeId) (B : Nat) (v : Value) (bs : List UInt8) (hown : Own w B v bs) (m : Nat) (hlen : bs.length + m ≤ 140737488355328) (hB : B ≤ w.heap.size) :
    ∃ v' w', (Builtin.append_ #[24, 3] ty #[v, .int .i64 (m : Int)]).run Tryd.prog w = .ok v' w' ∧ Own w' B v' (bs ++ List.replicate m 0) ∧ Below B w w' ∧ w.grownBy w' v.ownBlock ∧ (v'.ownBlock = v.ownBlock ∨ v'.ownBlock = some w.heap.size) := by
  obtain ⟨i0, h0, hz0, hz1, hz2⟩ := info_parts Tryd.info5
  have far : ∀ (o : Obj) (row : Option Nat), w.grownBy (w.drew.alloc o) row := fun o row => ⟨rfl, rfl, rfl, by simp, fun k hk _ => ((Below.refl w.heap.size w).drew.alloc (Nat.le_refl _) o).block k hk⟩
  have grown : ∀ (old : Nat), old < bs.length + m →
      Own (w.drew.alloc (.cells ((Lib.byteCells bs).toArray ++ Builtin.zeroCells (Value.int IntKind.u8 0).cells m ++ Builtin.zeroCells (Value.int IntKind.u8 0).cells (grownCap w (bs.length + m) old 5 - (bs.length + m))) 5)) B
        (.slice (some ⟨w.heap.size, 0, none⟩) (bs.length + m) (grownCap w (bs.length + m) old 5)) (bs ++ List.replicate m 0) ∧
      Below B w (w.drew.alloc (.cells ((Lib.byteCells bs).toArray ++ Builtin.zeroCells (Value.int IntKind.u8 0).cells m ++ Builtin.zeroCells (Value.int IntKind.u8 0).cells (grownCap w (bs.length + m) old 5 - (bs.length + m))) 5)) := by
    intro old ho
    have hge := grownCap_ge w (bs.length + m) old 5
    have hcm : grownCap w (bs.length + m) old 5 ≤ maxLen := grownCap_le_maxLen w (bs.length + m) old 5 (by unfold maxLen; omega)
    have hl : (bs ++ List.replicate m 0).length = bs.length + m := by simp
    refine ⟨?_, ((Below.refl _ _).drew.alloc (by exact hB) _)⟩
    rw [Own, hl]
    refine ⟨by rw [byteCells_length, hl, Nat.mul_one], .inr ⟨w.heap.size, _, _, rfl, hB, heap_alloc_new w.drew _, hge, hcm, ?_, ?_⟩⟩
    · simp [byteCells_length, size_zeroCells, Value.cells]
      omega
    · simp only [Array.toList_append, zeroCells_bytes, List.append_assoc]
      rw [Nat.mul_one, ← List.append_assoc, byteCells_append]
      have hL : (Lib.byteCells bs ++ Lib.byteCells (List.replicate m 0)).length = bs.length + m := by rw [List.length_append, byteCells_length, byteCells_length, List.length_replicate]
      rw [← hL]
      exact List.take_left
  rcases hown.2 with ⟨rfl, hn⟩ | ⟨g, cap, cur, rfl, hbg, hg, hnc, hcm, hcs, htake⟩
  · obtain rfl : bs = [] := List.eq_nil_of_length_eq_zero hn
    by_cases hm : m = 0
    · subst hm
      refine ⟨.slice none 0 0, w, ?_, World.ownsRow_nil w B 5 1, Below.refl _ _, World.grownBy.refl _ _, .inl rfl⟩
      have hw : IntKind.i64.wrap (0 : Int) = 0 := by rw [IntKind.wrap_i64]; omega
      simp [Builtin.append_, run_underlying Tryd.underlying24, run_underlying Tryd.underlying3, sizeOf, typeInfo, h0, asInt, asIntOf, hw]
    · have hr := Lib.run_append_nil_zeros (P := Tryd.prog) w 24 3 ty 5 i0 (.int .u8 0) .i64 .i64 Tryd.underlying24 Tryd.underlying3 h0 hz0 m (by omega) (by omega) (by omega) (by rw [hz2]; simp at hlen; omega)
      have hgr := grown 0 (by simp; omega)
      simp only [List.length_nil, Nat.zero_add, List.nil_append, Lib.byteCells, List.map_nil, Array.empty_append] at hgr ⊢
      exact ⟨_, _, hr, hgr.1, hgr.2, far _ _, .inr rfl⟩
  · by_cases hroom : bs.length + m ≤ cap
    · have hr := run_append_room_zeros w ty g bs.length cap cur hg m (by omega) hroom (by omega)
      refine ⟨_, _, hr, ?_, ⟨rfl, rfl, rfl, by simp, fun k hk => setRow_other w g k _ (fun e => by omega)⟩, ⟨rfl, rfl, rfl, by simp, fun k hk hne => setRow_other w g k _ (fun e => hne (by simp [Value.ownBlock, e]))⟩, .inl rfl⟩
      have hl : (bs ++ List.replicate m 0).length = bs.length + m := by simp
      rw [Own, hl]
      refine ⟨by rw [byteCells_length, hl, Nat.mul_one], .inr ⟨g, cap, _, rfl, hbg, setRow_heap w g cur _ 5 _ hg, hroom, hcm, ?_, ?_⟩⟩
      · simp [byteCells_length]
        omega
      · rw [Nat.mul_one] at htake
        rw [htake, byteCells_append, Nat.mul_one]
        have hL : (Lib.byteCells bs ++ Lib.byteCells (List.replicate m 0)).length = bs.length + m := by rw [List.length_append, byteCells_length, byteCells_length, List.length_replicate]
        rw [← hL]
        exact List.take_left
    · have hrow := hown.row
      have holds : ∀ j u, (Lib.byteCells bs)[j]? = some u → w.cell? ((⟨g, 0, none⟩ : Addr).add j) = some u := hrow.cells (g := g) rfl
      have hf := run_firstCells_some (P := Tryd.prog) w.drew i0.size bs.length ⟨g, 0, none⟩ bs.length cap (Lib.byteCells bs) (by rw [byteCells_length, hz1, Nat.mul_one]) (by simpa using holds)
      have hfit := growslice_fits (need := bs.length + m) (old := cap) (bytes := 1) (by omega) (by omega)
      have hm0 : 0 < m := by omega
      have hr := Lib.run_append_grow_zeros (P := Tryd.prog) w 24 3 ty 5 i0 (.int .u8 0) .i64 .i64 Tryd.underlying24 Tryd.underlying3 h0 hz0 (some ⟨g, 0, none⟩) bs.length cap (Lib.byteCells bs) hf m hm0 (by omega) (by omega) (by omega) (by rw [hz2]; omega) (by rw [hz2]; exact hfit)
      have hgr := grown cap (by omega)
      exact ⟨_, _, hr, hgr.1, hgr.2, far _ _, .inr rfl⟩

theorem wpList_app_zeros (w : World) {ops : Array Oper} {rest : List Oper} {o : Oper} {a : Act} {Q : Exit → Act → World → Prop} (hg : o.guard = none) (s x : Operand)
    (ho : o.op = .call { callee := .builtin .append, args := #[s, x], argTypes := #[24, 3] })
    (B : Nat) (v : Value) (bs : List UInt8) (hs : a.eval s = v) (hown : Own w B v bs) (m : Nat) (hx : a.eval x = .int .i64 (m : Int)) (hlen : bs.length + m ≤ 140737488355328) (hB : B ≤ w.heap.size)
    (h : ∀ v' w', Own w' B v' (bs ++ List.replicate m 0) → Below B w w' → wpList Tryd.prog ops Q rest (a.put o.dst v') w') : wpList Tryd.prog ops Q (o :: rest) a w := by
  obtain ⟨v', w', hr, h1, h2, _⟩ := append_zeros_own w o.type B v bs hown m hlen hB
  exact Lib.wpList_append_run w hg s x _ _ ho _ _ hs hx v' w' hr (h v' w' h1 h2)

/-- As wpList_app_zeros; what is appended to is all that has turned, and where the new row lies. -/
theorem wpList_app_zeros3 (w : World) {ops : Array Oper} {rest : List Oper} {o : Oper} {a : Act} {Q : Exit → Act → World → Prop} (hg : o.guard = none) (s x : Operand)
    (ho : o.op = .call { callee := .builtin .append, args := #[s, x], argTypes := #[24, 3] })
    (B : Nat) (v : Value) (bs : List UInt8) (hs : a.eval s = v) (hown : Own w B v bs) (m : Nat) (hx : a.eval x = .int .i64 (m : Int)) (hlen : bs.length + m ≤ 140737488355328) (hB : B ≤ w.heap.size)
    (h : ∀ v' w', Own w' B v' (bs ++ List.replicate m 0) → w.grownBy w' v.ownBlock → (v'.ownBlock = v.ownBlock ∨ v'.ownBlock = some w.heap.size) → wpList Tryd.prog ops Q rest (a.put o.dst v') w') : wpList Tryd.prog ops Q (o :: rest) a w := by
  obtain ⟨v', w', hr, h1, _, h3, h4⟩ := append_zeros_own w o.type B v bs hown m hlen hB
  exact Lib.wpList_append_run w hg s x _ _ ho _ _ hs hx v' w' hr (h v' w' h1 h3 h4)

end Go.Proofs.YtdojalhaklkegaaDoor

set_option maxRecDepth 100000
namespace Go.Proofs.YtdojalhaklkegaaDoor
open Go.RowKit
set_option linter.unusedVariables false

/-- The block's cells behind k numbers. -/
def outC (s r : List UInt32) (k : Nat) : List Value := Lib.byteCells (M.outs s r k) ++ List.replicate (64 - 4 * k) (.int .u8 0)

theorem outC_length (s r : List UInt32) (k : Nat) (h : k ≤ 16) : (outC s r k).length = 64 := by
  rw [outC, List.length_append, byteCells_length, M.outs_length, List.length_replicate]; omega

theorem outC_next (s r : List UInt32) (k : Nat) (h : k < 16) : splice (outC s r k) (4 * k) (Lib.byteCells (M.le (r.getD k 0 + s.getD k 0).toNat 4)) = outC s r (k + 1) := by
  have hl : (Lib.byteCells (M.le (r.getD k 0 + s.getD k 0).toNat 4)).length = 4 := by rw [byteCells_length, M.le_length]
  have hl2 : (Lib.byteCells (M.outs s r k)).length = 4 * k := by rw [byteCells_length, M.outs_length]
  rw [splice, hl, outC, outC, M.outs, byteCells_append]
  rw [List.take_append_of_le_length (by omega), List.take_of_length_le (by omega), List.drop_append, List.drop_eq_nil_of_le (by omega), List.nil_append, hl2, List.drop_replicate]
  simp only [List.append_assoc]
  congr 3
  omega

set_option maxHeartbeats 2000000 in
theorem blockOf_any (s : List UInt32) (w : World) (hL : LaidP w) (hs : s.length = 16) :
    Calls Tryd.prog 54 #[.agg (wc s).toArray] w fun e w' => e = .returned (.agg (Lib.byteCells (M.blk s)).toArray) ∧ Below w.heap.size w w' := by
  have HL := Lib.hid hL
  have HS := Lib.hid hs
  clear hL hs
  go_enter Tryd.func54, Tryd.ntmps54
  have HR0 : Hid (∀ o, ((w.alloc (.cells (wc s).toArray 96)).alloc o).rangeAt w.heap.size 0 (wc s)) := fun o => ((Blk.newAt w _ (wc s).toArray w.heap.size (wc s) rfl (by simp)).alloc _).range 0 (wc s) [] (by simp)
  go_wp2_with (first
    | (refine wpList_load_mid rfl 96 (.tmp 1) rfl w.heap.size 0 rfl (wc s) _ (HR0.out _) Tryd.underlying96 rfl (by rw [wc_length, HS.out]; kernel_rfl) ?_)
    | (refine wpList_store_blk rfl 96 (.tmp 3) (.tmp 9) rfl (w.heap.size + 2) (wc s).toArray rfl rfl 96 (List.replicate 16 (.int .u32 0)) (Blk.newAt _ _ _ _ _ (by simp) rfl) (by rw [List.size_toArray, wc_length, HS.out]; kernel_rfl) (by rw [List.size_toArray, wc_length, HS.out, List.length_replicate]) (wc_oneCell s) ?_; intro w1 hb1 ho1))
  have B3 : Hid (Blk w1 (w.heap.size + 1 + 1) 96 (wc (M.ten s 0))) := hb1.eq_ (by simp [M.ten])
  have B0 : Hid (Blk w1 w.heap.size 96 (wc s)) := (((Blk.newAt w _ (wc s).toArray w.heap.size (wc s) rfl (by simp)).alloc _).alloc _).grown ho1 (by intro e; injection e with e; omega)
  have B1 : Hid (Blk w1 (w.heap.size + 1) 101 (List.replicate 64 (.int .u8 0))) := ((Blk.newAt _ _ _ _ _ (by simp) rfl).alloc _).grown ho1 (by intro e; injection e with e; omega)
  have k1 : Below w.heap.size w w1 := ((((Below.refl _ _).alloc (Nat.le_refl _) _).alloc (by simp) _).alloc (by simp; omega) _).trans (ho1.below (by simp; omega) (by omega))
  clear hb1 ho1 HR0
  go_loopw [10] (fun i wr => ∃ n : Nat, n ≤ 10 ∧ i = .int .i64 n ∧ Hid (Blk wr (w.heap.size + 1 + 1) 96 (wc (M.ten s n))) ∧ Hid (Blk wr w.heap.size 96 (wc s)) ∧ Hid (Blk wr (w.heap.size + 1) 101 (List.replicate 64 (.int .u8 0))) ∧ Below w.heap.size w wr)
    (fun i _ => 10 - (intOf i).toNat)
  case atStart => exact ⟨0, by omega, rfl, B3, B0, B1, k1⟩
  case round =>
    clear B3 B0 B1 k1
    rename_i wr
    obtain ⟨n, hn, rfl, b3, b0, b1, kk⟩ := hrel
    by_cases hlt : n < 10
    · have HR : Hid (wr.rangeAt 0 0 tbl) := (HL.out.below kk HL.out.size).range
      obtain ⟨r, hr⟩ : ∃ r, Hid (r = M.ten s n) := ⟨_, rfl⟩
      have HRL : Hid (r.length = 16) := by rw [Hid, hr.out, M.ten_length, HS.out]
      rw [← hr.out] at b3
      obtain ⟨wA, rfl⟩ : ∃ x, x = wr := ⟨_, rfl⟩
      have P0 : Hid (Blk wA (w.heap.size + 1 + 1) 96 (wc (M.part r 0))) := b3.out
      go_wp2_with (refine wpList_load_mid rfl 119 (.global 0) rfl 0 0 rfl tbl _ HR.out Tryd.underlying119 rfl (by kernel_rfl) ?_)
      go_loopw [13] (fun i wz => ∃ k : Nat, k ≤ 8 ∧ i = .int .i64 k ∧ Hid (Blk wz (w.heap.size + 1 + 1) 96 (wc (M.part r k))) ∧ Hid (Blk wz w.heap.size 96 (wc s)) ∧ Hid (Blk wz (w.heap.size + 1) 101 (List.replicate 64 (.int .u8 0))) ∧ Below w.heap.size w wz)
        (fun i _ => 8 - (intOf i).toNat)
      case atStart => exact ⟨0, by omega, rfl, P0, b0, b1, kk⟩
      case round =>
        clear P0 b3 b0 b1 kk
        obtain ⟨wz, rfl⟩ : ∃ x, x = wr := ⟨_, rfl⟩
        obtain ⟨k, hk, rfl, b3, b0, b1, kk⟩ := hrel
        by_cases hlt2 : k < 8
        · have hrun := run_index_places wz k hlt2
          have hsz : w.heap.size + 1 + 1 < wz.heap.size := b3.out.lt
          have HLT : Hid (k < 8) := hlt2
          go_wp2_with (first
            | (refine wpList_store_blk rfl 118 (.tmp 5) (.tmp 15) rfl wz.heap.size (pc k).toArray rfl rfl 118 (List.replicate 4 (.int .i64 0)) (Blk.newAt _ _ _ _ _ rfl rfl) (by kernel_rfl) rfl (pc_oneCell k) ?_; intro w2 hb2 ho2)
            | (refine wpList_load_mid rfl 118 (.tmp 5) rfl wz.heap.size 0 rfl (pc k) _ (hb2.range 0 (pc k) [] (by simp)) Tryd.underlying118 rfl (by kernel_rfl) ?_))
          obtain ⟨d1, d2, d3, d4, d5, d6⟩ := pl_ne k
          have HP2 : Hid (Blk w2 (w.heap.size + 1 + 1) 96 (wc (M.part r k))) := (b3.out.alloc _).grown ho2 (by intro e; injection e with e; omega)
          have HB0 : Hid (Blk w2 w.heap.size 96 (wc s)) := (b0.out.alloc _).grown ho2 (by intro e; injection e with e; omega)
          have HB1 : Hid (Blk w2 (w.heap.size + 1) 101 (List.replicate 64 (.int .u8 0))) := (b1.out.alloc _).grown ho2 (by intro e; injection e with e; omega)
          have k2 : Below w.heap.size w w2 := (kk.alloc (by omega) _).trans (ho2.below (by simp; omega) (by omega))
          clear ho2 hb2
          refine (quarter_any (w.heap.size + 1 + 1) _ (M.part r k) _ _ _ _ w2 (by rw [M.part_length, HRL.out]) (M.pl_lt k 0 (by decide)) (M.pl_lt k 1 (by decide)) (M.pl_lt k 2 (by decide)) (M.pl_lt k 3 (by decide)) ⟨d1, d2, d3, d4, d5, d6⟩ HP2.out).mono ?_
          rintro e w3 ⟨rfl, hb3, ho3⟩
          have P3 : Hid (Blk w3 (w.heap.size + 1 + 1) 96 (wc (M.part r (k + 1)))) := hb3
          have Q0 : Hid (Blk w3 w.heap.size 96 (wc s)) := HB0.out.grown ho3 (by intro e; injection e with e; omega)
          have Q1 : Hid (Blk w3 (w.heap.size + 1) 101 (List.replicate 64 (.int .u8 0))) := HB1.out.grown ho3 (by intro e; injection e with e; omega)
          have k3 : Below w.heap.size w w3 := k2.trans (ho3.below k2.size (by omega))
          clear hb3 ho3 k2 d1 d2 d3 d4 d5 d6
          go_wp2
          go_roundw
          case rel => exact ⟨k + 1, by omega, by go_num, P3, Q0, Q1, k3⟩
          case measure => simp [intOf]; omega
        · obtain rfl : k = 8 := by omega
          have P3 : Hid (Blk wz (w.heap.size + 1 + 1) 96 (wc (M.ten s (n + 1)))) := by
            rw [Hid, M.ten, ← hr.out]
            exact b3.out
          clear b3
          go_wp2
          go_roundw
          case rel => exact ⟨n + 1, by omega, by go_num, P3, b0, b1, kk⟩
          case measure => simp [intOf]; omega
    · obtain rfl : n = 10 := by omega
      obtain ⟨r, hr⟩ : ∃ r, Hid (r = M.ten s 10) := ⟨_, rfl⟩
      have HRL : Hid (r.length = 16) := by rw [Hid, hr.out, M.ten_length, HS.out]
      rw [← hr.out] at b3
      obtain ⟨wA, rfl⟩ : ∃ x, x = wr := ⟨_, rfl⟩
      have HR : Hid (∀ o, (wA.alloc o).rangeAt (w.heap.size + 1 + 1) 0 (wc r)) := fun o => (b3.out.alloc o).range 0 (wc r) [] (by simp)
      have hsz : w.heap.size + 1 + 1 < wA.heap.size := b3.out.lt
      obtain ⟨gb, hgb⟩ : ∃ gb, gb = wA.heap.size := ⟨_, rfl⟩
      go_wp2_with (refine wpList_load_mid rfl 96 (.tmp 3) rfl (w.heap.size + 1 + 1) 0 rfl (wc r) _ (HR.out _) Tryd.underlying96 rfl (by rw [wc_length, HRL.out]; kernel_rfl) ?_)
      rw [← hgb] at hsz ⊢
      have N0 : Hid (Blk (wA.alloc (.cells (Array.replicate 64 (.int .u8 0)) 101)) gb 101 (outC s r 0)) := by rw [Hid, hgb]; exact Blk.newAt _ _ _ _ _ rfl rfl
      have k2 : Below w.heap.size w (wA.alloc (.cells (Array.replicate 64 (.int .u8 0)) 101)) := kk.alloc kk.size _
      go_loopw [21] (fun i wz => ∃ k : Nat, k ≤ 16 ∧ i = .int .i64 k ∧ Hid (Blk wz gb 101 (outC s r k)) ∧ Hid (Blk wz w.heap.size 96 (wc s)) ∧ Hid (Blk wz (w.heap.size + 1) 101 (List.replicate 64 (.int .u8 0))) ∧ Below w.heap.size w wz)
        (fun i _ => 16 - (intOf i).toNat)
      case atStart => exact ⟨0, by omega, rfl, N0, b0.out.alloc _, b1.out.alloc _, k2⟩
      case round =>
        clear N0 b3 b0 b1 kk k2 HR hgb
        obtain ⟨wz, rfl⟩ : ∃ x, x = wr := ⟨_, rfl⟩
        obtain ⟨k, hk, rfl, bg, b0, b1, kk⟩ := hrel
        by_cases hlt2 : k < 16
        · obtain ⟨x, hx⟩ : ∃ x, Hid (x = r.getD k 0) := ⟨_, rfl⟩
          obtain ⟨y, hy⟩ : ∃ y, Hid (y = s.getD k 0) := ⟨_, rfl⟩
          have hix : (wc r)[k]? = some (.int .u32 x.toNat) := by rw [wc_get _ _ (by rw [HRL.out]; exact hlt2), hx.out]
          have hrun := run_index_w16 wz r k hlt2 x hix
          have cy : wz.cell? ⟨w.heap.size, k, none⟩ = some (.int .u32 y.toNat) := by rw [b0.out.cell, wc_get _ _ (by rw [HS.out]; exact hlt2), hy.out]
          have hsl := fun w' => slice_blk gb (4 * k) (4 * (k : Int)) (by omega) (by omega) w'
          have HLT : Hid (k < 16) := hlt2
          clear hix
          go_wp2
          have v4 : IntKind.i64.wrap (4 * (k : Int)) = 4 * (k : Int) := IntWalk.i64_in _ (by omega)
          obtain ⟨u, hu⟩ : ∃ u, Hid (u = x + y) := ⟨_, rfl⟩
          have s1 : IntKind.u32.wrap ((x.toNat : Int) + (y.toNat : Int)) = (u.toNat : Int) := by rw [hu.out]; exact w_wrap x y
          have s2 : ((x.toNat : Int) + (y.toNat : Int)) % 4294967296 = (u.toNat : Int) := by rw [hu.out]; exact w_add x y
          have hub := w_lt u
          have HN : Hid (splice (outC s r k) (4 * k) (Lib.byteCells (M.le u.toNat 4)) = outC s r (k + 1)) := by
            rw [Hid, hu.out, hx.out, hy.out]
            exact outC_next s r k hlt2
          have HBG : Hid (Blk wz.drew gb 101 (outC s r k)) := bg.out.drew
          have HB0 : Hid (Blk wz.drew w.heap.size 96 (wc s)) := b0.out.drew
          have HB1 : Hid (Blk wz.drew (w.heap.size + 1) 101 (List.replicate 64 (.int .u8 0))) := b1.out.drew
          have kd : Below w.heap.size w wz.drew := drewN_below kk 1
          have hgz : gb < wz.drew.heap.size := HBG.out.lt
          have HK4 : Hid (4 * k + 4 ≤ 64) := by rw [Hid]; omega
          have HCL : Hid ((outC s r k).length = 64) := outC_length s r k (by omega)
          have CY : Hid (∀ w', Below wz.drew.heap.size wz.drew w' → w'.cell? ⟨w.heap.size, k, none⟩ = some (.int .u32 y.toNat)) := fun w' kw => by
            rw [(HB0.out.below kw HB0.out.lt).cell, wc_get _ _ (by rw [HS.out]; exact HLT.out), hy.out]
          clear bg b0 b1 kk
          go_region_held3 (fun w' => w'.cell? ⟨w.heap.size, k, none⟩ = some (.int .u32 y.toNat))
            (first | exact CY.out _ (Below.refl _ _) | exact CY.out _ k3 | exact ho4.cell (CY.out _ k3) (fun e => by simp at e; omega))
            (first
              | (go_at_call 76; refine (put32_any u.toNat _ (by omega)).mono ?_; rintro e w3 ⟨r3, rfl, o3, k3⟩; obtain ⟨g3, c3, rfl, hg3⟩ := o3.shape (by rw [M.le_length]; omega))
              | (refine step_copy_blk rfl (.tmp 27) (.tmp 33) 24 24 rfl 5 Tryd.underlying24 (by kernel_rfl) gb (4 * k) (64 - 4 * k) (64 - 4 * k) ⟨g3, 0, none⟩ _ c3 rfl rfl (outC s r k) 101 (HBG.out.below k3 hgz) (Lib.byteCells (M.le u.toNat 4)) (by rw [byteCells_length, M.le_length]; exact (Nat.min_eq_left (by have := HK4.out; omega)).symm) o3.cells (by rw [byteCells_length, M.le_length, HCL.out]; exact HK4.out) (byteCells_oneCell _) ?_; intro w4 hb4 ho4))
          rw [HN.out] at hb4
          have N4 : Hid (Blk w4 gb 101 (outC s r (k + 1))) := hb4
          have M0 : Hid (Blk w4 w.heap.size 96 (wc s)) := (HB0.out.below k3 HB0.out.lt).grown ho4 (by intro e; injection e with e; omega)
          have M1 : Hid (Blk w4 (w.heap.size + 1) 101 (List.replicate 64 (.int .u8 0))) := (HB1.out.below k3 HB1.out.lt).grown ho4 (by intro e; injection e with e; omega)
          have k34 : Below w.heap.size w w3 := kd.trans (k3.mono kd.size)
          have k4 : Below w.heap.size w w4 := k34.trans (ho4.below k34.size (by omega))
          clear hb4 ho4 o3 k3 k34 kd hg3
          go_wp2
          go_roundw
          case rel => exact ⟨k + 1, by omega, by go_num, N4, M0, M1, k4⟩
          case measure => simp [intOf]; omega
        · obtain rfl : k = 16 := by omega
          obtain ⟨C, hC⟩ : ∃ C, Hid (C = M.blk s) := ⟨_, rfl⟩
          have HCL : Hid (C.length = 64) := by rw [Hid, hC.out]; exact M.blk_length s
          have e16 : outC s r 16 = Lib.byteCells C := by rw [outC, hC.out, M.blk, ← hr.out]; simp
          have BG : Blk wz gb 101 (Lib.byteCells C) := bg.out.eq_ e16
          have RG : Hid (wz.rangeAt gb 0 (Lib.byteCells C)) := BG.range 0 _ [] (by simp)
          clear e16 BG bg hlt2
          go_wp2_with (first
            | (refine wpList_load_mid rfl 101 (.tmp 6) rfl gb 0 rfl (Lib.byteCells C) _ RG.out Tryd.underlying101 rfl (by rw [byteCells_length, HCL.out]; kernel_rfl) ?_)
            | (refine wpList_store_blk rfl 101 (.tmp 2) (.tmp 36) rfl (w.heap.size + 1) (Lib.byteCells C).toArray rfl rfl 101 (List.replicate 64 (.int .u8 0)) b1.out (by rw [List.size_toArray, byteCells_length, HCL.out]; kernel_rfl) (by rw [List.size_toArray, byteCells_length, HCL.out, List.length_replicate]) (bytes_oneCell C) ?_; intro w3 hb3 ho3))
          have k3 : Below w.heap.size w w3 := kk.trans (ho3.below kk.size (by omega))
          exact bodyPost_ret (results_cell_row rfl _ _ (w.heap.size + 1) _ _ _ _ rfl hb3 Tryd.underlying101 rfl (by rw [Array.toArray_toList, List.size_toArray, byteCells_length, HCL.out]; kernel_rfl)) rfl ⟨by rw [Array.toArray_toList, hC.out], k3⟩

end Go.Proofs.YtdojalhaklkegaaDoor
