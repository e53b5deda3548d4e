/-
  ROWS OF THE CALL'S OWN SIDE BY SIDE: 'append' onto one of them, what has turned, where the new row lies. Conditions: the sum of the lengths is at most 2^47.
  'append(x, make([]byte, n)...)' ONTO A ROW OF THE CALL'S OWN, AS A LAW FOR THE WALK. Conditions: the sum of the lengths is at most 2^47.
-/
import Derived.Test.YtdojalhaklkegaaDoorAppend
import Derived.Maps.AppendAt
import Derived.Lib.AppendZerosOnto

namespace Go.Proofs.YtdojalhaklkegaaDoor
open Go.RowKit
set_option linter.unusedVariables false

theorem IsB.shape {w : World} {v : Value} {bs : List UInt8} (h : IsB w v bs) : ∃ ao cap, v = .slice ao bs.length cap := by
  obtain ⟨ao, cap, e, _⟩ := h
  exact ⟨ao, cap, e⟩

theorem IsB.take {w : World} {ao : Option Addr} {n cap : Nat} {bs : List UInt8} (h : IsB w (.slice ao n cap) bs) (m : Nat) (hm : m ≤ n) : IsB w (.slice ao m cap) (bs.take m) := by
  obtain ⟨ao', cap', e, h1, h2, h3⟩ := h
  injection e with e1 e2 e3
  subst e1 e2 e3
  have hl : (bs.take m).length = m := by rw [List.length_take]; omega
  refine ⟨ao, cap, by rw [hl], by omega, h2, ?_⟩
  rcases h3 with h | ⟨b, off, e, h⟩
  · exact .inl (by rw [h]; simp)
  · refine .inr ⟨b, off, e, fun i hi => ?_⟩
    rw [hl] at hi
    rw [h i (by omega)]
    simp [List.getD_eq_getElem?_getD, hi]

theorem Own.shape' {w : World} {B : Nat} {v : Value} {bs : List UInt8} (h : Own w B v bs) : ∃ ao cap, v = .slice ao bs.length cap := h.isB.shape

/-- As wpList_app; what is appended to is all that has turned. -/
theorem wpList_app2 (w : World) {ops : Array Oper} {rest : List Oper} {o : Oper} {a : Act} {Q : Exit → Act → World → Prop} (hg : o.guard = none) (s x : Operand)
    (ho : o.op = .call { callee := .builtin .append, args := #[s, x], argTypes := #[24, 24] })
    (B : Nat) (v : Value) (bs : List UInt8) (hs : a.eval s = v) (hown : Own w B v bs) (sv : Value) (ys : List UInt8) (hx : a.eval x = sv) (hi : IsB w sv ys) (hnil : ∀ n c, sv = .slice none n c → c = 0)
    (hlen : bs.length + ys.length ≤ 140737488355328) (hB : B ≤ w.heap.size)
    (h : ∀ v' w', Own w' B v' (bs ++ ys) → w.grownBy w' v.ownBlock → wpList Tryd.prog ops Q rest (a.put o.dst v') w') : wpList Tryd.prog ops Q (o :: rest) a w := by
  obtain ⟨i0, h0, hz0, hz1, hz2⟩ := info_parts Tryd.info5
  obtain ⟨ao, cap, rfl⟩ : ∃ ao cap, sv = .slice ao ys.length cap := by
    obtain ⟨ao, cap, e, _⟩ := hi
    exact ⟨ao, cap, e⟩
  obtain ⟨_, hn, hc⟩ := hi.cells
  cases ao with
  | none =>
    obtain rfl := hn rfl
    obtain rfl := hnil _ _ rfl
    exact wpList_append_own_none hg s x _ ho B 5 i0 1 Tryd.underlying24 h0 v bs.length _ hs hown.row hx (h _ _ (by rw [List.append_nil]; exact hown) (World.grownBy.refl _ _))
  | some ad =>
    refine wpList_append_own w hg s x _ ho B 5 i0 (.int .u8 0) 1 1 Tryd.underlying24 h0 hz0 hz1 hz2 rfl (by decide) v bs.length _ hs hown.row ad ys.length cap (Lib.byteCells ys) hx (by rw [byteCells_length, Nat.mul_one]) (hc ad rfl) (byteCells_oneCell _) (by unfold maxLen; omega) (by omega) hB ?_
    intro v' w' hown' hgrow hz
    refine h v' w' ?_ hgrow
    rw [Own, List.length_append, byteCells_append]
    exact hown'

/-- The block of a row of the call's own is there. -/
theorem Own.block_lt {w : World} {B : Nat} {v : Value} {bs : List UInt8} (h : Own w B v bs) : ∀ k, v.ownBlock = some k → B ≤ k ∧ k < w.heap.size := fun k hk => by
  have := h.row.lt k hk
  exact this

theorem Own.far {w w' : World} {B g n cap : Nat} {bs : List UInt8} {row : Option Nat} (h : Own w B (.slice (some ⟨g, 0, none⟩) n cap) bs) (hgrow : w.grownBy w' row) (hne : row ≠ some g) : Own w' B (.slice (some ⟨g, 0, none⟩) n cap) bs :=
  h.row.kept hgrow (.inr fun e => hne e.symm)

/-- As wpList_app2; and where the new row lies. -/
theorem wpList_app3 (w : World) {ops : Array Oper} {rest : List Oper} {o : Oper} {a : Act} {Q : Exit → Act → World → Prop} (hg : o.guard = none) (s x : Operand)
    (ho : o.op = .call { callee := .builtin .append, args := #[s, x], argTypes := #[24, 24] })
    (B : Nat) (v : Value) (bs : List UInt8) (hs : a.eval s = v) (hown : Own w B v bs) (sv : Value) (ys : List UInt8) (hx : a.eval x = sv) (hi : IsB w sv ys) (hnil : ∀ n c, sv = .slice none n c → c = 0)
    (hlen : bs.length + ys.length ≤ 140737488355328) (hB : B ≤ w.heap.size)
    (h : ∀ v' w', Own w' B v' (bs ++ ys) → w.grownBy w' v.ownBlock → (v'.ownBlock = v.ownBlock ∨ v'.ownBlock = some w.heap.size) → wpList Tryd.prog ops Q rest (a.put o.dst v') w') : wpList Tryd.prog ops Q (o :: rest) a w := by
  obtain ⟨i0, h0, hz0, hz1, hz2⟩ := info_parts Tryd.info5
  obtain ⟨ao, cap, rfl⟩ : ∃ ao cap, sv = .slice ao ys.length cap := by
    obtain ⟨ao, cap, e, _⟩ := hi
    exact ⟨ao, cap, e⟩
  obtain ⟨_, hn, hc⟩ := hi.cells
  cases ao with
  | none =>
    obtain rfl := hn rfl
    obtain rfl := hnil _ _ rfl
    exact wpList_append_own_none hg s x _ ho B 5 i0 1 Tryd.underlying24 h0 v bs.length _ hs hown.row hx (h _ _ (by rw [List.append_nil]; exact hown) (World.grownBy.refl _ _) (.inl rfl))
  | some ad =>
    refine wpList_append_own_at w hg s x _ ho B 5 i0 (.int .u8 0) 1 1 Tryd.underlying24 h0 hz0 hz1 hz2 rfl (by decide) v bs.length _ hs hown.row ad ys.length cap (Lib.byteCells ys) hx (by rw [byteCells_length, Nat.mul_one]) (hc ad rfl) (byteCells_oneCell _) (by unfold maxLen; omega) (by omega) hB ?_
    intro v' w' hown' hgrow hz hat
    refine h v' w' ?_ hgrow hat
    rw [Own, List.length_append, byteCells_append]
    exact hown'

theorem Own.kept {w w' : World} {B : Nat} {v : Value} {bs : List UInt8} {row : Option Nat} (h : Own w B v bs) (g : w.grownBy w' row) (hne : ∀ k, v.ownBlock = some k → row ≠ some k) : Own w' B v bs := by
  refine h.row.kept g ?_
  cases hv : v.ownBlock with
  | none => exact .inl rfl
  | some k => exact .inr fun e => hne k hv e.symm

/-- Two rows of the call's own don't lie in one block. -/
def Apart (x y : Value) : Prop := ∀ k, x.ownBlock = some k → y.ownBlock ≠ some k

theorem Apart.symm {x y : Value} (h : Apart x y) : Apart y x := fun k e1 e2 => h k e2 e1

theorem Apart.next {w : World} {B : Nat} {x x' y : Value} {bs : List UInt8} (h : Apart x y) (hy : Own w B y bs) (n : Nat) (hn : w.heap.size ≤ n) (hat : x'.ownBlock = x.ownBlock ∨ x'.ownBlock = some n) : Apart x' y := by
  intro k e1 e2
  rcases hat with hat | hat
  · exact h k (hat ▸ e1) e2
  · rw [hat] at e1
    injection e1 with e1
    have := (hy.block_lt k e2).2
    omega

/-- 'make([]byte, n)'. -/
theorem make_run (n : Nat) (hm : n ≤ 140737488355328) : ∃ C : Array Value, ∀ w : World, (Instr.makeSlice 24 (.int .i64 (n : Int)) (.int .i64 (n : Int))).run Tryd.prog w = .ok (.slice (some ⟨w.heap.size, 0, none⟩) n n) (w.alloc (.cells C 5)) ∧
    Own (w.alloc (.cells C 5)) w.heap.size (.slice (some ⟨w.heap.size, 0, none⟩) n n) (List.replicate n 0) := by
  obtain ⟨i0, h0, hz0, hz1, hz2⟩ := info_parts Tryd.info5
  have hb : (i0.bytes : Int) * (n : Int) ≤ 281474976710656 := by rw [hz2]; omega
  have e : (madeCells (Value.int IntKind.u8 0).cells (n * i0.size)).toList = List.replicate n (.int .u8 0) := by
    rw [hz1, Nat.mul_one]
    exact toList_madeCells_one _ _
  have hsz : (madeCells (Value.int IntKind.u8 0).cells (n * i0.size)).size = n := by rw [← Array.length_toList, e, List.length_replicate]
  refine ⟨madeCells (Value.int IntKind.u8 0).cells (n * i0.size), fun w => ⟨?_, ?_⟩⟩
  · have hrun := run_make (P := Tryd.prog) w 24 5 i0 (.int .u8 0) Tryd.underlying24 h0 hz0 .i64 .i64 n n (by omega) (by omega) hb (by omega)
    simp only [Int.toNat_natCast] at hrun
    exact hrun
  · refine ⟨by rw [byteCells_length, Nat.mul_one], .inr ⟨w.heap.size, n, _, by rw [List.length_replicate], Nat.le_refl _, heap_alloc_new w _, by rw [List.length_replicate]; exact Nat.le_refl _, by unfold maxLen; omega, by rw [hsz, Nat.mul_one], ?_⟩⟩
    rw [e, List.length_replicate, Nat.mul_one, List.take_replicate, Nat.min_eq_left (Nat.le_refl _)]
    simp [Lib.byteCells]

end Go.Proofs.YtdojalhaklkegaaDoor

namespace Go.Proofs.YtdojalhaklkegaaDoor
open Go.RowKit
set_option linter.unusedVariables false

theorem zeroCells_bytes (n : Nat) : (Builtin.zeroCells (Value.int IntKind.u8 0).cells n).toList = Lib.byteCells (List.replicate n 0) := by
  have h : (Builtin.zeroCells (Value.int IntKind.u8 0).cells n).toList = List.replicate n (.int .u8 0) := by
    rw [show Builtin.zeroCells (Value.int IntKind.u8 0).cells n = Builtin.zeroCells #[.int .u8 0] n from rfl]
    apply List.eq_replicate_iff.2
    refine ⟨by simp [Builtin.zeroCells], fun b hb => ?_⟩
    simp [Builtin.zeroCells, Nat.mod_one] at hb
    obtain ⟨_, _, rfl⟩ := hb
    rfl
  rw [h]
  simp [Lib.byteCells]

theorem run_append_room_zeros (w : World) (ty : TypeId) (g n cap : Nat) (cur : Array Value) (hg : w.heap[g]? = some (.cells cur 5 (0, 0))) (m : Nat) (hm : m ≤ 140737488355328) (hroom : n + m ≤ cap) (hfit : n + m ≤ cur.size) :
    (Builtin.append_ #[24, 3] ty #[.slice (some ⟨g, 0, none⟩) n cap, .int .i64 (m : Int)]).run Tryd.prog w =
      .ok (.slice (some ⟨g, 0, none⟩) (n + m) cap) (w.setRow g (cur.toList.take n ++ Lib.byteCells (List.replicate m 0) ++ cur.toList.drop (n + m)).toArray) := by
  obtain ⟨i0, h0, hz0, hz1, hz2⟩ := info_parts Tryd.info5
  have hst := run_storeCells_at Tryd.prog g n 5 (Lib.byteCells (List.replicate m 0)) 0 cur w hg (by rw [byteCells_length, List.length_replicate, Nat.add_zero]; exact hfit) (byteCells_oneCell _)
  rw [byteCells_length, List.length_replicate] at hst
  simp only [Nat.add_zero] at hst
  have hw : IntKind.i64.wrap (m : Int) = m := by rw [IntKind.wrap_i64]; omega
  have hneg : ¬ ((m : Int) < 0) := by omega
  have h48i : ¬ (281474976710656 < (m : Int) * (i0.bytes : Int)) := by rw [hz2]; omega
  by_cases hm0 : m = 0
  · subst hm0
    have hw0 : IntKind.i64.wrap (0 : Int) = 0 := rfl
    simp [hw0, Builtin.append_, run_underlying Tryd.underlying24, run_underlying Tryd.underlying3, sizeOf, typeInfo, zeroValue, h0, hz0, hz1, asInt, asIntOf, Addr.add_lit] at hst ⊢
    have hst2 : (storeCells ⟨g, n, none⟩ ([] : List Value)).run Tryd.prog w = .ok () (w.setRow g cur) := by simpa [Lib.byteCells] using hst
    have hroom0 : n ≤ cap := by omega
    simp [hroom0, hst2, Lib.byteCells]
  · have hns : ¬ (m * i0.size = 0) := by rw [hz1]; omega
    have hns' : ¬ m = 0 := hm0
    have hzl := zeroCells_bytes m
    simp [Builtin.append_, run_underlying Tryd.underlying24, run_underlying Tryd.underlying3, sizeOf, typeInfo, zeroValue, h0, hz0, hz1, asInt, asIntOf, hw, hneg, h48i, hroom, hns', Addr.add_lit, hzl, hst]

theorem append_zeros_own (w : World) (ty : TypeId) (B : Nat) (v : Value) (bs : List UInt8) (hown : Own w B v bs) (m : Nat) (hlen : bs.length + m ≤ 140737488355328) (hB : B ≤ w.heap.size) :
    ∃ v' w', (Builtin.append_ #[24, 3] ty #[v, .int .i64 (m : Int)]).run Tryd.prog w = .ok v' w' ∧ Own w' B v' (bs ++ List.replicate m 0) ∧ Below B w w' ∧ w.grownBy w' v.ownBlock ∧ (v'.ownBlock = v.ownBlock ∨ v'.ownBlock = some w.heap.size) := by
  obtain ⟨i0, h0, hz0, hz1, hz2⟩ := info_parts Tryd.info5
  have far : ∀ (o : Obj) (row : Option Nat), w.grownBy (w.drew.alloc o) row := fun o row => ⟨rfl, rfl, rfl, by simp, fun k hk _ => ((Below.refl w.heap.size w).drew.alloc (Nat.le_refl _) o).block k hk⟩
  have grown : ∀ (old : Nat), old < bs.length + m →
      Own (w.drew.alloc (.cells ((Lib.byteCells bs).toArray ++ Builtin.zeroCells (Value.int IntKind.u8 0).cells m ++ Builtin.zeroCells (Value.int IntKind.u8 0).cells (grownCap w (bs.length + m) old 5 - (bs.length + m))) 5)) B
        (.slice (some ⟨w.heap.size, 0, none⟩) (bs.length + m) (grownCap w (bs.length + m) old 5)) (bs ++ List.replicate m 0) ∧
      Below B w (w.drew.alloc (.cells ((Lib.byteCells bs).toArray ++ Builtin.zeroCells (Value.int IntKind.u8 0).cells m ++ Builtin.zeroCells (Value.int IntKind.u8 0).cells (grownCap w (bs.length + m) old 5 - (bs.length + m))) 5)) := by
    intro old ho
    have hge := grownCap_ge w (bs.length + m) old 5
    have hcm : grownCap w (bs.length + m) old 5 ≤ maxLen := grownCap_le_maxLen w (bs.length + m) old 5 (by unfold maxLen; omega)
    have hl : (bs ++ List.replicate m 0).length = bs.length + m := by simp
    refine ⟨?_, ((Below.refl _ _).drew.alloc (by exact hB) _)⟩
    rw [Own, hl]
    refine ⟨by rw [byteCells_length, hl, Nat.mul_one], .inr ⟨w.heap.size, _, _, rfl, hB, heap_alloc_new w.drew _, hge, hcm, ?_, ?_⟩⟩
    · simp [byteCells_length, size_zeroCells, Value.cells]
      omega
    · simp only [Array.toList_append, zeroCells_bytes, List.append_assoc]
      rw [Nat.mul_one, ← List.append_assoc, byteCells_append]
      have hL : (Lib.byteCells bs ++ Lib.byteCells (List.replicate m 0)).length = bs.length + m := by rw [List.length_append, byteCells_length, byteCells_length, List.length_replicate]
      rw [← hL]
      exact List.take_left
  rcases hown.2 with ⟨rfl, hn⟩ | ⟨g, cap, cur, rfl, hbg, hg, hnc, hcm, hcs, htake⟩
  · obtain rfl : bs = [] := List.eq_nil_of_length_eq_zero hn
    by_cases hm : m = 0
    · subst hm
      refine ⟨.slice none 0 0, w, ?_, World.ownsRow_nil w B 5 1, Below.refl _ _, World.grownBy.refl _ _, .inl rfl⟩
      have hw : IntKind.i64.wrap (0 : Int) = 0 := by rw [IntKind.wrap_i64]; omega
      simp [Builtin.append_, run_underlying Tryd.underlying24, run_underlying Tryd.underlying3, sizeOf, typeInfo, h0, asInt, asIntOf, hw]
    · have hr := Lib.run_append_nil_zeros (P := Tryd.prog) w 24 3 ty 5 i0 (.int .u8 0) .i64 .i64 Tryd.underlying24 Tryd.underlying3 h0 hz0 m (by omega) (by omega) (by omega) (by rw [hz2]; simp at hlen; omega)
      have hgr := grown 0 (by simp; omega)
      simp only [List.length_nil, Nat.zero_add, List.nil_append, Lib.byteCells, List.map_nil, Array.empty_append] at hgr ⊢
      exact ⟨_, _, hr, hgr.1, hgr.2, far _ _, .inr rfl⟩
  · by_cases hroom : bs.length + m ≤ cap
    · have hr := run_append_room_zeros w ty g bs.length cap cur hg m (by omega) hroom (by omega)
      refine ⟨_, _, hr, ?_, ⟨rfl, rfl, rfl, by simp, fun k hk => setRow_other w g k _ (fun e => by omega)⟩, ⟨rfl, rfl, rfl, by simp, fun k hk hne => setRow_other w g k _ (fun e => hne (by simp [Value.ownBlock, e]))⟩, .inl rfl⟩
      have hl : (bs ++ List.replicate m 0).length = bs.length + m := by simp
      rw [Own, hl]
      refine ⟨by rw [byteCells_length, hl, Nat.mul_one], .inr ⟨g, cap, _, rfl, hbg, setRow_heap w g cur _ 5 _ hg, hroom, hcm, ?_, ?_⟩⟩
      · simp [byteCells_length]
        omega
      · rw [Nat.mul_one] at htake
        rw [htake, byteCells_append, Nat.mul_one]
        have hL : (Lib.byteCells bs ++ Lib.byteCells (List.replicate m 0)).length = bs.length + m := by rw [List.length_append, byteCells_length, byteCells_length, List.length_replicate]
        rw [← hL]
        exact List.take_left
    · have hrow := hown.row
      have holds : ∀ j u, (Lib.byteCells bs)[j]? = some u → w.cell? ((⟨g, 0, none⟩ : Addr).add j) = some u := hrow.cells (g := g) rfl
      have hf := run_firstCells_some (P := Tryd.prog) w.drew i0.size bs.length ⟨g, 0, none⟩ bs.length cap (Lib.byteCells bs) (by rw [byteCells_length, hz1, Nat.mul_one]) (by simpa using holds)
      have hfit := growslice_fits (need := bs.length + m) (old := cap) (bytes := 1) (by omega) (by omega)
      have hm0 : 0 < m := by omega
      have hr := Lib.run_append_grow_zeros (P := Tryd.prog) w 24 3 ty 5 i0 (.int .u8 0) .i64 .i64 Tryd.underlying24 Tryd.underlying3 h0 hz0 (some ⟨g, 0, none⟩) bs.length cap (Lib.byteCells bs) hf m hm0 (by omega) (by omega) (by omega) (by rw [hz2]; omega) (by rw [hz2]; exact hfit)
      have hgr := grown cap (by omega)
      exact ⟨_, _, hr, hgr.1, hgr.2, far _ _, .inr rfl⟩

theorem wpList_app_zeros (w : World) {ops : Array Oper} {rest : List Oper} {o : Oper} {a : Act} {Q : Exit → Act → World → Prop} (hg : o.guard = none) (s x : Operand)
    (ho : o.op = .call { callee := .builtin .append, args := #[s, x], argTypes := #[24, 3] })
    (B : Nat) (v : Value) (bs : List UInt8) (hs : a.eval s = v) (hown : Own w B v bs) (m : Nat) (hx : a.eval x = .int .i64 (m : Int)) (hlen : bs.length + m ≤ 140737488355328) (hB : B ≤ w.heap.size)
    (h : ∀ v' w', Own w' B v' (bs ++ List.replicate m 0) → Below B w w' → wpList Tryd.prog ops Q rest (a.put o.dst v') w') : wpList Tryd.prog ops Q (o :: rest) a w := by
  obtain ⟨v', w', hr, h1, h2, _⟩ := append_zeros_own w o.type B v bs hown m hlen hB
  exact Lib.wpList_append_run w hg s x _ _ ho _ _ hs hx v' w' hr (h v' w' h1 h2)

/-- As wpList_app_zeros; what is appended to is all that has turned, and where the new row lies. -/
theorem wpList_app_zeros3 (w : World) {ops : Array Oper} {rest : List Oper} {o : Oper} {a : Act} {Q : Exit → Act → World → Prop} (hg : o.guard = none) (s x : Operand)
    (ho : o.op = .call { callee := .builtin .append, args := #[s, x], argTypes := #[24, 3] })
    (B : Nat) (v : Value) (bs : List UInt8) (hs : a.eval s = v) (hown : Own w B v bs) (m : Nat) (hx : a.eval x = .int .i64 (m : Int)) (hlen : bs.length + m ≤ 140737488355328) (hB : B ≤ w.heap.size)
    (h : ∀ v' w', Own w' B v' (bs ++ List.replicate m 0) → w.grownBy w' v.ownBlock → (v'.ownBlock = v.ownBlock ∨ v'.ownBlock = some w.heap.size) → wpList Tryd.prog ops Q rest (a.put o.dst v') w') : wpList Tryd.prog ops Q (o :: rest) a w := by
  obtain ⟨v', w', hr, h1, _, h3, h4⟩ := append_zeros_own w o.type B v bs hown m hlen hB
  exact Lib.wpList_append_run w hg s x _ _ ho _ _ hs hx v' w' hr (h v' w' h1 h3 h4)

end Go.Proofs.YtdojalhaklkegaaDoor
