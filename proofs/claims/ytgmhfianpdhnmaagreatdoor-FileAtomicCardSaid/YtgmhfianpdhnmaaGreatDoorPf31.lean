/-
  'append' AND '[:]' OF SLICES OF FILES: as run equations, as steps. Conditions: as each says.
  CONTRACTS OF orlopref11.At, Free, drop, put, Copy. Conditions: the files lie so.
  CONTRACT OF orlopref11.drop. Conditions: the files lie so, out of their box.
-/
import Derived.Test.YtgmhfianpdhnmaaGreatDoorPf30
import Derived.Test.YtgmhfianpdhnmaaGreatDoorFileE
import Derived.Test.YtgmhfianpdhnmaaGreatDoorPf3

namespace Go.Proofs.YtgmhfianpdhnmaaGreatDoor
open Go.RowKit
set_option linter.unusedVariables false
set_option maxRecDepth 100000

/-- 'append(fs, gs...)' onto an owned row. -/
theorem run_app_fs (w : World) (ty : TypeId) {S : Nat → Prop} (B : Nat) (v : Value) (F : M.Fs) (xs : List Value) (o : w.ownsRow B 55 2 v F.length (fcs F xs)) (hl : xs.length = F.length) (sv : Value) (G : M.Fs) (ys : List Value) (hi : IsFs S w sv G ys) (hm : F.length + G.length ≤ 1000000) (hB : B ≤ w.heap.size) :
    ∃ v' w', (Builtin.append_ #[30, 30] ty #[v, sv]).run Tryz.prog w = .ok v' w' ∧ w'.ownsRow B 55 2 v' (F ++ G).length (fcs (F ++ G) (xs ++ ys)) ∧ w.grownBy w' v.ownBlock ∧ (v'.ownBlock = v.ownBlock ∨ v'.ownBlock = some w.heap.size) := by
  obtain ⟨hu, hin, hz, h0⟩ := rowsF
  obtain ⟨i0, hi0, hz0, hz1, hz2⟩ := info_any hin
  have d := hi.1
  obtain ⟨_, ao, cap, rfl, h1, h2, h3, h4⟩ := hi
  cases ao with
  | none =>
    have hk : G = [] := by
      rcases h4 with h | ⟨b, off, e, _⟩
      · exact h
      · cases e
    subst hk
    have hys : ys = [] := List.length_eq_zero_iff.1 d.len
    subst hys
    rw [h3 rfl]
    have hrun := run_append_owned_none (P := Tryz.prog) (w := w) B 30 ty 55 i0 2 hu hi0 v F.length _ o
    exact ⟨v, w, hrun, by rw [List.append_nil, List.append_nil]; exact o, World.grownBy.refl _ _, .inl rfl⟩
  | some ad =>
    have hc : ∀ j u, (fcs G ys)[j]? = some u → w.cell? (ad.add j) = some u := by
      rcases h4 with h | ⟨b, off, e, _, _, hc⟩
      · subst h
        have hys : ys = [] := List.length_eq_zero_iff.1 d.len
        subst hys
        intro j u hj
        cases hj
      · injection e with e
        subst e
        intro j u hj
        rw [Addr.add_mid]
        exact hc j u hj
    obtain ⟨v', w', hr, a1, a2, _, a4⟩ := run_append_own_at (P := Tryz.prog) w B 30 ty 55 i0 _ 2 40 hu hi0 hz0 hz1 hz2 hz h0 v F.length _ o ad G.length cap (fcs G ys) (fcs_len d.len) hc (fcs_one d) (by unfold maxLen; omega) (by omega) hB
    exact ⟨v', w', hr, by rw [List.length_append, fcs_append hl]; exact a1, a2, a4⟩

/-- .. as a step of a region that draws. -/
theorem step_app_fs {w : World} {ops : Array Oper} {o : Oper} {a : Act} {K : Act → World → Prop} {Q : Exit → Act → World → Prop} {E : Prop} (hg : o.guard = none) (s x : Operand)
    (ho : o.op = .call { callee := .builtin .append, args := #[s, x], argTypes := #[30, 30] }) {S : Nat → Prop}
    (B : Nat) (v : Value) (F : M.Fs) (xs : List Value) (hs : a.eval s = v) (hown : w.ownsRow B 55 2 v F.length (fcs F xs)) (hl : xs.length = F.length) (sv : Value) (G : M.Fs) (ys : List Value) (hx : a.eval x = sv) (hi : IsFs S w sv G ys) (hm : F.length + G.length ≤ 1000000) (hB : B ≤ w.heap.size)
    (h : ∀ v' w', w'.ownsRow B 55 2 v' (F ++ G).length (fcs (F ++ G) (xs ++ ys)) → w.grownBy w' v.ownBlock → (v'.ownBlock = v.ownBlock ∨ v'.ownBlock = some w.heap.size) → K (a.put o.dst v') w') : if Region.wanted o (yielded ops a.tmps) = true then Oper.wp Tryz.prog o a w K Q else E := by
  rw [if_pos (by simp [Region.wanted, hg])]
  obtain ⟨v', w', hr, h2, h3, h5⟩ := run_app_fs w o.type B v F xs hown hl sv G ys hi hm hB
  unfold Oper.wp execOp
  simp only [ho, resolve, invoke, builtin, Sem.run_bind, Sem.run_pure, Result.andThen_ok, List.map_toArray, List.map_cons, List.map_nil, hs, hx, hr]
  exact h v' w' h2 h3 h5

/-- .. in a plain region. -/
theorem wpList_app_fs (w : World) {ops : Array Oper} {rest : List Oper} {o : Oper} {a : Act} {Q : Exit → Act → World → Prop} (hg : o.guard = none) (s x : Operand)
    (ho : o.op = .call { callee := .builtin .append, args := #[s, x], argTypes := #[30, 30] }) {S : Nat → Prop}
    (B : Nat) (v : Value) (F : M.Fs) (xs : List Value) (hs : a.eval s = v) (hown : w.ownsRow B 55 2 v F.length (fcs F xs)) (hl : xs.length = F.length) (sv : Value) (G : M.Fs) (ys : List Value) (hx : a.eval x = sv) (hi : IsFs S w sv G ys) (hm : F.length + G.length ≤ 1000000) (hB : B ≤ w.heap.size)
    (h : ∀ v' w', w'.ownsRow B 55 2 v' (F ++ G).length (fcs (F ++ G) (xs ++ ys)) → w.grownBy w' v.ownBlock → (v'.ownBlock = v.ownBlock ∨ v'.ownBlock = some w.heap.size) → wpList Tryz.prog ops Q rest (a.put o.dst v') w') : wpList Tryz.prog ops Q (o :: rest) a w := by
  refine wpList_plain hg fun K hK => ?_
  have := step_app_fs (ops := ops) (K := K) (Q := Q) (E := False) hg s x ho B v F xs hs hown hl sv G ys hx hi hm hB (fun v' w' h1 h2 h3 => hK _ _ (h v' w' h1 h2 h3))
  rw [if_pos (by simp [Region.wanted, hg])] at this
  exact this

/-- An empty row of files. -/
theorem own_emptyF (w : World) : (w.alloc (.cells #[] 55)).ownsRow w.heap.size 55 2 (.slice (some ⟨w.heap.size, 0, none⟩) 0 0) ([] : M.Fs).length (fcs [] []) :=
  World.ownsRow_made w #[] 0 (Nat.le_refl _) (Nat.zero_le _) rfl

/-- 'fs[:i]', 'fs[i:]'. -/
theorem IsFs.cut {S : Nat → Prop} {w : World} {ao : Option Addr} {n cap : Nat} {F : M.Fs} {xs : List Value} (h : IsFs S w (.slice ao n cap) F xs) (i : Nat) (hi : i ≤ n) :
    (∀ W : World, (Instr.slice 30 (.slice ao n cap) none (some (.int .i64 (i : Int))) none).run Tryz.prog W = .ok (.slice ao i cap) W) ∧ IsFs S w (.slice ao i cap) (F.take i) (xs.take i) ∧
    ∃ ao', (∀ W : World, (Instr.slice 30 (.slice ao n cap) (some (.int .i64 (i : Int))) none none).run Tryz.prog W = .ok (.slice ao' (n - i) (cap - i)) W) ∧ IsFs S w (.slice ao' (n - i) (cap - i)) (F.drop i) (xs.drop i) := by
  have hel : Tryz.prog.elem 30 = 55 := by simp [Program.elem, Tryz.underlying30]
  have hsz : ∀ W : World, (sizeOf 55).run Tryz.prog W = .ok 2 W := fun W => by
    simp [sizeOf]
    rfl
  obtain ⟨d, ao', cap', e, h1, h2, h3, h4⟩ := h
  injection e with e1 e2 e3
  subst e1 e2 e3
  have hlt : (F.take i).length = i := by rw [List.length_take]; omega
  have hld : (F.drop i).length = F.length - i := List.length_drop
  refine ⟨fun W => ?_, ⟨d.take i, ao, cap, by rw [hlt], by omega, h2, h3, ?_⟩, if cap = i then ao else ao.map (·.add (i * 2)), fun W => ?_, ⟨d.drop i, _, cap - i, by rw [hld], by omega, by omega, ?_, ?_⟩⟩
  · rw [run_slice_h W 30 ao F.length cap (by rw [hel]; exact Tryz.underlying30) .i64 (i : Int) (by omega) (by omega), hel, hsz]
    simp only [Result.andThen_ok, sliced, Int.toNat_natCast, Nat.zero_mul, Nat.sub_zero]
    cases ao <;> simp [Addr.add]
  · rcases h4 with h | ⟨b, off, e, hb, hlt', hc⟩
    · exact .inl (by rw [h]; simp)
    · refine .inr ⟨b, off, e, hb, hlt', fun j u hj => hc j u ?_⟩
      rw [fcs_take d.len i hi] at hj
      have hj2 := (List.getElem?_eq_some_iff.1 hj).1
      rw [List.length_take] at hj2
      rwa [List.getElem?_take, if_pos (by omega)] at hj
  · rw [run_slice_l W 30 ao F.length cap (by rw [hel]; exact Tryz.underlying30) .i64 (i : Int) (by omega) (by omega), hel, hsz]
    simp only [Result.andThen_ok, sliced, Int.toNat_natCast]
  · intro e
    by_cases hc : cap = i
    · omega
    · rw [if_neg hc] at e
      cases ao with
      | none => have := h3 rfl; omega
      | some a0 => cases e
  · by_cases hc : cap = i
    · exact .inl (List.eq_nil_of_length_eq_zero (by omega))
    · rw [if_neg hc]
      rcases h4 with h | ⟨b, off, e, hb, hlt', hcc⟩
      · exact .inl (by rw [h]; simp)
      · subst e
        refine .inr ⟨b, off + i * 2, by rw [Option.map_some, Addr.add_lit], hb, hlt', fun j u hj => ?_⟩
        rw [fcs_drop d.len i hi, List.getElem?_drop] at hj
        rw [Nat.add_assoc]
        exact hcc _ u hj

end Go.Proofs.YtgmhfianpdhnmaaGreatDoor

namespace Go.Proofs.YtgmhfianpdhnmaaGreatDoor
open Go.RowKit
set_option linter.unusedVariables false
set_option maxRecDepth 100000

/-- The document's files: the box at gr, the list's value v, the number of blocks. -/
def RefAt11 (w : World) (gr : Nat) (v : Value) (nb : Int) : Prop := Blk w gr 32 [v, .int .i64 nb]

theorem wrap_id {x : Int} (h : -4611686018427387904 ≤ x ∧ x ≤ 4611686018427387904) : wrap64 x = x := by unfold wrap64; omega

theorem need_le2 {q : Nat} (h : q ≤ 1099511627776) : M.need q ≤ 4294967297 := by rw [M.need]; omega

theorem free_bound {n z nd : Int} (j : Nat) (h1 : -1099511627776 - 4294967297 * (j : Int) ≤ z ∧ z ≤ 1099511627776) (h2 : 0 ≤ nd ∧ nd ≤ 4294967297) (h3 : j < 1000) : (-1099511627776 - 4294967297 * ((j + 1 : Nat) : Int) ≤ z - nd ∧ z - nd ≤ 1099511627776) ∧ wrap64 (z - nd) = z - nd := by
  refine ⟨by omega, wrap_id (by omega)⟩

/-- Where a file stands; -1: nowhere. -/
def M.atI (F : M.Fs) (k : List UInt8) : Int := if M.atF F k < F.length then ((M.atF F k : Nat) : Int) else -1

theorem M.atF_le (F : M.Fs) (k : List UInt8) : M.atF F k ≤ F.length := List.findIdx_le_length

theorem M.atF_here {F : M.Fs} {k : List UInt8} {i : Nat} (hi : i < F.length) (h : ∀ j, j < i → (F.getD j default).nm ≠ k) (e : (F.getD i default).nm = k) : M.atF F k = i := by
  rw [M.atF, List.findIdx_eq hi]
  have g : ∀ j, (hj : j < F.length) → F.getD j default = F[j] := fun j hj => by rw [List.getD_eq_getElem?_getD, List.getElem?_eq_getElem hj]; rfl
  refine ⟨by rw [← g i hi, e]; simp, fun j hj => ?_⟩
  have := h j hj
  rw [g j (by omega)] at this
  simpa using this

theorem M.atF_none {F : M.Fs} {k : List UInt8} (h : ∀ j, j < F.length → (F.getD j default).nm ≠ k) : M.atF F k = F.length := by
  rw [M.atF, List.findIdx_eq_length]
  intro q hq
  obtain ⟨j, hj, rfl⟩ := List.mem_iff_getElem.1 hq
  have := h j hj
  rw [List.getD_eq_getElem?_getD, List.getElem?_eq_getElem hj] at this
  simpa using this

theorem str_eq (a b : List UInt8) : ((⟨a.toArray⟩ : ByteArray).toList == (⟨b.toArray⟩ : ByteArray).toList) = decide (a = b) := by
  rw [ByteArray.toList_mk, ByteArray.toList_mk]
  by_cases h : a = b
  · rw [h]; simp
  · rw [decide_eq_false h]; simpa using h

set_option maxHeartbeats 4000000 in
theorem rat_any {S : Nat → Prop} {w : World} {gr : Nat} {v : Value} {nb : Int} {F : M.Fs} {xs : List Value} (hb : RefAt11 w gr v nb) (hF : IsFs S w v F xs) (k : List UInt8) (hk : k.length ≤ maxLen) (hlen : F.length ≤ 1000000) :
    Calls Tryz.prog 16 #[.pointer (some ⟨gr, 0, none⟩), .string ⟨k.toArray⟩] w fun e w' => e = .returned (.int .i64 (M.atI F k)) ∧ w' = w := by
  obtain ⟨ao, cap, rfl⟩ := hF.shape
  obtain ⟨n, hn⟩ : ∃ n, n = F.length := ⟨_, rfl⟩
  rw [← hn] at hF hb hlen
  have HN : Hid (F.length = n) := hn.symm
  have HF := Lib.hid hF
  have HL := Lib.hid hlen
  have c0 := hb.cell 0
  simp only [List.getElem?_cons_zero] at c0
  obtain ⟨s, hs⟩ : ∃ s : ByteArray, s = ⟨k.toArray⟩ := ⟨_, rfl⟩
  have HS := Lib.hid hs
  rw [← hs]
  clear hb hF hn hs hlen
  go_enter Tryz.func16, Tryz.ntmps16
  go_wp2
  go_loopw [5] (fun i wr => ∃ j : Nat, i = .int .i64 (j : Int) ∧ Hid (j ≤ n ∧ ∀ x, x < j → (F.getD x default).nm ≠ k) ∧ wr = w)
    (fun i _ => n - numOf i)
  case atStart => exact ⟨0, rfl, ⟨Nat.zero_le _, fun x hx => by omega⟩, rfl⟩
  case round =>
    obtain ⟨j, rfl, hj, rfl⟩ := hrel
    by_cases hlt : j < n
    · have b1 : (j : Int) < (n : Int) := by omega
      obtain ⟨b, off, rfl, d0, _, _, hnl⟩ := HF.out.at_ j (by rw [HN.out]; exact hlt)
      obtain ⟨nm, hnm⟩ : ∃ z, z = (F.getD j default).nm := ⟨_, rfl⟩
      rw [← hnm] at d0 hnl
      obtain ⟨sn, hsn⟩ : ∃ s : ByteArray, s = ⟨nm.toArray⟩ := ⟨_, rfl⟩
      rw [← hsn] at d0
      have q1 : (sn.toList == s.toList) = decide (nm = k) := by rw [hsn, HS.out]; exact str_eq nm k
      have HNM := Lib.hid hnm
      have G1 : Hid (wrap64 ((j : Int) + 1) = ((j + 1 : Nat) : Int)) := wrap_next (by have := HL.out; omega)
      have g2 : (0 : Int) ≤ (j : Int) := by omega
      have g3 : ((j : Int)).toNat = j := by omega
      have HLT := Lib.hid hlt
      clear hsn hnm hnl hlt
      by_cases he : nm = k
      · have hR : Hid (M.atI F k = (j : Int)) := by
          rw [Hid, M.atI, M.atF_here (by rw [HN.out]; exact HLT.out) hj.out.2 (by rw [← HNM.out]; exact he), if_pos (by rw [HN.out]; exact HLT.out)]
        rw [decide_eq_true he] at q1
        clear hj he
        go_wp2
        go_ret
        exact ⟨by rw [hR.out]; rfl, rfl⟩
      · have hS : Hid (j + 1 ≤ n ∧ ∀ x, x < j + 1 → (F.getD x default).nm ≠ k) := ⟨HLT.out, fun x hx => by
          by_cases e : x = j
          · subst e; rw [← HNM.out]; exact he
          · exact hj.out.2 x (by omega)⟩
        rw [decide_eq_false he] at q1
        clear hj he
        go_wp2
        go_roundw
        case rel => exact ⟨j + 1, by rw [G1.out], hS, trivial⟩
        case measure =>
          have := HLT.out
          rw [G1.out]
          show n - (((j + 1 : Nat) : Int)).toNat < n - ((j : Int)).toNat
          omega
    · have b1 : ¬ (j : Int) < (n : Int) := by omega
      have hR : Hid (M.atI F k = -1) := by
        have e : j = F.length := by have := hj.out.1; have := HN.out; omega
        rw [Hid, M.atI, M.atF_none (fun x hx => hj.out.2 x (by omega)), if_neg (by omega)]
      clear hj hlt
      go_wp2
      go_ret
      exact ⟨by rw [hR.out]; rfl, rfl⟩

theorem M.freeF_next (n : Int) (F : M.Fs) (k : Nat) (hk : k < F.length) : M.freeF n (F.take (k + 1)) = M.freeF n (F.take k) - ((M.need (F.getD k default).data.length : Nat) : Int) := by
  rw [M.freeF, List.take_add_one, List.getElem?_eq_getElem hk, List.foldl_append, List.getD_eq_getElem?_getD, List.getElem?_eq_getElem hk]
  rfl

set_option maxHeartbeats 4000000 in
theorem rfree_any {S : Nat → Prop} {w : World} {gr : Nat} {v : Value} {nb : Int} {F : M.Fs} {xs : List Value} (hb : RefAt11 w gr v nb) (hF : IsFs S w v F xs) (hlen : F.length ≤ 1000) (hd : ∀ q ∈ F, q.data.length ≤ 1099511627776) (hnb : -1099511627776 ≤ nb ∧ nb ≤ 1099511627776) :
    Calls Tryz.prog 30 #[.pointer (some ⟨gr, 0, none⟩)] w fun e w' => e = .returned (.int .i64 (M.freeF nb F)) ∧ w' = w := by
  obtain ⟨ao, cap, rfl⟩ := hF.shape
  obtain ⟨n, hn⟩ : ∃ n, n = F.length := ⟨_, rfl⟩
  rw [← hn] at hF hb hlen
  have HN : Hid (F.length = n) := hn.symm
  have HF := Lib.hid hF
  have HL := Lib.hid hlen
  have HD := Lib.hid hd
  have HNB := Lib.hid hnb
  have c0 := hb.cell 0
  have c1 := hb.cell 1
  simp only [List.getElem?_cons_zero, List.getElem?_cons_succ] at c0 c1
  clear hb hF hn hlen hd hnb
  go_enter Tryz.func30, Tryz.ntmps30
  go_wp2
  go_loopw [3, 4] (fun a i wr => ∃ j : Nat, i = .int .i64 (j : Int) ∧ Hid (j ≤ n) ∧ (∃ z : Int, a = .int .i64 z ∧ Hid (z = M.freeF nb (F.take j)) ∧ Hid (-1099511627776 - 4294967297 * (j : Int) ≤ z ∧ z ≤ 1099511627776)) ∧ wr = w)
    (fun a i _ => n - numOf i)
  case atStart => exact ⟨0, rfl, Nat.zero_le _, ⟨nb, rfl, by rw [List.take_zero]; rfl, by have := HNB.out; rw [Hid]; omega⟩, rfl⟩
  case round =>
    obtain ⟨j, rfl, hj, ⟨z, rfl, hz, hzb⟩, rfl⟩ := hrel
    by_cases hlt : j < n
    · have b1 : (j : Int) < (n : Int) := by omega
      have hj' : j < F.length := by rw [HN.out]; exact hlt
      obtain ⟨b, off, rfl, d0, d1, ib, _⟩ := HF.out.at_ j hj'
      obtain ⟨xa, xc, ex⟩ := ib.shape
      rw [ex] at d1
      have hdl := HD.out (F.getD j default) (by rw [List.getD_eq_getElem?_getD, List.getElem?_eq_getElem hj']; exact List.getElem_mem _)
      have hnx := M.freeF_next nb F j hj'
      obtain ⟨q, hq⟩ : ∃ q, q = (F.getD j default).data.length := ⟨_, rfl⟩
      rw [← hq] at d1 hdl hnx
      have CN := Lib.hid (rneed_any q wr hdl)
      obtain ⟨nd, hnd⟩ : ∃ z, z = M.need q := ⟨_, rfl⟩
      rw [← hnd] at CN hnx
      have hnd2 : nd ≤ 4294967297 := by rw [hnd]; exact need_le2 hdl
      obtain ⟨y, hy⟩ : ∃ y, y = z - (nd : Int) := ⟨_, rfl⟩
      have hfb := free_bound (n := 0) (nd := (nd : Int)) j hzb.out ⟨Int.natCast_nonneg nd, by omega⟩ (by have := HL.out; omega)
      have G0 : Hid (wrap64 (z - (nd : Int)) = y) := by rw [hy]; exact hfb.2
      rw [← hy] at hfb
      have HYB := Lib.hid hfb.1
      have HY : Hid (y = M.freeF nb (F.take (j + 1))) := by rw [Hid, hy, hz.out, hnx]
      have G1 : Hid (wrap64 ((j : Int) + 1) = ((j + 1 : Nat) : Int)) := wrap_next (by have := HL.out; omega)
      have g2 : (0 : Int) ≤ (j : Int) := by omega
      have g3 : ((j : Int)).toNat = j := by omega
      have HLT := Lib.hid hlt
      clear d0 ib ex hdl hnx hq hnd hnd2 hy hfb hlt hj' hz hzb hj
      go_wp2_with fail
      refine CN.out.mono ?_
      rintro e w1 ⟨rfl, rfl⟩
      go_wp2
      go_roundw
      case rel => exact ⟨j + 1, by rw [G1.out], HLT.out, ⟨y, by rw [G0.out], HY, HYB⟩, trivial⟩
      case measure =>
        have := HLT.out
        rw [G1.out]
        show n - (((j + 1 : Nat) : Int)).toNat < n - ((j : Int)).toNat
        omega
    · have b1 : ¬ (j : Int) < (n : Int) := by omega
      have hR : Hid (M.freeF nb F = z) := by
        have e : F.take j = F := List.take_of_length_le (by have := HN.out; omega)
        rw [Hid, hz.out, e]
      clear hj hlt hz hzb
      go_wp2
      go_ret
      exact ⟨by rw [hR.out]; rfl, rfl⟩

end Go.Proofs.YtgmhfianpdhnmaaGreatDoor

namespace Go.Proofs.YtgmhfianpdhnmaaGreatDoor
open Go.RowKit
set_option linter.unusedVariables false
set_option maxRecDepth 100000

theorem M.fdrop_none {F : M.Fs} {k : List UInt8} (h : ¬ M.atF F k < F.length) : M.fdrop F k = F := by
  rw [M.fdrop, List.take_of_length_le (by omega), List.drop_eq_nil_of_le (by omega), List.append_nil]

/-- What a call of the document's files leaves behind: the box alone has turned. -/
def RefIs (S : Nat → Prop) (w : World) (gr : Nat) (nb : Int) (F : M.Fs) (w' : World) : Prop :=
  Chg (fun b => b = gr) w w' ∧ ∃ v xs, RefAt11 w' gr v nb ∧ IsFs (fun j => S j ∨ (w.heap.size ≤ j ∧ j < w'.heap.size)) w' v F xs

set_option maxHeartbeats 8000000 in
theorem rdrop_any {S : Nat → Prop} {w : World} {gr : Nat} {v : Value} {nb : Int} {F : M.Fs} {xs : List Value} (hb : RefAt11 w gr v nb) (hF : IsFs S w v F xs) (hS : ¬ S gr) (k : List UInt8) (hk : k.length ≤ maxLen) (hlen : F.length ≤ 1000) :
    Calls Tryz.prog 37 #[.pointer (some ⟨gr, 0, none⟩), .string ⟨k.toArray⟩] w fun e w' => e = .returned (.tuple #[]) ∧ RefIs S w gr nb (M.fdrop F k) w' := by
  have C := Lib.hid (rat_any hb hF k hk (by omega))
  have hle := M.atF_le F k
  obtain ⟨s, hs⟩ : ∃ s : ByteArray, s = ⟨k.toArray⟩ := ⟨_, rfl⟩
  rw [← hs] at C ⊢
  obtain ⟨i, hi⟩ : ∃ i, i = M.atF F k := ⟨_, rfl⟩
  rw [← hi] at hle
  by_cases hlt : i < F.length
  · have hat : M.atI F k = (i : Int) := by rw [M.atI, ← hi, if_pos hlt]
    rw [hat] at C
    have HD : Hid (M.fdrop F k = F.take i ++ F.drop (i + 1)) := by rw [Hid, M.fdrop, ← hi]
    obtain ⟨ao, cap, rfl⟩ := hF.shape
    obtain ⟨n, hn⟩ : ∃ n, n = F.length := ⟨_, rfl⟩
    have hFi := hF
    rw [← hn] at hF hb hlt hlen
    have d := hF.1
    have hcap : n ≤ cap := by
      obtain ⟨_, a, c, e, h1, _⟩ := hF
      injection e with e1 e2 e3
      omega
    obtain ⟨p, hp⟩ : ∃ p, p = i + 1 := ⟨_, rfl⟩
    obtain ⟨t1, f1, _⟩ := hF.cut i (by omega)
    obtain ⟨_, _, ao2, t2, f2⟩ := hF.cut p (by omega)
    obtain ⟨c2, hc2⟩ : ∃ c, c = cap - p := ⟨_, rfl⟩
    obtain ⟨n2, hn2⟩ : ∃ c, c = n - p := ⟨_, rfl⟩
    have b0 : (0 : Int) ≤ (i : Int) := by omega
    rw [← hc2, ← hn2] at t2 f2
    have c0 := hb.cell 0
    simp only [List.getElem?_cons_zero] at c0
    have HB := Lib.hid hb
    have F1 := Lib.hid f1
    have F2 := Lib.hid f2
    have T1 := Lib.hid t1
    have T2 := Lib.hid t2
    have HL := Lib.hid hlen
    have HLT := Lib.hid hlt
    have HN : Hid (F.length = n) := hn.symm
    have HDL := Lib.hid d.len
    have W1 : Hid (wrap64 ((i : Int) + 1) = (p : Int)) := by rw [hp]; exact wrap_next (by omega)
    rw [← hp] at HD
    have HSG := Lib.hid hS
    have HGL := Lib.hid hb.lt
    clear hF hFi hb d f1 f2 t1 t2 hn hn2 hc2 hat hlt hlen hle hcap hs hi hp hk hS
    go_enter Tryz.func37, Tryz.ntmps37
    go_wp2_with fail
    refine C.out.mono ?_
    rintro e w1 ⟨rfl, rfl⟩
    clear C
    go_upto_region 2 with fail
    refine region_T (fun w' => w'.cell? ⟨gr, 0, none⟩ = some (.slice ao n cap)) [17, 18, 19] (by kernel_rfl) ?_
    obtain ⟨w, rfl⟩ : ∃ x, x = w1 := ⟨_, rfl⟩
    have S0 : w.drew.cell? ⟨gr, 0, none⟩ = some (.slice ao n cap) := c0
    refine anyT_take_at (i := 0) (v := .pointer (some ⟨gr, 0, none⟩)) rfl rfl (by kernel_rfl) (by kernel_rfl) (by kernel_rfl) (by kernel_rfl) (fun _ _ _ h => h) (Or.inl ⟨by rfl, fun w hS => by go_simp⟩) S0 ?_
    try simp only [List.setIfInBounds_toArray, List.set_cons_zero, List.set_cons_succ]
    refine anyT_take_at (i := 2) (v := .pointer (some ⟨gr, 0, none⟩)) rfl rfl (by kernel_rfl) (by kernel_rfl) (by kernel_rfl) (by kernel_rfl) (fun _ _ _ h => h) (Or.inl ⟨by rfl, fun w hS => by go_simp⟩) S0 ?_
    try simp only [List.setIfInBounds_toArray, List.set_cons_zero, List.set_cons_succ]
    refine anyT_take_at (i := 3) (v := .pointer (some ⟨gr, 0, none⟩)) rfl rfl (by kernel_rfl) (by kernel_rfl) (by kernel_rfl) (by kernel_rfl) (fun _ _ _ h => h) (Or.inl ⟨by rfl, fun w hS => by go_simp⟩) S0 ?_
    try simp only [List.setIfInBounds_toArray, List.set_cons_zero, List.set_cons_succ]
    refine anyT_take_at (i := 4) (v := .pointer (some ⟨gr, 0, none⟩)) rfl rfl (by kernel_rfl) (by kernel_rfl) (by kernel_rfl) (by kernel_rfl) (fun _ _ _ h => h) (Or.inl ⟨by rfl, fun w hS => by go_simp⟩) S0 ?_
    try simp only [List.setIfInBounds_toArray, List.set_cons_zero, List.set_cons_succ]
    refine anyT_take_at (i := 5) (v := .slice ao n cap) rfl rfl (by kernel_rfl) (by kernel_rfl) (by kernel_rfl) (by kernel_rfl) (fun _ _ _ h => h) (Or.inl ⟨by rfl, fun w hS => by have c : w.cell? ⟨gr, 0, none⟩ = some (.slice ao n cap) := hS; go_simp⟩) S0 ?_
    try simp only [List.setIfInBounds_toArray, List.set_cons_zero, List.set_cons_succ]
    refine anyT_take_at (i := 6) (v := .int .i64 (i : Int)) rfl rfl (by kernel_rfl) (by kernel_rfl) (by kernel_rfl) (by kernel_rfl) (fun _ _ _ h => h) (Or.inl ⟨by rfl, fun w hS => by go_simp⟩) S0 ?_
    try simp only [List.setIfInBounds_toArray, List.set_cons_zero, List.set_cons_succ]
    refine anyT_take_at (i := 7) (v := .slice ao i cap) rfl rfl (by kernel_rfl) (by kernel_rfl) (by kernel_rfl) (by kernel_rfl) (fun _ _ _ h => h) (Or.inl ⟨by rfl, fun w hS => by have t := T1.out; go_simp⟩) S0 ?_
    try simp only [List.setIfInBounds_toArray, List.set_cons_zero, List.set_cons_succ]
    refine anyT_take_at (i := 9) (v := .pointer (some ⟨gr, 0, none⟩)) rfl rfl (by kernel_rfl) (by kernel_rfl) (by kernel_rfl) (by kernel_rfl) (fun _ _ _ h => h) (Or.inl ⟨by rfl, fun w hS => by go_simp⟩) S0 ?_
    try simp only [List.setIfInBounds_toArray, List.set_cons_zero, List.set_cons_succ]
    refine anyT_take_at (i := 10) (v := .pointer (some ⟨gr, 0, none⟩)) rfl rfl (by kernel_rfl) (by kernel_rfl) (by kernel_rfl) (by kernel_rfl) (fun _ _ _ h => h) (Or.inl ⟨by rfl, fun w hS => by go_simp⟩) S0 ?_
    try simp only [List.setIfInBounds_toArray, List.set_cons_zero, List.set_cons_succ]
    refine anyT_take_at (i := 11) (v := .pointer (some ⟨gr, 0, none⟩)) rfl rfl (by kernel_rfl) (by kernel_rfl) (by kernel_rfl) (by kernel_rfl) (fun _ _ _ h => h) (Or.inl ⟨by rfl, fun w hS => by go_simp⟩) S0 ?_
    try simp only [List.setIfInBounds_toArray, List.set_cons_zero, List.set_cons_succ]
    refine anyT_take_at (i := 12) (v := .slice ao n cap) rfl rfl (by kernel_rfl) (by kernel_rfl) (by kernel_rfl) (by kernel_rfl) (fun _ _ _ h => h) (Or.inl ⟨by rfl, fun w hS => by have c : w.cell? ⟨gr, 0, none⟩ = some (.slice ao n cap) := hS; go_simp⟩) S0 ?_
    try simp only [List.setIfInBounds_toArray, List.set_cons_zero, List.set_cons_succ]
    refine anyT_take_at (i := 13) (v := .int .i64 (i : Int)) rfl rfl (by kernel_rfl) (by kernel_rfl) (by kernel_rfl) (by kernel_rfl) (fun _ _ _ h => h) (Or.inl ⟨by rfl, fun w hS => by go_simp⟩) S0 ?_
    try simp only [List.setIfInBounds_toArray, List.set_cons_zero, List.set_cons_succ]
    refine anyT_take_at (i := 14) (v := .int .i64 (p : Int)) rfl rfl (by kernel_rfl) (by kernel_rfl) (by kernel_rfl) (by kernel_rfl) (fun _ _ _ h => h) (Or.inl ⟨by rfl, fun w hS => by have t : IntKind.i64.wrap ((i : Int) + 1) = (p : Int) := (IntWalk.i64_left _).trans W1.out; go_simp⟩) S0 ?_
    try simp only [List.setIfInBounds_toArray, List.set_cons_zero, List.set_cons_succ]
    refine anyT_take_at (i := 15) (v := .slice ao2 n2 c2) rfl rfl (by kernel_rfl) (by kernel_rfl) (by kernel_rfl) (by kernel_rfl) (fun _ _ _ h => h) (Or.inl ⟨by rfl, fun w hS => by have t := T2.out; go_simp⟩) S0 ?_
    try simp only [List.setIfInBounds_toArray, List.set_cons_zero, List.set_cons_succ]
    refine anyT_ready (rs := [1]) (by kernel_rfl) (by simp) ?_
    refine ReadyT.cons rfl (fun K hK => ?_) ReadyT.nil
    go_simp
    obtain ⟨w1, hw1⟩ : ∃ x, x = (w.alloc (.cells #[] 55)).drew := ⟨_, rfl⟩
    have k1 : Below w.heap.size w w1 := by rw [hw1]; exact drewN_below ((Below.refl _ w).alloc (Nat.le_refl _) _) 1
    have o1 : w1.ownsRow w.heap.size 55 2 (.slice (some ⟨w.heap.size, 0, none⟩) 0 0) ([] : M.Fs).length (fcs [] []) := by rw [hw1]; exact own_emptyF w.drew
    rw [← hw1]
    have B1 := HB.out.below k1 HGL.out
    refine hK.out _ _ (.inr (B1.cell 0)) ?_
    clear hK K
    refine anyT_ready (rs := [8]) (by kernel_rfl) (by simp) ?_
    refine ReadyT.cons rfl (fun K hK => ?_) ReadyT.nil
    refine step_app_fs rfl _ _ rfl w.heap.size _ [] [] rfl o1 rfl _ (F.take i) (xs.take i) rfl (F1.out.below k1) (by have h1 := HN.out; have h2 := HL.out; simp only [List.length_nil, List.length_take]; omega) k1.size ?_
    intro v2 w2 o2 g2 a2
    have hr1 : ∀ b, (Value.slice (some ⟨w.heap.size, 0, none⟩) 0 0).ownBlock = some b → w.heap.size ≤ b := fun b hb => (o1.lt b hb).1
    have k2 : Below w.heap.size w w2 := k1.grown g2 k1.size hr1
    have B2 := HB.out.below k2 HGL.out
    refine hK.out _ _ (.inr (B2.cell 0)) ?_
    clear hK K
    simp only [Act.put, List.setIfInBounds_toArray, List.set_cons_zero, List.set_cons_succ]
    refine anyT_ready (rs := [16]) (by kernel_rfl) (by simp) ?_
    refine ReadyT.cons rfl (fun K hK => ?_) ReadyT.nil
    refine step_app_fs rfl _ _ rfl w.heap.size _ ([] ++ F.take i) ([] ++ xs.take i) rfl o2 (by simp [HDL.out]) _ (F.drop p) (xs.drop p) rfl (F2.out.below k2) (by have h1 := HN.out; have h2 := HL.out; simp only [List.nil_append, List.length_drop, List.length_take]; omega) k2.size ?_
    intro v3 w3 o3 g3 a3
    obtain ⟨va, vn, vc, hv3⟩ : ∃ a n c, v3 = .slice a n c := by obtain ⟨a, c, h⟩ := ownShape o3; exact ⟨a, _, c, h⟩
    subst hv3
    have k3 : Below w.heap.size w w3 := k2.grown g3 k2.size fun b hb => (o2.lt b hb).1
    have B3 := HB.out.below k3 HGL.out
    refine hK.out _ _ (.inr (B3.cell 0)) ?_
    clear hK K
    simp only [Act.put, List.setIfInBounds_toArray, List.set_cons_zero, List.set_cons_succ]
    refine anyT_free_at (i := 17) (v := .pointer (some ⟨gr, 0, none⟩)) rfl rfl (by kernel_rfl) (by kernel_rfl) (by kernel_rfl) (by kernel_rfl) (fun _ _ _ h => h) (Or.inl ⟨by rfl, fun w hS => by go_simp⟩) ?_
    try simp only [List.setIfInBounds_toArray, List.set_cons_zero, List.set_cons_succ]
    refine anyT_free_at (i := 18) (v := .pointer (some ⟨gr, 0, none⟩)) rfl rfl (by kernel_rfl) (by kernel_rfl) (by kernel_rfl) (by kernel_rfl) (fun _ _ _ h => h) (Or.inl ⟨by rfl, fun w hS => by go_simp⟩) ?_
    try simp only [List.setIfInBounds_toArray, List.set_cons_zero, List.set_cons_succ]
    refine anyT_ready (rs := [19]) (by kernel_rfl) (by simp) ?_
    refine ReadyT.cons rfl (fun K hK => ?_) ReadyT.nil
    have c3 := B3.cell 0
    have f3 := B3.frozen 0
    simp only [List.getElem?_cons_zero] at c3
    go_simp
    refine hK.out _ _ (.inl (by simp)) ?_
    clear hK K
    refine anyT_done (by kernel_rfl) ?_ _
    obtain ⟨w4, hw4⟩ : ∃ x, x = w3.setCell ⟨gr, 0, none⟩ (.slice va vn vc) := ⟨_, rfl⟩
    rw [← hw4]
    have kc : Chg (fun b => b = gr) w3 w4 := by rw [hw4]; exact (Chg.refl _ w3).cell 0 (.slice va vn vc)
    have B4 : Blk w4 gr 32 [.slice va vn vc, .int .i64 nb] := by rw [hw4]; exact B3.set_ 0 (.slice va vn vc)
    have hgl := HGL.out
    have KA : Hid (Chg (fun b => b = gr) w w4) := (Chg.of_below (F := fun b => b = gr) k3).trans kc fun _ _ h => h
    have D4 : FsD (fun j => S j ∨ (w.heap.size ≤ j ∧ j < w4.heap.size)) w4 (F.take i ++ F.drop p) (xs.take i ++ xs.drop p) :=
      (((F1.out.1.append (F2.out.1)).below k3).chg kc fun j hj e => HSG.out (e ▸ hj)).mono fun j hj => .inl hj
    have o4 : w4.ownsRow w.heap.size 55 2 (.slice va vn vc) (F.take i ++ F.drop p).length (fcs (F.take i ++ F.drop p) (xs.take i ++ xs.drop p)) := own_chg o3 kc fun b hb e => by
      have := (o3.lt b hb).1
      omega
    have I4 : Hid (IsFs (fun j => S j ∨ (w.heap.size ≤ j ∧ j < w4.heap.size)) w4 (.slice va vn vc) (F.take i ++ F.drop p) (xs.take i ++ xs.drop p)) := isFs_own o4 D4 fun b hb => .inr (o4.lt b hb)
    have B4H := Lib.hid B4
    clear B4 D4 o4 kc hw4 c3 f3 o1 o2 o3 g2 g3 a2 a3 B1 B2 B3 k1 k2 k3 hw1 hr1 S0 c0 hgl b0
    go_wp2
    go_end0
    exact ⟨rfl, KA.out, .slice va vn vc, _, B4H.out, by rw [HD.out]; exact I4.out⟩
  · have hat : M.atI F k = -1 := by rw [M.atI, ← hi, if_neg hlt]
    rw [hat] at C
    have HD : Hid (M.fdrop F k = F) := M.fdrop_none (by rw [← hi]; exact hlt)
    have HB := Lib.hid hb
    have HF := Lib.hid hF
    clear hF hb hat hlt hle hs hi hk hS
    go_enter Tryz.func37, Tryz.ntmps37
    go_wp2_with fail
    refine C.out.mono ?_
    rintro e w1 ⟨rfl, rfl⟩
    clear C
    go_wp2
    go_end0
    exact ⟨rfl, Chg.refl _ _, v, xs, HB.out, by rw [HD.out]; exact HF.out.mono fun j hj => .inl hj⟩

end Go.Proofs.YtgmhfianpdhnmaaGreatDoor
