/-
  THE PROGRAM'S May, of a value that may be. Conditions: names and texts as long as they may be; fewer than 100000 members; the library's tables lie as laid.
-/
import Derived.Test.YtbgadfaiehkanaaGreatDoorJsF3
namespace Go.Proofs.YtbgadfaiehkanaaGreatDoor
open Go.RowKit Go.Proofs Go.Shelf
set_option linter.unusedVariables false
set_option maxRecDepth 100000

def z7m : List Value := [.string ⟨#[]⟩, .int .i64 0, .bool false, .int .i64 0, .string ⟨#[]⟩, .slice none 0 0, .slice none 0 0]
theorem z7_new (w : World) : Blk (w.alloc (.cells #[.string ⟨#[]⟩, .int .i64 0, .bool false, .int .i64 0, .string ⟨#[]⟩, .slice none 0 0, .slice none 0 0] 55)) w.heap.size 55 z7m := Blk.newAt _ _ _ _ _ rfl rfl

theorem names_take {α β : Type} (m : List (α × β)) (x : α × β) (j : Nat) (hj : j < m.length) : (m.take (j + 1)).map (·.1) = (m.take j).map (·.1) ++ [(m.getD j x).1] := by
  rw [List.take_add_one, List.getElem?_eq_getElem hj, List.getD_eq_getElem?_getD, List.getElem?_eq_getElem hj, List.map_append]
  rfl

theorem names_new {β : Type} (m : List (List UInt8 × β)) (x : List UInt8 × β) (j : Nat) (hj : j < m.length) (hn : (m.map (·.1)).Nodup) : ((m.take j).map (·.1)).contains (m.getD j x).1 = false := by
  rw [← Bool.not_eq_true]
  intro h
  have h := List.contains_iff_mem.1 h
  have e := names_take m x j hj
  have h2 : ((m.take (j + 1)).map (·.1)).Nodup := by
    rw [List.map_take]
    exact List.Sublist.nodup (List.take_sublist _ _) hn
  rw [e] at h2
  exact (List.nodup_append.1 h2).2.2 _ h _ (List.mem_singleton.2 rfl) rfl

theorem IsV.cells {S : Nat → Prop} {w : World} {d : Nat} {cs : List Value} {g : M.GV} (h : IsV S w d cs g) : ∃ a1 n1 c1 a2 n2 c2, cs = vcs g.k g.b g.n g.t (.slice a1 n1 c1) (.slice a2 n2 c2) := by
  cases d with
  | zero => exact h.elim
  | succ d =>
    obtain ⟨l2, m2, ls, ms, e, _, ⟨a1, c1, r1, _⟩, _, _, ⟨a2, c2, r2, _⟩, _⟩ := h
    exact ⟨a1, _, c1, a2, _, c2, by rw [e, r1, r2]⟩

theorem MemRow.old {S : Nat → Prop} {w : World} {d : Nat} {mv : Value} {m : List (List UInt8 × M.GV)} {ms : List (List Value)} (h : MemRow S w d mv m ms) : MemRow (fun b => b < w.heap.size) w d mv m ms := by
  refine ⟨h.1, h.2.1.mono (fun b hb _ => hb), fun i hi => ?_⟩
  obtain ⟨c, e, iv⟩ := h.2.2 i hi
  exact ⟨c, e, IsV.mono (fun b hb _ => hb) d iv⟩

set_option maxHeartbeats 16000000 in
theorem mayMem_any {d : Nat} {q : Int} (HA : MA d q) : MM d q := by
  intro S mv m ms w hr hm hL
  replace hr := hr.old
  obtain ⟨ma, mc, hmv, hz⟩ := id hr.2.1
  subst hmv
  clear hz
  have HNM := Lib.hid (names_any w)
  obtain ⟨ml, hmle⟩ : ∃ y, y = m.length := ⟨_, rfl⟩
  have HML := Lib.hid hmle
  have HR := Lib.hid hr
  have HM := Lib.hid hm
  have HL := Lib.hid hL
  have hmlb : (ml : Int) ≤ 9223372036854775807 := by have := hm.2.2.2; omega
  rw [← hmle]
  clear hr hm hL hmle
  go_enter Tryz.func97, Tryz.ntmps97
  go_wp2_with fail
  refine HNM.out.mono ?_
  rintro e w1 ⟨gM, gB, rfl, h1, h2, h3, n1, k1⟩
  have HG : Hid (w.heap.size ≤ gM ∧ w.heap.size ≤ gB) := ⟨h1, by omega⟩
  have HN1 := Lib.hid n1
  have HK1 := Lib.hid k1
  clear h1 h2 h3 n1 k1 HNM
  go_wp2_with fail
  go_loopw [11] (fun i wr => ∃ j : Nat, i = .int .i64 (j : Int) ∧ Hid (j ≤ ml) ∧ Hid (NmAt wr gB gM ((m.take j).map (·.1))) ∧ Hid (Below w.heap.size w wr)) (fun i _ => ml - (intOf i).toNat)
  case atStart => exact ⟨0, rfl, Nat.zero_le _, HN1, HK1⟩
  case round =>
    obtain ⟨wz, rfl⟩ : ∃ x, x = wr := ⟨_, rfl⟩
    obtain ⟨j, rfl, hj, NZ, KZ⟩ := hrel
    by_cases hlt : j < ml
    · have b1 : (j : Int) < (ml : Int) := by omega
      have hj0 : (0 : Int) ≤ (j : Int) := Int.natCast_nonneg j
      have HLT := Lib.hid hlt
      obtain ⟨g1, o1, c1, hla⟩ := row_some HR.out.2.1 (by rw [← HML.out]; exact hlt)
      injection hla with hla _ hlc
      subst hla hlc
      have hjl : j < m.length := by rw [← HML.out]; exact hlt
      have hrz := HR.out.below KZ.out
      obtain ⟨c, hcel, hiv⟩ := hrz.2.2 j hjl
      have hel := row_el hrz.2.1 (len_of hrz.1 fun i hi => by obtain ⟨c, e, iv⟩ := hrz.2.2 i hi; rw [e, List.length_cons, iv.len]) hrz.1 hjl
      rw [hcel] at hel
      have hmy := HM.out.1 _ (getD_mem (x := ([], M.vNull)) hjl)
      have hfy := HM.out.2.2.1 _ (getD_mem (x := ([], M.vNull)) hjl)
      have hnw := names_new m ([], M.vNull) j hjl HM.out.2.1
      have hnt := names_take m ([], M.vNull) j hjl
      have hnl : ((m.take j).map (·.1)).length < 100000 := by rw [List.length_map, List.length_take]; have := HM.out.2.2.2; omega
      obtain ⟨y, hy⟩ : ∃ y, y = m.getD j ([], M.vNull) := ⟨_, rfl⟩
      rw [← hy] at hel hmy hfy hnw hnt hiv
      obtain ⟨nm, hnm⟩ : ∃ n, n = y.1 := ⟨_, rfl⟩
      rw [← hnm] at hel hmy hfy hnw hnt
      obtain ⟨gx, hgx⟩ : ∃ n, n = y.2 := ⟨_, rfl⟩
      rw [← hgx] at hmy hfy hiv
      obtain ⟨el, hl⟩ : ∃ l, l = Value.string ⟨nm.toArray⟩ :: c := ⟨_, rfl⟩
      have HE7 : Hid (el.length = 7) := by rw [Hid, hl, List.length_cons, hiv.len]
      have HE1 : Hid (∀ v ∈ el, v.oneCell' = true) := by
        rw [Hid, hl]
        intro v hv
        rcases List.mem_cons.1 hv with hv | hv
        · rw [hv]; rfl
        · exact hiv.one v hv
      have HEQ := Lib.hid hl
      rw [← hl] at hel
      have HEL := Lib.hid hel
      have HIV := Lib.hid hiv
      have HMY := Lib.hid hmy
      have HFY := Lib.hid hfy
      have HNW := Lib.hid hnw
      have HNT := Lib.hid hnt
      have HNLEN := Lib.hid hnl
      clear hel hlt hj hjl hiv hmy hfy hnw hnt hnl hgx hl hnm hy hcel hrz
      go_upto_region 5 with (first
        | (refine wpList_load_mid rfl _ (.tmp 13) rfl g1 (o1 + j * 7) rfl el _ HEL.out Tryz.underlying55 rfl (by rw [sizeM7]; exact congrArg some HE7.out.symm) ?_)
        | (refine wpList_store_blk rfl 55 (.tmp 7) (.tmp 14) rfl wz.heap.size _ rfl rfl 55 _ (z7_new wz) (by rw [sizeM7]; exact congrArg some HE7.out.symm) HE7.out.symm HE1.out ?_; intro w5 hb5 ho5))
      have k5 : Below wz.heap.size wz w5 := ((Below.refl wz.heap.size wz).alloc (Nat.le_refl _) _).trans (ho5.below (by simp) (Nat.le_refl _))
      have HIV5 := Lib.hid (HIV.out.below k5)
      have HK5 : Hid (Below w.heap.size w w5) := KZ.out.trans (k5.mono KZ.out.size)
      have HN5 : Hid (NmAt w5 gB gM ((m.take j).map (·.1))) := NZ.out.chg (Chg.of_below (F := fun _ => False) k5) (fun h => h) (fun h => h)
      obtain ⟨gN, hgN⟩ : ∃ y, y = wz.heap.size := ⟨_, rfl⟩
      rw [← hgN] at hb5 ⊢
      have HGN : Hid (gN ≠ gM ∧ w.heap.size ≤ gN) := by
        obtain ⟨_, ⟨es, hm5, _⟩, _⟩ := NZ.out
        have := hm5.lt
        exact ⟨by omega, by have := KZ.out.size; omega⟩
      obtain ⟨a1, n1, e1, a2, n2, e2, hc⟩ := HIV.out.cells
      subst hc
      rw [HEQ.out] at hb5
      have HB5 := Lib.hid hb5
      have c0 : w5.cell? ⟨gN, 0, none⟩ = some (.string ⟨nm.toArray⟩) := hb5.cell 0
      have HV := Lib.hid (valid_any nm w5 (by have := HFY.out.1; unfold maxLen at this; omega) (HL.out.below HK5.out))
      rw [HMY.out.1] at HV
      have HFN := Lib.hid HFY.out.1
      clear k5 hb5 ho5 hgN HEL HE7 HE1 HEQ NZ KZ HIV
      go_wp2_with fail
      refine HV.out.mono ?_
      rintro e w6 ⟨rfl, k6⟩
      have HB6 := Lib.hid (HB5.out.below k6 HB5.out.lt)
      have HN6 : Hid (NmAt w6 gB gM ((m.take j).map (·.1))) := HN5.out.chg (Chg.of_below (F := fun _ => False) k6) (fun h => h) (fun h => h)
      have HK6 : Hid (Below w.heap.size w w6) := HK5.out.trans (k6.mono HK5.out.size)
      have HIV6 := Lib.hid (HIV5.out.below k6)
      have c0 : w6.cell? ⟨gN, 0, none⟩ = some (.string ⟨nm.toArray⟩) := HB6.out.cell 0
      have HNN := Lib.hid (isNew_any gB gM _ nm w6 HN6.out HNLEN.out HFN.out)
      rw [HNW.out, ← HNT.out] at HNN
      clear k6 HV HB5 HN5 HK5 HIV5
      go_wp2_with fail
      refine HNN.out.mono ?_
      rintro e w7 ⟨rfl, n7, k7⟩
      have HB7 : Hid (Blk w7 gN 55 _) := HB6.out.chg k7 (fun e => HGN.out.1 e)
      have HN7 := Lib.hid n7
      have HK7 : Hid (Below w.heap.size w w7) := HK6.out.trans (k7.below HK6.out.size (fun b e => by rw [e]; exact HG.out.1))
      have HIV7 := Lib.hid (IsV.chg k7 (fun b hb e => by have := HG.out; omega) d HIV6.out)
      have cc := HB7.out
      have c1 : w7.cell? ⟨gN, 1, none⟩ = some (.int .i64 gx.k) := cc.cell 1
      have c2 : w7.cell? ⟨gN, 2, none⟩ = some (.bool gx.b) := cc.cell 2
      have c3 : w7.cell? ⟨gN, 3, none⟩ = some (.int .i64 gx.n) := cc.cell 3
      have c4 : w7.cell? ⟨gN, 4, none⟩ = some (.string ⟨gx.t.toArray⟩) := cc.cell 4
      have c5 : w7.cell? ⟨gN, 5, none⟩ = some (.slice a1 n1 e1) := cc.cell 5
      have c6 : w7.cell? ⟨gN, 6, none⟩ = some (.slice a2 n2 e2) := cc.cell 6
      have HCA := Lib.hid (HA _ _ gx w7 HIV7.out HMY.out.2 HFY.out.2 (HL.out.below HK7.out))
      clear k7 n7 cc HNN HB6 HN6 HK6 HIV6 c0
      go_wp2_with fail
      refine HCA.out.mono ?_
      rintro e w8 ⟨rfl, k8⟩
      have HN8 : Hid (NmAt w8 gB gM ((m.take (j + 1)).map (·.1))) := HN7.out.chg (Chg.of_below (F := fun _ => False) k8) (fun h => h) (fun h => h)
      have HK8 : Hid (Below w.heap.size w w8) := HK7.out.trans (k8.mono HK7.out.size)
      clear k8 HCA c1 c2 c3 c4 c5 c6
      go_wp2
      go_roundw
      case rel => exact ⟨j + 1, by go_num, HLT.out, HN8, HK8⟩
      case measure => have := HLT.out; simp [intOf]; omega
    · have b1 : ¬ (j : Int) < (ml : Int) := by omega
      clear hlt hj
      go_wp2
      go_ret
      exact ⟨rfl, KZ.out⟩

end Go.Proofs.YtbgadfaiehkanaaGreatDoor
