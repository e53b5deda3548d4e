/-
  CONTRACTS OF orlopref11.put, Copy. Conditions: the files lie so, out of their box.
  CONTRACTS OF orlopref11.Copy, Same, Small. Conditions: the files lie so.
  CONTRACT OF orlopref11.Same. Conditions: the files lie so.
  CONTRACT OF orlopref11.Commit. Conditions: the files and the changes lie so.
-/
import Derived.Test.YtphcbpfpelonaaaGreatDoorPf31
import Derived.Test.YtphcbpfpelonaaaGreatDoorPf25

namespace Go.Proofs.YtphcbpfpelonaaaGreatDoor
open Go.RowKit
set_option linter.unusedVariables false
set_option maxRecDepth 100000

theorem ownRow_mono {w : World} {B B' n size : Nat} {e : TypeId} {v : Value} {xs : List Value} (h : w.ownsRow B e size v n xs) (hb : B' ≤ B) : w.ownsRow B' e size v n xs :=
  ⟨h.1, h.2.imp id fun ⟨g, cap, cur, h1, h2, h3⟩ => ⟨g, cap, cur, h1, Nat.le_trans hb h2, h3⟩⟩

theorem IsB.chgN {F : Nat → Prop} {w w' : World} {v : Value} {bs : List UInt8} (h : IsB w v bs) (k : Chg F w w') (hl : bs ≠ [] → Lies (fun b => ¬ F b) v) : IsB w' v bs := by
  by_cases h0 : bs = []
  · obtain ⟨ao, cap, rfl, h1, h2, h3⟩ := h
    exact ⟨ao, cap, rfl, h1, h2, .inl h0⟩
  · exact h.chg k (hl h0)

theorem M.lessF_at {F : M.Fs} {k : List UInt8} {j : Nat} (hj : j ≤ F.length) (h : ∀ x, x < j → bytesBefore (F.getD x default).nm k = true) (e : j = F.length ∨ bytesBefore (F.getD j default).nm k = false) : M.lessF F k = j := by
  have g : ∀ j, (hj : j < F.length) → F.getD j default = F[j] := fun j hj => by rw [List.getD_eq_getElem?_getD, List.getElem?_eq_getElem hj]; rfl
  by_cases hlt : j < F.length
  · rw [M.lessF, List.findIdx_eq hlt]
    refine ⟨?_, fun x hx => ?_⟩
    · rcases e with e | e
      · omega
      · rw [g j hlt] at e
        rw [e]
        rfl
    · have := h x hx
      rw [g x (by omega)] at this
      rw [this]
      rfl
  · have e2 : j = F.length := by omega
    rw [e2, M.lessF, List.findIdx_eq_length]
    intro q hq
    obtain ⟨x, hx, rfl⟩ := List.mem_iff_getElem.1 hq
    have := h x (by omega)
    rw [g x hx] at this
    rw [this]
    rfl

theorem fs_one {S : Nat → Prop} {w : World} {q : Nat} {t : TypeId} {nm bs : List UInt8} {dv : Value} (hb : Blk w q t [.string ⟨nm.toArray⟩, dv]) (hd : IsB w dv bs) (h0 : ∀ n c, dv = .slice none n c → c = 0) (hl : Lies S dv) (hn : nm.length ≤ maxLen) (hq : S q) :
    IsFs S w (.slice (some ⟨q, 0, none⟩) 1 1) [⟨nm, bs⟩] [dv] := by
  refine ⟨⟨rfl, fun i hi => ?_⟩, _, 1, rfl, Nat.le_refl _, by unfold maxLen; omega, (fun h => by cases h), .inr ⟨q, 0, rfl, hq, hb.lt, fun j u hj => ?_⟩⟩
  · have : i = 0 := by simp at hi; exact hi
    subst this
    exact ⟨hd, h0, hl, hn⟩
  · rw [Nat.zero_add, hb.cell]
    exact hj


end Go.Proofs.YtphcbpfpelonaaaGreatDoor

namespace Go.Proofs.YtphcbpfpelonaaaGreatDoor
open Go.RowKit
set_option linter.unusedVariables false
set_option maxRecDepth 100000

/-- Are changes such as are gone through? -/
def M.smallAt (c : M.FC) : Prop := c.nm.length ≤ 100 ∧ c.data.length ≤ 10000
def M.sumTo (l : M.FL) (k : Nat) : Nat := ((l.take k).map fun c => c.data.length).sum
def M.SmallF (l : M.FL) : Prop := l.length ≤ 80 ∧ (∀ i, i < l.length → M.smallAt (l.getD i default)) ∧ M.sumTo l l.length ≤ 30000
noncomputable instance (l : M.FL) : Decidable (M.SmallF l) := Classical.propDecidable _

theorem M.sumTo_next (l : M.FL) (k : Nat) (hk : k < l.length) : M.sumTo l (k + 1) = M.sumTo l k + (l.getD k default).data.length := by
  rw [M.sumTo, List.take_add_one, List.getElem?_eq_getElem hk, List.map_append, List.sum_append, List.getD_eq_getElem?_getD, List.getElem?_eq_getElem hk]
  simp [M.sumTo]

set_option maxHeartbeats 8000000 in
theorem rsmall_any {w : World} {v : Value} {l : M.FL} {xs : List Value} (h : IsFL w v l xs) :
    Calls Tryz.prog 6 #[v] w fun e w' => e = .returned (.bool (decide (M.SmallF l))) ∧ w' = w := by
  obtain ⟨ao, cap, e⟩ : ∃ ao cap, v = .slice ao l.length cap := by obtain ⟨a, c, e, _⟩ := h; exact ⟨a, c, e⟩
  subst e
  obtain ⟨n, hn⟩ : ∃ n, n = l.length := ⟨_, rfl⟩
  rw [← hn] at h ⊢
  have HN : Hid (l.length = n) := hn.symm
  have HL := Lib.hid h
  have hcap : n ≤ maxLen := by
    obtain ⟨a, c, e, h1, h2, _⟩ := h
    injection e with e1 e2 e3
    omega
  have HM := Lib.hid hcap
  clear h hn hcap
  go_enter Tryz.func6, Tryz.ntmps6
  go_wp2
  go_loopw [3, 4] (fun a i wr => ∃ j : Nat, i = .int .i64 (j : Int) ∧ Hid (j ≤ n ∧ j ≤ 80 ∧ ∀ x, x < j → M.smallAt (l.getD x default)) ∧ (∃ z : Nat, a = .int .i64 (z : Int) ∧ Hid (z = M.sumTo l j) ∧ Hid (z ≤ 10000 * j)) ∧ wr = w)
    (fun a i _ => n - numOf i)
  case atStart => exact ⟨0, rfl, ⟨Nat.zero_le _, Nat.zero_le _, fun x hx => by omega⟩, ⟨0, rfl, rfl, Nat.zero_le _⟩, rfl⟩
  case round =>
    obtain ⟨j, rfl, hj, ⟨z, rfl, hz, hzb⟩, rfl⟩ := hrel
    by_cases hlt : j < n
    · have b1 : (j : Int) < (n : Int) := by omega
      have hj' : j < l.length := by rw [HN.out]; exact hlt
      by_cases h80 : j < 80
      · have b2 : ¬ (80 : Int) ≤ (j : Int) := by omega
        obtain ⟨b, off, rfl, d0, d1, _, ib, _, hnl⟩ := HL.out.at_ j hj'
        obtain ⟨xa, xc, ex⟩ := ib.shape
        rw [ex] at d1
        obtain ⟨q, hq⟩ : ∃ q, q = (l.getD j default).data.length := ⟨_, rfl⟩
        obtain ⟨p, hp⟩ : ∃ q, q = (l.getD j default).nm.length := ⟨_, rfl⟩
        have hnx := M.sumTo_next l j hj'
        have hsm : M.smallAt (l.getD j default) ↔ p ≤ 100 ∧ q ≤ 10000 := by rw [M.smallAt, hp, hq]
        obtain ⟨sn, hsn⟩ : ∃ s : ByteArray, s = ⟨(l.getD j default).nm.toArray⟩ := ⟨_, rfl⟩
        have zsn : sn.size = p := by rw [hsn, hp]; rfl
        rw [← hq] at d1 hnx
        rw [← hsn] at d0
        have HSM := Lib.hid hsm
        have HNX := Lib.hid hnx
        have HLT := Lib.hid hlt
        have H80 := Lib.hid h80
        have g2 : (0 : Int) ≤ (j : Int) := by omega
        have g3 : ((j : Int)).toNat = j := by omega
        have hzz := hzb.out
        have G1 : Hid (wrap64 ((j : Int) + 1) = ((j + 1 : Nat) : Int)) := wrap_next (by omega)
        have HNO : Hid (¬ M.smallAt (l.getD j default) → decide (M.SmallF l) = false) := fun hno => decide_eq_false fun hs => hno (hs.2.1 j (by rw [HN.out]; exact HLT.out))
        clear ib ex hq hp hnx hsm hsn hlt hj' h80 hnl
        by_cases s1 : p ≤ 100
        · have b3 : ¬ (100 : Int) < (p : Int) := by omega
          by_cases s2 : q ≤ 10000
          · have b4 : ¬ (10000 : Int) < (q : Int) := by omega
            obtain ⟨y, hy⟩ : ∃ y, y = z + q := ⟨_, rfl⟩
            have HYB : Hid (y ≤ 10000 * (j + 1)) := by rw [Hid]; omega
            have HY : Hid (y = M.sumTo l (j + 1)) := by rw [Hid, HNX.out, ← hz.out]; exact hy
            have G0 : Hid (wrap64 ((z : Int) + (q : Int)) = (y : Int)) := by
              rw [Hid, wrap_id (by have := H80.out; omega)]
              omega
            have hS : Hid (j + 1 ≤ n ∧ j + 1 ≤ 80 ∧ ∀ x, x < j + 1 → M.smallAt (l.getD x default)) := ⟨HLT.out, H80.out, fun x hx => by
              by_cases e : x = j
              · rw [e]; exact HSM.out.2 ⟨s1, s2⟩
              · exact hj.out.2.2 x (by omega)⟩
            clear hj hz hzb hy hzz s1 s2
            go_wp2
            go_roundw
            case rel => exact ⟨j + 1, by first | rfl | rw [G1.out], hS, ⟨y, by first | rfl | rw [G0.out], HY, HYB⟩, trivial⟩
            case measure =>
              have := HLT.out
              try rw [G1.out]
              show n - (((j + 1 : Nat) : Int)).toNat < n - ((j : Int)).toNat
              omega
          · have b4 : (10000 : Int) < (q : Int) := by omega
            have hR : Hid (decide (M.SmallF l) = false) := HNO.out fun h => s2 (HSM.out.1 h).2
            clear hj hz hzb hzz s1 s2
            go_wp2
            go_ret
            exact ⟨by rw [hR.out]; rfl, rfl⟩
        · have b3 : (100 : Int) < (p : Int) := by omega
          have hR : Hid (decide (M.SmallF l) = false) := HNO.out fun h => s1 (HSM.out.1 h).1
          clear hj hz hzb hzz s1
          go_wp2
          go_ret
          exact ⟨by rw [hR.out]; rfl, rfl⟩
      · have b2 : (80 : Int) ≤ (j : Int) := by omega
        have hR : Hid (decide (M.SmallF l) = false) := decide_eq_false fun h => by have := h.1; omega
        clear hj hlt h80 hz hzb hj'
        go_wp2
        go_ret
        exact ⟨by rw [hR.out]; rfl, rfl⟩
    · have b1 : ¬ (j : Int) < (n : Int) := by omega
      have e : j = l.length := by have := hj.out.1; have := HN.out; omega
      have hR : Hid (decide (M.SmallF l) = decide ((z : Int) ≤ 30000)) := by
        rw [Hid]
        have hz30 : (z : Int) ≤ 30000 ↔ z ≤ 30000 := by omega
        refine decide_eq_decide.2 (Iff.trans ⟨fun h => ?_, fun h => ⟨by have := hj.out.2.1; omega, fun i hi => hj.out.2.2 i (by omega), ?_⟩⟩ hz30.symm)
        · rw [hz.out, e]; exact h.2.2
        · rw [hz.out, e] at h; exact h
      clear hj hlt hz hzb e
      go_wp2
      go_ret
      exact ⟨by rw [hR.out]; rfl, rfl⟩

end Go.Proofs.YtphcbpfpelonaaaGreatDoor

namespace Go.Proofs.YtphcbpfpelonaaaGreatDoor
open Go.RowKit
set_option linter.unusedVariables false
set_option maxRecDepth 100000

theorem M.take_succ_fs (A B : M.Fs) (k : Nat) (ha : k < A.length) (hb : k < B.length) : A.take (k + 1) = B.take (k + 1) ↔ A.take k = B.take k ∧ A.getD k default = B.getD k default := by
  rw [List.take_add_one, List.take_add_one, List.getElem?_eq_getElem ha, List.getElem?_eq_getElem hb, List.getD_eq_getElem?_getD, List.getD_eq_getElem?_getD, List.getElem?_eq_getElem ha, List.getElem?_eq_getElem hb]
  simp only [Option.toList, Option.getD_some]
  constructor
  · intro h
    have := List.append_inj h (by rw [List.length_take, List.length_take]; omega)
    exact ⟨this.1, by simpa using this.2⟩
  · rintro ⟨h1, h2⟩
    rw [h1, h2]

theorem M.fil_eq (a b : M.Fil) : a = b ↔ a.nm = b.nm ∧ a.data = b.data := by
  cases a; cases b; simp

noncomputable instance (A B : M.Fs) : Decidable (A = B) := Classical.propDecidable _

end Go.Proofs.YtphcbpfpelonaaaGreatDoor

namespace Go.Proofs.YtphcbpfpelonaaaGreatDoor
open Go.RowKit
set_option linter.unusedVariables false
set_option maxRecDepth 100000

def M.nameAt (c : M.FC) : Prop := 1 ≤ c.nm.length ∧ c.nm.length ≤ 40

theorem M.names_iff (l : M.FL) : M.NamesOk l ↔ ∀ i, i < l.length → M.nameAt (l.getD i default) ∧ ∀ k, k < i → (l.getD k default).nm ≠ (l.getD i default).nm := by
  have g : ∀ j, (hj : j < l.length) → l.getD j default = l[j] := fun j hj => by rw [List.getD_eq_getElem?_getD, List.getElem?_eq_getElem hj]; rfl
  constructor
  · intro h i hi
    refine ⟨h.1 _ (by rw [g i hi]; exact List.getElem_mem hi), fun k hk => M.names_ne h hi hk⟩
  · intro h
    refine ⟨fun c hc => ?_, ?_⟩
    · obtain ⟨i, hi, rfl⟩ := List.mem_iff_getElem.1 hc
      have := (h i hi).1
      rwa [g i hi] at this
    · rw [List.Nodup, List.pairwise_map, List.pairwise_iff_getElem]
      intro i j hi hj hij e
      have := (h j hj).2 i hij
      rw [g i hi, g j hj] at this
      exact this e

theorem M.fdrop_le (F : M.Fs) (k : List UInt8) : (M.fdrop F k).length ≤ F.length := by
  rw [M.fdrop, List.length_append, List.length_take, List.length_drop]
  omega

theorem M.fput_le (F : M.Fs) (k b : List UInt8) : (M.fput F k b).length ≤ F.length + 1 := by
  have := M.fdrop_le F k
  rw [M.fput, List.length_append, List.length_cons, List.length_take, List.length_drop]
  omega

theorem M.fapply_le (F : M.Fs) (l : M.FL) : ∀ k, k ≤ l.length → (M.fapply F (l.take k)).length ≤ F.length + k
  | 0, _ => Nat.le_refl _
  | k + 1, h => by
    have ih := M.fapply_le F l k (by omega)
    rw [M.fapply_next F l k (by omega), M.fstep]
    split
    · have := M.fdrop_le (M.fapply F (l.take k)) (l.getD k default).nm
      omega
    · have := M.fput_le (M.fapply F (l.take k)) (l.getD k default).nm (l.getD k default).data
      omega

theorem M.atI_neg (F : M.Fs) (k : List UInt8) : (M.atI F k < 0) ↔ M.hasF F k = false := by
  rw [M.atI]
  by_cases h : M.atF F k < F.length
  · rw [if_pos h]
    rw [M.atF, List.findIdx_lt_length] at h
    have : M.hasF F k = true := by rw [M.hasF, List.any_eq_true]; exact h
    rw [this]
    constructor
    · intro h; omega
    · intro h; cases h
  · rw [if_neg h]
    have : M.hasF F k = false := by
      cases hh : M.hasF F k with
      | false => rfl
      | true =>
        rw [M.hasF, List.any_eq_true] at hh
        exact absurd (by rw [M.atF, List.findIdx_lt_length]; exact hh) h
    rw [this]
    exact ⟨fun _ => rfl, fun _ => by decide⟩

theorem IsFL.there {w : World} {v : Value} {l : M.FL} {xs : List Value} (h : IsFL w v l xs) (i : Nat) (hi : i < l.length) (hn : (l.getD i default).data ≠ []) : Lies (fun k => k < w.heap.size) (xs.getD i undef) := by
  obtain ⟨ao, cap, e, _, _, _, h1, _⟩ := h
  exact (h1 i hi).1.there hn

end Go.Proofs.YtphcbpfpelonaaaGreatDoor
