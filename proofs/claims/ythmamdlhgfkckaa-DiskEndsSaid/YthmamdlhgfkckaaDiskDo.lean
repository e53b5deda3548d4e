/-
  THE STEPS OF A SCRIPT AS THEY LIE (orloplaw09.Do: a kind, a place, bytes, bools), AND orloplaw09.small. Conditions: none.
-/
import Derived.Test.YthmamdlhgfkckaaDiskFull
namespace Go.Proofs.Ythmamdlhgfkckaa
open Go.RowKit
set_option linter.unusedVariables false

namespace M
/-- A step of a script. -/
structure Step where
  kind : Int
  at_ : Int
  bytes : List UInt8
  keep : List Bool
def Step.none : Step := ⟨0, 0, [], []⟩
instance : Inhabited Step := ⟨Step.none⟩
def Step.small (a : Step) : Bool := decide (a.bytes.length ≤ 1000) && decide (a.keep.length ≤ 1000)
/-- Are the first 60 steps small enough? -/
def small (l : List Step) : Bool := (l.take 60).all Step.small
end M

/-- A step lies at the cells from off on. -/
def StepAt (w : World) (b off : Nat) (a : M.Step) : Prop := ∃ bo bc ko kc, w.cell? ⟨b, off, none⟩ = some (.int .i64 a.kind) ∧ w.cell? ⟨b, off + 1, none⟩ = some (.int .i64 a.at_) ∧
  w.cell? ⟨b, off + 2, none⟩ = some (.slice bo a.bytes.length bc) ∧ w.cell? ⟨b, off + 3, none⟩ = some (.slice ko a.keep.length kc) ∧
  IsB w (.slice bo a.bytes.length bc) a.bytes ∧ (bo = none → bc = 0) ∧ IsZ w (.slice ko a.keep.length kc) a.keep ∧ (Lit.int .i64 a.kind).wf = true ∧ (Lit.int .i64 a.at_).wf = true

/-- The value is a slice of the steps l. -/
def IsSteps (w : World) (v : Value) (l : List M.Step) : Prop := ∃ ao cap, v = .slice ao l.length cap ∧ l.length ≤ cap ∧ cap ≤ maxLen ∧
  (l = [] ∨ ∃ b off, ao = some ⟨b, off, none⟩ ∧ ∀ i, i < l.length → StepAt w b (off + i * 4) (l.getD i M.Step.none))

theorem IsSteps.shape {w : World} {v : Value} {l : List M.Step} (h : IsSteps w v l) : ∃ ao cap, v = .slice ao l.length cap := by
  obtain ⟨ao, cap, rfl, _⟩ := h
  exact ⟨ao, cap, rfl⟩

/-- What lay below B stays, where only blocks from B on, and new ones, have turned. -/
theorem IsB.chgB {B : Nat} {F : Nat → Prop} {w w' : World} {v : Value} {bs : List UInt8} (h : IsB w v bs) (k : Chg F w w') (hF : ∀ b, b < w.heap.size → ¬ F b) : IsB w' v bs := by
  by_cases hn : bs = []
  · subst hn
    obtain ⟨ao, cap, rfl, h1, h2, h3⟩ := h
    exact ⟨ao, cap, rfl, h1, h2, .inl rfl⟩
  · exact h.chg k (fun b off sp e => hF _ (h.there hn b off sp e))

/-- The number that a value is. -/
def numOf : Value → Nat
  | .int _ n => n.toNat
  | _ => 0

theorem small_step (l : List M.Step) (k : Nat) (hk : k < l.length) (h6 : k < 60) : (l.take (k + 1)).all M.Step.small = ((l.take k).all M.Step.small && (l.getD k M.Step.none).small) := by
  rw [List.take_add_one, List.all_append]
  congr 1
  rw [List.getElem?_eq_getElem hk, List.getD_eq_getElem?_getD, List.getElem?_eq_getElem hk]
  simp

theorem small_no (l : List M.Step) (k : Nat) (hk : k < l.length) (h6 : k < 60) (h : (l.getD k M.Step.none).small = false) : M.small l = false := by
  rw [M.small, List.all_eq_false]
  refine ⟨l.getD k M.Step.none, ?_, by rw [h]; simp⟩
  rw [List.getD_eq_getElem?_getD, List.getElem?_eq_getElem hk]
  exact List.mem_take_iff_getElem.2 ⟨k, by omega, rfl⟩

set_option maxRecDepth 100000 in
set_option maxHeartbeats 4000000 in
theorem small9_any (v : Value) (l : List M.Step) (w : World) (hs : IsSteps w v l) :
    Calls Try.prog 9 #[v] w fun e w' => e = .returned (.bool (M.small l)) ∧ Below w.heap.size w w' := by
  obtain ⟨ao, cap, rfl, hc1, hc2, hcell⟩ := hs
  obtain ⟨nn, hnn⟩ : ∃ n, n = l.length := ⟨_, rfl⟩
  rw [← hnn] at hc1 ⊢
  have HNN : Hid (l.length = nn) := hnn.symm
  have HL : Hid (nn ≤ maxLen) := Nat.le_trans hc1 hc2
  have HC := Lib.hid hcell
  clear hcell hc1 hc2 hnn
  go_enter Try.func9, Try.ntmps9
  go_wp2
  go_loopw [3] (fun v wr => ∃ k : Nat, v = .int .i64 (k : Int) ∧ Hid (k ≤ nn ∧ k ≤ 60 ∧ (l.take k).all M.Step.small = true) ∧ wr = w)
    (fun v _ => 60 - numOf v)
  case atStart => exact ⟨0, rfl, ⟨Nat.zero_le _, Nat.zero_le _, by simp⟩, rfl⟩
  case round =>
    obtain ⟨k, rfl, hk, rfl⟩ := hrel
    by_cases hlt : k < nn
    · have b1 : (k : Int) < nn := by omega
      by_cases h6 : k < 60
      · have b2 : (k : Int) < 60 := by omega
        obtain ⟨b, off, rfl, hc⟩ := HC.out.resolve_left (fun e => by have := HNN.out; rw [e] at this; simp at this; omega)
        obtain ⟨bo, bc, ko, kc, c0, c1, c2, c3, _⟩ := hc k (by rw [HNN.out]; exact hlt)
        obtain ⟨n2, hn2⟩ : ∃ n, n = (l.getD k M.Step.none).bytes.length := ⟨_, rfl⟩
        obtain ⟨n3, hn3⟩ : ∃ n, n = (l.getD k M.Step.none).keep.length := ⟨_, rfl⟩
        rw [← hn2] at c2
        rw [← hn3] at c3
        have HS : Hid ((l.getD k M.Step.none).small = (decide (n2 ≤ 1000) && decide (n3 ≤ 1000))) := by rw [Hid, M.Step.small, hn2, hn3]
        have g1 : wrap64 ((k : Int) + 1) = ((k + 1 : Nat) : Int) := by unfold wrap64; omega
        have g2 : (0 : Int) ≤ (k : Int) := by omega
        have g3 : ((k : Int)).toNat = k := by omega
        have HK := Lib.hid hlt
        have H6 := Lib.hid h6
        clear c0 c1 hc hn2 hn3 hlt h6
        by_cases s2 : n2 ≤ 1000
        · have t2 : ¬ (1000 : Int) < (n2 : Int) := by omega
          by_cases s3 : n3 ≤ 1000
          · have t3 : ¬ (1000 : Int) < (n3 : Int) := by omega
            have hS : Hid (k + 1 ≤ nn ∧ k + 1 ≤ 60 ∧ (l.take (k + 1)).all M.Step.small = true) := by
              refine ⟨HK.out, H6.out, ?_⟩
              rw [small_step l k (by rw [HNN.out]; exact HK.out) H6.out, hk.out.2.2, HS.out, decide_eq_true s2, decide_eq_true s3]; rfl
            clear hk s2 s3
            go_wp2
            go_roundw
            case rel => exact ⟨k + 1, rfl, hS, trivial⟩
            case measure =>
              have := H6.out
              show 60 - (((k + 1 : Nat) : Int)).toNat < 60 - ((k : Int)).toNat
              omega
          · have t3 : (1000 : Int) < (n3 : Int) := by omega
            have hS : Hid (M.small l = false) := small_no l k (by rw [HNN.out]; exact HK.out) H6.out (by rw [HS.out, decide_eq_false s3, Bool.and_false])
            clear hk s2 s3
            go_wp2
            go_ret
            exact ⟨by rw [hS.out]; rfl, Below.refl _ _⟩
        · have t2 : (1000 : Int) < (n2 : Int) := by omega
          have hS : Hid (M.small l = false) := small_no l k (by rw [HNN.out]; exact HK.out) H6.out (by rw [HS.out, decide_eq_false s2, Bool.false_and])
          clear hk s2
          go_wp2
          go_ret
          exact ⟨by rw [hS.out]; rfl, Below.refl _ _⟩
      · have b2 : ¬ (k : Int) < 60 := by omega
        have hS : Hid (M.small l = true) := by
          have e : k = 60 := by have := hk.out; omega
          rw [Hid, M.small, ← e]; exact hk.out.2.2
        clear hk hlt h6
        go_wp2
        go_ret
        exact ⟨by rw [hS.out]; rfl, Below.refl _ _⟩
    · have b1 : ¬ (k : Int) < nn := by omega
      have hS : Hid (M.small l = true) := by
        have e : k = nn := by have := hk.out; omega
        have h := hk.out.2.2
        have hle := hk.out.2.1
        rw [Hid, M.small, List.take_of_length_le (by rw [HNN.out, ← e]; exact hle)]
        rwa [List.take_of_length_le (by rw [HNN.out, ← e]; exact Nat.le_refl _)] at h
      clear hk hlt
      go_wp2
      go_ret
      exact ⟨by rw [hS.out]; rfl, Below.refl _ _⟩

end Go.Proofs.Ythmamdlhgfkckaa
