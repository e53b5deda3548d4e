/-
  PLAIN MATHEMATICS: blocks of 256 bytes laid end to end, and what laying a block, or turning bytes, does to the whole row. Nothing of the program. Conditions: none.
  CONTRACTS OF THE REFERENCE'S New. Conditions: none.
  CONTRACTS OF THE REFERENCE'S Load. Conditions: what is handed in is bytes.
  THE REFERENCE'S DISK AS ONE THING (RefDk: what lies where is hidden), and its calls as one contract each, every case in it. Conditions: each contract's.
  CONTRACT OF orloplaw09.Full: bytes filled up to a block. Conditions: at most 1000 bytes; what is nil has no spare room.
  THE STEPS OF A SCRIPT AS THEY LIE (orloplaw09.Do: a kind, a place, bytes, bools), AND orloplaw09.small. Conditions: none.
  THE FACE OF THE CODE'S DISK (DiskOk): what each of its calls does, in the words of M.Dsk, over a predicate Dk T w g m that hides what lies where. Nothing of it is proved here: DiskIs proves it of the code. Conditions: none.
  THE CODE'S DISK IN MEMORY (DkAt): its struct's block, the row of safe bytes, the row of writes that wait; how it lasts, and what becomes of it. Conditions: none.
  CONTRACTS OF bytes.Clone AND OF package disk's small functions: New, Load, Blocks, Down, Waiting, Image, Arm, has, act. Conditions: the disk lies so; rows of at most 2^47 bytes.
-/
import Derived.Test.YtdojalhaklkegaaDoorPkA

namespace Go.Proofs.YtdojalhaklkegaaDoor.M
set_option linter.unusedVariables false

theorem flat_set : ∀ (s : List (List UInt8)) (i : Nat) (b : List UInt8), (∀ c ∈ s, c.length = 256) → i < s.length → (s.set i b).flatten = s.flatten.take (256 * i) ++ b ++ s.flatten.drop (256 * i + 256)
  | [], _, _, _, h => by cases h
  | c :: s, 0, b, h, _ => by
    have hc := h c (by simp)
    rw [List.set_cons_zero, List.flatten_cons, List.flatten_cons, Nat.mul_zero, List.take_zero, List.nil_append, Nat.zero_add, ← hc, List.drop_left]
  | c :: s, i + 1, b, h, hi => by
    have hc := h c (by simp)
    have ih := flat_set s i b (fun x hx => h x (by simp [hx])) (by simpa using hi)
    rw [List.set_cons_succ, List.flatten_cons, List.flatten_cons, ih]
    have e1 : 256 * (i + 1) = c.length + 256 * i := by omega
    have e2 : 256 * (i + 1) + 256 = c.length + (256 * i + 256) := by omega
    rw [e2, e1, List.take_length_add_append, List.drop_length_add_append]
    simp [List.append_assoc]

theorem flat_mid : ∀ (s : List (List UInt8)) (i : Nat), (∀ c ∈ s, c.length = 256) → i < s.length → (s.flatten.drop (256 * i)).take 256 = s.getD i []
  | [], _, _, h => by cases h
  | c :: s, 0, h, _ => by
    have hc := h c (by simp)
    rw [Nat.mul_zero, List.drop_zero, List.flatten_cons, ← hc, List.take_left]
    rfl
  | c :: s, i + 1, h, hi => by
    have hc := h c (by simp)
    have ih := flat_mid s i (fun x hx => h x (by simp [hx])) (by simpa using hi)
    have e1 : 256 * (i + 1) = c.length + 256 * i := by omega
    rw [List.flatten_cons, e1, List.drop_length_add_append, ih]
    rfl

theorem flat_turn1 : ∀ (s : List (List UInt8)) (p : Nat) (x : UInt8), (∀ c ∈ s, c.length = 256) → (turned1 s p x).flatten = s.flatten.set p x
  | [], p, x, _ => by simp [turned1]
  | c :: s, p, x, h => by
    have hc := h c (by simp)
    by_cases hp : p < 256
    · have e1 : p / 256 = 0 := by omega
      have e2 : p % 256 = p := by omega
      rw [turned1, e1, e2, List.set_cons_zero, List.flatten_cons, List.flatten_cons, List.set_append_left _ _ (by omega)]
      rfl
    · obtain ⟨q, rfl⟩ : ∃ q, p = q + 256 := ⟨p - 256, by omega⟩
      have ih := flat_turn1 s q x (fun y hy => h y (by simp [hy]))
      rw [turned1] at ih
      have e1 : (q + 256) / 256 = q / 256 + 1 := by omega
      have e2 : (q + 256) % 256 = q % 256 := by omega
      rw [turned1, e1, e2, List.set_cons_succ, List.flatten_cons, List.flatten_cons, List.set_append_right _ _ (by omega), hc, Nat.add_sub_cancel, ← ih]
      rfl

theorem turns_full (s : List (List UInt8)) (a : Int) (b : List UInt8) (h : ∀ c ∈ s, c.length = 256) : ∀ j, ∀ c ∈ turns s a b j, c.length = 256
  | 0, c, hc => h c hc
  | j + 1, c, hc => by
    rw [turns] at hc
    split at hc
    · rw [turned1] at hc
      rcases List.mem_or_eq_of_mem_set hc with hc | hc
      · exact turns_full s a b h j c hc
      · rw [hc, List.length_set]
        rename_i hin
        have hl : (a + (j : Int)).toNat / 256 < (turns s a b j).length := by rw [turns_length]; omega
        rw [List.getD_eq_getElem?_getD, List.getElem?_eq_getElem hl]
        exact turns_full s a b h j _ (List.getElem_mem hl)
    · exact turns_full s a b h j c hc

/-- Byte p behind a row of bytes was laid. -/
theorem turns_get (s : List (List UInt8)) (a : Int) (b : List UInt8) (h : ∀ c ∈ s, c.length = 256) (p : Nat) (hp : p < 256 * s.length) : ∀ j,
    (turns s a b j).flatten.getD p 0 = if a ≤ p ∧ (p : Int) < a + j then b.getD ((p : Int) - a).toNat 0 else s.flatten.getD p 0
  | 0 => by rw [turns, if_neg (by omega)]
  | j + 1 => by
    have ih := turns_get s a b h p hp j
    have hfl : (turns s a b j).flatten.length = 256 * s.length := by rw [flat_length _ (turns_full s a b h j), turns_length]
    rw [turns]
    by_cases hin : 0 ≤ a + (j : Int) ∧ a + (j : Int) < 256 * s.length
    · rw [if_pos hin, flat_turn1 _ _ _ (turns_full s a b h j)]
      by_cases hpe : (a + (j : Int)).toNat = p
      · have e : ((p : Int) - a).toNat = j := by omega
        rw [hpe, if_pos (by omega), e, List.getD_eq_getElem?_getD, List.getElem?_set_self (by omega)]
        rfl
      · rw [List.getD_eq_getElem?_getD, List.getElem?_set_ne hpe, ← List.getD_eq_getElem?_getD, ih]
        by_cases hc : a ≤ p ∧ (p : Int) < a + (j : Int)
        · rw [if_pos hc, if_pos (by omega)]
        · rw [if_neg hc, if_neg (by omega)]
    · rw [if_neg hin, ih]
      by_cases hc : a ≤ p ∧ (p : Int) < a + (j : Int)
      · rw [if_pos hc, if_pos (by omega)]
      · rw [if_neg hc, if_neg (by omega)]

theorem eq_of_getD {l r : List UInt8} (hl : l.length = r.length) (h : ∀ p, p < l.length → l.getD p 0 = r.getD p 0) : l = r := by
  refine List.ext_getElem hl fun p h1 h2 => ?_
  have := h p h1
  rw [List.getD_eq_getElem?_getD, List.getD_eq_getElem?_getD, List.getElem?_eq_getElem h1, List.getElem?_eq_getElem h2] at this
  exact this

/-- Nothing of it lies on the disk. -/
theorem tamper_none (m : Dsk) (h : m.Ok) (a : Int) (b : List UInt8) (hno : 256 * (m.safe.length : Int) ≤ a ∨ a ≤ -(b.length : Int)) : (m.tamper a b).safe.flatten = m.safe.flatten := by
  have hf := flat_length _ (turns_full m.safe a b h.full b.length)
  rw [turns_length] at hf
  refine eq_of_getD (by rw [Dsk.tamper, hf, flat_length _ h.full]) fun p hp => ?_
  rw [Dsk.tamper, hf] at hp
  rw [Dsk.tamper, turns_get _ _ _ h.full p hp, if_neg (by omega)]

theorem getD_take (l : List UInt8) (n p : Nat) (h : p < n) : (l.take n).getD p 0 = l.getD p 0 := by
  rw [List.getD_eq_getElem?_getD, List.getElem?_take, if_pos h, ← List.getD_eq_getElem?_getD]

theorem getD_drop (l : List UInt8) (n p : Nat) : (l.drop n).getD p 0 = l.getD (n + p) 0 := by
  rw [List.getD_eq_getElem?_getD, List.getElem?_drop, ← List.getD_eq_getElem?_getD]

theorem getD_app (l r : List UInt8) (p : Nat) : (l ++ r).getD p 0 = if p < l.length then l.getD p 0 else r.getD (p - l.length) 0 := by
  rw [List.getD_eq_getElem?_getD]
  split
  · rename_i h
    rw [List.getElem?_append_left h, ← List.getD_eq_getElem?_getD]
  · rename_i h
    rw [List.getElem?_append_right (by omega), ← List.getD_eq_getElem?_getD]

/-- What lies on the disk: from o on, of the bytes from k on, n. -/
theorem tamper_some (m : Dsk) (h : m.Ok) (a : Int) (b : List UInt8) (o k n : Nat) (ho : o = a.toNat) (hk : k = (-a).toNat) (hn : n = min (b.length - k) (256 * m.safe.length - o)) (hoN : o ≤ 256 * m.safe.length) (hkb : k ≤ b.length) :
    (m.tamper a b).safe.flatten = m.safe.flatten.take o ++ (b.drop k).take n ++ m.safe.flatten.drop (o + n) := by
  have hf := flat_length _ (turns_full m.safe a b h.full b.length)
  rw [turns_length] at hf
  have hm := flat_length _ h.full
  have l1 : (m.safe.flatten.take o).length = o := by rw [List.length_take, hm]; omega
  have l2 : ((b.drop k).take n).length = n := by rw [List.length_take, List.length_drop]; omega
  refine eq_of_getD ?_ fun p hp => ?_
  · rw [Dsk.tamper, hf, List.length_append, List.length_append, l1, l2, List.length_drop, hm]
    omega
  · rw [Dsk.tamper, hf] at hp
    rw [Dsk.tamper, turns_get _ _ _ h.full p hp, getD_app, List.length_append, l1, l2, getD_app, l1]
    by_cases h1 : p < o
    · rw [if_neg (by omega), if_pos (by omega), if_pos h1, getD_take _ _ _ h1]
    · by_cases h2 : p < o + n
      · rw [if_pos (by omega), if_pos h2, if_neg h1, getD_take _ _ _ (by omega), getD_drop]
        congr 1
        omega
      · rw [if_neg (by omega), if_neg h2, getD_drop]
        congr 1
        omega

theorem cut_full (b : List UInt8) (n : Nat) (h : 256 * n ≤ b.length) : ∀ c ∈ cut256 b n, c.length = 256 := by
  induction n with
  | zero => intro c hc; cases hc
  | succ n ih =>
    intro c hc
    rw [cut256] at hc
    rcases List.mem_append.1 hc with hc | hc
    · exact ih (by omega) c hc
    · simp only [List.mem_singleton] at hc
      rw [hc, List.length_take, List.length_drop]
      omega

theorem cut_flat (b : List UInt8) (n : Nat) : (cut256 b n).flatten = b.take (256 * n) := by
  induction n with
  | zero => simp [cut256]
  | succ n ih =>
    rw [cut256, List.flatten_append, ih, show 256 * (n + 1) = 256 * n + 256 by omega, List.take_add]
    simp

end Go.Proofs.YtdojalhaklkegaaDoor.M

namespace Go.Proofs.YtdojalhaklkegaaDoor
open Go.RowKit
set_option linter.unusedVariables false

theorem rows_row : RowTy 130 24 1 24 (.slice none 0 0) := ⟨Tryd.underlying130, by kernel_rfl, rfl, by decide⟩

def M.zdsk (j : Nat) : M.Dsk := ⟨List.replicate j M.zero256, [], 0, false⟩

theorem M.zdsk_next (j : Nat) : ({ M.zdsk j with safe := (M.zdsk j).safe ++ [M.zero256] } : M.Dsk) = M.zdsk (j + 1) := by
  rw [M.zdsk, M.zdsk, List.replicate_succ']

theorem M.zdsk_len (j : Nat) : (M.zdsk j).safe.length = j := List.length_replicate

end Go.Proofs.YtdojalhaklkegaaDoor

namespace Go.Proofs.YtdojalhaklkegaaDoor
open Go.RowKit
set_option linter.unusedVariables false

namespace M
/-- The first j blocks of bytes, the others 0. -/
def dpart (b : List UInt8) (n j : Nat) : Dsk := ⟨cut256 b j ++ List.replicate (n - j) zero256, [], 0, false⟩

theorem cut_length (b : List UInt8) (j : Nat) : (cut256 b j).length = j := by
  induction j with
  | zero => rfl
  | succ j ih => rw [cut256, List.length_append, ih]; rfl

theorem dpart_len (b : List UInt8) (n j : Nat) (h : j ≤ n) : (dpart b n j).safe.length = n := by
  rw [dpart]
  simp only [List.length_append, cut_length, List.length_replicate]
  omega

theorem dpart_zero (b : List UInt8) (n : Nat) : dpart b n 0 = zdsk n := rfl

theorem dpart_all (b : List UInt8) (n : Nat) (h : n = b.length / 256) : dpart b n n = dload b := by
  rw [dpart, dload, Nat.sub_self, ← h]
  simp

theorem dpart_next (b : List UInt8) (n j : Nat) (h : j < n) : ({ dpart b n j with safe := (dpart b n j).safe.set j ((b.drop (256 * j)).take 256) } : Dsk) = dpart b n (j + 1) := by
  obtain ⟨k, hk⟩ : ∃ k, n - j = k + 1 := ⟨n - j - 1, by omega⟩
  rw [dpart, dpart, hk, show n - (j + 1) = k by omega, List.replicate_succ, List.set_append_right _ _ (by rw [cut_length]; exact Nat.le_refl _), cut_length, Nat.sub_self, List.set_cons_zero, cut256, List.append_assoc]
  rfl
end M

theorem IsB.mid {w : World} {b off n cap : Nat} {bs : List UInt8} (h : IsB w (.slice (some ⟨b, off, none⟩) n cap) bs) (i k c : Nat) (hi : i + k ≤ bs.length) (hk : k ≤ c) (hc : c ≤ maxLen) : IsB w (.slice (some ⟨b, off + i, none⟩) k c) ((bs.drop i).take k) := by
  obtain ⟨ao, cap', e, h1, h2, h3⟩ := h
  injection e with e1 e2 e3
  subst e1
  have hl : ((bs.drop i).take k).length = k := by rw [List.length_take, List.length_drop]; omega
  refine ⟨_, c, by rw [hl], by omega, hc, ?_⟩
  rcases h3 with h | ⟨b', off', e, h⟩
  · left
    rw [h]
    simp
  · injection e with e
    injection e with e4 e5
    subst e4 e5
    refine .inr ⟨b, off + i, rfl, fun m hm => ?_⟩
    rw [hl] at hm
    rw [Nat.add_assoc, h (i + m) (by omega)]
    simp [List.getD_eq_getElem?_getD, hm]

end Go.Proofs.YtdojalhaklkegaaDoor

namespace Go.Proofs.YtdojalhaklkegaaDoor
open Go.RowKit
set_option linter.unusedVariables false

namespace M
/-- A Write: what is behind it, and its answer. -/
def Dsk.doWrite (m : Dsk) (i : Int) (b : List UInt8) : Dsk × Int :=
  if 0 ≤ i ∧ i < m.safe.length ∧ b.length = 256 then
    if m.down = true then (m, 11) else (m.write i.toNat b, if (({ m with wait := m.wait ++ [(i.toNat, b)] } : Dsk).goes).2 then 11 else 0)
  else (m, 1)
/-- A Sync: what is behind it, and its answer. -/
def Dsk.doSync (m : Dsk) : Dsk × Int :=
  if m.down = true then (m, 11) else if m.goes.2 = true then (m.goes.1, 11) else (m.goes.1.synced, 0)
/-- What a Read hands back: bytes, and its answer. -/
def Dsk.doRead (m : Dsk) (i : Int) : List UInt8 × Int := if 0 ≤ i ∧ i < m.safe.length then (m.read i.toNat, 0) else ([], 1)
end M

end Go.Proofs.YtdojalhaklkegaaDoor

namespace Go.Proofs.YtdojalhaklkegaaDoor
open Go.RowKit
set_option linter.unusedVariables false

namespace M
/-- What a block is filled up with. -/
def fillx (b : List UInt8) : UInt8 := if b.length = 0 then 0 else b.getD (b.length - 1) 0
def full (b : List UInt8) : List UInt8 := (b ++ List.replicate (256 - b.length) (fillx b)).take 256
theorem full_length (b : List UInt8) : (full b).length = 256 := by
  rw [full]
  simp only [List.length_take, List.length_append, List.length_replicate]
  omega
end M

/-- How long a slice is. -/
def lenOf9 : Value → Nat
  | .slice _ n _ => n
  | _ => 0

theorem Own.short {w : World} {B n cap : Nat} {ao : Option Addr} {bs : List UInt8} (h : Own w B (.slice ao bs.length cap) bs) (k : Nat) (hk : k ≤ bs.length) (h0 : 0 < bs.length) : Own w B (.slice ao k cap) (bs.take k) := by
  have hl : (bs.take k).length = k := by rw [List.length_take]; omega
  rcases h.2 with ⟨_, hn⟩ | ⟨g, cap', cur, e, hb, hg, hn, hm, hs, ht⟩
  · omega
  · injection e with e1 e2 e3
    subst e1 e3
    refine ⟨by rw [byteCells_length, hl, Nat.mul_one], .inr ⟨g, cap, cur, by rw [hl], hb, hg, by rw [hl]; omega, hm, hs, ?_⟩⟩
    rw [hl, Nat.mul_one]
    rw [Nat.mul_one] at ht
    have := congrArg (List.take k) ht
    rw [List.take_take, Nat.min_eq_left hk] at this
    rw [this]
    simp [Lib.byteCells, List.map_take]

end Go.Proofs.YtdojalhaklkegaaDoor

namespace Go.Proofs.YtdojalhaklkegaaDoor
open Go.RowKit
set_option linter.unusedVariables false

namespace M
/-- A step of a script. -/
structure Step where
  kind : Int
  at_ : Int
  bytes : List UInt8
  keep : List Bool
def Step.none : Step := ⟨0, 0, [], []⟩
instance : Inhabited Step := ⟨Step.none⟩
def Step.small (a : Step) : Bool := decide (a.bytes.length ≤ 1000) && decide (a.keep.length ≤ 1000)
/-- Are the first 60 steps small enough? -/
def small (l : List Step) : Bool := (l.take 60).all Step.small
end M

/-- A step lies at the cells from off on. -/
def StepAt (w : World) (b off : Nat) (a : M.Step) : Prop := ∃ bo bc ko kc, w.cell? ⟨b, off, none⟩ = some (.int .i64 a.kind) ∧ w.cell? ⟨b, off + 1, none⟩ = some (.int .i64 a.at_) ∧
  w.cell? ⟨b, off + 2, none⟩ = some (.slice bo a.bytes.length bc) ∧ w.cell? ⟨b, off + 3, none⟩ = some (.slice ko a.keep.length kc) ∧
  IsB w (.slice bo a.bytes.length bc) a.bytes ∧ (bo = none → bc = 0) ∧ IsZ w (.slice ko a.keep.length kc) a.keep ∧ (Lit.int .i64 a.kind).wf = true ∧ (Lit.int .i64 a.at_).wf = true

/-- The value is a slice of the steps l. -/
def IsSteps (w : World) (v : Value) (l : List M.Step) : Prop := ∃ ao cap, v = .slice ao l.length cap ∧ l.length ≤ cap ∧ cap ≤ maxLen ∧
  (l = [] ∨ ∃ b off, ao = some ⟨b, off, none⟩ ∧ ∀ i, i < l.length → StepAt w b (off + i * 4) (l.getD i M.Step.none))

theorem IsSteps.shape {w : World} {v : Value} {l : List M.Step} (h : IsSteps w v l) : ∃ ao cap, v = .slice ao l.length cap := by
  obtain ⟨ao, cap, rfl, _⟩ := h
  exact ⟨ao, cap, rfl⟩

/-- What lay below B stays, where only blocks from B on, and new ones, have turned. -/
theorem IsB.chgB {B : Nat} {F : Nat → Prop} {w w' : World} {v : Value} {bs : List UInt8} (h : IsB w v bs) (k : Chg F w w') (hF : ∀ b, b < w.heap.size → ¬ F b) : IsB w' v bs := by
  by_cases hn : bs = []
  · subst hn
    obtain ⟨ao, cap, rfl, h1, h2, h3⟩ := h
    exact ⟨ao, cap, rfl, h1, h2, .inl rfl⟩
  · exact h.chg k (fun b off sp e => hF _ (h.there hn b off sp e))

/-- The number that a value is. -/
def numOf : Value → Nat
  | .int _ n => n.toNat
  | _ => 0

theorem small_step (l : List M.Step) (k : Nat) (hk : k < l.length) (h6 : k < 60) : (l.take (k + 1)).all M.Step.small = ((l.take k).all M.Step.small && (l.getD k M.Step.none).small) := by
  rw [List.take_add_one, List.all_append]
  congr 1
  rw [List.getElem?_eq_getElem hk, List.getD_eq_getElem?_getD, List.getElem?_eq_getElem hk]
  simp

theorem small_no (l : List M.Step) (k : Nat) (hk : k < l.length) (h6 : k < 60) (h : (l.getD k M.Step.none).small = false) : M.small l = false := by
  rw [M.small, List.all_eq_false]
  refine ⟨l.getD k M.Step.none, ?_, by rw [h]; simp⟩
  rw [List.getD_eq_getElem?_getD, List.getElem?_eq_getElem hk]
  exact List.mem_take_iff_getElem.2 ⟨k, by omega, rfl⟩

end Go.Proofs.YtdojalhaklkegaaDoor

namespace Go.Proofs.YtdojalhaklkegaaDoor
open Go.RowKit
set_option linter.unusedVariables false

end Go.Proofs.YtdojalhaklkegaaDoor

namespace Go.Proofs.YtdojalhaklkegaaDoor
open Go.RowKit
set_option linter.unusedVariables false

/-- An owned row's block. -/
theorem Own.blk9 {w : World} {B : Nat} {v : Value} {bs : List UInt8} (h : Own w B v bs) (hne : 0 < bs.length) : ∃ g cap cur, v = .slice (some ⟨g, 0, none⟩) bs.length cap ∧ B ≤ g ∧ Blk w g 5 cur ∧ bs.length ≤ cap ∧ cap ≤ maxLen ∧ cur.length = cap ∧ cur.take bs.length = Lib.byteCells bs := by
  rcases h.2 with ⟨_, hn⟩ | ⟨g, cap, cur, rfl, hb, hg, hn, hm, hs, ht⟩
  · omega
  · rw [Nat.mul_one] at hs ht
    exact ⟨g, cap, cur.toList, rfl, hb, by simpa [Blk] using hg, hn, hm, by rw [Array.length_toList, hs], ht⟩

theorem Own.of_blk9 {w : World} {B g cap : Nat} {bs : List UInt8} {cur : List Value} (hB : B ≤ g) (hg : Blk w g 5 cur) (hn : bs.length ≤ cap) (hm : cap ≤ maxLen) (hs : cur.length = cap) (ht : cur.take bs.length = Lib.byteCells bs) :
    Own w B (.slice (some ⟨g, 0, none⟩) bs.length cap) bs :=
  ⟨by rw [byteCells_length, Nat.mul_one], .inr ⟨g, cap, cur.toArray, rfl, hB, hg, hn, hm, by rw [List.size_toArray, hs, Nat.mul_one], by rw [Nat.mul_one]; exact ht⟩⟩

/-- Cells laid into an owned row. -/
theorem splice_row {cur : List Value} {bs xs : List UInt8} {o : Nat} (ht : cur.take bs.length = Lib.byteCells bs) (ho : o + xs.length ≤ bs.length) (hc : bs.length ≤ cur.length) :
    (splice cur o (Lib.byteCells xs)).take bs.length = Lib.byteCells (bs.take o ++ xs ++ bs.drop (o + xs.length)) := by
  have e1 : cur.take o = Lib.byteCells (bs.take o) := by
    have := congrArg (List.take o) ht
    rw [List.take_take, Nat.min_eq_left (by omega)] at this
    rw [this]
    simp [Lib.byteCells, List.map_take]
  have e2 : (cur.drop (o + xs.length)).take (bs.length - (o + xs.length)) = Lib.byteCells (bs.drop (o + xs.length)) := by
    have := congrArg (List.drop (o + xs.length)) ht
    rw [List.drop_take] at this
    rw [this]
    simp [Lib.byteCells, List.map_drop]
  rw [splice, byteCells_length, byteCells_append, byteCells_append, ← e1, ← e2]
  rw [List.take_append, List.take_append]
  have l1 : (cur.take o).length = o := by rw [List.length_take]; omega
  rw [l1, byteCells_length, List.take_of_length_le (by omega), List.take_of_length_le (l := Lib.byteCells xs) (by rw [byteCells_length]; omega), List.append_assoc, Nat.sub_sub]

end Go.Proofs.YtdojalhaklkegaaDoor

namespace Go.Proofs.YtdojalhaklkegaaDoor
open Go.RowKit
set_option linter.unusedVariables false
set_option maxRecDepth 100000

theorem not_nil9 (ad : Addr) (n cap : Nat) (w : World) : (binOp .eql 24 (.slice (some ad) n cap) (.slice none 0 0)).run Tryd.prog w = .ok (.bool false) w := rfl

theorem yes_nil9 (n cap : Nat) (w : World) : (binOp .eql 24 (.slice none n cap) (.slice none 0 0)).run Tryd.prog w = .ok (.bool true) w := rfl

set_option maxHeartbeats 2000000 in
theorem clone9_any (kv : Value) (ks : List UInt8) (w : World) (hk : IsB w kv ks) (hlen : ks.length ≤ 140737488355328) :
    Calls Tryd.prog 50 #[kv] w (Makes w ks) := by
  obtain ⟨ao, cap, rfl⟩ := hk.shape
  cases ao with
  | none =>
    have he : ks = [] := by
      obtain ⟨ao', cap', e, h1, h2, h3⟩ := hk
      rcases h3 with h | ⟨b, off, h4, h⟩
      · exact h
      · rw [h4] at e; cases e
    subst he
    have hn := yes_nil9 0 cap
    clear hk hlen
    show Calls Tryd.prog 50 #[.slice none 0 cap] w (Makes w [])
    go_enter Tryd.func50, Tryd.ntmps50
    go_wp2
    go_ret
    exact ⟨_, rfl, World.ownsRow_nil _ _ _ _, Below.refl _ _⟩
  | some ad =>
    have HK := Lib.hid hk
    obtain ⟨n, hn⟩ : ∃ n, n = ks.length := ⟨_, rfl⟩
    have HN : Hid (ks.length = n) := hn.symm
    have HL : Hid (n ≤ 140737488355328) := by rw [Hid, hn]; exact hlen
    rw [← hn] at HK ⊢
    have hnn := not_nil9 ad n cap
    clear hk hn hlen
    go_enter Tryd.func50, Tryd.ntmps50
    go_wp2_with (at_builtin; go_must (refine wpList_app _ rfl _ _ rfl w.heap.size _ [] rfl ?c1 _ ks rfl ?c2 (by intro n c e; cases e) (by rw [HN.out]; have := HL.out; simp; exact this) (by simp) ?_))
    case c1 => exact own_empty w
    case c2 => exact HK.out.below ((Below.refl _ _).alloc (Nat.le_refl _) _)
    intro r1 w1 o1 b1 z1
    have K1 : Below w.heap.size w w1 := ((Below.refl _ _).alloc (Nat.le_refl _) (.cells #[] 5)).trans b1
    clear z1 b1
    go_wp2
    go_ret
    exact ⟨r1, rfl, o1, K1⟩

theorem M.dload_ok (bs : List UInt8) (h256 : bs.length % 256 = 0) (hmax : bs.length ≤ 557056) : (M.dload bs).Ok ∧ (M.dload bs).safe.flatten = bs :=
  ⟨⟨by rw [M.dload, M.cut_length]; omega, M.cut_full _ _ (by omega), fun c hc => by cases hc⟩, by rw [M.dload, M.cut_flat, List.take_of_length_le (by omega)]⟩

theorem M.dnew_ok (n : Nat) : (M.dnew n).Ok ∧ (M.dnew n).safe.flatten = List.replicate (256 * min n 2176) 0 :=
  ⟨⟨by rw [M.dnew, List.length_replicate]; omega, fun b hb => by rw [List.eq_of_mem_replicate hb]; exact List.length_replicate, fun c hc => by cases hc⟩, by rw [M.dnew, M.zero256, List.flatten_replicate_replicate, Nat.mul_comm]⟩

end Go.Proofs.YtdojalhaklkegaaDoor
