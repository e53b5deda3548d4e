/-
  PLAIN MATHEMATICS: blocks of 256 bytes laid end to end, and what laying a block, or turning bytes, does to the whole row. Nothing of the program. Conditions: none.
  THE CODE'S DISK IN MEMORY (DkAt): its struct's block, the row of safe bytes, the row of writes that wait; how it lasts, and what becomes of it. Conditions: none.
  CONTRACTS OF bytes.Clone AND OF package disk's small functions: New, Load, Blocks, Down, Waiting, Image, Arm, has, act. Conditions: the disk lies so; rows of at most 2^47 bytes.
  CONTRACTS OF package disk's small functions: New, what Load refuses, Blocks, Down, Waiting, Image, Arm, has, act. Conditions: the disk lies so.
  CONTRACTS OF (*disk.Disk).place AND lay: where a block's safe bytes lie, and a write laid there. Conditions: the disk lies so; the block is there; the bytes are a block's.
  CONTRACTS OF (*disk.Disk).Write: what it refuses, and a write that waits. Conditions: the disk lies so; what is written lies out of it; fewer than a million writes wait.
  CONTRACTS OF (*disk.Disk).Sync AND Crash. Conditions: the disk lies so.
  CONTRACT OF (*disk.Disk).Tamper. Conditions: the disk lies so; the bytes lie out of it, fewer than 2^40.
  CONTRACTS OF slices.Backward OVER A SLICE OF WRITES, AND OF WHAT IT HANDS BACK: a loop's body is called with each write and its place, the last one first. Conditions: what lies below where the loop begins stays.
  CONTRACTS OF (*disk.Disk).seen AND Read: a block's bytes as seen. Conditions: the disk lies so; fewer than a million writes wait.
  PACKAGE disk BY ITS CALLS (CodeDk: the code's disk as one thing), each case in one contract; for later layers' seats, which may lack some of the calls. Conditions: each contract's.
-/
import Derived.Test.YtlglkiknpbfnmaaDoorPkRefDisk
import Derived.Test.YtlglkiknpbfnmaaDoorDiskFace
import Derived.RangeFuncNested
import Derived.RangeFuncBound
import Derived.RangeFuncLeaves
import Derived.RangeFuncBox
import Derived.Shelf.Abstract
import Derived.Shelf.RegionOpen
import Derived.WalkKit
import Derived.OwnWalkIn
import Derived.TacticsInMore
import Derived.LoopNIn
import Derived.LoopIn

namespace Go.Proofs.YtlglkiknpbfnmaaDoor.M
set_option linter.unusedVariables false

theorem flat_set : ∀ (s : List (List UInt8)) (i : Nat) (b : List UInt8), (∀ c ∈ s, c.length = 256) → i < s.length → (s.set i b).flatten = s.flatten.take (256 * i) ++ b ++ s.flatten.drop (256 * i + 256)
  | [], _, _, _, h => by cases h
  | c :: s, 0, b, h, _ => by
    have hc := h c (by simp)
    rw [List.set_cons_zero, List.flatten_cons, List.flatten_cons, Nat.mul_zero, List.take_zero, List.nil_append, Nat.zero_add, ← hc, List.drop_left]
  | c :: s, i + 1, b, h, hi => by
    have hc := h c (by simp)
    have ih := flat_set s i b (fun x hx => h x (by simp [hx])) (by simpa using hi)
    rw [List.set_cons_succ, List.flatten_cons, List.flatten_cons, ih]
    have e1 : 256 * (i + 1) = c.length + 256 * i := by omega
    have e2 : 256 * (i + 1) + 256 = c.length + (256 * i + 256) := by omega
    rw [e2, e1, List.take_length_add_append, List.drop_length_add_append]
    simp [List.append_assoc]

theorem flat_mid : ∀ (s : List (List UInt8)) (i : Nat), (∀ c ∈ s, c.length = 256) → i < s.length → (s.flatten.drop (256 * i)).take 256 = s.getD i []
  | [], _, _, h => by cases h
  | c :: s, 0, h, _ => by
    have hc := h c (by simp)
    rw [Nat.mul_zero, List.drop_zero, List.flatten_cons, ← hc, List.take_left]
    rfl
  | c :: s, i + 1, h, hi => by
    have hc := h c (by simp)
    have ih := flat_mid s i (fun x hx => h x (by simp [hx])) (by simpa using hi)
    have e1 : 256 * (i + 1) = c.length + 256 * i := by omega
    rw [List.flatten_cons, e1, List.drop_length_add_append, ih]
    rfl

theorem flat_turn1 : ∀ (s : List (List UInt8)) (p : Nat) (x : UInt8), (∀ c ∈ s, c.length = 256) → (turned1 s p x).flatten = s.flatten.set p x
  | [], p, x, _ => by simp [turned1]
  | c :: s, p, x, h => by
    have hc := h c (by simp)
    by_cases hp : p < 256
    · have e1 : p / 256 = 0 := by omega
      have e2 : p % 256 = p := by omega
      rw [turned1, e1, e2, List.set_cons_zero, List.flatten_cons, List.flatten_cons, List.set_append_left _ _ (by omega)]
      rfl
    · obtain ⟨q, rfl⟩ : ∃ q, p = q + 256 := ⟨p - 256, by omega⟩
      have ih := flat_turn1 s q x (fun y hy => h y (by simp [hy]))
      rw [turned1] at ih
      have e1 : (q + 256) / 256 = q / 256 + 1 := by omega
      have e2 : (q + 256) % 256 = q % 256 := by omega
      rw [turned1, e1, e2, List.set_cons_succ, List.flatten_cons, List.flatten_cons, List.set_append_right _ _ (by omega), hc, Nat.add_sub_cancel, ← ih]
      rfl

theorem turns_full (s : List (List UInt8)) (a : Int) (b : List UInt8) (h : ∀ c ∈ s, c.length = 256) : ∀ j, ∀ c ∈ turns s a b j, c.length = 256
  | 0, c, hc => h c hc
  | j + 1, c, hc => by
    rw [turns] at hc
    split at hc
    · rw [turned1] at hc
      rcases List.mem_or_eq_of_mem_set hc with hc | hc
      · exact turns_full s a b h j c hc
      · rw [hc, List.length_set]
        rename_i hin
        have hl : (a + (j : Int)).toNat / 256 < (turns s a b j).length := by rw [turns_length]; omega
        rw [List.getD_eq_getElem?_getD, List.getElem?_eq_getElem hl]
        exact turns_full s a b h j _ (List.getElem_mem hl)
    · exact turns_full s a b h j c hc

/-- Byte p behind a row of bytes was laid. -/
theorem turns_get (s : List (List UInt8)) (a : Int) (b : List UInt8) (h : ∀ c ∈ s, c.length = 256) (p : Nat) (hp : p < 256 * s.length) : ∀ j,
    (turns s a b j).flatten.getD p 0 = if a ≤ p ∧ (p : Int) < a + j then b.getD ((p : Int) - a).toNat 0 else s.flatten.getD p 0
  | 0 => by rw [turns, if_neg (by omega)]
  | j + 1 => by
    have ih := turns_get s a b h p hp j
    have hfl : (turns s a b j).flatten.length = 256 * s.length := by rw [flat_length _ (turns_full s a b h j), turns_length]
    rw [turns]
    by_cases hin : 0 ≤ a + (j : Int) ∧ a + (j : Int) < 256 * s.length
    · rw [if_pos hin, flat_turn1 _ _ _ (turns_full s a b h j)]
      by_cases hpe : (a + (j : Int)).toNat = p
      · have e : ((p : Int) - a).toNat = j := by omega
        rw [hpe, if_pos (by omega), e, List.getD_eq_getElem?_getD, List.getElem?_set_self (by omega)]
        rfl
      · rw [List.getD_eq_getElem?_getD, List.getElem?_set_ne hpe, ← List.getD_eq_getElem?_getD, ih]
        by_cases hc : a ≤ p ∧ (p : Int) < a + (j : Int)
        · rw [if_pos hc, if_pos (by omega)]
        · rw [if_neg hc, if_neg (by omega)]
    · rw [if_neg hin, ih]
      by_cases hc : a ≤ p ∧ (p : Int) < a + (j : Int)
      · rw [if_pos hc, if_pos (by omega)]
      · rw [if_neg hc, if_neg (by omega)]

theorem eq_of_getD {l r : List UInt8} (hl : l.length = r.length) (h : ∀ p, p < l.length → l.getD p 0 = r.getD p 0) : l = r := by
  refine List.ext_getElem hl fun p h1 h2 => ?_
  have := h p h1
  rw [List.getD_eq_getElem?_getD, List.getD_eq_getElem?_getD, List.getElem?_eq_getElem h1, List.getElem?_eq_getElem h2] at this
  exact this

/-- Nothing of it lies on the disk. -/
theorem tamper_none (m : Dsk) (h : m.Ok) (a : Int) (b : List UInt8) (hno : 256 * (m.safe.length : Int) ≤ a ∨ a ≤ -(b.length : Int)) : (m.tamper a b).safe.flatten = m.safe.flatten := by
  have hf := flat_length _ (turns_full m.safe a b h.full b.length)
  rw [turns_length] at hf
  refine eq_of_getD (by rw [Dsk.tamper, hf, flat_length _ h.full]) fun p hp => ?_
  rw [Dsk.tamper, hf] at hp
  rw [Dsk.tamper, turns_get _ _ _ h.full p hp, if_neg (by omega)]

theorem getD_take (l : List UInt8) (n p : Nat) (h : p < n) : (l.take n).getD p 0 = l.getD p 0 := by
  rw [List.getD_eq_getElem?_getD, List.getElem?_take, if_pos h, ← List.getD_eq_getElem?_getD]

theorem getD_drop (l : List UInt8) (n p : Nat) : (l.drop n).getD p 0 = l.getD (n + p) 0 := by
  rw [List.getD_eq_getElem?_getD, List.getElem?_drop, ← List.getD_eq_getElem?_getD]

theorem getD_app (l r : List UInt8) (p : Nat) : (l ++ r).getD p 0 = if p < l.length then l.getD p 0 else r.getD (p - l.length) 0 := by
  rw [List.getD_eq_getElem?_getD]
  split
  · rename_i h
    rw [List.getElem?_append_left h, ← List.getD_eq_getElem?_getD]
  · rename_i h
    rw [List.getElem?_append_right (by omega), ← List.getD_eq_getElem?_getD]

/-- What lies on the disk: from o on, of the bytes from k on, n. -/
theorem tamper_some (m : Dsk) (h : m.Ok) (a : Int) (b : List UInt8) (o k n : Nat) (ho : o = a.toNat) (hk : k = (-a).toNat) (hn : n = min (b.length - k) (256 * m.safe.length - o)) (hoN : o ≤ 256 * m.safe.length) (hkb : k ≤ b.length) :
    (m.tamper a b).safe.flatten = m.safe.flatten.take o ++ (b.drop k).take n ++ m.safe.flatten.drop (o + n) := by
  have hf := flat_length _ (turns_full m.safe a b h.full b.length)
  rw [turns_length] at hf
  have hm := flat_length _ h.full
  have l1 : (m.safe.flatten.take o).length = o := by rw [List.length_take, hm]; omega
  have l2 : ((b.drop k).take n).length = n := by rw [List.length_take, List.length_drop]; omega
  refine eq_of_getD ?_ fun p hp => ?_
  · rw [Dsk.tamper, hf, List.length_append, List.length_append, l1, l2, List.length_drop, hm]
    omega
  · rw [Dsk.tamper, hf] at hp
    rw [Dsk.tamper, turns_get _ _ _ h.full p hp, getD_app, List.length_append, l1, l2, getD_app, l1]
    by_cases h1 : p < o
    · rw [if_neg (by omega), if_pos (by omega), if_pos h1, getD_take _ _ _ h1]
    · by_cases h2 : p < o + n
      · rw [if_pos (by omega), if_pos h2, if_neg h1, getD_take _ _ _ (by omega), getD_drop]
        congr 1
        omega
      · rw [if_neg (by omega), if_neg h2, getD_drop]
        congr 1
        omega

theorem cut_full (b : List UInt8) (n : Nat) (h : 256 * n ≤ b.length) : ∀ c ∈ cut256 b n, c.length = 256 := by
  induction n with
  | zero => intro c hc; cases hc
  | succ n ih =>
    intro c hc
    rw [cut256] at hc
    rcases List.mem_append.1 hc with hc | hc
    · exact ih (by omega) c hc
    · simp only [List.mem_singleton] at hc
      rw [hc, List.length_take, List.length_drop]
      omega

theorem cut_flat (b : List UInt8) (n : Nat) : (cut256 b n).flatten = b.take (256 * n) := by
  induction n with
  | zero => simp [cut256]
  | succ n ih =>
    rw [cut256, List.flatten_append, ih, show 256 * (n + 1) = 256 * n + 256 by omega, List.take_add]
    simp

end Go.Proofs.YtlglkiknpbfnmaaDoor.M

namespace Go.Proofs.YtlglkiknpbfnmaaDoor
open Go.RowKit
set_option linter.unusedVariables false

structure DkAt (T : Nat → Prop) (w : World) (g : Nat) (sv wv : Value) (dvs : List Value) (m : M.Dsk) : Prop where
  blk : Blk w g 63 [sv, wv, .int .i64 (m.left : Int), .bool m.down]
  srow : Own w 0 sv m.safe.flatten
  wrow : w.ownsRow 0 72 2 wv m.wait.length (chgs m.wait dvs)
  dlen : dvs.length = m.wait.length
  dvs_ : ∀ j, j < m.wait.length → IsB w (dvs.getD j undef) (m.wait.getD j (0, [])).2 ∧ Lies (RefS T g sv wv) (dvs.getD j undef)
  tg : T g
  ts : ∀ k, sv.ownBlock = some k → T k ∧ k ≠ g
  tw : ∀ k, wv.ownBlock = some k → T k ∧ k ≠ g ∧ sv.ownBlock ≠ some k
  there : ∀ k, T k → k < w.heap.size
  left_ : m.left < 9223372036854775808
  ok : m.Ok

theorem DkAt.flat {T : Nat → Prop} {w : World} {g : Nat} {sv wv : Value} {dvs : List Value} {m : M.Dsk} (h : DkAt T w g sv wv dvs m) : m.safe.flatten.length = 256 * m.safe.length := flat_length _ h.ok.full

/-- What another call turns doesn't touch it. -/
theorem DkAt.chg {T F : Nat → Prop} {w w' : World} {g : Nat} {sv wv : Value} {dvs : List Value} {m : M.Dsk} (h : DkAt T w g sv wv dvs m) (k : Chg F w w') (hF : ∀ b, T b → ¬ F b) : DkAt T w' g sv wv dvs m where
  blk := h.blk.chg k (hF _ h.tg)
  srow := own_chg h.srow k fun b hb => hF _ (h.ts b hb).1
  wrow := own_chg h.wrow k fun b hb => hF _ (h.tw b hb).1
  dlen := h.dlen
  dvs_ := fun i hi => ⟨(h.dvs_ i hi).1.chg k ((h.dvs_ i hi).2.mono fun b hb => hF _ hb.1), (h.dvs_ i hi).2⟩
  tg := h.tg
  ts := h.ts
  tw := h.tw
  there := fun b hb => Nat.lt_of_lt_of_le (h.there b hb) k.size
  left_ := h.left_
  ok := h.ok

theorem DkAt.below {T : Nat → Prop} {w w' : World} {g : Nat} {sv wv : Value} {dvs : List Value} {m : M.Dsk} (h : DkAt T w g sv wv dvs m) (k : Below w.heap.size w w') : DkAt T w' g sv wv dvs m :=
  h.chg (Chg.of_below (F := fun _ => False) k) fun _ _ h => h

/-- Its struct's last two fields turned. -/
theorem DkAt.fields {T : Nat → Prop} {w w' : World} {g : Nat} {sv wv : Value} {dvs : List Value} {m : M.Dsk} (h : DkAt T w g sv wv dvs m) (k : Chg (fun b => b = g) w w') (l : Nat) (d : Bool)
    (hb : Blk w' g 63 [sv, wv, .int .i64 (l : Int), .bool d]) (hl : l < 9223372036854775808) : DkAt T w' g sv wv dvs { m with left := l, down := d } where
  blk := hb
  srow := own_chg h.srow k fun b hb => (h.ts b hb).2
  wrow := own_chg h.wrow k fun b hb => (h.tw b hb).2.1
  dlen := h.dlen
  dvs_ := fun i hi => ⟨(h.dvs_ i hi).1.chg k ((h.dvs_ i hi).2.mono fun b hb => hb.2.1), (h.dvs_ i hi).2⟩
  tg := h.tg
  ts := h.ts
  tw := h.tw
  there := fun b hb => Nat.lt_of_lt_of_le (h.there b hb) k.size
  left_ := hl
  ok := ⟨h.ok.few, h.ok.full, h.ok.wat⟩

/-- A write more waits. -/
theorem DkAt.push {T : Nat → Prop} {w w' : World} {g : Nat} {sv wv wv' dv : Value} {dvs : List Value} {m : M.Dsk} (h : DkAt T w g sv wv dvs m) {i : Nat} {bs : List UInt8} (hi : i < m.safe.length) (hl : bs.length = 256)
    (k : Chg (fun b => b = g ∨ wv.ownBlock = some b) w w') (hb : Blk w' g 63 [sv, wv', .int .i64 (m.left : Int), .bool m.down])
    (ho : w'.ownsRow 0 72 2 wv' (m.wait.length + 1) (chgs m.wait dvs ++ [.int .i64 (i : Int), dv])) (hd : IsB w' dv bs)
    (hlie : Lies (fun b => w.heap.size ≤ b ∧ b < w'.heap.size ∧ wv'.ownBlock ≠ some b) dv) (hat : wv'.ownBlock = wv.ownBlock ∨ ∃ b, wv'.ownBlock = some b ∧ w.heap.size ≤ b ∧ b < w'.heap.size) :
    DkAt (Grown T w w') w' g sv wv' (dvs ++ [dv]) { m with wait := m.wait ++ [(i, bs)] } where
  blk := hb
  srow := own_chg h.srow k fun b hb => fun e => by
    rcases e with e | e
    · exact (h.ts b hb).2 e
    · exact (h.tw b e).2.2 hb
  wrow := by
    rw [chgs_append _ _ _ _ h.dlen]
    simpa using ho
  dlen := by simp [h.dlen]
  dvs_ := fun j hj => by
    have hj' : j < m.wait.length + 1 := by simpa using hj
    rw [getD_snoc _ _ _ _ (by rw [h.dlen]; exact hj'), getD_snoc _ _ _ _ hj', h.dlen]
    by_cases hlt : j < m.wait.length
    · rw [if_pos hlt, if_pos hlt]
      refine ⟨(h.dvs_ j hlt).1.chg k ((h.dvs_ j hlt).2.mono fun b hb e => ?_), (h.dvs_ j hlt).2.mono fun b hb => ⟨⟨.inl hb.1, Nat.lt_of_lt_of_le (h.there b hb.1) k.size⟩, hb.2.1, hb.2.2.1, fun e => ?_⟩⟩
      · rcases e with e | e
        · exact hb.2.1 e
        · exact hb.2.2.2 e
      · rcases hat with hat | ⟨b', e', h1, h2⟩
        · exact hb.2.2.2 (hat ▸ e)
        · rw [e'] at e
          injection e with e
          have := h.there b hb.1
          omega
    · rw [if_neg hlt, if_neg hlt]
      refine ⟨hd, hlie.mono fun b hb => ⟨⟨.inr hb.1, hb.2.1⟩, fun e => ?_, fun e => ?_, hb.2.2⟩⟩
      · have := h.there g h.tg
        omega
      · have := h.there b (h.ts b e).1
        omega
  tg := ⟨.inl h.tg, Nat.lt_of_lt_of_le (h.there g h.tg) k.size⟩
  ts := fun b hb => ⟨⟨.inl (h.ts b hb).1, Nat.lt_of_lt_of_le (h.there b (h.ts b hb).1) k.size⟩, (h.ts b hb).2⟩
  tw := fun b hb => by
    rcases hat with hat | ⟨b', e', h1, h2⟩
    · rw [hat] at hb
      have := h.tw b hb
      exact ⟨⟨.inl this.1, Nat.lt_of_lt_of_le (h.there b this.1) k.size⟩, this.2⟩
    · rw [e'] at hb
      injection hb with hb
      subst hb
      refine ⟨⟨.inr h1, h2⟩, fun e => ?_, fun e => ?_⟩
      · have := h.there g h.tg
        omega
      · have := h.there b' (h.ts b' e).1
        omega
  there := fun b hb => hb.2
  left_ := h.left_
  ok := M.Ok_push h.ok hi hl

/-- Its safe bytes turned to other blocks. -/
theorem DkAt.lay {T : Nat → Prop} {w w' : World} {g : Nat} {sv wv : Value} {dvs : List Value} {m : M.Dsk} (h : DkAt T w g sv wv dvs m) (s : List (List UInt8)) (k : Chg (fun k => sv.ownBlock = some k) w w') (ho : Own w' 0 sv s.flatten)
    (hs : s.length = m.safe.length) (hf : ∀ b ∈ s, b.length = 256) : DkAt T w' g sv wv dvs { m with safe := s } where
  blk := h.blk.chg k fun e => (h.ts g e).2 rfl
  srow := ho
  wrow := own_chg h.wrow k fun b hb e => (h.tw b hb).2.2 e
  dlen := h.dlen
  dvs_ := fun j hj => ⟨(h.dvs_ j hj).1.chg k ((h.dvs_ j hj).2.mono fun b hb e => hb.2.2.1 e), (h.dvs_ j hj).2⟩
  tg := h.tg
  ts := h.ts
  tw := h.tw
  there := fun b hb => Nat.lt_of_lt_of_le (h.there b hb) k.size
  left_ := h.left_
  ok := ⟨by rw [hs]; exact h.ok.few, hf, fun c hc => by rw [hs]; exact h.ok.wat c hc⟩

/-- Nothing waits any more. -/
theorem DkAt.drained {T : Nat → Prop} {w w' : World} {g : Nat} {sv wv : Value} {dvs : List Value} {m : M.Dsk} (h : DkAt T w g sv wv dvs m) (k : Chg (fun b => b = g) w w') (l : Nat) (d : Bool) (hl : l < 9223372036854775808)
    (hb : Blk w' g 63 [sv, .slice none 0 0, .int .i64 (l : Int), .bool d]) : DkAt T w' g sv (.slice none 0 0) [] ⟨m.safe, [], l, d⟩ where
  blk := hb
  srow := own_chg h.srow k fun b hb => (h.ts b hb).2
  wrow := World.ownsRow_nil _ _ _ _
  dlen := rfl
  dvs_ := fun j hj => by cases hj
  tg := h.tg
  ts := h.ts
  tw := fun b hb => by cases hb
  there := fun b hb => Nat.lt_of_lt_of_le (h.there b hb) k.size
  left_ := hl
  ok := ⟨h.ok.few, h.ok.full, fun c hc => by cases hc⟩

/-- An owned row's block. -/
theorem Own.blk9 {w : World} {B : Nat} {v : Value} {bs : List UInt8} (h : Own w B v bs) (hne : 0 < bs.length) : ∃ g cap cur, v = .slice (some ⟨g, 0, none⟩) bs.length cap ∧ B ≤ g ∧ Blk w g 5 cur ∧ bs.length ≤ cap ∧ cap ≤ maxLen ∧ cur.length = cap ∧ cur.take bs.length = Lib.byteCells bs := by
  rcases h.2 with ⟨_, hn⟩ | ⟨g, cap, cur, rfl, hb, hg, hn, hm, hs, ht⟩
  · omega
  · rw [Nat.mul_one] at hs ht
    exact ⟨g, cap, cur.toList, rfl, hb, by simpa [Blk] using hg, hn, hm, by rw [Array.length_toList, hs], ht⟩

theorem Own.of_blk9 {w : World} {B g cap : Nat} {bs : List UInt8} {cur : List Value} (hB : B ≤ g) (hg : Blk w g 5 cur) (hn : bs.length ≤ cap) (hm : cap ≤ maxLen) (hs : cur.length = cap) (ht : cur.take bs.length = Lib.byteCells bs) :
    Own w B (.slice (some ⟨g, 0, none⟩) bs.length cap) bs :=
  ⟨by rw [byteCells_length, Nat.mul_one], .inr ⟨g, cap, cur.toArray, rfl, hB, hg, hn, hm, by rw [List.size_toArray, hs, Nat.mul_one], by rw [Nat.mul_one]; exact ht⟩⟩

/-- Cells laid into an owned row. -/
theorem splice_row {cur : List Value} {bs xs : List UInt8} {o : Nat} (ht : cur.take bs.length = Lib.byteCells bs) (ho : o + xs.length ≤ bs.length) (hc : bs.length ≤ cur.length) :
    (splice cur o (Lib.byteCells xs)).take bs.length = Lib.byteCells (bs.take o ++ xs ++ bs.drop (o + xs.length)) := by
  have e1 : cur.take o = Lib.byteCells (bs.take o) := by
    have := congrArg (List.take o) ht
    rw [List.take_take, Nat.min_eq_left (by omega)] at this
    rw [this]
    simp [Lib.byteCells, List.map_take]
  have e2 : (cur.drop (o + xs.length)).take (bs.length - (o + xs.length)) = Lib.byteCells (bs.drop (o + xs.length)) := by
    have := congrArg (List.drop (o + xs.length)) ht
    rw [List.drop_take] at this
    rw [this]
    simp [Lib.byteCells, List.map_drop]
  rw [splice, byteCells_length, byteCells_append, byteCells_append, ← e1, ← e2]
  rw [List.take_append, List.take_append]
  have l1 : (cur.take o).length = o := by rw [List.length_take]; omega
  rw [l1, byteCells_length, List.take_of_length_le (by omega), List.take_of_length_le (l := Lib.byteCells xs) (by rw [byteCells_length]; omega), List.append_assoc, Nat.sub_sub]

end Go.Proofs.YtlglkiknpbfnmaaDoor

namespace Go.Proofs.YtlglkiknpbfnmaaDoor
open Go.RowKit
set_option linter.unusedVariables false
set_option maxRecDepth 100000

theorem not_nil9 (ad : Addr) (n cap : Nat) (w : World) : (binOp .eql 34 (.slice (some ad) n cap) (.slice none 0 0)).run Tryd.prog w = .ok (.bool false) w := rfl

theorem yes_nil9 (n cap : Nat) (w : World) : (binOp .eql 34 (.slice none n cap) (.slice none 0 0)).run Tryd.prog w = .ok (.bool true) w := rfl

set_option maxHeartbeats 2000000 in
theorem clone9_any (kv : Value) (ks : List UInt8) (w : World) (hk : IsB w kv ks) (hlen : ks.length ≤ 140737488355328) :
    Calls Tryd.prog 38 #[kv] w (Makes w ks) := by
  obtain ⟨ao, cap, rfl⟩ := hk.shape
  cases ao with
  | none =>
    have he : ks = [] := by
      obtain ⟨ao', cap', e, h1, h2, h3⟩ := hk
      rcases h3 with h | ⟨b, off, h4, h⟩
      · exact h
      · rw [h4] at e; cases e
    subst he
    have hn := yes_nil9 0 cap
    clear hk hlen
    show Calls Tryd.prog 38 #[.slice none 0 cap] w (Makes w [])
    go_enter Tryd.func38, Tryd.ntmps38
    go_wp2
    go_ret
    exact ⟨_, rfl, World.ownsRow_nil _ _ _ _, Below.refl _ _⟩
  | some ad =>
    have HK := Lib.hid hk
    obtain ⟨n, hn⟩ : ∃ n, n = ks.length := ⟨_, rfl⟩
    have HN : Hid (ks.length = n) := hn.symm
    have HL : Hid (n ≤ 140737488355328) := by rw [Hid, hn]; exact hlen
    rw [← hn] at HK ⊢
    have hnn := not_nil9 ad n cap
    clear hk hn hlen
    go_enter Tryd.func38, Tryd.ntmps38
    go_wp2_with (at_builtin; go_must (refine wpList_app _ rfl _ _ rfl w.heap.size _ [] rfl ?c1 _ ks rfl ?c2 (by intro n c e; cases e) (by rw [HN.out]; have := HL.out; simp; exact this) (by simp) ?_))
    case c1 => exact own_empty w
    case c2 => exact HK.out.below ((Below.refl _ _).alloc (Nat.le_refl _) _)
    intro r1 w1 o1 b1 z1
    have K1 : Below w.heap.size w w1 := ((Below.refl _ _).alloc (Nat.le_refl _) (.cells #[] 5)).trans b1
    clear z1 b1
    go_wp2
    go_ret
    exact ⟨r1, rfl, o1, K1⟩

/-- A disk that was just made. -/
theorem dkAt_new {w w' : World} {g : Nat} {sv : Value} {m : M.Dsk} (hB : Blk w' g 63 [sv, .slice none 0 0, .int .i64 ((0 : Nat) : Int), .bool false]) (ho : Own w' w.heap.size sv m.safe.flatten) (hg : w.heap.size ≤ g) (hne : ∀ k, sv.ownBlock = some k → k ≠ g)
    (hm : m = ⟨m.safe, [], 0, false⟩) (hok : m.Ok) : DkAt (fun k => w.heap.size ≤ k ∧ k < w'.heap.size) w' g sv (.slice none 0 0) [] m where
  blk := by rw [hm]; exact hB
  srow := ho.mono (Nat.zero_le _)
  wrow := by rw [hm]; exact World.ownsRow_nil _ _ _ _
  dlen := by rw [hm]; rfl
  dvs_ := fun j hj => by rw [hm] at hj; cases hj
  tg := ⟨hg, hB.lt⟩
  ts := fun k hk => ⟨ho.block_lt k hk, hne k hk⟩
  tw := fun b hb => by cases hb
  there := fun k hk => hk.2
  left_ := by rw [hm]; exact (by decide : 0 < 9223372036854775808)
  ok := hok

theorem M.dload_ok (bs : List UInt8) (h256 : bs.length % 256 = 0) (hmax : bs.length ≤ 557056) : (M.dload bs).Ok ∧ (M.dload bs).safe.flatten = bs :=
  ⟨⟨by rw [M.dload, M.cut_length]; omega, M.cut_full _ _ (by omega), fun c hc => by cases hc⟩, by rw [M.dload, M.cut_flat, List.take_of_length_le (by omega)]⟩

theorem M.dnew_ok (n : Nat) : (M.dnew n).Ok ∧ (M.dnew n).safe.flatten = List.replicate (256 * min n 2176) 0 :=
  ⟨⟨by rw [M.dnew, List.length_replicate]; omega, fun b hb => by rw [List.eq_of_mem_replicate hb]; exact List.length_replicate, fun c hc => by cases hc⟩, by rw [M.dnew, M.zero256, List.flatten_replicate_replicate, Nat.mul_comm]⟩

set_option maxHeartbeats 4000000 in
theorem load9_ok (bv : Value) (bs : List UInt8) (w : World) (hb : IsB w bv bs) (h256 : bs.length % 256 = 0) (hmax : bs.length ≤ 557056) :
    Calls Tryd.prog 22 #[bv] w fun e w' => ∃ g sv T, e = .returned (.tuple #[.pointer (some ⟨g, 0, none⟩), .int .i64 0]) ∧ DkAt T w' g sv (.slice none 0 0) [] (M.dload bs) ∧ (∀ k, T k → w.heap.size ≤ k) ∧ Below w.heap.size w w' := by
  have C := Lib.hid (clone9_any bv bs w hb (by omega))
  have HD := Lib.hid (M.dload_ok bs h256 hmax)
  obtain ⟨ao, cap, rfl⟩ := hb.shape
  obtain ⟨l, hl⟩ : ∃ l, l = bs.length := ⟨_, rfl⟩
  rw [← hl] at h256 hmax C ⊢
  have t1 : (l : Int).tmod 256 = 0 := by rw [Int.tmod_eq_emod_of_nonneg (by omega)]; omega
  have t1' : (l : Int) % 256 = 0 := by omega
  have t3 : ¬ (557056 : Int) < (l : Int) := by omega
  clear hb hl h256 hmax
  go_enter Tryd.func22, Tryd.ntmps22
  go_wp2_with fail
  refine C.out.mono ?_
  rintro e w1 ⟨sv, rfl, o1, k1⟩
  obtain ⟨g, hg⟩ : ∃ g, g = w1.heap.size := ⟨_, rfl⟩
  obtain ⟨W, hW⟩ : ∃ W, Hid (W = w1.alloc (.cells #[sv, .slice none 0 0, .int .i64 0, .bool false] 63)) := ⟨_, rfl⟩
  have B0 : Blk W g 63 [sv, .slice none 0 0, .int .i64 ((0 : Nat) : Int), .bool false] := by rw [hW.out]; exact Blk.newAt _ _ _ _ _ hg rfl
  have k2 : Below w1.heap.size w1 W := by rw [hW.out]; exact (Below.refl _ _).alloc (Nat.le_refl _) _
  have R : Hid (DkAt (fun k => w.heap.size ≤ k ∧ k < W.heap.size) W g sv (.slice none 0 0) [] (M.dload bs)) := dkAt_new B0 (by rw [HD.out.2]; exact o1.below k2) (by rw [hg]; exact k1.size) (fun k hk e => by have := (o1.block_lt k hk).2; omega) rfl HD.out.1
  have K : Hid (Below w.heap.size w W) := k1.trans (k2.mono k1.size)
  obtain ⟨sa, sc, rfl⟩ := ownShape o1
  clear B0 k2 o1 k1 C
  go_upto_region 3 with fail
  rw [← hW.out, ← hg]
  clear hW hg
  go_wp2
  go_ret2
  exact ⟨g, _, _, rfl, R.out, fun k h => h.1, K.out⟩

end Go.Proofs.YtlglkiknpbfnmaaDoor

namespace Go.Proofs.YtlglkiknpbfnmaaDoor
open Go.RowKit
set_option linter.unusedVariables false
set_option maxRecDepth 100000

set_option maxHeartbeats 2000000 in
theorem load9_no (bv : Value) (bs : List UInt8) (w : World) (hb : IsB w bv bs) (hno : ¬ (bs.length % 256 = 0 ∧ bs.length ≤ 557056)) :
    Calls Tryd.prog 22 #[bv] w fun e w' => e = .returned (.tuple #[.pointer none, .int .i64 1]) ∧ w' = w := by
  obtain ⟨ao, cap, rfl⟩ := hb.shape
  obtain ⟨l, hl⟩ : ∃ l, l = bs.length := ⟨_, rfl⟩
  rw [← hl] at hno ⊢
  obtain ⟨r, hr⟩ : ∃ r, r = l % 256 := ⟨_, rfl⟩
  have t1 : (l : Int).tmod 256 = (r : Int) := by rw [Int.tmod_eq_emod_of_nonneg (by omega)]; omega
  have t1' : (l : Int) % 256 = (r : Int) := by omega
  clear hb hl
  by_cases h1 : r = 0
  · have h2 : (557056 : Int) < (l : Int) := by omega
    subst h1
    clear hno hr
    go_enter Tryd.func22, Tryd.ntmps22
    go_wp2
    go_ret2
    exact ⟨rfl, rfl⟩
  · have h2 : ¬ (r : Int) = 0 := by omega
    have h3 : ((r : Int) != 0) = true := by simpa using h2
    have h4 : ((r : Int) == 0) = false := by simpa using h2
    clear hno hr
    go_enter Tryd.func22, Tryd.ntmps22
    go_wp2
    go_ret2
    exact ⟨rfl, rfl⟩

set_option maxHeartbeats 4000000 in
theorem new9_any (n : Int) (hn : -9223372036854775808 ≤ n ∧ n < 9223372036854775808) (w : World) :
    Calls Tryd.prog 9 #[.int .i64 n] w fun e w' => ∃ g sv T, e = .returned (.pointer (some ⟨g, 0, none⟩)) ∧ DkAt T w' g sv (.slice none 0 0) [] (M.dnew n.toNat) ∧ (∀ k, T k → w.heap.size ≤ k) ∧ Below w.heap.size w w' := by
  have HD := Lib.hid (M.dnew_ok n.toNat)
  obtain ⟨k, hk⟩ : ∃ k, k = min n.toNat 2176 := ⟨_, rfl⟩
  obtain ⟨l, hl⟩ : ∃ l, l = 256 * k := ⟨_, rfl⟩
  obtain ⟨ZC, hZC⟩ := make_run l (by omega)
  have HO : Hid (Own (w.alloc (.cells ZC 5)) w.heap.size (.slice (some ⟨w.heap.size, 0, none⟩) l l) (M.dnew n.toNat).safe.flatten) := by rw [Hid, HD.out.2, ← hk, ← hl]; exact (hZC w).2
  have hmk := (hZC w).1
  obtain ⟨g, hg⟩ : ∃ g, g = w.heap.size + 1 := ⟨_, rfl⟩
  obtain ⟨W, hW⟩ : ∃ W, Hid (W = (w.alloc (.cells ZC 5)).alloc (.cells #[.slice (some ⟨w.heap.size, 0, none⟩) l l, .slice none 0 0, .int .i64 0, .bool false] 63)) := ⟨_, rfl⟩
  have B0 : Blk W g 63 [.slice (some ⟨w.heap.size, 0, none⟩) l l, .slice none 0 0, .int .i64 ((0 : Nat) : Int), .bool false] := by rw [hW.out]; exact Blk.newAt _ _ _ _ _ (by rw [hg]; simp) rfl
  have k2 : Below (w.alloc (.cells ZC 5)).heap.size (w.alloc (.cells ZC 5)) W := by rw [hW.out]; exact (Below.refl _ _).alloc (Nat.le_refl _) _
  have k1 : Below w.heap.size w (w.alloc (.cells ZC 5)) := (Below.refl _ _).alloc (Nat.le_refl _) _
  have R : Hid (DkAt (fun k => w.heap.size ≤ k ∧ k < W.heap.size) W g (.slice (some ⟨w.heap.size, 0, none⟩) l l) (.slice none 0 0) [] (M.dnew n.toNat)) := dkAt_new B0 (HO.out.below k2) (by omega) (fun k hk e => by simp [Value.ownBlock] at hk; omega) rfl HD.out.1
  have K : Hid (Below w.heap.size w W) := k1.trans (k2.mono k1.size)
  have HG : Hid (g = w.heap.size + 1) := hg
  have t3 : wrap64 ((k : Int) * 256) = (l : Int) := by unfold wrap64; omega
  have t3' : wrap64 (256 * (k : Int)) = (l : Int) := by unfold wrap64; omega
  have HMK := Lib.hid hmk
  clear hZC hmk HO B0 k2 k1 HD hg hl
  by_cases h1 : n < 0
  · obtain rfl : k = 0 := by omega
    obtain rfl : l = 0 := by unfold wrap64 at t3; omega
    have hmk : (Instr.makeSlice 34 (.int .i64 0) (.int .i64 0)).run Tryd.prog w = .ok (.slice (some ⟨w.heap.size, 0, none⟩) 0 0) (w.alloc (.cells ZC 5)) := HMK.out
    clear hk hn t3 t3'
    go_enter Tryd.func9, Tryd.ntmps9
    go_upto_region 2 with fail
    go_wp2
    rw [← hW.out, ← HG.out]
    go_ret
    exact ⟨g, _, _, rfl, R.out, fun k h => h.1, K.out⟩
  · by_cases h2 : 2176 < n
    · obtain rfl : k = 2176 := by omega
      obtain rfl : l = 557056 := by unfold wrap64 at t3; omega
      have hmk : (Instr.makeSlice 34 (.int .i64 557056) (.int .i64 557056)).run Tryd.prog w = .ok (.slice (some ⟨w.heap.size, 0, none⟩) 557056 557056) (w.alloc (.cells ZC 5)) := HMK.out
      clear hk hn t3 t3'
      go_enter Tryd.func9, Tryd.ntmps9
      go_upto_region 2 with fail
      go_wp2
      rw [← hW.out, ← HG.out]
      go_ret
      exact ⟨g, rfl, _, _, R.out, fun k h => h.1, K.out⟩
    · obtain rfl : n = (k : Int) := by omega
      have hmk := HMK.out
      have t5 : (k : Int) * 256 = (l : Int) := by unfold wrap64 at t3; omega
      clear hk hn t3 t3'
      go_enter Tryd.func9, Tryd.ntmps9
      go_upto_region 2 with fail
      go_wp2
      rw [← hW.out, ← HG.out]
      go_ret
      exact ⟨g, rfl, _, _, R.out, fun k h => h.1, K.out⟩

set_option maxHeartbeats 2000000 in
theorem blocks9_any {T : Nat → Prop} {w : World} {g : Nat} {sv wv : Value} {dvs : List Value} {m : M.Dsk} (h : DkAt T w g sv wv dvs m) :
    Calls Tryd.prog 39 #[.pointer (some ⟨g, 0, none⟩)] w fun e w' => e = .returned (.int .i64 (m.safe.length : Int)) ∧ w' = w := by
  have c0 : w.cell? ⟨g, 0, none⟩ = some sv := h.blk.cell 0
  obtain ⟨n, hn⟩ : ∃ n, n = m.safe.length := ⟨_, rfl⟩
  obtain ⟨l, hl⟩ : ∃ l, l = 256 * n := ⟨_, rfl⟩
  obtain ⟨sa, sc, es⟩ := ownShape h.srow
  rw [h.flat, ← hn, ← hl] at es
  subst es
  rw [← hn]
  have t2 : (l : Int).tdiv 256 = (n : Int) := by rw [Int.tdiv_eq_ediv_of_nonneg (by omega)]; omega
  have t2' : (l : Int) / 256 = (n : Int) := by omega
  have t4 : wrap64 (n : Int) = (n : Int) := by have := h.ok.few; unfold wrap64; omega
  clear h hn hl
  go_enter Tryd.func39, Tryd.ntmps39
  go_wp2
  go_ret
  exact ⟨by show Ending.returned (.int .i64 (wrap64 (n : Int))) = _; rw [t4], rfl⟩

set_option maxHeartbeats 2000000 in
theorem down9_any {T : Nat → Prop} {w : World} {g : Nat} {sv wv : Value} {dvs : List Value} {m : M.Dsk} (h : DkAt T w g sv wv dvs m) :
    Calls Tryd.prog 18 #[.pointer (some ⟨g, 0, none⟩)] w fun e w' => e = .returned (.bool m.down) ∧ w' = w := by
  have c3 : w.cell? ⟨g, 3, none⟩ = some (.bool m.down) := h.blk.cell 3
  clear h
  go_enter Tryd.func18, Tryd.ntmps18
  go_wp2
  go_ret
  exact ⟨rfl, rfl⟩

set_option maxHeartbeats 2000000 in
theorem image9_any {T : Nat → Prop} {w : World} {g : Nat} {sv wv : Value} {dvs : List Value} {m : M.Dsk} (h : DkAt T w g sv wv dvs m) :
    Calls Tryd.prog 21 #[.pointer (some ⟨g, 0, none⟩)] w (Makes w m.image) := by
  have c0 : w.cell? ⟨g, 0, none⟩ = some sv := h.blk.cell 0
  have C := Lib.hid (clone9_any sv m.safe.flatten w h.srow.isB (by rw [h.flat]; have := h.ok.few; omega))
  clear h
  go_enter Tryd.func21, Tryd.ntmps21
  go_wp2_with fail
  refine C.out.mono ?_
  rintro e w1 ⟨r, rfl, o1, k1⟩
  go_wp2
  go_ret
  exact ⟨r, rfl, o1, k1⟩

set_option maxHeartbeats 2000000 in
theorem has9_any {T : Nat → Prop} {w : World} {g : Nat} {sv wv : Value} {dvs : List Value} {m : M.Dsk} (h : DkAt T w g sv wv dvs m) (i : Int) :
    Calls Tryd.prog 51 #[.pointer (some ⟨g, 0, none⟩), .int .i64 i] w fun e w' => e = .returned (.bool (decide (0 ≤ i ∧ i < (m.safe.length : Int)))) ∧ w' = w := by
  have C := Lib.hid (blocks9_any h)
  obtain ⟨n, hn⟩ : ∃ n, n = m.safe.length := ⟨_, rfl⟩
  rw [← hn] at C ⊢
  clear h hn
  by_cases h0 : 0 ≤ i
  · by_cases h1 : i < (n : Int)
    · have hd : Hid (decide (0 ≤ i ∧ i < (n : Int)) = true) := decide_eq_true ⟨h0, h1⟩
      rw [hd.out]
      go_enter Tryd.func51, Tryd.ntmps51
      go_wp2_with fail
      refine C.out.mono ?_
      rintro e w1 ⟨rfl, rfl⟩
      go_wp2
      go_ret
      exact ⟨rfl, rfl⟩
    · have hd : Hid (decide (0 ≤ i ∧ i < (n : Int)) = false) := decide_eq_false fun h => h1 h.2
      rw [hd.out]
      go_enter Tryd.func51, Tryd.ntmps51
      go_wp2_with fail
      refine C.out.mono ?_
      rintro e w1 ⟨rfl, rfl⟩
      go_wp2
      go_ret
      exact ⟨by show Ending.returned (.bool (decide (i < (n : Int)))) = _; rw [decide_eq_false (by omega)], rfl⟩
  · have hd : Hid (decide (0 ≤ i ∧ i < (n : Int)) = false) := decide_eq_false fun h => h0 h.1
    rw [hd.out]
    clear C
    go_enter Tryd.func51, Tryd.ntmps51
    go_wp2
    go_ret
    exact ⟨rfl, rfl⟩

set_option maxHeartbeats 2000000 in
theorem arm9_any {T : Nat → Prop} {w : World} {g : Nat} {sv wv : Value} {dvs : List Value} {m : M.Dsk} (h : DkAt T w g sv wv dvs m) (n : Int) (hn : -9223372036854775808 ≤ n ∧ n < 9223372036854775808) :
    Calls Tryd.prog 13 #[.pointer (some ⟨g, 0, none⟩), .int .i64 n] w fun e w' => e = .returned (.tuple #[]) ∧ DkAt T w' g sv wv dvs (m.arm n) ∧ Chg T w w' := by
  have c2 : w.cell? ⟨g, 2, none⟩ = some (.int .i64 (m.left : Int)) := h.blk.cell 2
  have f2 : w.frozen? ⟨g, 2, none⟩ = false := h.blk.frozen 2
  obtain ⟨q, hq⟩ : ∃ q, q = n.toNat := ⟨_, rfl⟩
  have hm : m.arm n = { m with left := q } := by rw [M.Dsk.arm, ← hq]
  rw [hm]
  have B1 := h.blk.set_ 2 (.int .i64 (q : Int))
  have k1 : Chg (fun b => b = g) w (w.setCell ⟨g, 2, none⟩ (.int .i64 (q : Int))) := (Chg.refl _ w).cell 2 _
  have R1 := Lib.hid (h.fields k1 q m.down B1 (by omega))
  have K1 := Lib.hid (k1.one h.tg)
  clear h B1 k1 hm
  by_cases h0 : 0 ≤ n
  · obtain rfl : n = (q : Int) := by omega
    have h0' : ¬ (q : Int) < 0 := by omega
    clear hn hq
    go_enter Tryd.func13, Tryd.ntmps13
    go_wp2
    go_end0
    exact ⟨rfl, R1.out, K1.out⟩
  · obtain rfl : q = 0 := by omega
    have h0' : n < 0 := by omega
    clear hn hq
    go_enter Tryd.func13, Tryd.ntmps13
    go_wp2
    go_end0
    exact ⟨rfl, R1.out, K1.out⟩

set_option maxHeartbeats 2000000 in
/-- An act, while the power is there. -/
theorem act9_any {T : Nat → Prop} {w : World} {g : Nat} {sv wv : Value} {dvs : List Value} {m : M.Dsk} (h : DkAt T w g sv wv dvs m) (hdn : m.down = false) :
    Calls Tryd.prog 48 #[.pointer (some ⟨g, 0, none⟩)] w fun e w' => e = .returned (.int .i64 (if m.goes.2 = true then 11 else 0)) ∧ DkAt T w' g sv wv dvs m.goes.1 ∧ Chg (fun b => b = g) w w' := by
  have H := Lib.hid h
  have c2 : w.cell? ⟨g, 2, none⟩ = some (.int .i64 (m.left : Int)) := h.blk.cell 2
  have c3 : w.cell? ⟨g, 3, none⟩ = some (.bool false) := by rw [← hdn]; exact h.blk.cell 3
  have f2 : w.frozen? ⟨g, 2, none⟩ = false := h.blk.frozen 2
  have f3 : w.frozen? ⟨g, 3, none⟩ = false := h.blk.frozen 3
  obtain ⟨l, hl⟩ : ∃ l, l = m.left := ⟨_, rfl⟩
  have hl63 := h.left_
  rw [← hl] at c2 hl63
  by_cases h0 : l = 0
  · have hg : m.goes = (m, false) := by rw [M.Dsk.goes, if_pos (by omega)]
    rw [hg]
    subst h0
    clear h hl63 hl hg hdn
    go_enter Tryd.func48, Tryd.ntmps48
    go_wp2
    go_ret
    exact ⟨rfl, H.out, Chg.refl _ _⟩
  · by_cases h1 : l = 1
    · have hg : m.goes = ({ m with left := 0, down := true }, true) := by rw [M.Dsk.goes, if_neg (by omega), if_pos (by omega)]
      rw [hg]
      have B1 := (h.blk.set_ 2 (.int .i64 ((0 : Nat) : Int))).set_ 3 (.bool true)
      have K1 : Chg (fun b => b = g) w ((w.setCell ⟨g, 2, none⟩ (.int .i64 ((0 : Nat) : Int))).setCell ⟨g, 3, none⟩ (.bool true)) := ((Chg.refl _ w).cell 2 _).cell 3 _
      have R1 := Lib.hid (h.fields K1 0 true B1 (by decide))
      have K1' := Lib.hid K1
      subst h1
      clear h hl63 hl hg B1 K1 hdn
      go_enter Tryd.func48, Tryd.ntmps48
      go_wp2
      go_ret
      exact ⟨rfl, R1.out, K1'.out⟩
    · obtain ⟨n, hn⟩ : ∃ n, n = l - 1 := ⟨_, rfl⟩
      have hg : m.goes = ({ m with left := n }, false) := by rw [M.Dsk.goes, if_neg (by omega), if_neg (by omega), ← hl, ← hn, hdn]
      rw [hg]
      have s1 : wrap64 ((l : Int) - 1) = (n : Int) := by unfold wrap64; omega
      have s2 : ((n : Int) == 0) = false := by have : ¬ (n : Int) = 0 := by omega
                                               simpa using this
      have s3 : ((l : Int) == 0) = false := by have : ¬ (l : Int) = 0 := by omega
                                               simpa using this
      have B1 := (h.blk.set_ 2 (.int .i64 (n : Int))).set_ 3 (.bool false)
      have K1 : Chg (fun b => b = g) w ((w.setCell ⟨g, 2, none⟩ (.int .i64 (n : Int))).setCell ⟨g, 3, none⟩ (.bool false)) := ((Chg.refl _ w).cell 2 _).cell 3 _
      have R1 := Lib.hid (h.fields K1 n false B1 (by omega))
      have hdn' : Hid (m.down = false) := hdn
      have K1' := Lib.hid K1
      have n0 : ¬ n = 0 := by omega
      clear h hl63 hl hg B1 K1 h1 hn hdn
      go_enter Tryd.func48, Tryd.ntmps48
      go_wp2
      go_ret
      exact ⟨rfl, by rw [hdn'.out]; exact R1.out, K1'.out⟩

end Go.Proofs.YtlglkiknpbfnmaaDoor

namespace Go.Proofs.YtlglkiknpbfnmaaDoor
open Go.RowKit
set_option linter.unusedVariables false

set_option maxHeartbeats 2000000 in
theorem place9_any {T : Nat → Prop} {w : World} {g sb cap : Nat} {wv : Value} {dvs : List Value} {m : M.Dsk} (h : DkAt T w g (.slice (some ⟨sb, 0, none⟩) (256 * m.safe.length) cap) wv dvs m) (hc : 256 * m.safe.length ≤ cap) (i : Nat) (hi : i < m.safe.length) (W : World)
    (hW : W.cell? ⟨g, 0, none⟩ = some (.slice (some ⟨sb, 0, none⟩) (256 * m.safe.length) cap)) :
    Calls Tryd.prog 50 #[.pointer (some ⟨g, 0, none⟩), .int .i64 (i : Int)] W fun e w' => e = .returned (.slice (some ⟨sb, 256 * i, none⟩) 256 (cap - 256 * i)) ∧ w' = W := by
  have hf := h.ok.few
  obtain ⟨n, hn⟩ : ∃ n, n = 256 * m.safe.length := ⟨_, rfl⟩
  obtain ⟨p, hp⟩ : ∃ p, p = 256 * i := ⟨_, rfl⟩
  rw [← hn] at hW hc
  rw [← hp]
  have hm : cap ≤ maxLen := by
    rcases h.srow.2 with ⟨e, _⟩ | ⟨g', cap', cur, e, _, _, h3, h4, _⟩
    · cases e
    · injection e with e1 e2 e3
      omega
  obtain ⟨c, hc'⟩ : ∃ c, c = cap - p := ⟨_, rfl⟩
  have hel : Tryd.prog.elem 34 = 5 := by simp [Program.elem, Tryd.underlying34]
  have s1 : (Instr.slice 34 (.slice (some ⟨sb, 0, none⟩) n cap) (some (.int .i64 (p : Int))) none none).run Tryd.prog W = .ok (.slice (some ⟨sb, p, none⟩) (n - p) c) W := by
    have hr : (Instr.slice 34 (.slice (some ⟨sb, 0, none⟩) n cap) (some (.int .i64 (p : Int))) none none).run Tryd.prog W = .ok (sliced (some ⟨sb, 0, none⟩) p n cap 1) W := by
      rw [run_slice_l W 34 (some ⟨sb, 0, none⟩) n cap (by rw [hel]; exact Tryd.underlying34) .i64 (p : Int) (by omega) (by omega), hel, Tryd.sizeOf5]
      simp
    rw [hr, sliced, if_neg (by omega), hc']
    simp [Addr.add]
    omega
  have t1 : wrap64 ((i : Int) * 256) = (p : Int) := by unfold wrap64; omega
  have t2 : (256 : Int) ≤ (c : Int) := by omega
  rw [← hc']
  clear h hf hn hp hm hc hi hc'
  go_enter Tryd.func50, Tryd.ntmps50
  go_wp2
  go_ret
  exact ⟨rfl, rfl⟩

set_option maxRecDepth 100000 in
set_option maxHeartbeats 4000000 in
theorem lay9_any {T : Nat → Prop} {w : World} {g : Nat} {sv wv : Value} {dvs : List Value} {m : M.Dsk} (h : DkAt T w g sv wv dvs m) (i : Nat) (hi : i < m.safe.length) (dv : Value) (bs : List UInt8) (hd : IsB w dv bs) (hl : bs.length = 256) :
    Calls Tryd.prog 37 #[.pointer (some ⟨g, 0, none⟩), .agg #[.int .i64 (i : Int), dv]] w fun e w' => e = .returned (.tuple #[]) ∧ DkAt T w' g sv wv dvs { m with safe := m.safe.set i bs } ∧ Chg (fun k => sv.ownBlock = some k) w w' := by
  have hf := h.ok.few
  obtain ⟨sb, cap, cur, es, _, hb, h1, h2, h3, h4⟩ := h.srow.blk9 (by rw [h.flat]; omega)
  rw [h.flat] at es h1 h4
  subst es
  have H := Lib.hid h
  obtain ⟨W, hW⟩ : ∃ W, Hid (W = w.alloc (.cells #[.int .i64 (i : Int), dv] 72)) := ⟨_, rfl⟩
  have kW : Below w.heap.size w W := by rw [hW.out]; exact (Below.refl _ _).alloc (Nat.le_refl _) _
  obtain ⟨x, hx⟩ : ∃ x, x = w.heap.size := ⟨_, rfl⟩
  have B1 : Blk W x 72 [.int .i64 (i : Int), dv] := by rw [hW.out]; exact Blk.newAt _ _ _ _ _ hx rfl
  have HWW := h.below kW
  have c0 : W.drew.cell? ⟨g, 0, none⟩ = some (.slice (some ⟨sb, 0, none⟩) (256 * m.safe.length) cap) := HWW.blk.cell 0
  have x0 : W.drew.cell? ⟨x, 0, none⟩ = some (.int .i64 (i : Int)) := B1.cell 0
  have x1 : W.drew.cell? ⟨x, 1, none⟩ = some dv := B1.cell 1
  have CP := place9_any HWW h1 i hi W.drew c0
  obtain ⟨da, dc, hdd⟩ := hd.shape
  rw [hl] at hdd
  obtain ⟨db, doff, rfl, hcell⟩ : ∃ b off, da = some ⟨b, off, none⟩ ∧ ∀ j, j < bs.length → w.cell? ⟨b, off + j, none⟩ = some (.int .u8 ((bs.getD j 0).toNat : Int)) := by
    obtain ⟨ao, cap', e, _, _, hat⟩ := hd
    rw [e] at hdd
    injection hdd with e1 e2 e3
    rcases hat with hat | ⟨b, off, e4, hc⟩
    · rw [hat] at hl; cases hl
    · exact ⟨b, off, by rw [← e1, e4], hc⟩
  subst hdd
  have HSRC : Hid (∀ j v, (Lib.byteCells bs)[j]? = some v → W.drew.cell? (Addr.add ⟨db, doff, none⟩ j) = some v) := by
    intro j v hj
    have hj2 : j < bs.length := by
      have := (List.getElem?_eq_some_iff.1 hj).1
      rwa [byteCells_length] at this
    rw [Addr.add_lit, ← hj, byteCells_getElem? _ _ hj2, ← hcell j hj2]
    exact kW.cell (p := ⟨db, doff + j, none⟩) (World.block_lt_of_cell? w _ (hcell j hj2))
  have HB : Hid (Blk W.drew sb 5 cur) := (hb.below kW hb.lt).drew
  have HL := Lib.hid hl
  have H1 := Lib.hid h1
  have H2 := Lib.hid h2
  have H3 := Lib.hid h3
  have H4 := Lib.hid h4
  have HI := Lib.hid hi
  have KW := Lib.hid kW
  have HR := Lib.hid HWW
  clear h hf hb h1 h2 h3 h4 kW B1 hd hcell hl hi HWW
  go_enter Tryd.func37, Tryd.ntmps37
  go_upto_region 1 with fail
  rw [← hW.out, ← hx]
  clear hW hx
  refine wp_region_still 6 (by kernel_rfl) (by kernel_rfl) ?_
  simp only [List.take_succ_cons, List.take_zero, List.drop_succ_cons, List.drop_zero]
  repeat (first | still_step | still_call CP)
  refine wpStill_nil ?_
  refine wpList_copy_blk rfl (.tmp 7) (.tmp 9) 34 34 rfl 5 Tryd.underlying34 (by kernel_rfl) (some ⟨sb, 256 * i, none⟩) (some ⟨db, doff, none⟩) 256 (cap - 256 * i) 256 dc rfl rfl sb (256 * i) cur 5 HB.out (Lib.byteCells bs) (by rw [byteCells_length, HL.out]; rfl) (fun _ => ⟨rfl, _, rfl, HSRC.out⟩) (by rw [byteCells_length, HL.out]; have := HI.out; have := H1.out; have := H3.out; omega) (byteCells_oneCell _) ?_
  intro w2 hb2 ho2
  have e2 := splice_row (cur := cur) (bs := m.safe.flatten) (xs := bs) (o := 256 * i) (by rw [H.out.flat]; exact H4.out) (by rw [HL.out, H.out.flat]; have := HI.out; omega) (by rw [H.out.flat]; have := H1.out; have := H3.out; omega)
  rw [HL.out, ← M.flat_set m.safe i bs H.out.ok.full HI.out] at e2
  have hfs : (m.safe.set i bs).flatten.length = 256 * m.safe.length := by
    rw [flat_length _ (fun c hc => by
      rcases List.mem_or_eq_of_mem_set hc with hc | hc
      · exact H.out.ok.full c hc
      · exact hc ▸ HL.out), List.length_set]
  have o2 : Own w2 0 (.slice (some ⟨sb, 0, none⟩) (256 * m.safe.length) cap) (m.safe.set i bs).flatten := by
    rw [← hfs]
    refine Own.of_blk9 (Nat.zero_le _) hb2 (by rw [hfs]; exact H1.out) H2.out ?_ (by rw [hfs, ← H.out.flat]; exact e2)
    rw [splice, List.length_append, List.length_append, List.length_take, List.length_drop, byteCells_length, HL.out]
    have := HI.out; have := H1.out; have := H3.out; omega
  have k2 : Chg (fun k => (Value.slice (some ⟨sb, 0, none⟩) (256 * m.safe.length) cap).ownBlock = some k) W w2 := (Chg.refl _ W).drew.trans (Chg.of_grown (F := fun k => (Value.slice (some ⟨sb, 0, none⟩) (256 * m.safe.length) cap).ownBlock = some k) ho2 fun k e => e) fun _ _ h => h
  have R2 := Lib.hid (HR.out.lay (m.safe.set i bs) k2 o2 (by simp) (fun c hc => by
      rcases List.mem_or_eq_of_mem_set hc with hc | hc
      · exact H.out.ok.full c hc
      · exact hc ▸ HL.out))
  have K2 : Hid (Chg (fun k => (Value.slice (some ⟨sb, 0, none⟩) (256 * m.safe.length) cap).ownBlock = some k) w w2) := (Chg.of_below KW.out).trans k2 fun _ _ h => h
  clear hb2 ho2 e2 hfs o2 k2 HSRC HB HL H1 H2 H3 H4 HI KW HR
  go_wp2
  go_end0
  exact ⟨rfl, R2.out, K2.out⟩

end Go.Proofs.YtlglkiknpbfnmaaDoor

namespace Go.Proofs.YtlglkiknpbfnmaaDoor
open Go.RowKit
set_option linter.unusedVariables false

theorem write_row9 : RowTy 61 72 2 32 (.agg #[.int .i64 0, .slice none 0 0]) := ⟨Tryd.underlying61, by kernel_rfl, rfl, by decide⟩

set_option maxHeartbeats 2000000 in
theorem write9_no {T : Nat → Prop} {w : World} {g : Nat} {sv wv : Value} {dvs : List Value} {m : M.Dsk} (h : DkAt T w g sv wv dvs m) (i : Int) (bv : Value) (bs : List UInt8) (hbv : IsB w bv bs) (hno : ¬ (0 ≤ i ∧ i < m.safe.length ∧ bs.length = 256)) :
    Calls Tryd.prog 42 #[.pointer (some ⟨g, 0, none⟩), .int .i64 i, bv] w fun e w' => e = .returned (.int .i64 1) ∧ w' = w := by
  have C := Lib.hid (has9_any h i)
  obtain ⟨l, hl⟩ : ∃ l, l = bs.length := ⟨_, rfl⟩
  obtain ⟨ba, bc, eb⟩ := hbv.shape
  rw [← hl] at eb hno
  subst eb
  obtain ⟨d, hd⟩ : ∃ d, d = decide (0 ≤ i ∧ i < (m.safe.length : Int)) := ⟨_, rfl⟩
  rw [← hd] at C
  cases d with
  | false =>
    clear h hbv hl hd hno
    go_enter Tryd.func42, Tryd.ntmps42
    go_wp2_with fail
    refine C.out.mono ?_
    rintro e w1 ⟨rfl, rfl⟩
    go_wp2
    go_ret
    exact ⟨rfl, rfl⟩
  | true =>
    have hi := of_decide_eq_true hd.symm
    have h3 : ¬ (l : Int) = 256 := by omega
    have h4 : ((l : Int) == 256) = false := by simpa using h3
    have h5 : ((l : Int) != 256) = true := by simpa using h3
    clear h hbv hl hd hno hi
    go_enter Tryd.func42, Tryd.ntmps42
    go_wp2_with fail
    refine C.out.mono ?_
    rintro e w1 ⟨rfl, rfl⟩
    go_wp2
    go_ret
    exact ⟨rfl, rfl⟩

set_option maxHeartbeats 2000000 in
theorem write9_down {T : Nat → Prop} {w : World} {g : Nat} {sv wv : Value} {dvs : List Value} {m : M.Dsk} (h : DkAt T w g sv wv dvs m) (i : Nat) (hi : i < m.safe.length) (bv : Value) (bs : List UInt8) (hbv : IsB w bv bs) (hl : bs.length = 256) (hd : m.down = true) :
    Calls Tryd.prog 42 #[.pointer (some ⟨g, 0, none⟩), .int .i64 (i : Int), bv] w fun e w' => e = .returned (.int .i64 11) ∧ w' = w := by
  have C := Lib.hid (has9_any h (i : Int))
  have c3 : w.cell? ⟨g, 3, none⟩ = some (.bool true) := by rw [← hd]; exact h.blk.cell 3
  rw [decide_eq_true (show (0 : Int) ≤ (i : Int) ∧ (i : Int) < (m.safe.length : Int) by omega)] at C
  obtain ⟨ba, bc, eb⟩ := hbv.shape
  rw [hl] at eb
  subst eb
  clear h hbv hl hd hi
  go_enter Tryd.func42, Tryd.ntmps42
  go_wp2_with fail
  refine C.out.mono ?_
  rintro e w1 ⟨rfl, rfl⟩
  go_wp2
  go_ret
  exact ⟨rfl, rfl⟩

set_option maxRecDepth 100000 in
set_option maxHeartbeats 4000000 in
theorem write9_ok {T : Nat → Prop} {w : World} {g : Nat} {sv wv : Value} {dvs : List Value} {m : M.Dsk} (h : DkAt T w g sv wv dvs m) (i : Nat) (hi : i < m.safe.length) (bv : Value) (bs : List UInt8) (hbv : IsB w bv bs) (hl : bs.length = 256) (hd : m.down = false) (hfew : m.wait.length < 1000000) :
    Calls Tryd.prog 42 #[.pointer (some ⟨g, 0, none⟩), .int .i64 (i : Int), bv] w fun e w' =>
      e = .returned (.int .i64 (if (({ m with wait := m.wait ++ [(i, bs)] } : M.Dsk).goes).2 then 11 else 0)) ∧ Chg T w w' ∧ ∃ wv' dvs' T', DkAt T' w' g sv wv' dvs' (m.write i bs) ∧ ∀ k, T' k → T k ∨ w.heap.size ≤ k := by
  have C := Lib.hid (has9_any h (i : Int))
  rw [decide_eq_true (show (0 : Int) ≤ (i : Int) ∧ (i : Int) < (m.safe.length : Int) by omega)] at C
  have H := Lib.hid h
  have HBV := Lib.hid hbv
  have HL := Lib.hid hl
  have HI := Lib.hid hi
  have HF := Lib.hid hfew
  have c1 : w.cell? ⟨g, 1, none⟩ = some wv := h.blk.cell 1
  have c3 : w.cell? ⟨g, 3, none⟩ = some (.bool false) := by rw [← hd]; exact h.blk.cell 3
  obtain ⟨q, hq⟩ : ∃ q, q = m.wait.length := ⟨_, rfl⟩
  obtain ⟨wa, wc, ew⟩ := ownShape h.wrow
  obtain ⟨ba, bc, eb⟩ := hbv.shape
  rw [← hq] at ew
  rw [hl] at eb
  subst ew eb
  have HQ : Hid (q = m.wait.length) := hq
  have HDN : Hid (m.down = false) := hd
  obtain ⟨mw, hmw⟩ : ∃ x, Hid (x = ({ m with wait := m.wait ++ [(i, bs)] } : M.Dsk)) := ⟨_, rfl⟩
  have MW : Hid (m.write i bs = mw.goes.1) := by rw [Hid, hmw.out]; rfl
  rw [MW.out, ← hmw.out]
  obtain ⟨c, hc⟩ : ∃ c : Int, Hid ((if mw.goes.2 = true then 11 else 0) = c) := ⟨_, rfl⟩
  rw [hc.out]
  clear h hbv hl hfew hd hq hi
  go_enter Tryd.func42, Tryd.ntmps42
  go_wp2_with fail
  refine C.out.mono ?_
  rintro e w1 ⟨rfl, rfl⟩
  clear C
  obtain ⟨w, rfl⟩ : ∃ x, x = w1 := ⟨_, rfl⟩
  go_upto_region 5 with fail
  refine region_T (fun w' => w'.cell? ⟨g, 1, none⟩ = some (.slice wa q wc)) [11, 12, 13] (by kernel_rfl) ?_
  have S0 : w.drew.cell? ⟨g, 1, none⟩ = some (.slice wa q wc) := c1
  refine anyT_take_at (i := 0) (v := .pointer (some ⟨g, 0, none⟩)) rfl rfl (by kernel_rfl) (by kernel_rfl) (by kernel_rfl) (by kernel_rfl) (fun _ _ _ h => h) (Or.inl ⟨by rfl, fun w hS => by have c : w.cell? ⟨g, 1, none⟩ = some (.slice wa q wc) := hS; go_simp⟩) S0 ?_
  simp only [List.setIfInBounds_toArray, List.set_cons_zero, List.set_cons_succ]
  refine anyT_take_at (i := 1) (v := .pointer (some ⟨g, 0, none⟩)) rfl rfl (by kernel_rfl) (by kernel_rfl) (by kernel_rfl) (by kernel_rfl) (fun _ _ _ h => h) (Or.inl ⟨by rfl, fun w hS => by have c : w.cell? ⟨g, 1, none⟩ = some (.slice wa q wc) := hS; go_simp⟩) S0 ?_
  simp only [List.setIfInBounds_toArray, List.set_cons_zero, List.set_cons_succ]
  refine anyT_take_at (i := 2) (v := .pointer (some ⟨g, 0, none⟩)) rfl rfl (by kernel_rfl) (by kernel_rfl) (by kernel_rfl) (by kernel_rfl) (fun _ _ _ h => h) (Or.inl ⟨by rfl, fun w hS => by have c : w.cell? ⟨g, 1, none⟩ = some (.slice wa q wc) := hS; go_simp⟩) S0 ?_
  simp only [List.setIfInBounds_toArray, List.set_cons_zero, List.set_cons_succ]
  refine anyT_take_at (i := 3) (v := .pointer (some ⟨g, 1, none⟩)) rfl rfl (by kernel_rfl) (by kernel_rfl) (by kernel_rfl) (by kernel_rfl) (fun _ _ _ h => h) (Or.inl ⟨by rfl, fun w hS => by have c : w.cell? ⟨g, 1, none⟩ = some (.slice wa q wc) := hS; go_simp⟩) S0 ?_
  simp only [List.setIfInBounds_toArray, List.set_cons_zero, List.set_cons_succ]
  refine anyT_take_at (i := 4) (v := .slice wa q wc) rfl rfl (by kernel_rfl) (by kernel_rfl) (by kernel_rfl) (by kernel_rfl) (fun _ _ _ h => h) (Or.inl ⟨by rfl, fun w hS => by have c : w.cell? ⟨g, 1, none⟩ = some (.slice wa q wc) := hS; go_simp⟩) S0 ?_
  simp only [List.setIfInBounds_toArray, List.set_cons_zero, List.set_cons_succ]
  refine anyT_take_at (i := 5) (v := .int .i64 (i : Int)) rfl rfl (by kernel_rfl) (by kernel_rfl) (by kernel_rfl) (by kernel_rfl) (fun _ _ _ h => h) (Or.inl ⟨by rfl, fun w hS => by have c : w.cell? ⟨g, 1, none⟩ = some (.slice wa q wc) := hS; go_simp⟩) S0 ?_
  simp only [List.setIfInBounds_toArray, List.set_cons_zero, List.set_cons_succ]
  refine anyT_take_at (i := 6) (v := .slice ba 256 bc) rfl rfl (by kernel_rfl) (by kernel_rfl) (by kernel_rfl) (by kernel_rfl) (fun _ _ _ h => h) (Or.inl ⟨by rfl, fun w hS => by have c : w.cell? ⟨g, 1, none⟩ = some (.slice wa q wc) := hS; go_simp⟩) S0 ?_
  simp only [List.setIfInBounds_toArray, List.set_cons_zero, List.set_cons_succ]
  refine anyT_ready (rs := [7]) (by kernel_rfl) (by simp) ?_
  refine ReadyT.cons rfl (fun K hK => ?_) ReadyT.nil
  go_simp
  have blk := H.out.blk
  have gl := blk.lt
  have kd : Below w.heap.size w w.drew := drewN_below (Below.refl _ w) 1
  refine (clone9_any (.slice ba 256 bc) bs w.drew (HBV.out.below kd) (by rw [HL.out]; decide)).mono ?_
  rintro e w2 ⟨dv, rfl, od, k2⟩
  have kw2 : Below w.heap.size w w2 := kd.trans k2
  obtain ⟨da, dc, rfl⟩ := ownShape od
  rw [HL.out] at od ⊢
  refine hK.out _ _ (.inr ((blk.below kw2 gl).cell 1)) ?_
  clear hK K
  refine anyT_take_at (i := 8) (v := .agg #[.int .i64 (i : Int), .slice da 256 dc]) rfl rfl (by kernel_rfl) (by kernel_rfl) (by kernel_rfl) (by kernel_rfl) (fun _ _ _ h => h) (Or.inl ⟨by rfl, fun w hS => by go_simp⟩) ((blk.below kw2 gl).cell 1) ?_
  simp only [List.setIfInBounds_toArray, List.set_cons_zero, List.set_cons_succ]
  refine anyT_ready (rs := [9]) (by kernel_rfl) (by simp) ?_
  refine ReadyT.cons rfl (fun K hK => ?_) ReadyT.nil
  go_simp
  obtain ⟨dv, hdv⟩ : ∃ x, x = Value.slice da 256 dc := ⟨_, rfl⟩
  rw [← hdv] at od ⊢
  obtain ⟨w3, hw3⟩ : ∃ x, x = w2.alloc (.cells #[.int .i64 (i : Int), dv] 72) := ⟨_, rfl⟩
  obtain ⟨p, hp⟩ : ∃ x, x = w2.heap.size := ⟨_, rfl⟩
  rw [← hw3, ← hp]
  have k3 : Below w2.heap.size w2 w3 := by rw [hw3]; exact (Below.refl _ _).alloc (Nat.le_refl _) _
  have kw3 : Below w.heap.size w w3 := kw2.trans (k3.mono kw2.size)
  have b3 : Blk w3 p 72 [.int .i64 (i : Int), dv] := by rw [hw3]; exact Blk.newAt _ _ _ _ _ hp rfl
  have d3 : IsB w3 dv bs := (od.isB).below k3
  have ld : Lies (fun b => w.heap.size ≤ b ∧ b < w2.heap.size) dv := Own.lies od fun k h1 h2 => ⟨h1, h2⟩
  have r3 := own_chg H.out.wrow (Chg.of_below (F := fun _ => False) kw3) (fun _ _ h => h)
  rw [← HQ.out] at r3
  refine hK.out _ _ (.inr ((blk.below kw3 gl).cell 1)) ?_
  clear hK K hw3 k2
  refine anyT_ready (rs := [10]) (by kernel_rfl) (by simp) ?_
  refine ReadyT.cons rfl (fun K hK => ?_) ReadyT.nil
  refine step_app_row write_row9 rfl (.tmp 24) (.tmp 29) rfl 0 _ q _ rfl r3 ⟨p, 0, none⟩ 1 1 [.int .i64 (i : Int), dv] rfl rfl ?cc ?c1 (by have := HF.out; rw [← HQ.out] at this; unfold maxLen; omega) (by have := HF.out; rw [← HQ.out] at this; omega) (Nat.zero_le _) ?_
  case cc => exact fun j u hj => by rw [Addr.add_lit, Nat.zero_add, b3.cell]; exact hj
  case c1 => intro u hu; simp only [List.mem_cons, List.not_mem_nil, or_false] at hu; rcases hu with rfl | rfl; rfl; rw [hdv]; rfl
  intro wv0 w4 o4 g4 a4
  obtain ⟨wa', wc', rfl⟩ := ownShape o4
  have hrow : ∀ b, (Value.slice wa q wc).ownBlock = some b → T b ∧ b ≠ g := fun b hb => ⟨(H.out.tw b hb).1, (H.out.tw b hb).2.1⟩
  have B4 : Blk w4 g 63 [sv, .slice wa q wc, .int .i64 (m.left : Int), .bool m.down] := (blk.below kw3 gl).grown g4 fun e => (hrow g e.symm).2 rfl
  refine hK.out _ _ (.inr (B4.cell 1)) ?_
  clear hK K
  refine anyT_free_at (i := 11) (v := .pointer (some ⟨g, 0, none⟩)) rfl rfl (by kernel_rfl) (by kernel_rfl) (by kernel_rfl) (by kernel_rfl) (fun _ _ _ h => h) (Or.inl ⟨by rfl, fun w _ => by go_simp⟩) ?_
  simp only [List.setIfInBounds_toArray, List.set_cons_zero, List.set_cons_succ]
  refine anyT_free_at (i := 12) (v := .pointer (some ⟨g, 1, none⟩)) rfl rfl (by kernel_rfl) (by kernel_rfl) (by kernel_rfl) (by kernel_rfl) (fun _ _ _ h => h) (Or.inl ⟨by rfl, fun w _ => by go_simp⟩) ?_
  simp only [List.setIfInBounds_toArray, List.set_cons_zero, List.set_cons_succ]
  refine anyT_ready (rs := [13]) (by kernel_rfl) (by simp) ?_
  refine ReadyT.cons rfl (fun K hK => ?_) ReadyT.nil
  have c4 := B4.cell 1
  have f4 := B4.frozen 1
  go_simp
  obtain ⟨wv', hwv'⟩ : ∃ x, x = Value.slice wa' (q + 1) wc' := ⟨_, rfl⟩
  rw [← hwv'] at o4 a4 ⊢
  have hbn : ∀ b, wv'.ownBlock = some b → (T b ∧ b ≠ g) ∨ (w2.heap.size ≤ b ∧ b < w4.heap.size) := fun b hb => by
    rcases a4 with a4 | a4
    · exact .inl (hrow b (a4 ▸ hb))
    · rw [a4] at hb
      injection hb with hb
      have h1 := (o4.lt b (by rw [a4, hb])).2
      have h2 := k3.size
      exact .inr ⟨by omega, h1⟩
  obtain ⟨w5, hw5⟩ : ∃ x, x = w4.setCell ⟨g, 1, none⟩ wv' := ⟨_, rfl⟩
  rw [← hw5]
  have kc : Chg (fun b => b = g) w4 w5 := by rw [hw5]; exact (Chg.refl _ w4).cell 1 wv'
  have B5 : Blk w5 g 63 [sv, wv', .int .i64 (m.left : Int), .bool m.down] := by rw [hw5]; exact B4.set_ 1 wv'
  have hth := H.out.there
  have kA : Chg (fun b => b = g ∨ (Value.slice wa q wc).ownBlock = some b) w w5 := by
    have e1 : Chg (fun b => b = g ∨ (Value.slice wa q wc).ownBlock = some b) w w3 := Chg.of_below kw3
    have e2 : Chg (fun b => b = g ∨ (Value.slice wa q wc).ownBlock = some b) w3 w4 := Chg.of_grown g4 fun k hk => .inr hk
    exact (e1.trans e2 fun _ _ h => h).trans kc fun _ _ h => .inl h
  have o5 : w5.ownsRow 0 72 2 wv' (q + 1) (chgs m.wait dvs ++ [.int .i64 (i : Int), dv]) := own_chg o4 kc fun b hb e => by
    rcases hbn b hb with h | h
    · exact h.2 e
    · have := kw2.size
      omega
  have d5 : IsB w5 dv bs := (d3.chg (Chg.of_grown (F := fun b => (Value.slice wa q wc).ownBlock = some b) g4 fun k hk => hk) (ld.mono fun b hb e => by have := hth b (hrow b e).1; omega)).chg kc (ld.mono fun b hb e => by omega)
  have l5 : Lies (fun b => w.heap.size ≤ b ∧ b < w5.heap.size ∧ wv'.ownBlock ≠ some b) dv := ld.mono fun b hb => ⟨hb.1, by have h1 := k3.size; have h2 := g4.size; have h3 := kc.size; omega, fun e => by
    rcases hbn b e with h | h
    · have := hth b h.1
      omega
    · omega⟩
  have R5 := Lib.hid (H.out.push (i := i) (bs := bs) (wv' := wv') (dv := dv) HI.out HL.out (HQ.out ▸ kA) B5 (by rw [← HQ.out]; exact o5) d5 l5 (by
    rcases a4 with a4 | a4
    · exact .inl a4
    · have h1 := (o4.lt _ a4).2
      exact .inr ⟨_, a4, kw3.size, Nat.lt_of_lt_of_le h1 kc.size⟩))
  have KA : Hid (Chg T w w5) := kA.mono fun k hk e => by
    rcases e with e | e
    · exact e ▸ H.out.tg
    · exact (hrow k e).1
  refine hK.out _ _ (.inl (by simp)) ?_
  clear hK K
  refine anyT_done (by kernel_rfl) ?_ _
  rw [← hmw.out] at R5
  have KT : Hid (∀ k, Grown T w w5 k → T k ∨ w.heap.size ≤ k) := fun k h => h.1
  have KG : Hid (∀ k, k < w.heap.size → k = g → T k) := fun k _ e => e ▸ H.out.tg
  have HMD : Hid (mw.down = false) := by rw [Hid, hmw.out]; exact HDN.out
  clear hmw hw5 hwv' o4 a4 g4 hbn kc B5 hth kA o5 d5 l5 B4 hrow c4 f4 b3 d3 ld r3 k3 kw3 kw2 od hdv hp blk gl S0 H HBV HL HI HF HQ c1 c3 kd
  go_wp2_with fail
  have AC := Lib.hid (act9_any R5.out HMD.out)
  rw [hc.out] at AC
  refine AC.out.mono ?_
  rintro e w6 ⟨rfl, r6, k6⟩
  have R6 := Lib.hid r6
  have K6 : Hid (Chg T w w6) := KA.out.trans k6 KG.out
  clear r6 k6 R5 KA KG AC
  go_wp2
  go_ret
  exact ⟨rfl, K6.out, wv', _, _, R6.out, KT.out⟩

end Go.Proofs.YtlglkiknpbfnmaaDoor

namespace Go.Proofs.YtlglkiknpbfnmaaDoor
open Go.RowKit
set_option linter.unusedVariables false

set_option maxHeartbeats 2000000 in
theorem sync9_down {T : Nat → Prop} {w : World} {g : Nat} {sv wv : Value} {dvs : List Value} {m : M.Dsk} (h : DkAt T w g sv wv dvs m) (hd : m.down = true) :
    Calls Tryd.prog 32 #[.pointer (some ⟨g, 0, none⟩)] w fun e w' => e = .returned (.int .i64 11) ∧ w' = w := by
  have c3 : w.cell? ⟨g, 3, none⟩ = some (.bool true) := by rw [← hd]; exact h.blk.cell 3
  clear h hd
  go_enter Tryd.func32, Tryd.ntmps32
  go_wp2
  go_ret
  exact ⟨rfl, rfl⟩

set_option maxHeartbeats 2000000 in
theorem sync9_goes {T : Nat → Prop} {w : World} {g : Nat} {sv wv : Value} {dvs : List Value} {m : M.Dsk} (h : DkAt T w g sv wv dvs m) (hd : m.down = false) (hg : m.goes.2 = true) :
    Calls Tryd.prog 32 #[.pointer (some ⟨g, 0, none⟩)] w fun e w' => e = .returned (.int .i64 11) ∧ Chg T w w' ∧ DkAt T w' g sv wv dvs m.goes.1 := by
  have c3 : w.cell? ⟨g, 3, none⟩ = some (.bool false) := by rw [← hd]; exact h.blk.cell 3
  have G := Lib.hid (act9_any h hd)
  have TG := Lib.hid h.tg
  rw [if_pos hg] at G
  clear h hd hg
  go_enter Tryd.func32, Tryd.ntmps32
  go_wp2_with fail
  refine G.out.mono ?_
  rintro e w1 ⟨rfl, r1, k1⟩
  have R1 := Lib.hid r1
  have K1 : Hid (Chg T w w1) := k1.one TG.out
  clear r1 k1 G c3
  go_wp2
  go_ret
  exact ⟨rfl, K1.out, R1.out⟩

set_option maxRecDepth 100000 in
set_option maxHeartbeats 4000000 in
theorem sync9_ok {T : Nat → Prop} {w : World} {g : Nat} {sv wv : Value} {dvs : List Value} {m : M.Dsk} (h : DkAt T w g sv wv dvs m) (hd : m.down = false) (hg : m.goes.2 = false) :
    Calls Tryd.prog 32 #[.pointer (some ⟨g, 0, none⟩)] w fun e w' => e = .returned (.int .i64 0) ∧ Chg T w w' ∧ DkAt T w' g sv (.slice none 0 0) [] m.goes.1.synced := by
  have c3 : w.cell? ⟨g, 3, none⟩ = some (.bool false) := by rw [← hd]; exact h.blk.cell 3
  have G := Lib.hid (act9_any h hd)
  have TG := Lib.hid h.tg
  have TS := Lib.hid h.ts
  rw [if_neg (by rw [hg]; decide)] at G
  obtain ⟨m1, hm1⟩ : ∃ x, x = m.goes.1 := ⟨_, rfl⟩
  have hw1 : m1.wait = m.wait := by rw [hm1, M.Dsk.goes]; split; rfl; split <;> rfl
  rw [← hm1] at G ⊢
  obtain ⟨q, hq⟩ : ∃ q, q = m1.wait.length := ⟨_, rfl⟩
  obtain ⟨wa, wc, ew⟩ := ownShape h.wrow
  rw [← hw1, ← hq] at ew
  subst ew
  have HQ : Hid (q = m1.wait.length) := hq
  clear h hd hg hm1 hw1 hq
  go_enter Tryd.func32, Tryd.ntmps32
  go_wp2_with fail
  refine G.out.mono ?_
  rintro e w1 ⟨rfl, r1, k1⟩
  have R1 := Lib.hid r1
  have K1 : Hid (Chg T w w1) := k1.one TG.out
  have c1 : w1.cell? ⟨g, 1, none⟩ = some (.slice wa q wc) := r1.blk.cell 1
  clear r1 k1 G c3
  go_wp2
  clear c1
  go_loopw [19] (fun i wr => ∃ (j : Nat), j ≤ q ∧ i = .int .i64 (j : Int) ∧ Hid (DkAt T wr g sv (.slice wa q wc) dvs { m1 with safe := M.laid m1.safe (m1.wait.take j) }) ∧ Hid (Chg T w wr))
    (fun i _ => q - (intOf i).toNat)
  case atStart => exact ⟨0, by omega, rfl, R1, K1⟩
  case round =>
    clear R1 K1
    obtain ⟨wz, rfl⟩ : ∃ x, x = wr := ⟨_, rfl⟩
    obtain ⟨j, hj, rfl, rr, kk⟩ := hrel
    by_cases hlt : j < q
    · have hjw : j < m1.wait.length := by have := HQ.out; omega
      obtain ⟨x, hx⟩ : ∃ x, x = m1.wait.getD j (0, []) := ⟨_, rfl⟩
      have hxm : x ∈ m1.wait := by rw [hx, List.getD_eq_getElem?_getD, List.getElem?_eq_getElem hjw]; exact List.getElem_mem hjw
      have hok := rr.out.ok.wat x hxm
      obtain ⟨wb, rfl, hwc, cw, fw⟩ := ownCells (by have := rr.out.wrow; rwa [show ({ m1 with safe := M.laid m1.safe (m1.wait.take j) } : M.Dsk).wait.length = q from HQ.out.symm] at this) (by omega)
      obtain ⟨dv, hdv⟩ : ∃ dv, dv = dvs.getD j undef := ⟨_, rfl⟩
      have hcg := chgs_get m1.wait dvs j rr.out.dlen hjw
      have hcl := chgs_length m1.wait dvs rr.out.dlen
      rw [← hx, ← hdv] at hcg
      have e0 : wz.cell? ⟨wb, j * 2, none⟩ = some (.int .i64 (x.1 : Int)) := by rw [cw _ (by rw [hcl]; omega), Nat.mul_comm]; exact hcg.1
      have e1 : wz.cell? ⟨wb, j * 2 + 1, none⟩ = some dv := by rw [cw _ (by rw [hcl]; omega), Nat.mul_comm]; exact hcg.2
      have dj := (rr.out.dvs_ j hjw).1
      rw [← hdv, ← hx] at dj
      obtain ⟨da, dc, hdd⟩ := dj.shape
      rw [hok.2] at hdd
      obtain ⟨W, hW⟩ : ∃ W, Hid (W = wz.alloc (.cells #[.int .i64 (x.1 : Int), dv] 72)) := ⟨_, rfl⟩
      have kW : Below wz.heap.size wz W := by rw [hW.out]; exact (Below.refl _ _).alloc (Nat.le_refl _) _
      have CL := Lib.hid (lay9_any (rr.out.below kW) x.1 hok.1 dv x.2 (dj.below kW) hok.2)
      have KW : Hid (Chg T w W) := kk.out.trans (Chg.of_below (F := fun _ => False) kW) fun _ _ h => h.elim
      have HE : Hid (({ m1 with safe := (M.laid m1.safe (m1.wait.take j)).set x.1 x.2 } : M.Dsk) = { m1 with safe := M.laid m1.safe (m1.wait.take (j + 1)) }) := by
        rw [Hid, List.take_add_one, List.getElem?_eq_getElem hjw]
        have ex : m1.wait[j] = x := by rw [hx, List.getD_eq_getElem?_getD, List.getElem?_eq_getElem hjw]; rfl
        rw [ex, Option.toList_some, M.laid_snoc]
      obtain ⟨b, hb⟩ : ∃ b, b = x.1 := ⟨_, rfl⟩
      have HBX : Hid (b = x.1) := hb
      rw [← hb] at e0 CL hW
      rw [hdd] at e1 CL hW
      have HJ : Hid (j < q) := hlt
      have b1 : (j : Int) < (q : Int) := by omega
      have b3 : (0 : Int) ≤ (j : Int) := by omega
      have n1 : ((j : Int)).toNat = j := by omega
      have n3 : wrap64 ((j : Int) + 1) = ((j + 1 : Nat) : Int) := by have := hwc.1; have := hwc.2; unfold maxLen at this; unfold wrap64; omega
      clear hcg hcl cw fw hok hxm hx hb hwc kW dj hdv hdd hj hlt hjw
      go_wp2_with fail
      rw [← hW.out]
      refine CL.out.mono ?_
      rintro e w2 ⟨rfl, r2, k2⟩
      have R2 : Hid (DkAt T w2 g sv (.slice (some ⟨wb, 0, none⟩) q wc) dvs { m1 with safe := M.laid m1.safe (m1.wait.take (j + 1)) }) := by rw [← HE.out, ← HBX.out]; exact r2
      have K2 : Hid (Chg T w w2) := KW.out.trans k2 fun k _ e => (TS.out k e).1
      clear r2 k2 CL HE KW hW e0 e1 rr kk
      go_wp2
      go_roundw
      case rel => exact ⟨j + 1, by have := HJ.out; omega, by rw [n3], R2, K2⟩
      case measure => rw [n3]; have := HJ.out; simp only [intOf, Int.toNat_natCast]; omega
    · obtain rfl : j = q := by omega
      have e1 : m1.wait.take j = m1.wait := by rw [HQ.out, List.take_length]
      rw [e1] at rr
      have B0 := rr.out.blk
      have B1 := B0.set_ 1 (.slice none 0 0)
      have k1 : Chg (fun b => b = g) wz (wz.setCell ⟨g, 1, none⟩ (.slice none 0 0)) := (Chg.refl _ wz).cell 1 _
      have R2 := Lib.hid (rr.out.drained k1 m1.left m1.down rr.out.left_ B1)
      have K2 : Hid (Chg T w (wz.setCell ⟨g, 1, none⟩ (.slice none 0 0))) := kk.out.trans (k1.one TG.out) fun _ _ h => h
      have f1 := B0.frozen 1
      have c1 := B0.cell 1
      clear B0 B1 k1 rr kk hlt hj e1
      go_wp2
      go_ret
      exact ⟨rfl, K2.out, R2.out⟩

set_option maxRecDepth 100000 in
set_option maxHeartbeats 8000000 in
theorem crash9_any {T : Nat → Prop} {w : World} {g : Nat} {sv wv : Value} {dvs : List Value} {m1 : M.Dsk} (h : DkAt T w g sv wv dvs m1) (kv : Value) (kp : List Bool) (hkv : IsZ w kv kp) (hlk : kp ≠ [] → Lies (fun b => ¬ T b) kv) :
    Calls Tryd.prog 17 #[.pointer (some ⟨g, 0, none⟩), kv] w fun e w' => e = .returned (.tuple #[]) ∧ Chg T w w' ∧ DkAt T w' g sv (.slice none 0 0) [] (m1.crash kp) := by
  have TG := Lib.hid h.tg
  have TS := Lib.hid h.ts
  obtain ⟨l, hl⟩ : ∃ l, l = kp.length := ⟨_, rfl⟩
  have HL : Hid (l = kp.length) := hl
  obtain ⟨ka, kc, ek, hk1, hk2, hat⟩ := hkv
  rw [← hl] at ek
  subst ek
  have HC : Hid (∀ W, Chg T w W → ∀ i, i < l → ∃ b off, ka = some ⟨b, off, none⟩ ∧ W.cell? ⟨b, off + i, none⟩ = some (.bool (kp.getD i false))) := by
    intro W kW i hi
    rcases hat with h0 | ⟨b, off, rfl, hc⟩
    · rw [hl, h0] at hi
      exact absurd hi (Nat.not_lt_zero _)
    · refine ⟨b, off, rfl, ?_⟩
      have hcc := hc i (by omega)
      rw [World.cell?_of_block (kW.block b (World.block_lt_of_cell? w _ hcc) (hlk (fun e => by rw [e] at hl; simp at hl; omega) _ _ _ rfl)), hcc]
  obtain ⟨q, hq⟩ : ∃ q, q = m1.wait.length := ⟨_, rfl⟩
  obtain ⟨wa, wc, ew⟩ := ownShape h.wrow
  rw [← hq] at ew
  subst ew
  have HQ : Hid (q = m1.wait.length) := hq
  have HQM : Hid (q < 9223372036854775808) := by
    rcases h.wrow.2 with ⟨_, h0⟩ | ⟨_, cap', _, e1, _, _, h3, h4, _⟩
    · rw [Hid, hq, h0]; decide
    · unfold maxLen at h4
      rw [Hid]
      omega
  have R1 : Hid (DkAt T w g sv (.slice wa q wc) dvs { m1 with safe := M.kept m1.safe m1.wait kp 0 }) := h
  have c1 : w.cell? ⟨g, 1, none⟩ = some (.slice wa q wc) := h.blk.cell 1
  clear h hq hat hlk hk1 hk2 hl
  go_enter Tryd.func17, Tryd.ntmps17
  go_wp2
  clear c1
  go_loopw [11] (fun i wr => ∃ (j : Nat), j ≤ q ∧ i = .int .i64 (j : Int) ∧ Hid (DkAt T wr g sv (.slice wa q wc) dvs { m1 with safe := M.kept m1.safe m1.wait kp j }) ∧ Hid (Chg T w wr))
    (fun i _ => q - (intOf i).toNat)
  case atStart => exact ⟨0, by omega, rfl, R1, Chg.refl _ _⟩
  case round =>
    clear R1
    obtain ⟨wz, rfl⟩ : ∃ x, x = wr := ⟨_, rfl⟩
    obtain ⟨j, hj, rfl, rr, kk⟩ := hrel
    by_cases hlt : j < q
    · have hjw : j < m1.wait.length := by have := HQ.out; omega
      obtain ⟨x, hx⟩ : ∃ x, x = m1.wait.getD j (0, []) := ⟨_, rfl⟩
      have hxm : x ∈ m1.wait := by rw [hx, List.getD_eq_getElem?_getD, List.getElem?_eq_getElem hjw]; exact List.getElem_mem hjw
      have hok := rr.out.ok.wat x hxm
      obtain ⟨wb, rfl, hwc, cw, fw⟩ := ownCells (by have := rr.out.wrow; rwa [show ({ m1 with safe := M.kept m1.safe m1.wait kp j } : M.Dsk).wait.length = q from HQ.out.symm] at this) (by omega)
      obtain ⟨dv, hdv⟩ : ∃ dv, dv = dvs.getD j undef := ⟨_, rfl⟩
      have hcg := chgs_get m1.wait dvs j rr.out.dlen hjw
      have hcl := chgs_length m1.wait dvs rr.out.dlen
      rw [← hx, ← hdv] at hcg
      have e0 : wz.cell? ⟨wb, j * 2, none⟩ = some (.int .i64 (x.1 : Int)) := by rw [cw _ (by rw [hcl]; omega), Nat.mul_comm]; exact hcg.1
      have e1 : wz.cell? ⟨wb, j * 2 + 1, none⟩ = some dv := by rw [cw _ (by rw [hcl]; omega), Nat.mul_comm]; exact hcg.2
      have dj := (rr.out.dvs_ j hjw).1
      rw [← hdv, ← hx] at dj
      obtain ⟨da, dc, hdd⟩ := dj.shape
      rw [hok.2] at hdd
      obtain ⟨W, hW⟩ : ∃ W, Hid (W = wz.alloc (.cells #[.int .i64 (x.1 : Int), dv] 72)) := ⟨_, rfl⟩
      have kW : Below wz.heap.size wz W := by rw [hW.out]; exact (Below.refl _ _).alloc (Nat.le_refl _) _
      have RW := Lib.hid (rr.out.below kW)
      have CL := Lib.hid (lay9_any RW.out x.1 hok.1 dv x.2 (dj.below kW) hok.2)
      have KW : Hid (Chg T w W) := kk.out.trans (Chg.of_below (F := fun _ => False) kW) fun _ _ h => h.elim
      have n3 : wrap64 ((j : Int) + 1) = ((j + 1 : Nat) : Int) := by have := HQM.out; unfold wrap64; omega
      have HJ : Hid (j < q) := hlt
      have b1 : (j : Int) < (q : Int) := by omega
      have b3 : (0 : Int) ≤ (j : Int) := by omega
      have n1 : ((j : Int)).toNat = j := by omega
      by_cases hkeep : kp.getD j false = true
      · have hjl : j < l := by
          rw [HL.out]
          apply Classical.byContradiction
          intro hn
          rw [List.getD_eq_getElem?_getD, List.getElem?_eq_none (by omega)] at hkeep
          cases hkeep
        obtain ⟨kb, ko, rfl, ckk⟩ := HC.out wz kk.out j hjl
        rw [hkeep] at ckk
        have ck3 : W.cell? ⟨kb, ko + j, none⟩ = some (.bool true) := (kW.cell (p := ⟨kb, ko + j, none⟩) (World.block_lt_of_cell? wz _ ckk)).trans ckk
        have HE : Hid (({ m1 with safe := (M.kept m1.safe m1.wait kp j).set x.1 x.2 } : M.Dsk) = { m1 with safe := M.kept m1.safe m1.wait kp (j + 1) }) := by
          rw [Hid, M.kept, if_pos hkeep, ← hx]
        obtain ⟨b, hb⟩ : ∃ b, b = x.1 := ⟨_, rfl⟩
        have HBX : Hid (b = x.1) := hb
        rw [← hb] at e0 CL hW
        rw [hdd] at e1 CL hW
        have ck2 := ck3
        rw [hW.out] at ck2
        have b0 : (j : Int) < (l : Int) := by omega
        clear ck3
        clear hcg hcl cw fw hok hxm hx hb hwc dj hdv hdd hj hlt hjw hkeep kW RW
        go_wp2_with fail
        rw [← hW.out]
        refine CL.out.mono ?_
        rintro e w2 ⟨rfl, r2, k2⟩
        have R2 : Hid (DkAt T w2 g sv (.slice (some ⟨wb, 0, none⟩) q wc) dvs { m1 with safe := M.kept m1.safe m1.wait kp (j + 1) }) := by rw [← HE.out, ← HBX.out]; exact r2
        have K2 : Hid (Chg T w w2) := KW.out.trans k2 fun k _ e => (TS.out k e).1
        clear r2 k2 CL HE KW hW e0 e1 rr kk ckk ck2
        go_wp2
        go_roundw
        case rel => exact ⟨j + 1, by have := HJ.out; omega, by rw [n3], R2, K2⟩
        case measure => rw [n3]; have := HJ.out; simp only [intOf, Int.toNat_natCast]; omega
      · have R2 : Hid (DkAt T W g sv (.slice (some ⟨wb, 0, none⟩) q wc) dvs { m1 with safe := M.kept m1.safe m1.wait kp (j + 1) }) := by
          rw [Hid, M.kept, if_neg hkeep]
          exact RW.out
        rw [Bool.not_eq_true] at hkeep
        rw [hdd] at e1 hW
        obtain ⟨b, hb⟩ : ∃ b, b = x.1 := ⟨_, rfl⟩
        rw [← hb] at e0 hW
        by_cases hjl : j < l
        · obtain ⟨kb, ko, rfl, ckk⟩ := HC.out wz kk.out j hjl
          rw [hkeep] at ckk
          have ck2 : W.cell? ⟨kb, ko + j, none⟩ = some (.bool false) := (kW.cell (p := ⟨kb, ko + j, none⟩) (World.block_lt_of_cell? wz _ ckk)).trans ckk
          rw [hW.out] at ck2
          have b0 : (j : Int) < (l : Int) := by omega
          clear hcg hcl cw fw hok hxm hx hb hwc dj hdv hdd hj hlt hjw hkeep kW RW CL
          go_wp2
          rw [← hW.out]
          go_roundw
          case rel => exact ⟨j + 1, by have := HJ.out; omega, by rw [n3], R2, KW⟩
          case measure => rw [n3]; have := HJ.out; simp only [intOf, Int.toNat_natCast]; omega
        · have b0 : ¬ (j : Int) < (l : Int) := by omega
          clear hcg hcl cw fw hok hxm hx hb hwc dj hdv hdd hj hlt hjw hkeep kW RW CL
          go_wp2
          rw [← hW.out]
          go_roundw
          case rel => exact ⟨j + 1, by have := HJ.out; omega, by rw [n3], R2, KW⟩
          case measure => rw [n3]; have := HJ.out; simp only [intOf, Int.toNat_natCast]; omega
    · obtain rfl : j = q := by omega
      have e1 : M.kept m1.safe m1.wait kp j = M.kept m1.safe m1.wait kp m1.wait.length := by rw [← HQ.out]
      rw [e1] at rr
      have B0 := rr.out.blk
      have B1 := ((B0.set_ 1 (.slice none 0 0)).set_ 2 (.int .i64 ((0 : Nat) : Int))).set_ 3 (.bool false)
      have k1 : Chg (fun b => b = g) wz (((wz.setCell ⟨g, 1, none⟩ (.slice none 0 0)).setCell ⟨g, 2, none⟩ (.int .i64 ((0 : Nat) : Int))).setCell ⟨g, 3, none⟩ (.bool false)) := (((Chg.refl _ wz).cell 1 _).cell 2 _).cell 3 _
      have R2 := Lib.hid (rr.out.drained k1 0 false (by decide) B1)
      have K2 : Hid (Chg T w (((wz.setCell ⟨g, 1, none⟩ (.slice none 0 0)).setCell ⟨g, 2, none⟩ (.int .i64 ((0 : Nat) : Int))).setCell ⟨g, 3, none⟩ (.bool false))) := kk.out.trans (k1.one TG.out) fun _ _ h => h
      have f1 := B0.frozen 1
      have f2 := B0.frozen 2
      have f3 := B0.frozen 3
      have c1 := B0.cell 1
      have c2 := B0.cell 2
      have c3 := B0.cell 3
      clear B0 B1 k1 rr kk hlt hj e1
      go_wp2
      go_end0
      exact ⟨rfl, K2.out, R2.out⟩

end Go.Proofs.YtlglkiknpbfnmaaDoor

namespace Go.Proofs.YtlglkiknpbfnmaaDoor
open Go.RowKit
set_option linter.unusedVariables false

/-- 'b[m:]', whatever b's address is. -/
theorem from9 (ao : Option Addr) (n cap m : Nat) (hm : m ≤ n) (W : World) : (Instr.slice 34 (.slice ao n cap) (some (.int .i64 (m : Int))) none none).run Tryd.prog W = .ok (.slice (if cap = m then ao else ao.map (·.add m)) (n - m) (cap - m)) W := by
  have hel : Tryd.prog.elem 34 = 5 := by simp [Program.elem, Tryd.underlying34]
  rw [run_slice_l W 34 ao n cap (by rw [hel]; exact Tryd.underlying34) .i64 (m : Int) (by omega) (by omega), hel, Tryd.sizeOf5]
  simp only [Result.andThen_ok, sliced, Int.toNat_natCast, Nat.mul_one]

end Go.Proofs.YtlglkiknpbfnmaaDoor

namespace Go.Proofs.YtlglkiknpbfnmaaDoor
open Go.RowKit Go.Shelf
set_option linter.unusedVariables false

attribute [local go_sem] Oper.semAt_some

/-- The first k of q places, the last one first. -/
def M.down (q k : Nat) : List Nat := (List.range k).map fun j => q - 1 - j

theorem M.down_succ (q k : Nat) : M.down q (k + 1) = M.down q k ++ [q - 1 - k] := by simp [M.down, List.range_succ]

theorem M.down_length (q k : Nat) : (M.down q k).length = k := by simp [M.down]

theorem backward_any (a : Option Addr) (n c : Nat) (w : World) :
    Calls Tryd.prog 59 #[.slice a n c] w fun e w' =>
      e = .returned (.func (.func 65) #[] #[.pointer (some ⟨w.heap.size, 0, none⟩)]) ∧ w' = w.alloc (.cells #[.slice a n c] 61) := by
  have hmf : ∀ (fn : Fn) (first cap : Array Value) (w : World), (Instr.makeFunc fn first cap).run Tryd.prog w = .ok (.func fn first cap) w := fun _ _ _ _ => rfl
  go_enter Tryd.func59, Tryd.ntmps59
  go_wp2
  go_ret
  exact ⟨by simp, rfl⟩

set_option maxRecDepth 100000 in
set_option maxHeartbeats 2000000 in
theorem backward1_in (n l B1 n₀ q sc : Nat) (hn : 1 ≤ n) (hq : q < 1000000) (sa : Option Addr) (nm : Nat → Nat) (dv : Nat → Value) (hd1 : ∀ j, (dv j).oneCell' = true) (w0 : World) (hB1 : B1 < n₀) (J Jx : List Nat → World → Prop)
    (h1 : w0.cell? ⟨B1, 0, none⟩ = some (.slice sa q sc)) (hrow : ∀ j, j < q → ∃ b, sa = some ⟨b, 0, none⟩ ∧ b < n₀ ∧ w0.cell? ⟨b, j * 2, none⟩ = some (.int .i64 (nm j : Int)) ∧ w0.cell? ⟨b, j * 2 + 1, none⟩ = some (dv j))
    (hY : ∀ (pre : List Nat) (x : Nat) (W : World), J pre W → pre.length < q → YieldAt Fence.wide (n - 1) Tryd.prog l #[.int .i64 (x : Int), .agg #[.int .i64 (nm x : Int), dv x]] W fun e W' =>
      (e = .returned (.bool true) ∧ J (pre ++ [x]) W' ∧ Below n₀ W W') ∨ (e = .returned (.bool false) ∧ Jx (pre ++ [x]) W'))
    (W : World) (hB : Below n₀ w0 W) (h0 : J [] W) :
    CallsIn Fence.wide n Tryd.prog 65 #[.func (.yield l) #[] #[], .pointer (some ⟨B1, 0, none⟩)] W fun e W' => (∃ v, e = .returned v) ∧
      ((∃ ys, ys = M.down q q ∧ J ys W') ∨ (∃ pre, (∃ k, k < q ∧ pre = M.down q (k + 1)) ∧ Jx pre W')) := by
  have HY := Lib.hid hY
  have HROW := Lib.hid hrow
  have HBN := Lib.hid hB1
  have HC1 := Lib.hid h1
  have HD1 := Lib.hid hd1
  have c1 : W.cell? ⟨B1, 0, none⟩ = some (.slice sa q sc) := (hB.cell (p := ⟨B1, 0, none⟩) hB1).trans h1
  have t1 : wrap64 ((q : Int) - 1) = (q : Int) - 1 := by unfold wrap64; omega
  clear hY hrow hB1 h1 hd1
  refine callsIn_of_wp Tryd.func65 rfl trivial ?_ rfl
  simp only [Tryd.ntmps65, List.size_toArray, List.length_cons, List.length_nil, Nat.reduceAdd, Nat.reduceSub, Array.replicate_succ, Array.replicate_zero, List.push_toArray, List.append_toArray, List.nil_append, List.cons_append]
  gi_wp2
  clear c1
  gi_loopw [3] (fun i wr => ∃ t : Nat, t ≤ q ∧ i = .int .i64 ((t : Int) - 1) ∧ J (M.down q (q - t)) wr ∧ Below n₀ w0 wr)
    (fun i _ => (intOf i + 1).toNat)
  case atStart => exact ⟨q, Nat.le_refl _, by first | rw [t1] | rfl, by rw [Nat.sub_self]; exact h0, hB⟩
  case round =>
    clear h0 hB t1
    obtain ⟨t, ht, rfl, hJ, hb⟩ := hrel
    cases t with
    | zero =>
      have e0 : ((0 : Nat) : Int) - 1 = -1 := rfl
      rw [e0]
      gi_wp2
      go_end0
      exact ⟨⟨_, rfl⟩, .inl ⟨_, rfl, hJ⟩⟩
    | succ s =>
      have e0 : ((s + 1 : Nat) : Int) - 1 = (s : Int) := by omega
      rw [e0]
      obtain ⟨b, rfl, hbn, r0, r1⟩ := HROW.out s (by omega)
      have c1 : wr.cell? ⟨B1, 0, none⟩ = some (.slice (some ⟨b, 0, none⟩) q sc) := (hb.cell (p := ⟨B1, 0, none⟩) HBN.out).trans HC1.out
      have s0 : wr.cell? ⟨b, s * 2, none⟩ = some (.int .i64 (nm s : Int)) := (hb.cell (p := ⟨b, s * 2, none⟩) hbn).trans r0
      have s1 : wr.cell? ⟨b, s * 2 + 1, none⟩ = some (dv s) := (hb.cell (p := ⟨b, s * 2 + 1, none⟩) hbn).trans r1
      have hlen : (M.down q (q - (s + 1))).length < q := by rw [M.down_length]; omega
      have HDN : Hid (M.down q (q - (s + 1)) ++ [s] = M.down q (q - s)) := by
        rw [Hid, show q - s = q - (s + 1) + 1 by omega, M.down_succ, show q - 1 - (q - (s + 1)) = s by omega]
      obtain ⟨fn, tmps, assign, body, hy, hR⟩ := HY.out (M.down q (q - (s + 1))) s wr hJ hlen
      rw [HDN.out] at hR
      have b1 : (s : Int) < (q : Int) := by omega
      have b2 : (0 : Int) ≤ (s : Int) := by omega
      have b3 : ((s : Int)).toNat = s := by omega
      have n3 : wrap64 ((s : Int) - 1) = (s : Int) - 1 := by unfold wrap64; omega
      have HT : Hid (s + 1 ≤ q) := ht
      obtain ⟨d, hd⟩ : ∃ d, d = dv s := ⟨_, rfl⟩
      rw [← hd] at s1 hy
      clear hd r0 r1 ht hlen
      gi_wp2
      refine hR.mono ?_
      rintro e W3 (⟨rfl, hJ3, hk3⟩ | ⟨rfl, hJx3⟩)
      · have hb3 : Below n₀ w0 W3 := hb.trans hk3
        clear c1 s0 s1 hy hR
        gi_wp2
        go_roundw
        case rel => exact ⟨s, by have := HT.out; omega, rfl, hJ3, hb3⟩
        case measure => simp only [intOf]; omega
      · gi_wp2
        refine bodyPost_ret (results_none rfl _ _ _) rfl ?_
        exact ⟨⟨_, rfl⟩, .inr ⟨_, ⟨q - (s + 1), by have := HT.out; omega, by rw [show q - (s + 1) + 1 = q - s by have := HT.out; omega]⟩, hJx3⟩⟩

/-- What Backward hands back calls a loop's body for each write, the last one first. -/
theorem backward_stops (n B1 q sc : Nat) (hn : 1 ≤ n) (hq : q < 1000000) (sa : Option Addr) (nm : Nat → Nat) (dv : Nat → Value) (hd1 : ∀ j, (dv j).oneCell' = true) (w0 : World) (hB1 : B1 < w0.heap.size)
    (h1 : w0.cell? ⟨B1, 0, none⟩ = some (.slice sa q sc)) (hrow : ∀ j, j < q → ∃ b, sa = some ⟨b, 0, none⟩ ∧ b < w0.heap.size ∧ w0.cell? ⟨b, j * 2, none⟩ = some (.int .i64 (nm j : Int)) ∧ w0.cell? ⟨b, j * 2 + 1, none⟩ = some (dv j)) :
    SeqStopsK Fence.wide n Tryd.prog 65 #[.pointer (some ⟨B1, 0, none⟩)] (fun x : Nat => #[.int .i64 (x : Int), .agg #[.int .i64 (nm x : Int), dv x]]) (Below w0.heap.size)
      (fun ys => ys = M.down q q) (fun pre => ∃ k, k < q ∧ pre = M.down q (k + 1)) q w0 := by
  intro l J Jx W hW hJ hJx hY h0
  exact backward1_in n l B1 w0.heap.size q sc hn hq sa nm dv hd1 w0 hB1 J Jx h1 hrow hY W hW h0

end Go.Proofs.YtlglkiknpbfnmaaDoor

namespace Go.Proofs.YtlglkiknpbfnmaaDoor
open Go.RowKit Go.Shelf
set_option linter.unusedVariables false

attribute [local go_sem] Oper.semAt_some

namespace M
theorem take_snoc (c : List (Nat × List UInt8)) (k : Nat) (h : k < c.length) : c.take (k + 1) = c.take k ++ [c.getD k (0, [])] := by
  rw [List.take_add_one, List.getElem?_eq_getElem h, List.getD_eq_getElem?_getD, List.getElem?_eq_getElem h]
  rfl

theorem seen_none (i : Nat) (b : List UInt8) (c : List (Nat × List UInt8)) (h : ∀ j, j < c.length → (c.getD j (0, [])).1 ≠ i) : seen i b c = b := by
  have : ∀ k, k ≤ c.length → seen i b (c.take k) = b := by
    intro k
    induction k with
    | zero => intro _; rfl
    | succ k ih =>
      intro hk
      rw [take_snoc c k hk, seen_snoc, if_neg (h k hk)]
      exact ih (by omega)
  have := this c.length (Nat.le_refl _)
  rwa [List.take_length] at this

theorem seen_at (i : Nat) (b : List UInt8) (c : List (Nat × List UInt8)) (y : Nat) (hy : y < c.length) (he : (c.getD y (0, [])).1 = i) (h : ∀ j, y < j → j < c.length → (c.getD j (0, [])).1 ≠ i) : seen i b c = (c.getD y (0, [])).2 := by
  have : ∀ t, y + 1 + t ≤ c.length → seen i b (c.take (y + 1 + t)) = (c.getD y (0, [])).2 := by
    intro t
    induction t with
    | zero => intro _; rw [Nat.add_zero, take_snoc c y hy, seen_snoc, if_pos he]
    | succ t ih =>
      intro ht
      rw [← Nat.add_assoc, take_snoc c (y + 1 + t) (by omega), seen_snoc, if_neg (h _ (by omega) (by omega))]
      exact ih (by omega)
  have := this (c.length - (y + 1)) (by omega)
  rwa [show y + 1 + (c.length - (y + 1)) = c.length by omega, List.take_length] at this

theorem mem_down (q k j : Nat) : j ∈ down q k ↔ ∃ t, t < k ∧ j = q - 1 - t := by
  simp only [down, List.mem_map, List.mem_range]
  exact ⟨fun ⟨t, h, e⟩ => ⟨t, h, e.symm⟩, fun ⟨t, h, e⟩ => ⟨t, h, e.symm⟩⟩
end M

/-- The parts of a slice. -/
def sA : Value → Option Addr
  | .slice a _ _ => a
  | _ => none
def sC : Value → Nat
  | .slice _ _ c => c
  | _ => 0

theorem blk_box9 (B g : Nat) (t : TypeId) (cs : List Value) : OwnFrom B (fun (_ : List Nat) W => Blk W g t cs) := fun s W W' row hs hg hr => hs.grown hg (by
  intro e
  obtain ⟨_, o, ho, hc⟩ := hr g e.symm
  rw [show W.heap[g]? = _ from hs] at ho
  cases ho
  cases hc)

theorem keeps_below9 {W W' : World} (k : Below W.heap.size W W') (B : Nat) : KeepsFrom B W W' := ⟨k.size, fun i o _ hi _ => (k.block i (Array.getElem?_eq_some_iff.1 hi).1).trans hi⟩

set_option maxRecDepth 100000 in
set_option maxHeartbeats 4000000 in
theorem seen9_any {T : Nat → Prop} {w : World} {g : Nat} {sv wv : Value} {dvs : List Value} {m : M.Dsk} (h : DkAt T w g sv wv dvs m) (i : Nat) (hi : i < m.safe.length) (hfew : m.wait.length < 1000000) :
    Calls Tryd.prog 52 #[.pointer (some ⟨g, 0, none⟩), .int .i64 (i : Int)] w fun e w' => ∃ r, e = .returned r ∧ IsB w' r (m.read i) ∧ Below w.heap.size w w' := by
  have H := Lib.hid h
  obtain ⟨q, hq⟩ : ∃ q, q = m.wait.length := ⟨_, rfl⟩
  obtain ⟨wa, wc, ew⟩ := ownShape h.wrow
  rw [← hq] at ew
  subst ew
  have HQ : Hid (q = m.wait.length) := hq
  have HQM : Hid (q < 1000000) := by rw [Hid, hq]; exact hfew
  have HI := Lib.hid hi
  have c1 : w.cell? ⟨g, 1, none⟩ = some (.slice wa q wc) := h.blk.cell 1
  obtain ⟨nm, hnm⟩ : ∃ nm : Nat → Nat, nm = fun j => (m.wait.getD j (0, [])).1 := ⟨_, rfl⟩
  obtain ⟨da, hda⟩ : ∃ da : Nat → Option Addr, da = fun j => sA (dvs.getD j undef) := ⟨_, rfl⟩
  obtain ⟨dc, hdc⟩ : ∃ dc : Nat → Nat, dc = fun j => sC (dvs.getD j undef) := ⟨_, rfl⟩
  have HDV : Hid (∀ j, j < q → dvs.getD j undef = .slice (da j) 256 (dc j) ∧ IsB w (.slice (da j) 256 (dc j)) (m.wait.getD j (0, [])).2) := by
    intro j hj
    have hjw : j < m.wait.length := by omega
    have dj := (h.dvs_ j hjw).1
    have hok := h.ok.wat (m.wait.getD j (0, [])) (by rw [List.getD_eq_getElem?_getD, List.getElem?_eq_getElem hjw]; exact List.getElem_mem hjw)
    obtain ⟨a, c, e⟩ := dj.shape
    rw [hok.2] at e
    rw [hda, hdc]
    show dvs.getD j undef = .slice (sA (dvs.getD j undef)) 256 (sC (dvs.getD j undef)) ∧ IsB w (.slice (sA (dvs.getD j undef)) 256 (sC (dvs.getD j undef))) (m.wait.getD j (0, [])).2
    rw [e] at dj ⊢
    exact ⟨rfl, dj⟩
  have HROW : Hid (∀ j, j < q → ∃ b, wa = some ⟨b, 0, none⟩ ∧ b < w.heap.size ∧ w.cell? ⟨b, j * 2, none⟩ = some (.int .i64 (nm j : Int)) ∧ w.cell? ⟨b, j * 2 + 1, none⟩ = some (.slice (da j) 256 (dc j))) := by
    intro j hj
    have hjw : j < m.wait.length := by omega
    obtain ⟨wb, rfl, hwc, cw, fw⟩ := ownCells (by have := h.wrow; rwa [← hq] at this) (by omega)
    have hcg := chgs_get m.wait dvs j h.dlen hjw
    have hcl := chgs_length m.wait dvs h.dlen
    have e0 : w.cell? ⟨wb, j * 2, none⟩ = some (.int .i64 (nm j : Int)) := by rw [cw _ (by rw [hcl]; omega), Nat.mul_comm, hnm]; exact hcg.1
    have e1 : w.cell? ⟨wb, j * 2 + 1, none⟩ = some (.slice (da j) 256 (dc j)) := by rw [cw _ (by rw [hcl]; omega), Nat.mul_comm, ← (HDV.out j hj).1]; exact hcg.2
    exact ⟨wb, rfl, World.block_lt_of_cell? w _ e0, e0, e1⟩
  have HNM : Hid (∀ j, nm j = (m.wait.getD j (0, [])).1) := fun j => by rw [hnm]
  clear h hq hi hfew hnm hda hdc
  refine (callsIn_wide (n := 3)).1 ?_
  refine callsIn_of_wp_marks Tryd.func52 rfl trivial ?_ rfl
  simp only [Tryd.ntmps52, List.size_toArray, List.length_cons, List.length_nil, Nat.reduceAdd, Nat.reduceSub, Array.replicate_succ, Array.replicate_zero, List.push_toArray, List.append_toArray, List.nil_append, List.cons_append]
  refine wpIn_wide.2 ?_
  have c1a : ((w.alloc (.cells #[.int .i64 (i : Int)] 3)).alloc (.cells #[.slice none 0 0] 34)).cell? ⟨g, 1, none⟩ = some (.slice wa q wc) := by
    rw [← c1]
    exact ((((Below.refl _ w).alloc (Nat.le_refl _) (.cells #[.int .i64 (i : Int)] 3)).alloc (by simp) (.cells #[.slice none 0 0] 34) : Below w.heap.size w _)).cell (p := ⟨g, 1, none⟩) H.out.blk.lt
  go_wp2_with fail
  refine (backward_any _ _ _ _).mono ?_
  rintro e w4 ⟨rfl, hw4⟩
  obtain ⟨x0, hx0⟩ : ∃ x, x = w.heap.size := ⟨_, rfl⟩
  obtain ⟨x1, hx1⟩ : ∃ x, x = w.heap.size + 1 := ⟨_, rfl⟩
  obtain ⟨B1, hB1⟩ : ∃ x, x = ((w.alloc (.cells #[.int .i64 (i : Int)] 3)).alloc (.cells #[.slice none 0 0] 34)).heap.size := ⟨_, rfl⟩
  have k4 : Below w.heap.size w w4 := by rw [hw4]; exact (((Below.refl _ w).alloc (Nat.le_refl _) _).alloc (by simp) _).alloc (by simp; omega) _
  have I0 : Blk w4 x0 3 [.int .i64 (i : Int)] := by rw [hw4, hx0]; exact ((Blk.newAt _ _ _ _ _ rfl rfl).alloc _).alloc _
  have I1 : Blk w4 x1 34 [.slice none 0 0] := by rw [hw4, hx1]; exact (Blk.newAt _ _ _ _ _ (by simp) rfl).alloc _
  have IB : Blk w4 B1 61 [.slice wa q wc] := by rw [hw4, hB1]; exact Blk.newAt _ _ _ _ _ rfl rfl
  have HX0 : Hid (x0 = w.heap.size) := hx0
  have HX1 : Hid (x1 = w.heap.size + 1) := hx1
  have HS4 : Hid (w4.heap.size = w.heap.size + 3) := by rw [Hid, hw4]; simp
  have HBS : Hid (B1 = w.heap.size + 2) := by rw [Hid, hB1]; simp
  rw [← hx1, ← hx0, ← hB1]
  clear hw4 c1a c1 hB1 hx0 hx1
  go_wp2
  refine (wpIn_wide (n := 3)).1 ?_
  have hrow4 : ∀ j, j < q → ∃ b, wa = some ⟨b, 0, none⟩ ∧ b < w4.heap.size ∧ w4.cell? ⟨b, j * 2, none⟩ = some (.int .i64 (nm j : Int)) ∧ w4.cell? ⟨b, j * 2 + 1, none⟩ = some (.slice (da j) 256 (dc j)) := by
    intro j hj
    obtain ⟨b, e, hb, r0, r1⟩ := HROW.out j hj
    exact ⟨b, e, by have := HS4.out; omega, (k4.cell (p := ⟨b, j * 2, none⟩) hb).trans r0, (k4.cell (p := ⟨b, j * 2 + 1, none⟩) hb).trans r1⟩
  refine wpIn_rangeFunc_ownH rfl (by omega) (gf := 65) (lb := #[.pointer (some ⟨B1, 0, none⟩)]) rfl trivial (enters_of Tryd.func65 (by kernel_rfl) rfl)
    (backward_stops (3 - 1) B1 q wc (by omega) HQM.out wa nm (fun j => .slice (da j) 256 (dc j)) (fun _ => rfl) w4 (by have := HS4.out; have := HBS.out; omega) (IB.cell 0) hrow4) (fun h k => h.trans k)
    (fun W l o o' hl h1 h2 h3 => belowK_b (w := w4) (Nat.le_refl _) W l o o' hl h1 h2 h3) (Below.refl _ _) (fun _ => rfl)
    (fun pre W => (∀ y ∈ pre, nm y ≠ i) ∧ Below w4.heap.size w4 W)
    (fun c pre W => (c = .ret ∧ ∃ ini last, pre = ini ++ [last] ∧ (∀ y ∈ ini, nm y ≠ i) ∧ nm last = i ∧ Blk W x1 34 [.slice (da last) 256 (dc last)]) ∧ Below w.heap.size w W)
    ?hI ?hIx ⟨by simp, Below.refl _ _⟩
    (fun x a' W => ∃ y, x1 < y ∧ a' = { tmps := #[.pointer (some ⟨g, 0, none⟩), .int .i64 (i : Int), undef, .pointer (some ⟨x0, 0, none⟩), .pointer (some ⟨x1, 0, none⟩), undef, .pointer (some ⟨y, 0, none⟩), .pointer (some ⟨g, 0, none⟩), .pointer (some ⟨g, 0, none⟩), .pointer (some ⟨g, 1, none⟩), .slice wa q wc, .func (.func 65) #[] #[.pointer (some ⟨B1, 0, none⟩)], .int .i64 (x : Int), .agg #[.int .i64 (nm x : Int), .slice (da x) 256 (dc x)], undef, undef, undef, undef, undef, undef, undef, undef, undef], defers := [] } ∧ Blk W y 72 [.int .i64 (nm x : Int), .slice (da x) 256 (dc x)])
    ?hAx ?assign ?body ?done ?stop
  case hI => exact OwnFrom.and (fun s W W' row hs hg hr => hs) (ownFrom_below (Nat.le_refl _) (Nat.le_refl _))
  case hIx =>
    intro c
    exact OwnFrom.and (fun s W W' row hs hg hr => by
      obtain ⟨hc, ini, last, e1, e2, e3, e4⟩ := hs
      exact ⟨hc, ini, last, e1, e2, e3, blk_box9 _ x1 _ _ s W W' row e4 hg hr⟩) (ownFrom_below (Nat.le_refl _) k4.size)
  case hAx =>
    intro x a' s W W' row ⟨y, h1, h2, h3⟩ hg hr
    exact ⟨y, h1, h2, blk_box9 _ y _ _ [] W W' row h3 hg hr⟩
  case assign =>
    intro l pre x W K hI hK
    have HKK := Lib.hid hK
    clear hK
    obtain ⟨hp, hB⟩ := hI
    gi_wp2
    have k5 : Below W.heap.size W (W.alloc (.cells #[.int .i64 (nm x : Int), .slice (da x) 256 (dc x)] 72)) := (Below.refl _ _).alloc (Nat.le_refl _) _
    exact HKK.out _ _ (keeps_below9 k5 _) (k5.mono hB.size) ⟨hp, hB.trans (k5.mono hB.size)⟩ ⟨W.heap.size, by have := hB.size; have := HS4.out; have := HX1.out; omega, rfl, Blk.newAt _ _ _ _ _ rfl rfl⟩
  case body =>
    rintro l pre x a' W hl _ ⟨hp, hB⟩ ⟨y, hy, rfl, by_⟩ hlt
    have cx0 : W.cell? ⟨x0, 0, none⟩ = some (.int .i64 (i : Int)) := (I0.below hB I0.lt).cell 0
    have b1 := I1.below hB I1.lt
    have cx1 : W.cell? ⟨x1, 0, none⟩ = some (.slice none 0 0) := b1.cell 0
    have fx1 : W.frozen? ⟨x1, 0, none⟩ = false := b1.frozen 0
    have y0 : W.cell? ⟨y, 0, none⟩ = some (.int .i64 (nm x : Int)) := by_.cell 0
    have y1 : W.cell? ⟨y, 1, none⟩ = some (.slice (da x) 256 (dc x)) := by_.cell 1
    have HB := Lib.hid hB
    have HB1 := Lib.hid b1
    have HP := Lib.hid hp
    have hmix : Tryd.prog.follows .mixedOrders = true := by kernel_rfl
    obtain ⟨b, hb⟩ : ∃ b, b = nm x := ⟨_, rfl⟩
    rw [← hb] at y0
    clear hB b1 hp by_
    by_cases hbi : b = i
    · have b5 : (b : Int) = (i : Int) := by omega
      have b6 : ((b : Int) == (i : Int)) = true := by simpa using b5
      gi_wp2
      exact ⟨(KeepsOthers.setCell _ _ _).from _, ⟨rfl, pre, x, rfl, HP.out, by rw [← hb]; exact hbi, HB1.out.set_ 0 _⟩, (k4.trans (HB.out.mono k4.size)).setCell (p := ⟨x1, 0, none⟩) (by have := HX1.out; show w.heap.size ≤ x1; omega) _⟩
    · have b5 : ¬ (b : Int) = (i : Int) := by omega
      have b6 : ((b : Int) == (i : Int)) = false := by simpa using b5
      gi_wp2
      exact ⟨KeepsFrom.refl _ _, Below.refl _ _, fun z hz => (List.mem_append.1 hz).elim (HP.out z) (fun e => by simp at e; subst e; rw [← hb]; exact hbi), HB.out⟩
  case done =>
    rintro D ys W hD rfl ⟨hp, hB⟩ hK
    obtain ⟨sb, cap, cur, es, _, hbk, h1, h2, h3, h4⟩ := H.out.srow.blk9 (by rw [H.out.flat]; have := HI.out; omega)
    rw [H.out.flat] at es h1
    subst es
    have kW : Below w.heap.size w W := k4.trans (hB.mono k4.size)
    have cg : W.cell? ⟨g, 0, none⟩ = some (.slice (some ⟨sb, 0, none⟩) (256 * m.safe.length) cap) := (H.out.below kW).blk.cell 0
    have CP := Lib.hid (place9_any H.out h1 i HI.out W cg)
    have ir : IsB w (.slice (some ⟨sb, 256 * i, none⟩) 256 (cap - 256 * i)) (m.read i) := by
      have hr : m.read i = m.safe.getD i [] := by
        rw [M.Dsk.read]
        refine M.seen_none _ _ _ fun j hj => ?_
        rw [← HNM.out j]
        exact hp j ((M.mem_down q q j).2 ⟨q - 1 - j, by have := HQ.out; omega, by have := HQ.out; omega⟩)
      have := IsB.mid (i := 256 * i) (k := 256) (c := cap - 256 * i) H.out.srow.isB (by rw [H.out.flat]; have := HI.out; omega) (by have := HI.out; omega) (by omega)
      rw [Nat.zero_add, M.flat_mid _ _ H.out.ok.full HI.out] at this
      rw [hr]
      exact this
    have cx0 : W.cell? ⟨x0, 0, none⟩ = some (.int .i64 (i : Int)) := (I0.below hB I0.lt).cell 0
    have b1 := I1.below hB I1.lt
    have cx1 : W.cell? ⟨x1, 0, none⟩ = some (.slice none 0 0) := b1.cell 0
    have fx1 : W.frozen? ⟨x1, 0, none⟩ = false := b1.frozen 0
    have HB1 := Lib.hid b1
    have HK := Lib.hid hK
    have KW := Lib.hid kW
    have IR := Lib.hid ir
    have HD := Lib.hid hD
    have HKS := Lib.hid k4.size
    clear hp hB hK hbk h1 h2 h3 h4 cg b1 kW ir hD
    dsimp only
    go_upto_region 5 with fail
    go_wp2_with fail
    refine CP.out.mono ?_
    rintro e W5 ⟨rfl, rfl⟩
    go_wp2
    obtain ⟨V, hV⟩ : ∃ V, V = Value.slice (some ⟨sb, 256 * i, none⟩) 256 (cap - 256 * i) := ⟨_, rfl⟩
    have IV := IR.out
    rw [← hV] at IV ⊢
    have hK' := (KeepsOthers.setCell W5 ⟨x1, 0, none⟩ V).same D _ HK.out rfl
    have hc5 := cell_kept (World.cell?_setCell_same' W5 ⟨x1, 0, none⟩ V (by rw [cx1]; rfl)) (grownBy_putObj' _ D (.deferred none)) (fun r e => by cases e; exact ⟨_, hK', rfl⟩)
    have kk := (KW.out.setCell (p := ⟨x1, 0, none⟩) (by have := HX1.out; show w.heap.size ≤ x1; omega) V).trans (belowK_b (w := w) (Nat.le_refl _) _ D _ (.deferred none) (by have := HD.out; have := HKS.out; omega) hK' rfl rfl)
    refine ⟨by simp, .inl ⟨_, _, rfl, run_takeDeferred hK', ?_⟩⟩
    exact ⟨V, by simp [results, Tryd.f52, go_sem, hc5], V, rfl, IV.below kk, kk⟩
  case stop =>
    rintro D c pre W hD ⟨k, hk, rfl⟩ ⟨⟨rfl, ini, last, e1, e2, e3, hcr⟩, hB⟩ hK
    rw [M.down_succ] at e1
    obtain ⟨rfl, e5⟩ := List.append_inj' e1 rfl
    obtain rfl : q - 1 - k = last := by simpa using e5
    have hd := HDV.out (q - 1 - k) (by omega)
    have hr : m.read i = (m.wait.getD (q - 1 - k) (0, [])).2 := by
      rw [M.Dsk.read]
      refine M.seen_at _ _ _ _ (by have := HQ.out; omega) (by rw [← HNM.out]; exact e3) fun j h1 h2 => ?_
      rw [← HNM.out j]
      exact e2 j ((M.mem_down q k j).2 ⟨q - 1 - j, by have := HQ.out; omega, by have := HQ.out; omega⟩)
    obtain ⟨V, hV⟩ : ∃ V, V = Value.slice (da (q - 1 - k)) 256 (dc (q - 1 - k)) := ⟨_, rfl⟩
    have IV := hd.2
    rw [← hr] at IV
    rw [← hV] at IV hcr
    clear hr hd
    have cx1 : W.cell? ⟨x1, 0, none⟩ = some V := hcr.cell 0
    dsimp only
    gi_wp2
    have hc5 := cell_kept cx1 (grownBy_putObj' _ D (.deferred none)) (fun r e => by cases e; exact ⟨_, hK, rfl⟩)
    have kk := hB.trans (belowK_b (w := w) (Nat.le_refl _) W D _ (.deferred none) (by have := k4.size; omega) hK rfl rfl)
    refine ⟨by simp, .inl ⟨_, _, rfl, run_takeDeferred hK, ?_⟩⟩
    exact ⟨V, by simp [results, Tryd.f52, go_sem, hc5], V, rfl, IV.below kk, kk⟩

theorem DkAt.read_length {T : Nat → Prop} {w : World} {g : Nat} {sv wv : Value} {dvs : List Value} {m : M.Dsk} (h : DkAt T w g sv wv dvs m) (i : Nat) (hi : i < m.safe.length) : (m.read i).length = 256 :=
  M.seen_length i _ _ (by rw [List.getD_eq_getElem?_getD, List.getElem?_eq_getElem hi]; exact h.ok.full _ (List.getElem_mem hi)) fun x hx => (h.ok.wat x hx).2

set_option maxHeartbeats 2000000 in
theorem read9_ok {T : Nat → Prop} {w : World} {g : Nat} {sv wv : Value} {dvs : List Value} {m : M.Dsk} (h : DkAt T w g sv wv dvs m) (i : Nat) (hi : i < m.safe.length) (hfew : m.wait.length < 1000000) :
    Calls Tryd.prog 41 #[.pointer (some ⟨g, 0, none⟩), .int .i64 (i : Int)] w fun e w' => ∃ r, e = .returned (.tuple #[r, .int .i64 0]) ∧ Own w' w.heap.size r (m.read i) ∧ Below w.heap.size w w' := by
  have C := Lib.hid (has9_any h (i : Int))
  rw [decide_eq_true (show (0 : Int) ≤ (i : Int) ∧ (i : Int) < (m.safe.length : Int) by omega)] at C
  have S := Lib.hid (seen9_any h i hi hfew)
  have HL := Lib.hid (h.read_length i hi)
  clear h hi hfew
  go_enter Tryd.func41, Tryd.ntmps41
  go_wp2_with fail
  refine C.out.mono ?_
  rintro e w1 ⟨rfl, rfl⟩
  clear C
  go_wp2_with fail
  refine S.out.mono ?_
  rintro e w2 ⟨v, rfl, iv, k2⟩
  have CL := Lib.hid (clone9_any v (m.read i) w2 iv (by rw [HL.out]; decide))
  have K2 := Lib.hid k2
  clear S iv k2
  go_wp2_with fail
  refine CL.out.mono ?_
  rintro e w3 ⟨r, rfl, o3, k3⟩
  have O3 := Lib.hid (o3.mono K2.out.size)
  have K3 : Hid (Below w1.heap.size w1 w3) := K2.out.trans (k3.mono K2.out.size)
  clear o3 k3 CL
  go_wp2
  go_ret2
  exact ⟨r, rfl, O3.out, K3.out⟩

set_option maxHeartbeats 2000000 in
theorem read9_no {T : Nat → Prop} {w : World} {g : Nat} {sv wv : Value} {dvs : List Value} {m : M.Dsk} (h : DkAt T w g sv wv dvs m) (i : Int) (hi : ¬ (0 ≤ i ∧ i < (m.safe.length : Int))) :
    Calls Tryd.prog 41 #[.pointer (some ⟨g, 0, none⟩), .int .i64 i] w fun e w' => e = .returned (.tuple #[.slice none 0 0, .int .i64 1]) ∧ w' = w := by
  have C := Lib.hid (has9_any h i)
  rw [decide_eq_false hi] at C
  clear h hi
  go_enter Tryd.func41, Tryd.ntmps41
  go_wp2_with fail
  refine C.out.mono ?_
  rintro e w1 ⟨rfl, rfl⟩
  clear C
  go_wp2
  go_ret2
  exact ⟨rfl, rfl⟩

end Go.Proofs.YtlglkiknpbfnmaaDoor

namespace Go.Proofs.YtlglkiknpbfnmaaDoor
open Go.RowKit
set_option linter.unusedVariables false
set_option maxRecDepth 100000

/-- The code's disk of the state m lies in the blocks T, its struct in block g. -/
def CodeDk (T : Nat → Prop) (w : World) (g : Nat) (m : M.Dsk) : Prop := ∃ sv wv dvs, DkAt T w g sv wv dvs m

theorem CodeDk.chg {T F : Nat → Prop} {w w' : World} {g : Nat} {m : M.Dsk} (h : CodeDk T w g m) (k : Chg F w w') (hF : ∀ b, T b → ¬ F b) : CodeDk T w' g m := by
  obtain ⟨sv, wv, dvs, h⟩ := h
  exact ⟨sv, wv, dvs, h.chg k hF⟩

theorem CodeDk.there {T : Nat → Prop} {w : World} {g : Nat} {m : M.Dsk} (h : CodeDk T w g m) : ∀ k, T k → k < w.heap.size := by
  obtain ⟨sv, wv, dvs, h⟩ := h
  exact h.there

theorem CodeDk.ok {T : Nat → Prop} {w : World} {g : Nat} {m : M.Dsk} (h : CodeDk T w g m) : m.Ok := by
  obtain ⟨sv, wv, dvs, h⟩ := h
  exact h.ok

theorem codeDk_new (n : Int) (hn : -9223372036854775808 ≤ n ∧ n < 9223372036854775808) (w : World) : Calls Tryd.prog 9 #[.int .i64 n] w fun e w' =>
    ∃ g T, e = .returned (.pointer (some ⟨g, 0, none⟩)) ∧ CodeDk T w' g (M.dnew n.toNat) ∧ (∀ k, T k → w.heap.size ≤ k) ∧ Below w.heap.size w w' :=
  (new9_any n hn w).mono fun e w' ⟨g, sv, T, he, h, ht, k⟩ => ⟨g, T, he, ⟨sv, _, _, h⟩, ht, k⟩

theorem codeDk_load {bv : Value} {bs : List UInt8} {w : World} (hb : IsB w bv bs) (h1 : bs.length % 256 = 0) (h2 : bs.length ≤ 557056) : Calls Tryd.prog 22 #[bv] w fun e w' =>
    ∃ g T, e = .returned (.tuple #[.pointer (some ⟨g, 0, none⟩), .int .i64 0]) ∧ CodeDk T w' g (M.dload bs) ∧ (∀ k, T k → w.heap.size ≤ k) ∧ Below w.heap.size w w' :=
  (load9_ok _ _ _ hb h1 h2).mono fun e w' ⟨g, sv, T, he, h, ht, k⟩ => ⟨g, T, he, ⟨sv, _, _, h⟩, ht, k⟩

theorem codeDk_no {bv : Value} {bs : List UInt8} {w : World} (hb : IsB w bv bs) (hno : ¬ (bs.length % 256 = 0 ∧ bs.length ≤ 557056)) : Calls Tryd.prog 22 #[bv] w fun e w' =>
    e = .returned (.tuple #[.pointer none, .int .i64 1]) ∧ Below w.heap.size w w' :=
  (load9_no _ _ _ hb hno).mono fun e w' ⟨he, hw⟩ => ⟨he, hw ▸ Below.refl _ _⟩

theorem codeDk_write {T : Nat → Prop} {w : World} {g : Nat} {m : M.Dsk} (hD : CodeDk T w g m) (i : Int) (bv : Value) (bs : List UInt8) (hb : IsB w bv bs) (hfew : m.wait.length < 1000000) :
    Calls Tryd.prog 42 #[.pointer (some ⟨g, 0, none⟩), .int .i64 i, bv] w fun e w' =>
      e = .returned (.int .i64 (m.doWrite i bs).2) ∧ Chg T w w' ∧ ∃ T', CodeDk T' w' g (m.doWrite i bs).1 ∧ ∀ k, T' k → T k ∨ w.heap.size ≤ k := by
  obtain ⟨sv, wv, dvs, h⟩ := hD
  by_cases hok : 0 ≤ i ∧ i < m.safe.length ∧ bs.length = 256
  · obtain ⟨j, rfl⟩ := Int.eq_ofNat_of_zero_le hok.1
    have hj : j < m.safe.length := by have := hok.2.1; omega
    by_cases hd : m.down = true
    · refine (write9_down h j hj bv bs hb hok.2.2 hd).mono ?_
      rintro e w' ⟨rfl, rfl⟩
      rw [M.Dsk.doWrite, if_pos hok, if_pos hd]
      exact ⟨rfl, Chg.refl _ _, T, ⟨sv, wv, dvs, h⟩, fun k hk => .inl hk⟩
    · have hd' : m.down = false := by simpa using hd
      refine (write9_ok h j hj bv bs hb hok.2.2 hd' hfew).mono ?_
      rintro e w' ⟨rfl, k, wv', dvs', T', r', ht⟩
      rw [M.Dsk.doWrite, if_pos hok, if_neg hd, Int.toNat_natCast]
      exact ⟨rfl, k, T', ⟨sv, wv', dvs', r'⟩, ht⟩
  · refine (write9_no h i bv bs hb hok).mono ?_
    rintro e w' ⟨rfl, rfl⟩
    rw [M.Dsk.doWrite, if_neg hok]
    exact ⟨rfl, Chg.refl _ _, T, ⟨sv, wv, dvs, h⟩, fun k hk => .inl hk⟩

theorem codeDk_sync {T : Nat → Prop} {w : World} {g : Nat} {m : M.Dsk} (hD : CodeDk T w g m) : Calls Tryd.prog 32 #[.pointer (some ⟨g, 0, none⟩)] w fun e w' =>
    e = .returned (.int .i64 m.doSync.2) ∧ Chg T w w' ∧ ∃ T', CodeDk T' w' g m.doSync.1 ∧ ∀ k, T' k → T k ∨ w.heap.size ≤ k := by
  obtain ⟨sv, wv, dvs, h⟩ := hD
  by_cases hd : m.down = true
  · refine (sync9_down h hd).mono ?_
    rintro e w' ⟨rfl, rfl⟩
    rw [M.Dsk.doSync, if_pos hd]
    exact ⟨rfl, Chg.refl _ _, T, ⟨sv, wv, dvs, h⟩, fun k hk => .inl hk⟩
  · have hd' : m.down = false := by simpa using hd
    by_cases hg : m.goes.2 = true
    · refine (sync9_goes h hd' hg).mono ?_
      rintro e w' ⟨rfl, k, r'⟩
      rw [M.Dsk.doSync, if_neg hd, if_pos hg]
      exact ⟨rfl, k, T, ⟨sv, wv, dvs, r'⟩, fun k hk => .inl hk⟩
    · refine (sync9_ok h hd' (by simpa using hg)).mono ?_
      rintro e w' ⟨rfl, k, r'⟩
      rw [M.Dsk.doSync, if_neg hd, if_neg hg]
      exact ⟨rfl, k, T, ⟨sv, _, _, r'⟩, fun k hk => .inl hk⟩

theorem codeDk_arm {T : Nat → Prop} {w : World} {g : Nat} {m : M.Dsk} (hD : CodeDk T w g m) (n : Int) (hn : -9223372036854775808 ≤ n ∧ n < 9223372036854775808) :
    Calls Tryd.prog 13 #[.pointer (some ⟨g, 0, none⟩), .int .i64 n] w fun e w' => e = .returned (.tuple #[]) ∧ Chg T w w' ∧ ∃ T', CodeDk T' w' g (m.arm n) ∧ ∀ k, T' k → T k ∨ w.heap.size ≤ k := by
  obtain ⟨sv, wv, dvs, h⟩ := hD
  exact (arm9_any h n hn).mono fun e w' ⟨he, r, k⟩ => ⟨he, k, _, ⟨sv, wv, dvs, r⟩, fun k hk => .inl hk⟩

theorem codeDk_crash {T : Nat → Prop} {w : World} {g : Nat} {m : M.Dsk} (hD : CodeDk T w g m) (kv : Value) (kp : List Bool) (hk : IsZ w kv kp) (hl : kp ≠ [] → Lies (fun b => ¬ T b) kv) :
    Calls Tryd.prog 17 #[.pointer (some ⟨g, 0, none⟩), kv] w fun e w' => e = .returned (.tuple #[]) ∧ Chg T w w' ∧ ∃ T', CodeDk T' w' g (m.crash kp) ∧ ∀ k, T' k → T k ∨ w.heap.size ≤ k := by
  obtain ⟨sv, wv, dvs, h⟩ := hD
  exact (crash9_any h kv kp hk hl).mono fun e w' ⟨he, k, r⟩ => ⟨he, k, _, ⟨sv, _, _, r⟩, fun k hk => .inl hk⟩

theorem codeDk_read {T : Nat → Prop} {w : World} {g : Nat} {m : M.Dsk} (hD : CodeDk T w g m) (hfew : m.wait.length < 1000000) (i : Int) :
    Calls Tryd.prog 41 #[.pointer (some ⟨g, 0, none⟩), .int .i64 i] w fun e w' =>
    ∃ r, e = .returned (.tuple #[r, .int .i64 (m.doRead i).2]) ∧ Own w' w.heap.size r (m.doRead i).1 ∧ Below w.heap.size w w' := by
  obtain ⟨sv, wv, dvs, h⟩ := hD
  by_cases hok : 0 ≤ i ∧ i < m.safe.length
  · obtain ⟨j, rfl⟩ := Int.eq_ofNat_of_zero_le hok.1
    refine (read9_ok h j (by have := hok.2; omega) hfew).mono ?_
    rintro e w' ⟨v, rfl, o, k⟩
    rw [M.Dsk.doRead, if_pos hok, Int.toNat_natCast]
    exact ⟨v, rfl, o, k⟩
  · refine (read9_no h i hok).mono ?_
    rintro e w' ⟨rfl, rfl⟩
    rw [M.Dsk.doRead, if_neg hok]
    exact ⟨_, rfl, World.ownsRow_nil _ _ _ _, Below.refl _ _⟩

theorem codeDk_image {T : Nat → Prop} {w : World} {g : Nat} {m : M.Dsk} (hD : CodeDk T w g m) : Calls Tryd.prog 21 #[.pointer (some ⟨g, 0, none⟩)] w (Makes w m.image) := by
  obtain ⟨sv, wv, dvs, h⟩ := hD
  exact image9_any h

theorem codeDk_down {T : Nat → Prop} {w : World} {g : Nat} {m : M.Dsk} (hD : CodeDk T w g m) : Calls Tryd.prog 18 #[.pointer (some ⟨g, 0, none⟩)] w fun e w' => e = .returned (.bool m.down) ∧ w' = w := by
  obtain ⟨sv, wv, dvs, h⟩ := hD
  exact down9_any h

theorem codeDk_blocks {T : Nat → Prop} {w : World} {g : Nat} {m : M.Dsk} (hD : CodeDk T w g m) : Calls Tryd.prog 39 #[.pointer (some ⟨g, 0, none⟩)] w fun e w' => e = .returned (.int .i64 (m.safe.length : Int)) ∧ w' = w := by
  obtain ⟨sv, wv, dvs, h⟩ := hD
  exact blocks9_any h

end Go.Proofs.YtlglkiknpbfnmaaDoor
