/-
  THE CODE'S DISK IN MEMORY (DkAt): its struct's block, the row of safe bytes, the row of writes that wait; how it lasts, and what becomes of it. Conditions: none.
-/
import Derived.Test.YthmamdlhgfkckaaDiskFlat
import Derived.Test.YthmamdlhgfkckaaDiskFace
namespace Go.Proofs.Ythmamdlhgfkckaa
open Go.RowKit
set_option linter.unusedVariables false

structure DkAt (T : Nat → Prop) (w : World) (g : Nat) (sv wv : Value) (dvs : List Value) (m : M.Dsk) : Prop where
  blk : Blk w g 60 [sv, wv, .int .i64 (m.left : Int), .bool m.down]
  srow : Own w 0 sv m.safe.flatten
  wrow : w.ownsRow 0 64 2 wv m.wait.length (chgs m.wait dvs)
  dlen : dvs.length = m.wait.length
  dvs_ : ∀ j, j < m.wait.length → IsB w (dvs.getD j undef) (m.wait.getD j (0, [])).2 ∧ Lies (RefS T g sv wv) (dvs.getD j undef)
  tg : T g
  ts : ∀ k, sv.ownBlock = some k → T k ∧ k ≠ g
  tw : ∀ k, wv.ownBlock = some k → T k ∧ k ≠ g ∧ sv.ownBlock ≠ some k
  there : ∀ k, T k → k < w.heap.size
  left_ : m.left < 9223372036854775808
  ok : m.Ok

theorem DkAt.flat {T : Nat → Prop} {w : World} {g : Nat} {sv wv : Value} {dvs : List Value} {m : M.Dsk} (h : DkAt T w g sv wv dvs m) : m.safe.flatten.length = 256 * m.safe.length := flat_length _ h.ok.full

/-- What another call turns doesn't touch it. -/
theorem DkAt.chg {T F : Nat → Prop} {w w' : World} {g : Nat} {sv wv : Value} {dvs : List Value} {m : M.Dsk} (h : DkAt T w g sv wv dvs m) (k : Chg F w w') (hF : ∀ b, T b → ¬ F b) : DkAt T w' g sv wv dvs m where
  blk := h.blk.chg k (hF _ h.tg)
  srow := own_chg h.srow k fun b hb => hF _ (h.ts b hb).1
  wrow := own_chg h.wrow k fun b hb => hF _ (h.tw b hb).1
  dlen := h.dlen
  dvs_ := fun i hi => ⟨(h.dvs_ i hi).1.chg k ((h.dvs_ i hi).2.mono fun b hb => hF _ hb.1), (h.dvs_ i hi).2⟩
  tg := h.tg
  ts := h.ts
  tw := h.tw
  there := fun b hb => Nat.lt_of_lt_of_le (h.there b hb) k.size
  left_ := h.left_
  ok := h.ok

theorem DkAt.below {T : Nat → Prop} {w w' : World} {g : Nat} {sv wv : Value} {dvs : List Value} {m : M.Dsk} (h : DkAt T w g sv wv dvs m) (k : Below w.heap.size w w') : DkAt T w' g sv wv dvs m :=
  h.chg (Chg.of_below (F := fun _ => False) k) fun _ _ h => h

/-- Its struct's last two fields turned. -/
theorem DkAt.fields {T : Nat → Prop} {w w' : World} {g : Nat} {sv wv : Value} {dvs : List Value} {m : M.Dsk} (h : DkAt T w g sv wv dvs m) (k : Chg (fun b => b = g) w w') (l : Nat) (d : Bool)
    (hb : Blk w' g 60 [sv, wv, .int .i64 (l : Int), .bool d]) (hl : l < 9223372036854775808) : DkAt T w' g sv wv dvs { m with left := l, down := d } where
  blk := hb
  srow := own_chg h.srow k fun b hb => (h.ts b hb).2
  wrow := own_chg h.wrow k fun b hb => (h.tw b hb).2.1
  dlen := h.dlen
  dvs_ := fun i hi => ⟨(h.dvs_ i hi).1.chg k ((h.dvs_ i hi).2.mono fun b hb => hb.2.1), (h.dvs_ i hi).2⟩
  tg := h.tg
  ts := h.ts
  tw := h.tw
  there := fun b hb => Nat.lt_of_lt_of_le (h.there b hb) k.size
  left_ := hl
  ok := ⟨h.ok.few, h.ok.full, h.ok.wat⟩

/-- A write more waits. -/
theorem DkAt.push {T : Nat → Prop} {w w' : World} {g : Nat} {sv wv wv' dv : Value} {dvs : List Value} {m : M.Dsk} (h : DkAt T w g sv wv dvs m) {i : Nat} {bs : List UInt8} (hi : i < m.safe.length) (hl : bs.length = 256)
    (k : Chg (fun b => b = g ∨ wv.ownBlock = some b) w w') (hb : Blk w' g 60 [sv, wv', .int .i64 (m.left : Int), .bool m.down])
    (ho : w'.ownsRow 0 64 2 wv' (m.wait.length + 1) (chgs m.wait dvs ++ [.int .i64 (i : Int), dv])) (hd : IsB w' dv bs)
    (hlie : Lies (fun b => w.heap.size ≤ b ∧ b < w'.heap.size ∧ wv'.ownBlock ≠ some b) dv) (hat : wv'.ownBlock = wv.ownBlock ∨ ∃ b, wv'.ownBlock = some b ∧ w.heap.size ≤ b ∧ b < w'.heap.size) :
    DkAt (Grown T w w') w' g sv wv' (dvs ++ [dv]) { m with wait := m.wait ++ [(i, bs)] } where
  blk := hb
  srow := own_chg h.srow k fun b hb => fun e => by
    rcases e with e | e
    · exact (h.ts b hb).2 e
    · exact (h.tw b e).2.2 hb
  wrow := by
    rw [chgs_append _ _ _ _ h.dlen]
    simpa using ho
  dlen := by simp [h.dlen]
  dvs_ := fun j hj => by
    have hj' : j < m.wait.length + 1 := by simpa using hj
    rw [getD_snoc _ _ _ _ (by rw [h.dlen]; exact hj'), getD_snoc _ _ _ _ hj', h.dlen]
    by_cases hlt : j < m.wait.length
    · rw [if_pos hlt, if_pos hlt]
      refine ⟨(h.dvs_ j hlt).1.chg k ((h.dvs_ j hlt).2.mono fun b hb e => ?_), (h.dvs_ j hlt).2.mono fun b hb => ⟨⟨.inl hb.1, Nat.lt_of_lt_of_le (h.there b hb.1) k.size⟩, hb.2.1, hb.2.2.1, fun e => ?_⟩⟩
      · rcases e with e | e
        · exact hb.2.1 e
        · exact hb.2.2.2 e
      · rcases hat with hat | ⟨b', e', h1, h2⟩
        · exact hb.2.2.2 (hat ▸ e)
        · rw [e'] at e
          injection e with e
          have := h.there b hb.1
          omega
    · rw [if_neg hlt, if_neg hlt]
      refine ⟨hd, hlie.mono fun b hb => ⟨⟨.inr hb.1, hb.2.1⟩, fun e => ?_, fun e => ?_, hb.2.2⟩⟩
      · have := h.there g h.tg
        omega
      · have := h.there b (h.ts b e).1
        omega
  tg := ⟨.inl h.tg, Nat.lt_of_lt_of_le (h.there g h.tg) k.size⟩
  ts := fun b hb => ⟨⟨.inl (h.ts b hb).1, Nat.lt_of_lt_of_le (h.there b (h.ts b hb).1) k.size⟩, (h.ts b hb).2⟩
  tw := fun b hb => by
    rcases hat with hat | ⟨b', e', h1, h2⟩
    · rw [hat] at hb
      have := h.tw b hb
      exact ⟨⟨.inl this.1, Nat.lt_of_lt_of_le (h.there b this.1) k.size⟩, this.2⟩
    · rw [e'] at hb
      injection hb with hb
      subst hb
      refine ⟨⟨.inr h1, h2⟩, fun e => ?_, fun e => ?_⟩
      · have := h.there g h.tg
        omega
      · have := h.there b' (h.ts b' e).1
        omega
  there := fun b hb => hb.2
  left_ := h.left_
  ok := M.Ok_push h.ok hi hl

/-- Its safe bytes turned to other blocks. -/
theorem DkAt.lay {T : Nat → Prop} {w w' : World} {g : Nat} {sv wv : Value} {dvs : List Value} {m : M.Dsk} (h : DkAt T w g sv wv dvs m) (s : List (List UInt8)) (k : Chg (fun k => sv.ownBlock = some k) w w') (ho : Own w' 0 sv s.flatten)
    (hs : s.length = m.safe.length) (hf : ∀ b ∈ s, b.length = 256) : DkAt T w' g sv wv dvs { m with safe := s } where
  blk := h.blk.chg k fun e => (h.ts g e).2 rfl
  srow := ho
  wrow := own_chg h.wrow k fun b hb e => (h.tw b hb).2.2 e
  dlen := h.dlen
  dvs_ := fun j hj => ⟨(h.dvs_ j hj).1.chg k ((h.dvs_ j hj).2.mono fun b hb e => hb.2.2.1 e), (h.dvs_ j hj).2⟩
  tg := h.tg
  ts := h.ts
  tw := h.tw
  there := fun b hb => Nat.lt_of_lt_of_le (h.there b hb) k.size
  left_ := h.left_
  ok := ⟨by rw [hs]; exact h.ok.few, hf, fun c hc => by rw [hs]; exact h.ok.wat c hc⟩

/-- Nothing waits any more. -/
theorem DkAt.drained {T : Nat → Prop} {w w' : World} {g : Nat} {sv wv : Value} {dvs : List Value} {m : M.Dsk} (h : DkAt T w g sv wv dvs m) (k : Chg (fun b => b = g) w w') (l : Nat) (d : Bool) (hl : l < 9223372036854775808)
    (hb : Blk w' g 60 [sv, .slice none 0 0, .int .i64 (l : Int), .bool d]) : DkAt T w' g sv (.slice none 0 0) [] ⟨m.safe, [], l, d⟩ where
  blk := hb
  srow := own_chg h.srow k fun b hb => (h.ts b hb).2
  wrow := World.ownsRow_nil _ _ _ _
  dlen := rfl
  dvs_ := fun j hj => by cases hj
  tg := h.tg
  ts := h.ts
  tw := fun b hb => by cases hb
  there := fun b hb => Nat.lt_of_lt_of_le (h.there b hb) k.size
  left_ := hl
  ok := ⟨h.ok.few, h.ok.full, fun c hc => by cases hc⟩

/-- An owned row's block. -/
theorem Own.blk9 {w : World} {B : Nat} {v : Value} {bs : List UInt8} (h : Own w B v bs) (hne : 0 < bs.length) : ∃ g cap cur, v = .slice (some ⟨g, 0, none⟩) bs.length cap ∧ B ≤ g ∧ Blk w g 5 cur ∧ bs.length ≤ cap ∧ cap ≤ maxLen ∧ cur.length = cap ∧ cur.take bs.length = Lib.byteCells bs := by
  rcases h.2 with ⟨_, hn⟩ | ⟨g, cap, cur, rfl, hb, hg, hn, hm, hs, ht⟩
  · omega
  · rw [Nat.mul_one] at hs ht
    exact ⟨g, cap, cur.toList, rfl, hb, by simpa [Blk] using hg, hn, hm, by rw [Array.length_toList, hs], ht⟩

theorem Own.of_blk9 {w : World} {B g cap : Nat} {bs : List UInt8} {cur : List Value} (hB : B ≤ g) (hg : Blk w g 5 cur) (hn : bs.length ≤ cap) (hm : cap ≤ maxLen) (hs : cur.length = cap) (ht : cur.take bs.length = Lib.byteCells bs) :
    Own w B (.slice (some ⟨g, 0, none⟩) bs.length cap) bs :=
  ⟨by rw [byteCells_length, Nat.mul_one], .inr ⟨g, cap, cur.toArray, rfl, hB, hg, hn, hm, by rw [List.size_toArray, hs, Nat.mul_one], by rw [Nat.mul_one]; exact ht⟩⟩

/-- Cells laid into an owned row. -/
theorem splice_row {cur : List Value} {bs xs : List UInt8} {o : Nat} (ht : cur.take bs.length = Lib.byteCells bs) (ho : o + xs.length ≤ bs.length) (hc : bs.length ≤ cur.length) :
    (splice cur o (Lib.byteCells xs)).take bs.length = Lib.byteCells (bs.take o ++ xs ++ bs.drop (o + xs.length)) := by
  have e1 : cur.take o = Lib.byteCells (bs.take o) := by
    have := congrArg (List.take o) ht
    rw [List.take_take, Nat.min_eq_left (by omega)] at this
    rw [this]
    simp [Lib.byteCells, List.map_take]
  have e2 : (cur.drop (o + xs.length)).take (bs.length - (o + xs.length)) = Lib.byteCells (bs.drop (o + xs.length)) := by
    have := congrArg (List.drop (o + xs.length)) ht
    rw [List.drop_take] at this
    rw [this]
    simp [Lib.byteCells, List.map_drop]
  rw [splice, byteCells_length, byteCells_append, byteCells_append, ← e1, ← e2]
  rw [List.take_append, List.take_append]
  have l1 : (cur.take o).length = o := by rw [List.length_take]; omega
  rw [l1, byteCells_length, List.take_of_length_le (by omega), List.take_of_length_le (l := Lib.byteCells xs) (by rw [byteCells_length]; omega), List.append_assoc, Nat.sub_sub]

end Go.Proofs.Ythmamdlhgfkckaa
