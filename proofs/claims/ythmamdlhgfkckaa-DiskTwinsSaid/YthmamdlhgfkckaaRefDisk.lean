/-
  THE REFERENCE'S DISK IN MEMORY (RefAt): its struct's block, the row of safe blocks, the row of writes that wait; contracts of goes, Arm. Conditions: the disk lies so.
-/
import Derived.Test.YthmamdlhgfkckaaHeapKit
import Derived.Test.YthmamdlhgfkckaaDiskMath
namespace Go.Proofs.Ythmamdlhgfkckaa
open Go.RowKit
set_option linter.unusedVariables false

/-- Writes as cells: a number and a slice each. -/
def chgs : List (Nat × List UInt8) → List Value → List Value
  | c :: r, d :: s => .int .i64 (c.1 : Int) :: d :: chgs r s
  | _, _ => []

theorem chgs_length : ∀ (c : List (Nat × List UInt8)) (d : List Value), d.length = c.length → (chgs c d).length = c.length * 2
  | [], [], _ => rfl
  | c :: r, d :: s, h => by
    have := chgs_length r s (by simpa using h)
    simp only [chgs, List.length_cons, this]
    omega

theorem chgs_append : ∀ (c : List (Nat × List UInt8)) (d : List Value) (x : Nat × List UInt8) (y : Value), d.length = c.length → chgs (c ++ [x]) (d ++ [y]) = chgs c d ++ [.int .i64 (x.1 : Int), y]
  | [], [], _, _, _ => rfl
  | c :: r, d :: s, x, y, h => by
    have := chgs_append r s x y (by simpa using h)
    simp only [chgs, List.cons_append, this]

theorem chgs_get : ∀ (c : List (Nat × List UInt8)) (d : List Value) (j : Nat), d.length = c.length → j < c.length → (chgs c d)[2 * j]? = some (.int .i64 ((c.getD j (0, [])).1 : Int)) ∧ (chgs c d)[2 * j + 1]? = some (d.getD j undef)
  | c :: r, d :: s, 0, h, _ => ⟨rfl, rfl⟩
  | c :: r, d :: s, j + 1, h, hj => by
    have := chgs_get r s j (by simpa using h) (by simpa using hj)
    rw [show 2 * (j + 1) = 2 * j + 1 + 1 by omega, chgs, List.getElem?_cons_succ, List.getElem?_cons_succ, List.getElem?_cons_succ, List.getElem?_cons_succ]
    exact this

/-- The blocks of T but the struct's and the two rows'. -/
def RefS (T : Nat → Prop) (g : Nat) (sv wv : Value) (k : Nat) : Prop := T k ∧ k ≠ g ∧ sv.ownBlock ≠ some k ∧ wv.ownBlock ≠ some k

structure RefAt (T : Nat → Prop) (w : World) (g : Nat) (sv wv : Value) (rows dvs : List Value) (m : M.Dsk) : Prop where
  blk : Blk w g 45 [sv, wv, .int .i64 (m.left : Int), .bool m.down]
  srow : w.ownsRow 0 22 1 sv m.safe.length rows
  wrow : w.ownsRow 0 66 2 wv m.wait.length (chgs m.wait dvs)
  dlen : dvs.length = m.wait.length
  rows_ : ∀ i, i < m.safe.length → IsB w (rows.getD i undef) (m.safe.getD i []) ∧ Lies (RefS T g sv wv) (rows.getD i undef)
  dvs_ : ∀ j, j < m.wait.length → IsB w (dvs.getD j undef) (m.wait.getD j (0, [])).2 ∧ Lies (RefS T g sv wv) (dvs.getD j undef)
  tg : T g
  ts : ∀ k, sv.ownBlock = some k → T k ∧ k ≠ g
  tw : ∀ k, wv.ownBlock = some k → T k ∧ k ≠ g ∧ sv.ownBlock ≠ some k
  there : ∀ k, T k → k < w.heap.size
  left_ : m.left < 9223372036854775808
  ok : m.Ok

theorem RefAt.rlen {T : Nat → Prop} {w : World} {g : Nat} {sv wv : Value} {rows dvs : List Value} {m : M.Dsk} (h : RefAt T w g sv wv rows dvs m) : rows.length = m.safe.length := by
  have := h.srow.1
  omega

/-- What another call turns doesn't touch it. -/
theorem RefAt.chg {T F : Nat → Prop} {w w' : World} {g : Nat} {sv wv : Value} {rows dvs : List Value} {m : M.Dsk} (h : RefAt T w g sv wv rows dvs m) (k : Chg F w w') (hF : ∀ b, T b → ¬ F b) : RefAt T w' g sv wv rows dvs m where
  blk := h.blk.chg k (hF _ h.tg)
  srow := own_chg h.srow k fun b hb => hF _ (h.ts b hb).1
  wrow := own_chg h.wrow k fun b hb => hF _ (h.tw b hb).1
  dlen := h.dlen
  rows_ := fun i hi => ⟨(h.rows_ i hi).1.chg k ((h.rows_ i hi).2.mono fun b hb => hF _ hb.1), (h.rows_ i hi).2⟩
  dvs_ := fun i hi => ⟨(h.dvs_ i hi).1.chg k ((h.dvs_ i hi).2.mono fun b hb => hF _ hb.1), (h.dvs_ i hi).2⟩
  tg := h.tg
  ts := h.ts
  tw := h.tw
  there := fun b hb => Nat.lt_of_lt_of_le (h.there b hb) k.size
  left_ := h.left_
  ok := h.ok

/-- Its struct's last two fields turned. -/
theorem RefAt.fields {T : Nat → Prop} {w w' : World} {g : Nat} {sv wv : Value} {rows dvs : List Value} {m : M.Dsk} (h : RefAt T w g sv wv rows dvs m) (k : Chg (fun b => b = g) w w') (l : Nat) (d : Bool)
    (hb : Blk w' g 45 [sv, wv, .int .i64 (l : Int), .bool d]) (hl : l < 9223372036854775808) : RefAt T w' g sv wv rows dvs { m with left := l, down := d } where
  blk := hb
  srow := own_chg h.srow k fun b hb => (h.ts b hb).2
  wrow := own_chg h.wrow k fun b hb => (h.tw b hb).2.1
  dlen := h.dlen
  rows_ := fun i hi => ⟨(h.rows_ i hi).1.chg k ((h.rows_ i hi).2.mono fun b hb => hb.2.1), (h.rows_ i hi).2⟩
  dvs_ := fun i hi => ⟨(h.dvs_ i hi).1.chg k ((h.dvs_ i hi).2.mono fun b hb => hb.2.1), (h.dvs_ i hi).2⟩
  tg := h.tg
  ts := h.ts
  tw := h.tw
  there := fun b hb => Nat.lt_of_lt_of_le (h.there b hb) k.size
  left_ := hl
  ok := ⟨h.ok.few, h.ok.full, h.ok.wat⟩

theorem Chg.one {T : Nat → Prop} {w w' : World} {g : Nat} (h : Chg (fun b => b = g) w w') (hg : T g) : Chg T w w' := h.mono fun k _ e => e ▸ hg

set_option maxHeartbeats 2000000 in
theorem rgoes_any {T : Nat → Prop} {w : World} {g : Nat} {sv wv : Value} {rows dvs : List Value} {m : M.Dsk} (h : RefAt T w g sv wv rows dvs m) :
    Calls Try.prog 36 #[.pointer (some ⟨g, 0, none⟩)] w fun e w' => e = .returned (.bool m.goes.2) ∧ RefAt T w' g sv wv rows dvs m.goes.1 ∧ Chg (fun b => b = g) w w' := by
  have H := Lib.hid h
  have c2 : w.cell? ⟨g, 2, none⟩ = some (.int .i64 (m.left : Int)) := h.blk.cell 2
  have c3 : w.cell? ⟨g, 3, none⟩ = some (.bool m.down) := h.blk.cell 3
  have f2 : w.frozen? ⟨g, 2, none⟩ = false := h.blk.frozen 2
  have f3 : w.frozen? ⟨g, 3, none⟩ = false := h.blk.frozen 3
  obtain ⟨l, hl⟩ : ∃ l, l = m.left := ⟨_, rfl⟩
  obtain ⟨d, hd⟩ : ∃ d, d = m.down := ⟨_, rfl⟩
  have hl63 := h.left_
  rw [← hl] at c2 hl63
  rw [← hd] at c3
  by_cases h0 : l = 0
  · have hg : m.goes = (m, false) := by rw [M.Dsk.goes, if_pos (by omega)]
    rw [hg]
    subst h0
    clear h hl63 hl hd hg
    go_enter Try.func36, Try.ntmps36
    go_wp2
    go_ret
    exact ⟨rfl, H.out, Chg.refl _ _⟩
  · by_cases h1 : l = 1
    · have hg : m.goes = ({ m with left := 0, down := true }, true) := by rw [M.Dsk.goes, if_neg (by omega), if_pos (by omega)]
      rw [hg]
      have B1 := (h.blk.set_ 2 (.int .i64 ((0 : Nat) : Int))).set_ 3 (.bool true)
      have K1 : Chg (fun b => b = g) w ((w.setCell ⟨g, 2, none⟩ (.int .i64 ((0 : Nat) : Int))).setCell ⟨g, 3, none⟩ (.bool true)) := ((Chg.refl _ w).cell 2 _).cell 3 _
      have R1 := Lib.hid (h.fields K1 0 true B1 (by decide))
      have K1' := Lib.hid K1
      subst h1
      clear h hl63 hl hd hg B1 K1
      go_enter Try.func36, Try.ntmps36
      go_wp2
      go_ret
      exact ⟨rfl, R1.out, K1'.out⟩
    · obtain ⟨n, hn⟩ : ∃ n, n = l - 1 := ⟨_, rfl⟩
      have hg : m.goes = ({ m with left := n }, m.down) := by rw [M.Dsk.goes, if_neg (by omega), if_neg (by omega), ← hl, ← hn]
      rw [hg]
      have s1 : wrap64 ((l : Int) - 1) = (n : Int) := by unfold wrap64; omega
      have s2 : ((n : Int) == 0) = false := by have : ¬ (n : Int) = 0 := by omega
                                               simpa using this
      have s3 : ((l : Int) == 0) = false := by have : ¬ (l : Int) = 0 := by omega
                                               simpa using this
      have B1 := h.blk.set_ 2 (.int .i64 (n : Int))
      have K1 : Chg (fun b => b = g) w (w.setCell ⟨g, 2, none⟩ (.int .i64 (n : Int))) := (Chg.refl _ w).cell 2 _
      have R1 := Lib.hid (h.fields K1 n m.down B1 (by omega))
      have K1' := Lib.hid K1
      have hd' : Hid (m.down = d) := hd.symm
      have n0 : ¬ n = 0 := by omega
      clear h hl63 hl hd hg B1 K1 h1 hn
      go_enter Try.func36, Try.ntmps36
      go_wp2
      go_ret
      exact ⟨by rw [hd'.out]; rfl, R1.out, K1'.out⟩

end Go.Proofs.Ythmamdlhgfkckaa
