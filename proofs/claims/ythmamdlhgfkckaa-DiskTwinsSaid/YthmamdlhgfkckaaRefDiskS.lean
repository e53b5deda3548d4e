/-
  CONTRACTS OF THE REFERENCE'S DISK: what Write refuses, Arm, Sync. Conditions: the disk lies so.
-/
import Derived.Test.YthmamdlhgfkckaaRefDiskW
import Derived.StillTailTactics
namespace Go.Proofs.Ythmamdlhgfkckaa
open Go.RowKit
set_option linter.unusedVariables false

theorem getD_set8 {α : Type} (l : List α) (b i : Nat) (x d : α) (hb : b < l.length) : (l.set b x).getD i d = if i = b then x else l.getD i d := by
  by_cases h : i = b
  · subst h
    rw [if_pos rfl, List.getD_eq_getElem?_getD, List.getElem?_set_self hb]
    rfl
  · rw [if_neg h, List.getD_eq_getElem?_getD, List.getElem?_set_ne (fun e => h e.symm), ← List.getD_eq_getElem?_getD]

/-- A block laid. -/
theorem RefAt.lay {T : Nat → Prop} {w w' : World} {g : Nat} {sv wv : Value} {rows dvs : List Value} {m : M.Dsk} (h : RefAt T w g sv wv rows dvs m) {b : Nat} (hb : b < m.safe.length) {rv : Value} {bs : List UInt8} (hr : IsB w rv bs) (hl : bs.length = 256)
    (hlie : Lies (RefS T g sv wv) rv) (k : Chg (fun k => sv.ownBlock = some k) w w') (ho : w'.ownsRow 0 22 1 sv m.safe.length (rows.set b rv)) : RefAt T w' g sv wv (rows.set b rv) dvs { m with safe := m.safe.set b bs } where
  blk := h.blk.chg k fun e => (h.ts g e).2 rfl
  srow := by simpa using ho
  wrow := own_chg h.wrow k fun b hb e => (h.tw b hb).2.2 e
  dlen := h.dlen
  rows_ := fun i hi => by
    have hi' : i < m.safe.length := by simpa using hi
    rw [getD_set8 _ _ _ _ _ (by rw [h.rlen]; exact hb), getD_set8 _ _ _ _ _ hb]
    by_cases e : i = b
    · rw [if_pos e, if_pos e]
      exact ⟨hr.chg k (hlie.mono fun b hb e => hb.2.2.1 e), hlie⟩
    · rw [if_neg e, if_neg e]
      exact ⟨(h.rows_ i hi').1.chg k ((h.rows_ i hi').2.mono fun b hb e => hb.2.2.1 e), (h.rows_ i hi').2⟩
  dvs_ := fun j hj => ⟨(h.dvs_ j hj).1.chg k ((h.dvs_ j hj).2.mono fun b hb e => hb.2.2.1 e), (h.dvs_ j hj).2⟩
  tg := h.tg
  ts := h.ts
  tw := h.tw
  there := fun b hb => Nat.lt_of_lt_of_le (h.there b hb) k.size
  left_ := h.left_
  ok := ⟨by simpa using h.ok.few, fun c hc => by
    rcases List.mem_or_eq_of_mem_set hc with hc | hc
    · exact h.ok.full c hc
    · exact hc ▸ hl, fun c hc => by simpa using h.ok.wat c hc⟩

/-- Nothing waits any more. -/
theorem RefAt.drained {T : Nat → Prop} {w w' : World} {g : Nat} {sv wv : Value} {rows dvs : List Value} {m : M.Dsk} (h : RefAt T w g sv wv rows dvs m) (k : Chg (fun b => b = g) w w') (l : Nat) (d : Bool) (hl : l < 9223372036854775808)
    (hb : Blk w' g 45 [sv, .slice none 0 0, .int .i64 (l : Int), .bool d]) : RefAt T w' g sv (.slice none 0 0) rows [] ⟨m.safe, [], l, d⟩ where
  blk := hb
  srow := own_chg h.srow k fun b hb => (h.ts b hb).2
  wrow := World.ownsRow_nil _ _ _ _
  dlen := rfl
  rows_ := fun i hi => ⟨(h.rows_ i hi).1.chg k ((h.rows_ i hi).2.mono fun b hb => hb.2.1), (h.rows_ i hi).2.mono fun b hb => ⟨hb.1, hb.2.1, hb.2.2.1, fun e => by cases e⟩⟩
  dvs_ := fun j hj => by cases hj
  tg := h.tg
  ts := h.ts
  tw := fun b hb => by cases hb
  there := fun b hb => Nat.lt_of_lt_of_le (h.there b hb) k.size
  left_ := hl
  ok := ⟨h.ok.few, h.ok.full, fun c hc => by cases hc⟩

theorem M.laid_snoc (s : List (List UInt8)) (c : List (Nat × List UInt8)) (x : Nat × List UInt8) : M.laid s (c ++ [x]) = (M.laid s c).set x.1 x.2 := by
  induction c generalizing s with
  | nil => rfl
  | cons y c ih => exact ih _

theorem M.laid_length (s : List (List UInt8)) (c : List (Nat × List UInt8)) : (M.laid s c).length = s.length := by
  induction c generalizing s with
  | nil => rfl
  | cons y c ih => rw [M.laid, ih, List.length_set]

set_option maxHeartbeats 2000000 in
theorem rarm_any {T : Nat → Prop} {w : World} {g : Nat} {sv wv : Value} {rows dvs : List Value} {m : M.Dsk} (h : RefAt T w g sv wv rows dvs m) (n : Int) (hn : -9223372036854775808 ≤ n ∧ n < 9223372036854775808) :
    Calls Try.prog 18 #[.pointer (some ⟨g, 0, none⟩), .int .i64 n] w fun e w' => e = .returned (.tuple #[]) ∧ RefAt T w' g sv wv rows dvs (m.arm n) ∧ Chg T w w' := by
  have c2 : w.cell? ⟨g, 2, none⟩ = some (.int .i64 (m.left : Int)) := h.blk.cell 2
  have f2 : w.frozen? ⟨g, 2, none⟩ = false := h.blk.frozen 2
  have B1 := h.blk.set_ 2 (.int .i64 ((0 : Nat) : Int))
  have k1 : Chg (fun b => b = g) w (w.setCell ⟨g, 2, none⟩ (.int .i64 ((0 : Nat) : Int))) := (Chg.refl _ w).cell 2 _
  have R1 := Lib.hid (h.fields k1 0 m.down B1 (by decide))
  have K1 := Lib.hid (k1.one h.tg)
  by_cases h0 : 0 < n
  · obtain ⟨q, rfl⟩ : ∃ q : Nat, n = (q : Int) := ⟨n.toNat, by omega⟩
    have hm : m.arm (q : Int) = { m with left := q } := by rw [M.Dsk.arm, Int.toNat_natCast]
    rw [hm]
    have B2 := R1.out.blk.set_ 2 (.int .i64 (q : Int))
    have k2 : Chg (fun b => b = g) (w.setCell ⟨g, 2, none⟩ (.int .i64 ((0 : Nat) : Int))) ((w.setCell ⟨g, 2, none⟩ (.int .i64 ((0 : Nat) : Int))).setCell ⟨g, 2, none⟩ (.int .i64 (q : Int))) := (Chg.refl _ _).cell 2 _
    have R2 := Lib.hid (R1.out.fields k2 q m.down B2 (by omega))
    have K2 := Lib.hid (K1.out.trans (k2.one h.tg) fun _ _ h => h)
    have h0' : (0 : Int) < (q : Int) := h0
    clear h B1 k1 R1 K1 hm B2 k2 h0 hn
    go_enter Try.func18, Try.ntmps18
    go_wp2
    go_end0
    exact ⟨rfl, R2.out, K2.out⟩
  · have hm : m.arm n = { m with left := 0 } := by rw [M.Dsk.arm, show n.toNat = 0 by omega]
    rw [hm]
    clear h B1 k1 hm hn
    go_enter Try.func18, Try.ntmps18
    go_wp2
    go_end0
    exact ⟨rfl, R1.out, K1.out⟩

end Go.Proofs.Ythmamdlhgfkckaa
