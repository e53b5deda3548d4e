/-
  CONTRACT OF orloplaw09.Full: bytes filled up to a block. Conditions: at most 1000 bytes; what is nil has no spare room.
  THE STEPS OF A SCRIPT AS THEY LIE (orloplaw09.Do: a kind, a place, bytes, bools), AND orloplaw09.small. Conditions: none.
  THE FACE OF THE CODE'S DISK (DiskOk): what each of its calls does, in the words of M.Dsk, over a predicate Dk T w g m that hides what lies where. Nothing of it is proved here: DiskIs proves it of the code. Conditions: none.
  THE CODE'S DISK IN MEMORY (DkAt): its struct's block, the row of safe bytes, the row of writes that wait; how it lasts, and what becomes of it. Conditions: none.
  CONTRACTS OF bytes.Clone AND OF package disk's small functions: New, Load, Blocks, Down, Waiting, Image, Arm, has, act. Conditions: the disk lies so; rows of at most 2^47 bytes.
-/
import Derived.Test.YtbgadfaiehkanaaGreatDoorPj12

namespace Go.Proofs.YtbgadfaiehkanaaGreatDoor
open Go.RowKit
set_option linter.unusedVariables false

namespace M
/-- What a block is filled up with. -/
def fillx (b : List UInt8) : UInt8 := if b.length = 0 then 0 else b.getD (b.length - 1) 0
def full (b : List UInt8) : List UInt8 := (b ++ List.replicate (256 - b.length) (fillx b)).take 256
theorem full_length (b : List UInt8) : (full b).length = 256 := by
  rw [full]
  simp only [List.length_take, List.length_append, List.length_replicate]
  omega
end M

/-- How long a slice is. -/
def lenOf9 : Value → Nat
  | .slice _ n _ => n
  | _ => 0

theorem Own.short {w : World} {B n cap : Nat} {ao : Option Addr} {bs : List UInt8} (h : Own w B (.slice ao bs.length cap) bs) (k : Nat) (hk : k ≤ bs.length) (h0 : 0 < bs.length) : Own w B (.slice ao k cap) (bs.take k) := by
  have hl : (bs.take k).length = k := by rw [List.length_take]; omega
  rcases h.2 with ⟨_, hn⟩ | ⟨g, cap', cur, e, hb, hg, hn, hm, hs, ht⟩
  · omega
  · injection e with e1 e2 e3
    subst e1 e3
    refine ⟨by rw [byteCells_length, hl, Nat.mul_one], .inr ⟨g, cap, cur, by rw [hl], hb, hg, by rw [hl]; omega, hm, hs, ?_⟩⟩
    rw [hl, Nat.mul_one]
    rw [Nat.mul_one] at ht
    have := congrArg (List.take k) ht
    rw [List.take_take, Nat.min_eq_left hk] at this
    rw [this]
    simp [Lib.byteCells, List.map_take]

end Go.Proofs.YtbgadfaiehkanaaGreatDoor

namespace Go.Proofs.YtbgadfaiehkanaaGreatDoor
open Go.RowKit
set_option linter.unusedVariables false

namespace M
/-- A step of a script. -/
structure Step where
  kind : Int
  at_ : Int
  bytes : List UInt8
  keep : List Bool
def Step.none : Step := ⟨0, 0, [], []⟩
instance : Inhabited Step := ⟨Step.none⟩
def Step.small (a : Step) : Bool := decide (a.bytes.length ≤ 1000) && decide (a.keep.length ≤ 1000)
/-- Are the first 60 steps small enough? -/
def small (l : List Step) : Bool := (l.take 60).all Step.small
end M

/-- A step lies at the cells from off on. -/
def StepAt (w : World) (b off : Nat) (a : M.Step) : Prop := ∃ bo bc ko kc, w.cell? ⟨b, off, none⟩ = some (.int .i64 a.kind) ∧ w.cell? ⟨b, off + 1, none⟩ = some (.int .i64 a.at_) ∧
  w.cell? ⟨b, off + 2, none⟩ = some (.slice bo a.bytes.length bc) ∧ w.cell? ⟨b, off + 3, none⟩ = some (.slice ko a.keep.length kc) ∧
  IsB w (.slice bo a.bytes.length bc) a.bytes ∧ (bo = none → bc = 0) ∧ IsZ w (.slice ko a.keep.length kc) a.keep ∧ (Lit.int .i64 a.kind).wf = true ∧ (Lit.int .i64 a.at_).wf = true

/-- The value is a slice of the steps l. -/
def IsSteps (w : World) (v : Value) (l : List M.Step) : Prop := ∃ ao cap, v = .slice ao l.length cap ∧ l.length ≤ cap ∧ cap ≤ maxLen ∧
  (l = [] ∨ ∃ b off, ao = some ⟨b, off, none⟩ ∧ ∀ i, i < l.length → StepAt w b (off + i * 4) (l.getD i M.Step.none))

theorem IsSteps.shape {w : World} {v : Value} {l : List M.Step} (h : IsSteps w v l) : ∃ ao cap, v = .slice ao l.length cap := by
  obtain ⟨ao, cap, rfl, _⟩ := h
  exact ⟨ao, cap, rfl⟩

/-- What lay below B stays, where only blocks from B on, and new ones, have turned. -/
theorem IsB.chgB {B : Nat} {F : Nat → Prop} {w w' : World} {v : Value} {bs : List UInt8} (h : IsB w v bs) (k : Chg F w w') (hF : ∀ b, b < w.heap.size → ¬ F b) : IsB w' v bs := by
  by_cases hn : bs = []
  · subst hn
    obtain ⟨ao, cap, rfl, h1, h2, h3⟩ := h
    exact ⟨ao, cap, rfl, h1, h2, .inl rfl⟩
  · exact h.chg k (fun b off sp e => hF _ (h.there hn b off sp e))

/-- The number that a value is. -/
def numOf : Value → Nat
  | .int _ n => n.toNat
  | _ => 0

theorem small_step (l : List M.Step) (k : Nat) (hk : k < l.length) (h6 : k < 60) : (l.take (k + 1)).all M.Step.small = ((l.take k).all M.Step.small && (l.getD k M.Step.none).small) := by
  rw [List.take_add_one, List.all_append]
  congr 1
  rw [List.getElem?_eq_getElem hk, List.getD_eq_getElem?_getD, List.getElem?_eq_getElem hk]
  simp

theorem small_no (l : List M.Step) (k : Nat) (hk : k < l.length) (h6 : k < 60) (h : (l.getD k M.Step.none).small = false) : M.small l = false := by
  rw [M.small, List.all_eq_false]
  refine ⟨l.getD k M.Step.none, ?_, by rw [h]; simp⟩
  rw [List.getD_eq_getElem?_getD, List.getElem?_eq_getElem hk]
  exact List.mem_take_iff_getElem.2 ⟨k, by omega, rfl⟩

end Go.Proofs.YtbgadfaiehkanaaGreatDoor

namespace Go.Proofs.YtbgadfaiehkanaaGreatDoor
open Go.RowKit
set_option linter.unusedVariables false

end Go.Proofs.YtbgadfaiehkanaaGreatDoor

namespace Go.Proofs.YtbgadfaiehkanaaGreatDoor
open Go.RowKit
set_option linter.unusedVariables false

/-- An owned row's block. -/
theorem Own.blk9 {w : World} {B : Nat} {v : Value} {bs : List UInt8} (h : Own w B v bs) (hne : 0 < bs.length) : ∃ g cap cur, v = .slice (some ⟨g, 0, none⟩) bs.length cap ∧ B ≤ g ∧ Blk w g 5 cur ∧ bs.length ≤ cap ∧ cap ≤ maxLen ∧ cur.length = cap ∧ cur.take bs.length = Lib.byteCells bs := by
  rcases h.2 with ⟨_, hn⟩ | ⟨g, cap, cur, rfl, hb, hg, hn, hm, hs, ht⟩
  · omega
  · rw [Nat.mul_one] at hs ht
    exact ⟨g, cap, cur.toList, rfl, hb, by simpa [Blk] using hg, hn, hm, by rw [Array.length_toList, hs], ht⟩

theorem Own.of_blk9 {w : World} {B g cap : Nat} {bs : List UInt8} {cur : List Value} (hB : B ≤ g) (hg : Blk w g 5 cur) (hn : bs.length ≤ cap) (hm : cap ≤ maxLen) (hs : cur.length = cap) (ht : cur.take bs.length = Lib.byteCells bs) :
    Own w B (.slice (some ⟨g, 0, none⟩) bs.length cap) bs :=
  ⟨by rw [byteCells_length, Nat.mul_one], .inr ⟨g, cap, cur.toArray, rfl, hB, hg, hn, hm, by rw [List.size_toArray, hs, Nat.mul_one], by rw [Nat.mul_one]; exact ht⟩⟩

/-- Cells laid into an owned row. -/
theorem splice_row {cur : List Value} {bs xs : List UInt8} {o : Nat} (ht : cur.take bs.length = Lib.byteCells bs) (ho : o + xs.length ≤ bs.length) (hc : bs.length ≤ cur.length) :
    (splice cur o (Lib.byteCells xs)).take bs.length = Lib.byteCells (bs.take o ++ xs ++ bs.drop (o + xs.length)) := by
  have e1 : cur.take o = Lib.byteCells (bs.take o) := by
    have := congrArg (List.take o) ht
    rw [List.take_take, Nat.min_eq_left (by omega)] at this
    rw [this]
    simp [Lib.byteCells, List.map_take]
  have e2 : (cur.drop (o + xs.length)).take (bs.length - (o + xs.length)) = Lib.byteCells (bs.drop (o + xs.length)) := by
    have := congrArg (List.drop (o + xs.length)) ht
    rw [List.drop_take] at this
    rw [this]
    simp [Lib.byteCells, List.map_drop]
  rw [splice, byteCells_length, byteCells_append, byteCells_append, ← e1, ← e2]
  rw [List.take_append, List.take_append]
  have l1 : (cur.take o).length = o := by rw [List.length_take]; omega
  rw [l1, byteCells_length, List.take_of_length_le (by omega), List.take_of_length_le (l := Lib.byteCells xs) (by rw [byteCells_length]; omega), List.append_assoc, Nat.sub_sub]

end Go.Proofs.YtbgadfaiehkanaaGreatDoor

namespace Go.Proofs.YtbgadfaiehkanaaGreatDoor
open Go.RowKit
set_option linter.unusedVariables false
set_option maxRecDepth 100000

theorem not_nil9 (ad : Addr) (n cap : Nat) (w : World) : (binOp .eql 22 (.slice (some ad) n cap) (.slice none 0 0)).run Tryz.prog w = .ok (.bool false) w := rfl

theorem yes_nil9 (n cap : Nat) (w : World) : (binOp .eql 22 (.slice none n cap) (.slice none 0 0)).run Tryz.prog w = .ok (.bool true) w := rfl

set_option maxHeartbeats 2000000 in
theorem clone9_any (kv : Value) (ks : List UInt8) (w : World) (hk : IsB w kv ks) (hlen : ks.length ≤ 140737488355328) :
    Calls Tryz.prog 123 #[kv] w (Makes w ks) := by
  obtain ⟨ao, cap, rfl⟩ := hk.shape
  cases ao with
  | none =>
    have he : ks = [] := by
      obtain ⟨ao', cap', e, h1, h2, h3⟩ := hk
      rcases h3 with h | ⟨b, off, h4, h⟩
      · exact h
      · rw [h4] at e; cases e
    subst he
    have hn := yes_nil9 0 cap
    clear hk hlen
    show Calls Tryz.prog 123 #[.slice none 0 cap] w (Makes w [])
    go_enter Tryz.func123, Tryz.ntmps123
    go_wp2
    go_ret
    exact ⟨_, rfl, World.ownsRow_nil _ _ _ _, Below.refl _ _⟩
  | some ad =>
    have HK := Lib.hid hk
    obtain ⟨n, hn⟩ : ∃ n, n = ks.length := ⟨_, rfl⟩
    have HN : Hid (ks.length = n) := hn.symm
    have HL : Hid (n ≤ 140737488355328) := by rw [Hid, hn]; exact hlen
    rw [← hn] at HK ⊢
    have hnn := not_nil9 ad n cap
    clear hk hn hlen
    go_enter Tryz.func123, Tryz.ntmps123
    go_wp2_with (at_builtin; go_must (refine wpList_app _ rfl _ _ rfl w.heap.size _ [] rfl ?c1 _ ks rfl ?c2 (by intro n c e; cases e) (by rw [HN.out]; have := HL.out; simp; exact this) (by simp) ?_))
    case c1 => exact own_empty w
    case c2 => exact HK.out.below ((Below.refl _ _).alloc (Nat.le_refl _) _)
    intro r1 w1 o1 b1 z1
    have K1 : Below w.heap.size w w1 := ((Below.refl _ _).alloc (Nat.le_refl _) (.cells #[] 5)).trans b1
    clear z1 b1
    go_wp2
    go_ret
    exact ⟨r1, rfl, o1, K1⟩

theorem M.dload_ok (bs : List UInt8) (h256 : bs.length % 256 = 0) (hmax : bs.length ≤ 557056) : (M.dload bs).Ok ∧ (M.dload bs).safe.flatten = bs :=
  ⟨⟨by rw [M.dload, M.cut_length]; omega, M.cut_full _ _ (by omega), fun c hc => by cases hc⟩, by rw [M.dload, M.cut_flat, List.take_of_length_le (by omega)]⟩

theorem M.dnew_ok (n : Nat) : (M.dnew n).Ok ∧ (M.dnew n).safe.flatten = List.replicate (256 * min n 2176) 0 :=
  ⟨⟨by rw [M.dnew, List.length_replicate]; omega, fun b hb => by rw [List.eq_of_mem_replicate hb]; exact List.length_replicate, fun c hc => by cases hc⟩, by rw [M.dnew, M.zero256, List.flatten_replicate_replicate, Nat.mul_comm]⟩

end Go.Proofs.YtbgadfaiehkanaaGreatDoor
