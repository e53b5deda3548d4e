/-
  A KEY, A NONCE, A COUNTER AND A TEXT IN ONE BLOCK (orloplaw04.Ask by value): where they lie. Conditions: none.
-/
import Derived.Test.YtaechnhnhfgloaaDoorChaXor
import Derived.Test.YtaechnhnhfgloaaDoorChaAwake
import Derived.Test.YtaechnhnhfgloaaDoorRefA
import Derived.Deep.RegionHeld3
namespace Go.Proofs.YtaechnhnhfgloaaDoor
open Go.RowKit
set_option linter.unusedVariables false

/-- The cells of such a struct. -/
def askC (key nonce : List UInt8) (c : UInt32) (tv : Value) : List Value := Lib.byteCells key ++ (Lib.byteCells nonce ++ [.int .u32 (c.toNat : Int), tv])

structure AskAt (w : World) (g : Nat) (key nonce : List UInt8) (c : UInt32) (tv : Value) : Prop where
  blk : Blk w g 34 (askC key nonce c tv)
  kl : key.length = 32
  nl : nonce.length = 12

theorem AskAt.below {w w' : World} {g : Nat} {key nonce : List UInt8} {c : UInt32} {tv : Value} (h : AskAt w g key nonce c tv) (k : Below w.heap.size w w') : AskAt w' g key nonce c tv := ⟨h.blk.below k h.blk.lt, h.kl, h.nl⟩

theorem AskAt.keyCells {w : World} {g : Nat} {key nonce : List UInt8} {c : UInt32} {tv : Value} (h : AskAt w g key nonce c tv) : ∀ i, i < key.length → w.cell? ⟨g, 0 + i, none⟩ = some (.int .u8 ((key.getD i 0).toNat : Int)) := fun i hi => by
  rw [Nat.zero_add, h.blk.cell, askC, List.getElem?_append_left (by rw [byteCells_length]; exact hi), byteCells_getElem? key i hi]

theorem AskAt.key {w : World} {g : Nat} {key nonce : List UInt8} {c : UInt32} {tv : Value} (h : AskAt w g key nonce c tv) : IsB w (.slice (some ⟨g, 0, none⟩) 32 32) key :=
  ⟨_, 32, by rw [h.kl], by rw [h.kl]; exact Nat.le_refl _, by unfold maxLen; omega, .inr ⟨g, 0, rfl, h.keyCells⟩⟩

theorem AskAt.key31 {w : World} {g : Nat} {key nonce : List UInt8} {c : UInt32} {tv : Value} (h : AskAt w g key nonce c tv) : IsB w (.slice (some ⟨g, 0, none⟩) 31 32) (key.take 31) := by
  have := isB_part (off := 0) h.keyCells 0 31 32 (by rw [h.kl]; decide) (by decide) (by unfold maxLen; omega)
  simpa using this

theorem AskAt.nonce {w : World} {g : Nat} {key nonce : List UInt8} {c : UInt32} {tv : Value} (h : AskAt w g key nonce c tv) : IsB w (.slice (some ⟨g, 32, none⟩) 12 12) nonce := by
  refine ⟨_, 12, by rw [h.nl], by rw [h.nl]; exact Nat.le_refl _, by unfold maxLen; omega, .inr ⟨g, 32, rfl, fun i hi => ?_⟩⟩
  rw [h.blk.cell, askC, List.getElem?_append_right (by rw [byteCells_length, h.kl]; omega), byteCells_length, h.kl, Nat.add_sub_cancel_left, List.getElem?_append_left (by rw [byteCells_length]; exact hi), byteCells_getElem? nonce i hi]

theorem AskAt.ctr {w : World} {g : Nat} {key nonce : List UInt8} {c : UInt32} {tv : Value} (h : AskAt w g key nonce c tv) : w.cell? ⟨g, 44, none⟩ = some (.int .u32 (c.toNat : Int)) := by
  rw [h.blk.cell, askC, List.getElem?_append_right (by rw [byteCells_length, h.kl]; decide), byteCells_length, h.kl, List.getElem?_append_right (by rw [byteCells_length, h.nl]; decide), byteCells_length, h.nl]
  rfl

theorem AskAt.text {w : World} {g : Nat} {key nonce : List UInt8} {c : UInt32} {tv : Value} (h : AskAt w g key nonce c tv) : w.cell? ⟨g, 45, none⟩ = some tv := by
  rw [h.blk.cell, askC, List.getElem?_append_right (by rw [byteCells_length, h.kl]; decide), byteCells_length, h.kl, List.getElem?_append_right (by rw [byteCells_length, h.nl]; decide), byteCells_length, h.nl]
  rfl

theorem askAt_new (w : World) (key nonce : List UInt8) (c : UInt32) (tv : Value) (hk : key.length = 32) (hn : nonce.length = 12) : AskAt (w.alloc (.cells (askC key nonce c tv).toArray 34)) w.heap.size key nonce c tv :=
  ⟨Blk.newAt _ _ _ _ _ rfl (by simp), hk, hn⟩

/-- Xor at such a struct, behind a draw. -/
theorem xor_ask {w : World} {g : Nat} {key nonce : List UInt8} {c : UInt32} {tv : Value} (hL : LaidP w) (h : AskAt w g key nonce c tv) (v : Value) (text : List UInt8) (d : UInt32) (ht : IsB w v text) (hlen : text.length ≤ 70368744177664) :
    Calls Tryd.prog 11 #[.slice (some ⟨g, 0, none⟩) 32 32, .slice (some ⟨g, 32, none⟩) 12 12, .int .u32 (d.toNat : Int), v] w.drew fun e w' =>
      ∃ r, e = .returned (.tuple #[r, .int .i64 0]) ∧ Own w' w.heap.size r (M.xo (M.strm key nonce d) text text.length) ∧ Below w.heap.size w w' := by
  have k := below_draws w 1
  refine (xor_any _ _ v key nonce text d w.drew (hL.below k hL.size) (h.key.below k) (h.nonce.below k) (ht.below k) h.kl h.nl hlen).mono ?_
  rintro e w' ⟨r, rfl, o, b⟩
  exact ⟨r, rfl, o, k.trans b⟩

theorem isB_takeC {w : World} {ao : Option Addr} {n cap : Nat} {bs : List UInt8} (h : IsB w (.slice ao n cap) bs) (m : Nat) (hm : m ≤ n) : IsB w (.slice ao m cap) (bs.take m) := by
  obtain ⟨ao', cap', e, h1, h2, h3⟩ := h
  injection e with e1 e2 e3
  subst e1 e2 e3
  have hl : (bs.take m).length = m := by rw [List.length_take]; omega
  refine ⟨ao, cap, by rw [hl], by omega, h2, ?_⟩
  rcases h3 with h | ⟨b, off, e, h⟩
  · exact .inl (by rw [h]; simp)
  · refine .inr ⟨b, off, e, fun i hi => ?_⟩
    rw [hl] at hi
    rw [h i (by omega)]
    simp [List.getD_eq_getElem?_getD, hi]

theorem isB_addC {w : World} {ad : Addr} {n cap : Nat} {bs : List UInt8} (h : IsB w (.slice (some ad) n cap) bs) (m : Nat) (hm : m ≤ n) : IsB w (.slice (some (ad.add m)) (n - m) (cap - m)) (bs.drop m) := by
  obtain ⟨ao', cap', e, h1, h2, h3⟩ := h
  injection e with e1 e2 e3
  subst e1 e2 e3
  have hl : (bs.drop m).length = bs.length - m := by rw [List.length_drop]
  refine ⟨_, cap - m, by rw [hl], by rw [hl]; omega, by omega, ?_⟩
  rcases h3 with h | ⟨b, off, e, h⟩
  · exact .inl (by rw [h]; simp)
  · injection e with e
    subst e
    refine .inr ⟨b, off + m, by rw [Addr.add_lit], fun i hi => ?_⟩
    rw [hl] at hi
    rw [Nat.add_assoc, h (m + i) (by omega)]
    simp [List.getD_eq_getElem?_getD]

theorem isB_zeroC (w : World) (ao : Option Addr) (cap : Nat) (hm : cap ≤ maxLen) {bs : List UInt8} (h : bs = []) {n : Nat} (hn : n = 0) : IsB w (.slice ao n cap) bs := by
  subst h hn
  exact ⟨ao, cap, rfl, Nat.zero_le _, hm, .inl rfl⟩

theorem chaEqual_yes (v1 v2 : Value) (bs : List UInt8) (w : World) (h1 : IsB w v1 bs) (h2 : IsB w v2 bs) :
    Calls Tryd.prog 9 #[v1, v2] w fun e w' => e = .returned (.bool true) ∧ Below w.heap.size w w' := by
  refine (equal_any v1 v2 bs bs w h1 h2).mono ?_
  rintro e w' ⟨rfl, n, rfl⟩
  exact ⟨by simp, below_draws w n⟩

theorem strm_xo (key nonce : List UInt8) (c : UInt32) (text : List UInt8) (n : Nat) (h : n = text.length) : M.xo (M.strm key nonce c) text n = M.xo (M.strm key nonce c) text text.length := by rw [h]

end Go.Proofs.YtaechnhnhfgloaaDoor
