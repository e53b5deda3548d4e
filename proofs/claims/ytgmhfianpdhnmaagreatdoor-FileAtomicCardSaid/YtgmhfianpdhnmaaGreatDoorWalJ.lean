/-
  THE JOURNAL'S HEAD, PLAIN MATHEMATICS: what it tells (toldOf), the head that tells of changes (headOf: a front of 224 bytes and a digest), decJ; and that they make a Journal. Nothing of the program. Conditions: none.
-/
import Derived.Test.YtgmhfianpdhnmaaGreatDoorWalMath
import Derived.Test.YtgmhfianpdhnmaaGreatDoorPf2
namespace Go.Proofs.YtgmhfianpdhnmaaGreatDoor.M
set_option linter.unusedVariables false

/-- A head on its way: the number, the first k blocks, bytes 0. -/
def hblk (l : CL) (k : Nat) : List UInt8 := le l.length 4 ++ ((l.take k).flatMap fun c => le c.1.toNat 4) ++ List.replicate (252 - 4 * k) 0

def hfront (l : CL) : List UInt8 := (hblk l l.length).take 224

/-- The bytes of changes, one behind the other. -/
def hdata (l : CL) : List UInt8 := l.flatMap (·.2)

def headOf (l : CL) : List UInt8 := hfront l ++ sha (hdata l ++ hfront l)

def toldAt (s : List (List UInt8)) (i : Nat) : Int × List UInt8 := (((gl ((s.getD 0 []).drop (4 * (1 + i))) 4 : Nat) : Int), s.getD (1 + i) [])

def toldN (s : List (List UInt8)) : Nat := min (gl (s.getD 0 []) 4) 40

/-- The changes that a head tells, whether they may be or not. -/
def toldOf (s : List (List UInt8)) : CL := (List.range (toldN s)).map (toldAt s)

/-- The changes that are whole in the journal. -/
def decJ (s : List (List UInt8)) : Option CL := if toldOf s ≠ [] ∧ May (s.length - 42) (toldOf s) ∧ s.getD 0 [] = headOf (toldOf s) then some (toldOf s) else none

theorem fours (l : CL) : (l.flatMap fun c => le c.1.toNat 4).length = 4 * l.length := by
  induction l with
  | nil => rfl
  | cons c r ih => rw [List.flatMap_cons, List.length_append, le_length, ih, List.length_cons]; omega

theorem hblk_length (l : CL) (k : Nat) (hk : k ≤ l.length) : (hblk l k).length = 4 + 4 * k + (252 - 4 * k) := by
  rw [hblk, List.length_append, List.length_append, le_length, fours, List.length_replicate, List.length_take, Nat.min_eq_left hk]

theorem hblk_256 (l : CL) (k : Nat) (hk : k ≤ l.length) (h40 : l.length ≤ 40) : (hblk l k).length = 256 := by
  rw [hblk_length l k hk]
  omega

theorem hfront_length (l : CL) : (hfront l).length = 224 := by
  rw [hfront, List.length_take, hblk_length l _ (Nat.le_refl _)]
  omega

theorem headOf_length (l : CL) : (headOf l).length = 256 := by rw [headOf, List.length_append, hfront_length, sha_length]

theorem hblk_zero (l : CL) : hblk l 0 = le l.length 4 ++ List.replicate 252 0 := by
  rw [hblk, List.take_zero, List.flatMap_nil, List.append_nil]

/-- The number over bytes 0. -/
theorem hblk_first (l : CL) : (zero256.take 0 ++ le l.length 4 ++ zero256.drop (0 + (le l.length 4).length)) = hblk l 0 := by
  rw [hblk_zero, le_length, List.take_zero, List.nil_append, zero256, List.drop_replicate]

/-- A block more. -/
theorem hblk_next (l : CL) (k : Nat) (hk : k < l.length) (h40 : l.length ≤ 40) (c : Int × List UInt8) (hc : c = l.getD k (0, [])) :
    (hblk l k).take (4 * (1 + k)) ++ le c.1.toNat 4 ++ (hblk l k).drop (4 * (1 + k) + (le c.1.toNat 4).length) = hblk l (k + 1) := by
  have hp : (le l.length 4 ++ ((l.take k).flatMap fun c => le c.1.toNat 4)).length = 4 * (1 + k) := by
    rw [List.length_append, le_length, fours, List.length_take, Nat.min_eq_left (Nat.le_of_lt hk)]
    omega
  have e1 : (hblk l k).take (4 * (1 + k)) = le l.length 4 ++ ((l.take k).flatMap fun c => le c.1.toNat 4) := by
    rw [hblk, ← hp, List.take_left]
  have e2 : (hblk l k).drop (4 * (1 + k) + (le c.1.toNat 4).length) = List.replicate (252 - 4 * (k + 1)) 0 := by
    rw [hblk, ← hp, List.drop_append, List.drop_eq_nil_of_le (by omega), List.nil_append, le_length, Nat.add_sub_cancel_left, List.drop_replicate]
    first | done | (congr 1 <;> omega)
  have e3 : l.take (k + 1) = l.take k ++ [c] := by
    rw [List.take_add_one, List.getElem?_eq_getElem hk, hc, List.getD_eq_getElem?_getD, List.getElem?_eq_getElem hk]
    rfl
  rw [e1, e2, hblk, e3, List.flatMap_append, List.flatMap_singleton]
  simp only [List.append_assoc]

/-- The digest behind the front. -/
theorem head_done (l : CL) (h40 : l.length ≤ 40) : (hblk l l.length).take 224 ++ sha (hdata l ++ hfront l) ++ (hblk l l.length).drop (224 + (sha (hdata l ++ hfront l)).length) = headOf l := by
  rw [sha_length, List.drop_eq_nil_of_le (by rw [hblk_256 l _ (Nat.le_refl _) h40]; decide), List.append_nil]
  rfl

theorem hdata_next (l : CL) (k : Nat) (hk : k < l.length) (c : Int × List UInt8) (hc : c = l.getD k (0, [])) : hdata (l.take k) ++ c.2 = hdata (l.take (k + 1)) := by
  have e3 : l.take (k + 1) = l.take k ++ [c] := by
    rw [List.take_add_one, List.getElem?_eq_getElem hk, hc, List.getD_eq_getElem?_getD, List.getElem?_eq_getElem hk]
    rfl
  rw [hdata, hdata, e3, List.flatMap_append, List.flatMap_singleton]

theorem hdata_le (l : CL) (h : ∀ c ∈ l, c.2.length = 256) : (hdata l).length = 256 * l.length := by
  induction l with
  | nil => rfl
  | cons c r ih =>
    have := ih fun d hd => h d (List.mem_cons_of_mem _ hd)
    rw [hdata] at this ⊢
    rw [List.flatMap_cons, List.length_append, this, h c (List.mem_cons_self ..), List.length_cons]
    omega

theorem gl_same (a b : List UInt8) : ∀ k, (∀ i, i < k → a.getD i 0 = b.getD i 0) → gl a k = gl b k
  | 0, _ => rfl
  | k + 1, h => by rw [gl, gl, gl_same a b k fun i hi => h i (by omega), h k (by omega)]

theorem gl_front (v n : Nat) (r : List UInt8) (h : v < 256 ^ n) : gl (le v n ++ r) n = v := by
  refine (gl_same _ (le v n) n fun i hi => ?_).trans (gl_of_le v n h)
  rw [List.getD_eq_getElem?_getD, List.getD_eq_getElem?_getD, List.getElem?_append_left (by rw [le_length]; exact hi)]

theorem headOf_split (l : CL) (h40 : l.length ≤ 40) : ∃ r, headOf l = le l.length 4 ++ ((l.flatMap fun c => le c.1.toNat 4) ++ r) := by
  refine ⟨List.replicate (220 - 4 * l.length) 0 ++ sha (hdata l ++ hfront l), ?_⟩
  have hp : (le l.length 4 ++ (l.flatMap fun c => le c.1.toNat 4)).length = 4 + 4 * l.length := by rw [List.length_append, le_length, fours]
  have e : hfront l = le l.length 4 ++ (l.flatMap fun c => le c.1.toNat 4) ++ List.replicate (220 - 4 * l.length) 0 := by
    rw [hfront, hblk, List.take_length, List.take_append, List.take_of_length_le (by omega), hp, List.take_replicate]
    congr 2
    omega
  rw [headOf, e]
  simp only [List.append_assoc]

theorem fours_drop : ∀ (l : CL) (i : Nat) (r : List UInt8), i < l.length → ∃ t, ((l.flatMap fun c => le c.1.toNat 4) ++ r).drop (4 * i) = le (l.getD i (0, [])).1.toNat 4 ++ t
  | c :: l, 0, r, _ => ⟨(l.flatMap fun c => le c.1.toNat 4) ++ r, by rw [Nat.mul_zero, List.drop_zero, List.flatMap_cons, List.append_assoc]; rfl⟩
  | c :: l, i + 1, r, h => by
    obtain ⟨t, ht⟩ := fours_drop l i r (by simpa using h)
    refine ⟨t, ?_⟩
    rw [List.flatMap_cons, List.append_assoc, List.drop_append, List.drop_eq_nil_of_le (by rw [le_length]; omega), List.nil_append, le_length, show 4 * (i + 1) - 4 = 4 * i by omega, ht]
    rfl

theorem told_head (s : List (List UInt8)) (l : CL) (hn : s.length - 42 ≤ 4294967296) (hm : May (s.length - 42) l) (h0 : s.getD 0 [] = headOf l) (hb : ∀ i, i < l.length → s.getD (1 + i) [] = (l.getD i (0, [])).2) : toldOf s = l := by
  obtain ⟨r, hr⟩ := headOf_split l hm.1
  have n1 : toldN s = l.length := by
    have := hm.1
    rw [toldN, h0, hr, gl_front l.length 4 _ (by rw [show (256 : Nat) ^ 4 = 4294967296 from rfl]; omega)]
    omega
  apply List.ext_getElem
  · rw [toldOf, List.length_map, List.length_range, n1]
  · intro i h1 h2
    have e0 : (toldOf s)[i] = toldAt s i := by simp [toldOf]
    rw [e0, toldAt, h0, hr]
    have hg : l.getD i (0, []) = l[i] := by rw [List.getD_eq_getElem?_getD, List.getElem?_eq_getElem h2]; rfl
    obtain ⟨t, ht⟩ := fours_drop l i r h2
    have e1 : (le l.length 4 ++ ((l.flatMap fun c => le c.1.toNat 4) ++ r)).drop (4 * (1 + i)) = le (l.getD i (0, [])).1.toNat 4 ++ t := by
      rw [List.drop_append, List.drop_eq_nil_of_le (by rw [le_length]; omega), List.nil_append, le_length, show 4 * (1 + i) - 4 = 4 * i by omega, ht]
    have hc := hm.2 l[i] (List.getElem_mem h2)
    have hlt : (l.getD i (0, [])).1.toNat < 256 ^ 4 := by
      rw [hg, show (256 : Nat) ^ 4 = 4294967296 from rfl]
      omega
    rw [e1, gl_front _ 4 t hlt, hb i h2, hg]
    refine Prod.ext ?_ rfl
    show ((l[i].1.toNat : Nat) : Int) = l[i].1
    omega

theorem decJ_journal : Journal decJ headOf where
  zero := fun s h => by
    have e : toldOf s = [] := by
      have n0 : toldN s = 0 := by rw [toldN, h, show gl zero256 4 = 0 by decide]; rfl
      rw [toldOf, n0]
      rfl
    rw [decJ, if_neg]
    rintro ⟨h1, _⟩
    exact h1 e
  front := fun s t hl h => by
    have e : toldOf s = toldOf t := by
      have n1 : toldN s = toldN t := by rw [toldN, toldN, h 0 (by decide)]
      rw [toldOf, toldOf, ← n1]
      apply List.map_congr_left
      intro i hi
      have : i < toldN s := List.mem_range.1 hi
      have h40 : toldN s ≤ 40 := Nat.min_le_right _ _
      rw [toldAt, toldAt, h 0 (by decide), h (1 + i) (by omega)]
    rw [decJ, decJ, e, hl, h 0 (by decide)]
  told := fun s l h42 h => by
    rw [decJ] at h
    split at h
    · rename_i hh
      injection h with h
      exact h ▸ hh.2.1
    · cases h
  whole := fun s l h42 hfew hm hne h0 hb => by
    have e := told_head s l (by omega) hm h0 hb
    rw [decJ, e, if_pos ⟨hne, hm, h0⟩]
  len := headOf_length

end Go.Proofs.YtgmhfianpdhnmaaGreatDoor.M
