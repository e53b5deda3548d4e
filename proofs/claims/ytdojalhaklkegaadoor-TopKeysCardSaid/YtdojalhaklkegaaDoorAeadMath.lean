/-
  PLAIN MATHEMATICS OF LAYER 6: a box, and what is opened. Nothing of the program. Conditions: as each says.
-/
import Derived.Test.YtdojalhaklkegaaDoorChaMath
import Derived.Test.YtdojalhaklkegaaDoorTagMath
namespace Go.Proofs.YtdojalhaklkegaaDoor.M

/-- Bytes 0 up to a multiple of 16. -/
def fullA (b : List UInt8) : List UInt8 := b ++ List.replicate ((16 - b.length % 16) % 16) 0

/-- What is tagged. -/
def toTag (beside hidden : List UInt8) : List UInt8 := fullA beside ++ fullA hidden ++ le beside.length 8 ++ le hidden.length 8

def hide (key nonce b : List UInt8) : List UInt8 := xo (strm key nonce 1) b b.length

def under (key nonce : List UInt8) : List UInt8 := (cblk key nonce 0).take 32

def boxTag (key nonce beside hidden : List UInt8) : List UInt8 := tag (under key nonce) (toTag beside hidden)

def box (key nonce beside text : List UInt8) : List UInt8 := hide key nonce text ++ boxTag key nonce beside (hide key nonce text)

theorem hide_length (key nonce b : List UInt8) : (hide key nonce b).length = b.length := xo_length _ _ _

theorem hide_twice (key nonce b : List UInt8) : hide key nonce (hide key nonce b) = b := by
  rw [hide, hide_length]
  exact xo_twice _ _

theorem under_length (key nonce : List UInt8) : (under key nonce).length = 32 := by rw [under, List.length_take, cblk_length]; rfl

theorem fullA_length (b : List UInt8) : (fullA b).length = (b.length + 15) / 16 * 16 := by
  rw [fullA, List.length_append, List.length_replicate]
  omega

theorem fullA_le (b : List UInt8) : b.length ≤ (fullA b).length ∧ (fullA b).length ≤ b.length + 15 := by
  rw [fullA_length]
  omega

theorem fullA_mod (b : List UInt8) : (fullA b).length % 16 = 0 := by
  rw [fullA_length]
  omega

theorem toTag_length (a b : List UInt8) : (toTag a b).length = (a.length + 15) / 16 * 16 + (b.length + 15) / 16 * 16 + 16 := by
  rw [toTag, List.length_append, List.length_append, List.length_append, fullA_length, fullA_length, le_length, le_length]

theorem toTag_le (a b : List UInt8) : (toTag a b).length ≤ a.length + b.length + 46 := by
  rw [toTag_length]
  omega

theorem boxTag_length (key nonce beside hidden : List UInt8) : (boxTag key nonce beside hidden).length = 16 := tag_length _ _

theorem box_length (key nonce beside text : List UInt8) : (box key nonce beside text).length = text.length + 16 := by
  rw [box, List.length_append, hide_length, boxTag_length]

theorem box_take (key nonce beside text : List UInt8) : (box key nonce beside text).take text.length = hide key nonce text := by
  rw [box, List.take_append_of_le_length (by rw [hide_length]; exact Nat.le_refl _), List.take_of_length_le (by rw [hide_length]; exact Nat.le_refl _)]

theorem box_drop (key nonce beside text : List UInt8) : (box key nonce beside text).drop text.length = boxTag key nonce beside (hide key nonce text) := by
  rw [box, List.drop_append_of_le_length (by rw [hide_length]; exact Nat.le_refl _), List.drop_eq_nil_of_le (by rw [hide_length]; exact Nat.le_refl _), List.nil_append]

/-- A row of bytes is a box just if its end is its tag; then its text is what is hidden in it. -/
theorem box_iff (key nonce beside b : List UInt8) (n : Nat) (hn : n + 16 = b.length) :
    box key nonce beside (hide key nonce (b.take n)) = b ↔ boxTag key nonce beside (b.take n) = b.drop n := by
  rw [box, hide_twice]
  have hl : (b.take n).length = n := by rw [List.length_take]; omega
  constructor
  · intro h
    have h2 := congrArg (List.drop n) h
    rw [List.drop_append_of_le_length (by omega), List.drop_eq_nil_of_le (by omega), List.nil_append] at h2
    exact h2
  · intro h
    rw [h, List.take_append_drop]

/-- What was sealed is opened. -/
theorem box_opens (key nonce beside text : List UInt8) : hide key nonce ((box key nonce beside text).take text.length) = text := by
  rw [box_take, hide_twice]

end Go.Proofs.YtdojalhaklkegaaDoor.M
