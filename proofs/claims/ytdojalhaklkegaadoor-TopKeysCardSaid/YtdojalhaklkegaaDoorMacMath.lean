/-
  PLAIN MATHEMATICS OF LAYER 3 (HMAC-SHA256 and HKDF): lists of bytes, nothing of the program. Conditions: none.
-/
import Derived.Test.YtdojalhaklkegaaDoorShaMath
namespace Go.Proofs.YtdojalhaklkegaaDoor.M

def mask (c : UInt8) (b : List UInt8) : List UInt8 := b.map (· ^^^ c)

def keyHead (k : List UInt8) : List UInt8 := if 64 < k.length then sha k else k

/-- A key's block. -/
def block (k : List UInt8) : List UInt8 := keyHead k ++ List.replicate (64 - (keyHead k).length) 0

/-- The code of a message under a block. -/
def hm (b m : List UInt8) : List UInt8 := sha (mask 92 b ++ sha (mask 54 b ++ m))

def mac (k m : List UInt8) : List UInt8 := hm (block k) m

/-- The i-th piece. -/
def piece (b info : List UInt8) : Nat → List UInt8
  | 0 => []
  | i + 1 => hm b (piece b info i ++ (info ++ [UInt8.ofNat (i + 1)]))

/-- The first i pieces. -/
def stream (b info : List UInt8) : Nat → List UInt8
  | 0 => []
  | i + 1 => stream b info i ++ piece b info (i + 1)

/-- A key made longer. -/
def expd (b info : List UInt8) (n : Nat) : List UInt8 := (stream b info ((n + 31) / 32)).take n

theorem mask_length (c : UInt8) (b : List UInt8) : (mask c b).length = b.length := by simp [mask]

theorem keyHead_le (k : List UInt8) : (keyHead k).length ≤ 64 := by
  unfold keyHead
  split
  · rw [sha_length]; omega
  · omega

theorem block_length (k : List UInt8) : (block k).length = 64 := by
  have := keyHead_le k
  simp [block]
  omega

theorem hm_length (b m : List UInt8) : (hm b m).length = 32 := sha_length _

theorem mac_length (k m : List UInt8) : (mac k m).length = 32 := sha_length _

theorem piece_length (b info : List UInt8) (i : Nat) : (piece b info (i + 1)).length = 32 := sha_length _

theorem piece_le (b info : List UInt8) (i : Nat) : (piece b info i).length ≤ 32 := by
  cases i with
  | zero => simp [piece]
  | succ i => rw [piece_length]; omega

theorem stream_length (b info : List UInt8) (i : Nat) : (stream b info i).length = 32 * i := by
  induction i with
  | zero => rfl
  | succ i ih => rw [stream, List.length_append, ih, piece_length]; omega

theorem stream_take (b info : List UInt8) (n i : Nat) (h : n ≤ 32 * i) : ∀ j, (stream b info (i + j)).take n = (stream b info i).take n := by
  intro j
  induction j with
  | zero => rfl
  | succ j ih =>
    rw [← Nat.add_assoc, stream, List.take_append_of_le_length (by rw [stream_length]; omega), ih]

theorem stream_expd (b info : List UInt8) (n i : Nat) (h : n ≤ 32 * i) : (stream b info i).take n = expd b info n := by
  have e : i = (n + 31) / 32 + (i - (n + 31) / 32) := by omega
  rw [e, stream_take _ _ _ _ (by omega)]
  rfl

theorem expd_length (b info : List UInt8) (n : Nat) : (expd b info n).length = n := by
  rw [expd, List.length_take, stream_length]
  omega

theorem expd_take (b info : List UInt8) (a n : Nat) (h : a ≤ n) : (expd b info n).take a = expd b info a := by
  rw [expd, List.take_take, Nat.min_eq_left h, stream_expd _ _ _ _ (by omega)]

/-- What is gathered behind i pieces, and a piece more of which as much as lacks is taken. -/
theorem expd_next (b info : List UInt8) (n i : Nat) (h : 32 * i < n) :
    (stream b info i).take n ++ (piece b info (i + 1)).take (min 32 (n - 32 * i)) = (stream b info (i + 1)).take n := by
  rw [stream, List.take_append, stream_length, List.take_of_length_le (show (stream b info i).length ≤ n by rw [stream_length]; omega)]
  congr 1
  by_cases hc : n - 32 * i ≤ 32
  · rw [Nat.min_eq_right hc]
  · rw [Nat.min_eq_left (by omega), List.take_of_length_le (by rw [piece_length]; exact Nat.le_refl _), List.take_of_length_le (by rw [piece_length]; omega)]

theorem block_sha (k : List UInt8) (h : 64 < k.length) : block (sha k) = block k := by
  have e : keyHead k = sha k := by rw [keyHead, if_pos h]
  have e2 : keyHead (sha k) = sha k := by rw [keyHead, if_neg (by rw [sha_length]; omega)]
  rw [block, block, e, e2]

theorem block_zeros (k : List UInt8) (n : Nat) (h : k.length + n ≤ 64) : block (k ++ List.replicate n 0) = block k := by
  have e : keyHead k = k := by rw [keyHead, if_neg (by omega)]
  have e2 : keyHead (k ++ List.replicate n 0) = k ++ List.replicate n 0 := by rw [keyHead, if_neg (by simp; omega)]
  rw [block, block, e, e2, List.append_assoc, List.length_append, List.length_replicate, List.replicate_append_replicate]
  congr 2
  omega

theorem mac_hi : (mac (List.replicate 20 11) [72, 105, 32, 84, 104, 101, 114, 101]).take 4 = [176, 52, 76, 97] := by decide +kernel

end Go.Proofs.YtdojalhaklkegaaDoor.M
