/-
  THE MATHEMATICS OF TopShares: what one scalar shares with another one's point is what that one shares with the first one's, and never 0. Conditions: scalars of 32 bytes.
  PLAIN MATHEMATICS OF LAYER 3 (HMAC-SHA256 and HKDF): lists of bytes, nothing of the program. Conditions: none.
  A DIGEST ON ITS WAY: what lies in its block behind the bytes m; plain steps. Conditions: none.
-/
import Derived.Test.YtdojalhaklkegaaDoorPn32
import Derived.Test.YtdojalhaklkegaaDoorPn2
import Derived.Test.YtdojalhaklkegaaDoorPn3

namespace Go.Proofs.YtdojalhaklkegaaDoor.M
set_option linter.unusedVariables false

theorem told_le32 {x : Nat} (hx : x < Q) : told (le x 32) % Q = x := by
  have h1 : x < 256 ^ 32 := Nat.lt_trans hx Q_256
  have h2 : x < 2 ^ 255 := Nat.lt_trans hx (by decide +kernel)
  rw [told, gl_of_le x 32 h1, Nat.mod_eq_of_lt h2, Nat.mod_eq_of_lt hx]

theorem secret_point (a b : List UInt8) (hb : b.length = 32) : secret a (le (point b) 32) = Ed.U (Ed.nP (Ed.nb (clampB a) 255 * Ed.nb (clampB b) 255)) := by
  rw [secret, told_le32 (x := point b) (ladder_lt _ _), point]
  exact Ed.ladder_twice _ _ (clamp_no b hb)

theorem secret_comm (a b : List UInt8) (ha : a.length = 32) (hb : b.length = 32) : secret a (le (point b) 32) = secret b (le (point a) 32) := by
  rw [secret_point a b hb, secret_point b a ha, Nat.mul_comm]

theorem secret_ne (a b : List UInt8) (ha : a.length = 32) (hb : b.length = 32) : ¬ secret a (le (point b) 32) = 0 := by
  rw [secret_point a b hb]
  refine Ed.U_ne fun hd => ?_
  exact clamp_no b hb (Ed.L_prime.euclid hd (clamp_no a ha))

end Go.Proofs.YtdojalhaklkegaaDoor.M

namespace Go.Proofs.YtdojalhaklkegaaDoor.M

def mask (c : UInt8) (b : List UInt8) : List UInt8 := b.map (· ^^^ c)

def keyHead (k : List UInt8) : List UInt8 := if 64 < k.length then sha k else k

/-- A key's block. -/
def block (k : List UInt8) : List UInt8 := keyHead k ++ List.replicate (64 - (keyHead k).length) 0

/-- The code of a message under a block. -/
def hm (b m : List UInt8) : List UInt8 := sha (mask 92 b ++ sha (mask 54 b ++ m))

def mac (k m : List UInt8) : List UInt8 := hm (block k) m

/-- The i-th piece. -/
def piece (b info : List UInt8) : Nat → List UInt8
  | 0 => []
  | i + 1 => hm b (piece b info i ++ (info ++ [UInt8.ofNat (i + 1)]))

/-- The first i pieces. -/
def stream (b info : List UInt8) : Nat → List UInt8
  | 0 => []
  | i + 1 => stream b info i ++ piece b info (i + 1)

/-- A key made longer. -/
def expd (b info : List UInt8) (n : Nat) : List UInt8 := (stream b info ((n + 31) / 32)).take n

theorem mask_length (c : UInt8) (b : List UInt8) : (mask c b).length = b.length := by simp [mask]

theorem keyHead_le (k : List UInt8) : (keyHead k).length ≤ 64 := by
  unfold keyHead
  split
  · rw [sha_length]; omega
  · omega

theorem block_length (k : List UInt8) : (block k).length = 64 := by
  have := keyHead_le k
  simp [block]
  omega

theorem hm_length (b m : List UInt8) : (hm b m).length = 32 := sha_length _

theorem mac_length (k m : List UInt8) : (mac k m).length = 32 := sha_length _

theorem piece_length (b info : List UInt8) (i : Nat) : (piece b info (i + 1)).length = 32 := sha_length _

theorem piece_le (b info : List UInt8) (i : Nat) : (piece b info i).length ≤ 32 := by
  cases i with
  | zero => simp [piece]
  | succ i => rw [piece_length]; omega

theorem stream_length (b info : List UInt8) (i : Nat) : (stream b info i).length = 32 * i := by
  induction i with
  | zero => rfl
  | succ i ih => rw [stream, List.length_append, ih, piece_length]; omega

theorem stream_take (b info : List UInt8) (n i : Nat) (h : n ≤ 32 * i) : ∀ j, (stream b info (i + j)).take n = (stream b info i).take n := by
  intro j
  induction j with
  | zero => rfl
  | succ j ih =>
    rw [← Nat.add_assoc, stream, List.take_append_of_le_length (by rw [stream_length]; omega), ih]

theorem stream_expd (b info : List UInt8) (n i : Nat) (h : n ≤ 32 * i) : (stream b info i).take n = expd b info n := by
  have e : i = (n + 31) / 32 + (i - (n + 31) / 32) := by omega
  rw [e, stream_take _ _ _ _ (by omega)]
  rfl

theorem expd_length (b info : List UInt8) (n : Nat) : (expd b info n).length = n := by
  rw [expd, List.length_take, stream_length]
  omega

/-- What is gathered behind i pieces, and a piece more of which as much as lacks is taken. -/
theorem expd_next (b info : List UInt8) (n i : Nat) (h : 32 * i < n) :
    (stream b info i).take n ++ (piece b info (i + 1)).take (min 32 (n - 32 * i)) = (stream b info (i + 1)).take n := by
  rw [stream, List.take_append, stream_length, List.take_of_length_le (show (stream b info i).length ≤ n by rw [stream_length]; omega)]
  congr 1
  by_cases hc : n - 32 * i ≤ 32
  · rw [Nat.min_eq_right hc]
  · rw [Nat.min_eq_left (by omega), List.take_of_length_le (by rw [piece_length]; exact Nat.le_refl _), List.take_of_length_le (by rw [piece_length]; omega)]

end Go.Proofs.YtdojalhaklkegaaDoor.M

set_option maxRecDepth 100000
namespace Go.Proofs.YtdojalhaklkegaaDoor
open Go.RowKit
set_option linter.unusedVariables false
set_option maxRecDepth 100000

/-- Block g is a digest on its way, behind the bytes m. -/
def HashIs (w : World) (g : Nat) (m : List UInt8) : Prop :=
  ∃ wait : List UInt8, wait.length = 64 ∧ wait.take (m.length % 64) = m.drop (m.length / 64 * 64) ∧ Blk w g 156 (Hc (M.blocks M.H0 m (m.length / 64)).l wait m.length)

theorem HashIs.lt {w : World} {g : Nat} {m : List UInt8} (h : HashIs w g m) : g < w.heap.size := by
  obtain ⟨_, _, _, h⟩ := h
  exact h.lt

theorem HashIs.below {w w' : World} {g B : Nat} {m : List UInt8} (h : HashIs w g m) (k : Below B w w') (hg : g < B) : HashIs w' g m := by
  obtain ⟨x, h1, h2, h⟩ := h
  exact ⟨x, h1, h2, h.below k hg⟩

theorem HashIs.only {w w' : World} {g g' : Nat} {m : List UInt8} (h : HashIs w g m) (k : Only g' w w') (hg : g ≠ g') : HashIs w' g m := by
  obtain ⟨x, h1, h2, h⟩ := h
  exact ⟨x, h1, h2, h.grown k (fun e => hg (by injection e))⟩

theorem Laid.only {w w' : World} {g : Nat} (h : Laid w) (k : Only g w w') (hg : 3 ≤ g) : Laid w' := h.below (k.below h.size hg) (Nat.le_refl _)

/-- The bytes that wait, behind ch more. -/
def wait2 (wait : List UInt8) (a : Nat) (ch : List UInt8) : List UInt8 := wait.take a ++ (ch ++ wait.drop (a + ch.length))

theorem wait2_length (wait : List UInt8) (a : Nat) (ch : List UInt8) (h : a + ch.length ≤ wait.length) : (wait2 wait a ch).length = wait.length := by
  simp [wait2]; omega

theorem splice_Hc (s : List UInt32) (wait : List UInt8) (n a : Nat) (ch : List UInt8) (hs : s.length = 8) (h : a + ch.length ≤ wait.length) :
    splice (Hc s wait n) (8 + a) (Lib.byteCells ch) = Hc s (wait2 wait a ch) n := by
  have e1 : (Hc s wait n).take (8 + a) = wc s ++ Lib.byteCells (wait.take a) := by
    rw [Hc, List.take_append, List.take_of_length_le (by rw [wc_length, hs]; omega), wc_length, hs, Nat.add_sub_cancel_left, List.take_append_of_le_length (by rw [byteCells_length]; omega)]
    simp [Lib.byteCells]
  have e2 : (Hc s wait n).drop (8 + a + (Lib.byteCells ch).length) = Lib.byteCells (wait.drop (a + ch.length)) ++ [.int .u64 (n : Int)] := by
    rw [Hc, List.drop_append, List.drop_eq_nil_of_le (by rw [wc_length, hs]; omega), wc_length, hs, byteCells_length, show 8 + a + ch.length - 8 = a + ch.length by omega, List.nil_append,
      List.drop_append_of_le_length (by rw [byteCells_length]; omega)]
    simp [Lib.byteCells]
  rw [splice, e1, e2, Hc, wait2]
  simp [Lib.byteCells]

theorem Hc_setCount (s : List UInt32) (wait : List UInt8) (n n' : Nat) (hs : s.length = 8) (hw : wait.length = 64) : (Hc s wait n).set 72 (.int .u64 (n' : Int)) = Hc s wait n' := by
  rw [Hc, List.set_append_right _ _ (by rw [wc_length, hs]; omega), wc_length, hs, List.set_append_right _ _ (by rw [byteCells_length, hw]; omega), byteCells_length, hw, Hc]
  rfl

theorem step_part (m ch wait : List UInt8) (hw : wait.length = 64) (ht : wait.take (m.length % 64) = m.drop (m.length / 64 * 64)) (hc : m.length % 64 + ch.length < 64) :
    (wait2 wait (m.length % 64) ch).take ((m ++ ch).length % 64) = (m ++ ch).drop ((m ++ ch).length / 64 * 64) ∧ M.blocks M.H0 (m ++ ch) ((m ++ ch).length / 64) = M.blocks M.H0 m (m.length / 64) := by
  have e1 : (m ++ ch).length % 64 = m.length % 64 + ch.length := by rw [List.length_append]; omega
  have e2 : (m ++ ch).length / 64 = m.length / 64 := by rw [List.length_append]; omega
  have e3 : (wait.take (m.length % 64)).length = m.length % 64 := by rw [List.length_take]; omega
  refine ⟨?_, by rw [e2]; exact M.blocks_append _ _ _ _ (by omega)⟩
  rw [e1, e2, wait2, ← List.append_assoc, List.take_append_of_le_length (by rw [List.length_append, e3]; exact Nat.le_refl _), List.take_of_length_le (by rw [List.length_append, e3]; exact Nat.le_refl _), ht, List.drop_append_of_le_length (by omega)]

theorem step_full (m ch wait : List UInt8) (hw : wait.length = 64) (ht : wait.take (m.length % 64) = m.drop (m.length / 64 * 64)) (hc : m.length % 64 + ch.length = 64) :
    (wait2 wait (m.length % 64) ch).take ((m ++ ch).length % 64) = (m ++ ch).drop ((m ++ ch).length / 64 * 64) ∧
      M.blocks M.H0 (m ++ ch) ((m ++ ch).length / 64) = M.work (M.blocks M.H0 m (m.length / 64)) (wait2 wait (m.length % 64) ch) := by
  have e1 : (m ++ ch).length % 64 = 0 := by rw [List.length_append]; omega
  have e2 : (m ++ ch).length / 64 = m.length / 64 + 1 := by rw [List.length_append]; omega
  have e4 : (m ++ ch).length = (m.length / 64 + 1) * 64 := by rw [List.length_append]; omega
  refine ⟨by rw [e1, e2, List.take_zero, List.drop_eq_nil_of_le (by rw [e4]; exact Nat.le_refl _)], ?_⟩
  rw [e2, M.blocks, M.blocks_append _ _ _ _ (by omega)]
  have e5 : wait2 wait (m.length % 64) ch = (m ++ ch).drop (64 * (m.length / 64)) := by
    have e6 : wait.drop (m.length % 64 + ch.length) = [] := List.drop_eq_nil_of_le (by omega)
    rw [wait2, ht, e6, List.append_nil, Nat.mul_comm 64, List.drop_append_of_le_length (by omega)]
  rw [e5, List.take_of_length_le (by rw [List.length_drop, e4]; omega)]

theorem HashIs.of_full {w : World} {g : Nat} (m ch wait : List UInt8) (hw : wait.length = 64) (ht : wait.take (m.length % 64) = m.drop (m.length / 64 * 64)) (hc : m.length % 64 + ch.length = 64)
    (hb : Blk w g 156 (Hc (M.work (M.blocks M.H0 m (m.length / 64)) (wait2 wait (m.length % 64) ch)).l (wait2 wait (m.length % 64) ch) (m.length + ch.length))) : HashIs w g (m ++ ch) := by
  obtain ⟨h1, h2⟩ := step_full m ch wait hw ht hc
  refine ⟨wait2 wait (m.length % 64) ch, by rw [wait2_length _ _ _ (by omega), hw], h1, ?_⟩
  rw [h2, List.length_append]
  exact hb

theorem HashIs.of_part {w : World} {g : Nat} (m ch wait : List UInt8) (hw : wait.length = 64) (ht : wait.take (m.length % 64) = m.drop (m.length / 64 * 64)) (hc : m.length % 64 + ch.length < 64)
    (hb : Blk w g 156 (Hc (M.blocks M.H0 m (m.length / 64)).l (wait2 wait (m.length % 64) ch) (m.length + ch.length))) : HashIs w g (m ++ ch) := by
  obtain ⟨h1, h2⟩ := step_part m ch wait hw ht hc
  refine ⟨wait2 wait (m.length % 64) ch, by rw [wait2_length _ _ _ (by omega), hw], h1, ?_⟩
  rw [h2, List.length_append]
  exact hb

/-- What is left of a slice, behind its first c bytes. -/
theorem isB_rest {wr w4 : World} {b off cap N c k g : Nat} {bs D : List UInt8} (hcell : ∀ i, i < D.length → wr.cell? ⟨b, off + i, none⟩ = some (.int .u8 ((D.getD i 0).toNat : Int)))
    (hD : D = bs.drop k) (hN : N = D.length) (hc : c ≤ N) (hl : N ≤ cap) (hm : cap ≤ maxLen) (o : Only g wr w4) (hbg : b ≠ g) : IsB w4 (.slice (some ⟨b, off + c, none⟩) (N - c) (cap - c)) (bs.drop (k + c)) := by
  have e : bs.drop (k + c) = D.drop c := by rw [hD, List.drop_drop]
  have el : (D.drop c).length = N - c := by rw [List.length_drop, hN]
  rw [e]
  refine ⟨_, cap - c, by rw [el], by rw [el]; omega, by omega, .inr ⟨b, off + c, rfl, fun i hi => ?_⟩⟩
  have hi' : c + i < D.length := by rw [el] at hi; omega
  rw [Nat.add_assoc, o.cell (hcell (c + i) hi') (fun e => hbg (by injection e))]
  simp [List.getD_eq_getElem?_getD]

theorem isB_end {w4 : World} {ao : Option Addr} {c N k : Nat} {bs D : List UInt8} (hD : D = bs.drop k) (hN : N = D.length) (hl : N ≤ c) : IsB w4 (.slice ao (N - c) 0) (bs.drop (k + c)) := by
  have e : bs.drop (k + c) = [] := by
    apply List.drop_eq_nil_of_le
    rw [hD, List.length_drop] at hN
    omega
  rw [e, show N - c = 0 by omega]
  exact ⟨ao, 0, rfl, Nat.le_refl _, Nat.zero_le _, .inl rfl⟩

theorem isB_if {wr w4 : World} {b off cap N c k g : Nat} {bs D : List UInt8} (hcell : ∀ i, i < D.length → wr.cell? ⟨b, off + i, none⟩ = some (.int .u8 ((D.getD i 0).toNat : Int)))
    (hD : D = bs.drop k) (hN : N = D.length) (hc : c ≤ N) (hl : N ≤ cap) (hm : cap ≤ maxLen) (o : Only g wr w4) (hbg : b ≠ g) :
    IsB w4 (.slice (if cap = c then some ⟨b, off, none⟩ else some ⟨b, off + c, none⟩) (N - c) (cap - c)) (bs.drop (k + c)) := by
  by_cases h : cap = c
  · rw [if_pos h, show cap - c = 0 by omega]
    exact isB_end hD hN (by omega)
  · rw [if_neg h]
    exact isB_rest hcell hD hN hc hl hm o hbg

theorem off_if {b off cap N c g : Nat} (hbg : b ≠ g) : Off (.slice (if cap = c then some ⟨b, off, none⟩ else some ⟨b, off + c, none⟩) N (cap - c)) g := by
  intro ad n' c' e _
  injection e with e1 e2 e3
  by_cases h : cap = c
  · rw [if_pos h] at e1
    injection e1 with e1
    rw [← e1]
    exact hbg
  · rw [if_neg h] at e1
    injection e1 with e1
    rw [← e1]
    exact hbg

end Go.Proofs.YtdojalhaklkegaaDoor
