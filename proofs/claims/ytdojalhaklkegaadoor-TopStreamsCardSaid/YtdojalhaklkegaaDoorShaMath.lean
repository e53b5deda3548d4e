/-
  PLAIN MATHEMATICS OF LAYER 2 (SHA-256): rounds, blocks, padding on lists of bytes and 32-bit words; nothing of the program. Conditions: none.
-/
import Derived.Test.YtdojalhaklkegaaDoorPtN
namespace Go.Proofs.YtdojalhaklkegaaDoor.M

def ror (x : UInt32) (n : Nat) : UInt32 := UInt32.ofNat (x.toNat / 2 ^ n ||| x.toNat * 2 ^ (32 - n) % 4294967296)

structure St where
  a : UInt32
  b : UInt32
  c : UInt32
  d : UInt32
  e : UInt32
  f : UInt32
  g : UInt32
  h : UInt32

def tK : List UInt32 := [1116352408, 1899447441, 3049323471, 3921009573, 961987163, 1508970993, 2453635748, 2870763221, 3624381080, 310598401, 607225278, 1426881987, 1925078388, 2162078206, 2614888103, 3248222580, 3835390401, 4022224774, 264347078, 604807628, 770255983, 1249150122, 1555081692, 1996064986, 2554220882, 2821834349, 2952996808, 3210313671, 3336571891, 3584528711, 113926993, 338241895, 666307205, 773529912, 1294757372, 1396182291, 1695183700, 1986661051, 2177026350, 2456956037, 2730485921, 2820302411, 3259730800, 3345764771, 3516065817, 3600352804, 4094571909, 275423344, 430227734, 506948616, 659060556, 883997877, 958139571, 1322822218, 1537002063, 1747873779, 1955562222, 2024104815, 2227730452, 2361852424, 2428436474, 2756734187, 3204031479, 3329325298]

def H0 : St := ⟨1779033703, 3144134277, 1013904242, 2773480762, 1359893119, 2600822924, 528734635, 1541459225⟩

def s0 (x : UInt32) : UInt32 := ror x 7 ^^^ ror x 18 ^^^ x >>> 3

def s1 (x : UInt32) : UInt32 := ror x 17 ^^^ ror x 19 ^^^ x >>> 10

def ws (blk : List UInt8) : Nat → List UInt32
  | 0 => []
  | k + 1 => ws blk k ++ [if k < 16 then UInt32.ofNat (gb (blk.drop (4 * k)) 4) else (ws blk k).getD (k - 16) 0 + s0 ((ws blk k).getD (k - 15) 0) + (ws blk k).getD (k - 7) 0 + s1 ((ws blk k).getD (k - 2) 0)]

def t1 (s : St) (k w : UInt32) : UInt32 := s.h + (ror s.e 6 ^^^ ror s.e 11 ^^^ ror s.e 25) + ((s.e &&& s.f) ^^^ (~~~ s.e &&& s.g)) + k + w

def t2 (s : St) : UInt32 := (ror s.a 2 ^^^ ror s.a 13 ^^^ ror s.a 22) + ((s.a &&& s.b) ^^^ (s.a &&& s.c) ^^^ (s.b &&& s.c))

def rnd (s : St) (k w : UInt32) : St := ⟨t1 s k w + t2 s, s.a, s.b, s.c, s.d + t1 s k w, s.e, s.f, s.g⟩

def rounds (s : St) (W : List UInt32) : Nat → St
  | 0 => s
  | n + 1 => rnd (rounds s W n) (tK.getD n 0) (W.getD n 0)

def add (s t : St) : St := ⟨s.a + t.a, s.b + t.b, s.c + t.c, s.d + t.d, s.e + t.e, s.f + t.f, s.g + t.g, s.h + t.h⟩

def work (s : St) (blk : List UInt8) : St := add s (rounds s (ws blk 64) 64)

def blocks (s : St) (p : List UInt8) : Nat → St
  | 0 => s
  | n + 1 => work (blocks s p n) ((p.drop (64 * n)).take 64)

def pad (n : Nat) : List UInt8 := 128 :: List.replicate ((119 - n % 64) % 64) 0 ++ (le (8 * n % 18446744073709551616) 8).reverse

def St.l (s : St) : List UInt32 := [s.a, s.b, s.c, s.d, s.e, s.f, s.g, s.h]

def out (s : St) : List UInt8 := s.l.flatMap fun v => (le v.toNat 4).reverse

def sha (b : List UInt8) : List UInt8 := out (blocks H0 (b ++ pad b.length) ((b ++ pad b.length).length / 64))

theorem sha_abc : (sha [97, 98, 99]).take 4 = [186, 120, 22, 191] := by decide +kernel

theorem sha_none : (sha []).take 4 = [227, 176, 196, 66] := by decide +kernel

theorem out_length (s : St) : (out s).length = 32 := by simp [out, St.l, le_length]

theorem sha_length (b : List UInt8) : (sha b).length = 32 := out_length _

theorem l_length (s : St) : s.l.length = 8 := rfl

theorem ws_length (blk : List UInt8) (k : Nat) : (ws blk k).length = k := by
  induction k with
  | zero => rfl
  | succ k ih => simp [ws, ih]

theorem pad_length (n : Nat) : (pad n).length = 9 + (119 - n % 64) % 64 := by
  simp [pad, le_length]
  omega

theorem pad_whole (n : Nat) : (n + (pad n).length) % 64 = 0 := by
  rw [pad_length]
  omega

theorem take64 (p q : List UInt8) (n : Nat) (h : 64 * (n + 1) ≤ p.length) : ((p ++ q).drop (64 * n)).take 64 = (p.drop (64 * n)).take 64 := by
  rw [List.drop_append_of_le_length (by omega), List.take_append_of_le_length (by rw [List.length_drop]; omega)]

theorem blocks_append (s : St) (p q : List UInt8) : ∀ n, 64 * n ≤ p.length → blocks s (p ++ q) n = blocks s p n := by
  intro n
  induction n with
  | zero => intro _; rfl
  | succ n ih =>
    intro h
    rw [blocks, blocks, ih (by omega), take64 p q n h]

end Go.Proofs.YtdojalhaklkegaaDoor.M
