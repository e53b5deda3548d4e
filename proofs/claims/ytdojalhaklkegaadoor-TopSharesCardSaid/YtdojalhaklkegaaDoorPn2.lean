/-
  PLAIN MATHEMATICS OF LAYER 2 (SHA-256): rounds, blocks, padding on lists of bytes and 32-bit words; nothing of the program. Conditions: none.
  CONTRACTS OF math/bits.RotateLeft32, sha.ror AND orlopref02.ror: a number of 32 bits turned right. Conditions: the places are 1 to 31.
  MEMORY FOR LAYER 2: a block known whole, words of 32 bits as cells, 'only block g has turned', a digest on its way. Conditions: none.
-/
import Derived.Test.YtdojalhaklkegaaDoorPn1
import Derived.WalkSpells
import Derived.Deep.MidRow
import Derived.Laws.CopyOwn
import Derived.Deep.QuietTactic
import Derived.BigQuiet
import Derived.RegionTactic
import Derived.StillTailTactics
import Derived.Deep.Cut

namespace Go.Proofs.YtdojalhaklkegaaDoor.M

def ror (x : UInt32) (n : Nat) : UInt32 := UInt32.ofNat (x.toNat / 2 ^ n ||| x.toNat * 2 ^ (32 - n) % 4294967296)

structure St where
  a : UInt32
  b : UInt32
  c : UInt32
  d : UInt32
  e : UInt32
  f : UInt32
  g : UInt32
  h : UInt32

def tK : List UInt32 := [1116352408, 1899447441, 3049323471, 3921009573, 961987163, 1508970993, 2453635748, 2870763221, 3624381080, 310598401, 607225278, 1426881987, 1925078388, 2162078206, 2614888103, 3248222580, 3835390401, 4022224774, 264347078, 604807628, 770255983, 1249150122, 1555081692, 1996064986, 2554220882, 2821834349, 2952996808, 3210313671, 3336571891, 3584528711, 113926993, 338241895, 666307205, 773529912, 1294757372, 1396182291, 1695183700, 1986661051, 2177026350, 2456956037, 2730485921, 2820302411, 3259730800, 3345764771, 3516065817, 3600352804, 4094571909, 275423344, 430227734, 506948616, 659060556, 883997877, 958139571, 1322822218, 1537002063, 1747873779, 1955562222, 2024104815, 2227730452, 2361852424, 2428436474, 2756734187, 3204031479, 3329325298]

def H0 : St := ⟨1779033703, 3144134277, 1013904242, 2773480762, 1359893119, 2600822924, 528734635, 1541459225⟩

def s0 (x : UInt32) : UInt32 := ror x 7 ^^^ ror x 18 ^^^ x >>> 3

def s1 (x : UInt32) : UInt32 := ror x 17 ^^^ ror x 19 ^^^ x >>> 10

def ws (blk : List UInt8) : Nat → List UInt32
  | 0 => []
  | k + 1 => ws blk k ++ [if k < 16 then UInt32.ofNat (gb (blk.drop (4 * k)) 4) else (ws blk k).getD (k - 16) 0 + s0 ((ws blk k).getD (k - 15) 0) + (ws blk k).getD (k - 7) 0 + s1 ((ws blk k).getD (k - 2) 0)]

def t1 (s : St) (k w : UInt32) : UInt32 := s.h + (ror s.e 6 ^^^ ror s.e 11 ^^^ ror s.e 25) + ((s.e &&& s.f) ^^^ (~~~ s.e &&& s.g)) + k + w

def t2 (s : St) : UInt32 := (ror s.a 2 ^^^ ror s.a 13 ^^^ ror s.a 22) + ((s.a &&& s.b) ^^^ (s.a &&& s.c) ^^^ (s.b &&& s.c))

def rnd (s : St) (k w : UInt32) : St := ⟨t1 s k w + t2 s, s.a, s.b, s.c, s.d + t1 s k w, s.e, s.f, s.g⟩

def rounds (s : St) (W : List UInt32) : Nat → St
  | 0 => s
  | n + 1 => rnd (rounds s W n) (tK.getD n 0) (W.getD n 0)

def add (s t : St) : St := ⟨s.a + t.a, s.b + t.b, s.c + t.c, s.d + t.d, s.e + t.e, s.f + t.f, s.g + t.g, s.h + t.h⟩

def work (s : St) (blk : List UInt8) : St := add s (rounds s (ws blk 64) 64)

def blocks (s : St) (p : List UInt8) : Nat → St
  | 0 => s
  | n + 1 => work (blocks s p n) ((p.drop (64 * n)).take 64)

def pad (n : Nat) : List UInt8 := 128 :: List.replicate ((119 - n % 64) % 64) 0 ++ (le (8 * n % 18446744073709551616) 8).reverse

def St.l (s : St) : List UInt32 := [s.a, s.b, s.c, s.d, s.e, s.f, s.g, s.h]

def out (s : St) : List UInt8 := s.l.flatMap fun v => (le v.toNat 4).reverse

def sha (b : List UInt8) : List UInt8 := out (blocks H0 (b ++ pad b.length) ((b ++ pad b.length).length / 64))

theorem out_length (s : St) : (out s).length = 32 := by simp [out, St.l, le_length]

theorem sha_length (b : List UInt8) : (sha b).length = 32 := out_length _

theorem l_length (s : St) : s.l.length = 8 := rfl

theorem ws_length (blk : List UInt8) (k : Nat) : (ws blk k).length = k := by
  induction k with
  | zero => rfl
  | succ k ih => simp [ws, ih]

theorem pad_length (n : Nat) : (pad n).length = 9 + (119 - n % 64) % 64 := by
  simp [pad, le_length]
  omega

theorem take64 (p q : List UInt8) (n : Nat) (h : 64 * (n + 1) ≤ p.length) : ((p ++ q).drop (64 * n)).take 64 = (p.drop (64 * n)).take 64 := by
  rw [List.drop_append_of_le_length (by omega), List.take_append_of_le_length (by rw [List.length_drop]; omega)]

theorem blocks_append (s : St) (p q : List UInt8) : ∀ n, 64 * n ≤ p.length → blocks s (p ++ q) n = blocks s p n := by
  intro n
  induction n with
  | zero => intro _; rfl
  | succ n ih =>
    intro h
    rw [blocks, blocks, ih (by omega), take64 p q n h]

end Go.Proofs.YtdojalhaklkegaaDoor.M

namespace Go.Proofs.YtdojalhaklkegaaDoor
open Go.RowKit
set_option linter.unusedVariables false

theorem ret_w32 {a b : Int} (h : a = b) : Ending.returned (.int .u32 a) = .returned (.int .u32 b) := by rw [h]

theorem w_lt (x : UInt32) : x.toNat < 4294967296 := x.toNat_lt

theorem w_xor (a b : UInt32) : bits BinOp.xor .u32 (a.toNat : Int) (b.toNat : Int) = ((a ^^^ b).toNat : Int) := by
  rw [u32_xor_nat _ _ (w_lt a) (w_lt b), UInt32.toNat_xor]

theorem w_and (a b : UInt32) : bits BinOp.and .u32 (a.toNat : Int) (b.toNat : Int) = ((a &&& b).toNat : Int) := by
  rw [u32_and_nat _ _ (w_lt a) (w_lt b), UInt32.toNat_and]

theorem w_add (a b : UInt32) : ((a.toNat : Int) + (b.toNat : Int)) % 4294967296 = ((a + b).toNat : Int) := by
  rw [UInt32.toNat_add]
  omega

theorem w_wrap (a b : UInt32) : IntKind.u32.wrap ((a.toNat : Int) + (b.toNat : Int)) = ((a + b).toNat : Int) := w_add a b

theorem w_not (a : UInt32) : bits BinOp.xor .u32 IntKind.u32.max (a.toNat : Int) = ((~~~ a).toNat : Int) := by
  have h : (4294967295 ^^^ a.toNat) = (~~~ a).toNat := by
    have e := congrArg BitVec.toNat (BitVec.allOnes_xor (x := a.toBitVec))
    rw [BitVec.toNat_xor] at e
    exact e
  rw [show IntKind.u32.max = ((4294967295 : Nat) : Int) from rfl, u32_xor_nat _ _ (by decide) (w_lt a), h]

theorem ror_toNat (x : UInt32) (n : Nat) : (M.ror x n).toNat = (x.toNat / 2 ^ n ||| x.toNat * 2 ^ (32 - n) % 4294967296) := by
  have h := w_lt x
  have e1 : x.toNat / 2 ^ n < 2 ^ 32 := Nat.lt_of_le_of_lt (Nat.div_le_self _ _) h
  have e2 : x.toNat * 2 ^ (32 - n) % 4294967296 < 2 ^ 32 := Nat.mod_lt _ (by decide)
  have e3 : (x.toNat / 2 ^ n ||| x.toNat * 2 ^ (32 - n) % 4294967296) < 4294967296 := Nat.or_lt_two_pow e1 e2
  rw [M.ror, UInt32.toNat_ofNat', Nat.mod_eq_of_lt e3]

theorem ror_spelled2 (x : UInt32) (m : Nat) (h1 : 1 ≤ m) (h2 : m ≤ 31) :
    bits BinOp.or IntKind.u32 ((x.toNat : Int) * 2 ^ m % 4294967296) ((x.toNat : Int) / 2 ^ (32 - m)) = ((M.ror x (32 - m)).toNat : Int) := by
  have h := w_lt x
  have e1 : x.toNat / 2 ^ (32 - m) < 4294967296 := Nat.lt_of_le_of_lt (Nat.div_le_self _ _) h
  have e2 : x.toNat * 2 ^ m % 4294967296 < 4294967296 := Nat.mod_lt _ (by decide)
  have c1 : (x.toNat : Int) / 2 ^ (32 - m) = ((x.toNat / 2 ^ (32 - m) : Nat) : Int) := by simp
  have c2 : (x.toNat : Int) * 2 ^ m % 4294967296 = ((x.toNat * 2 ^ m % 4294967296 : Nat) : Int) := by simp
  rw [c1, c2, u32_or_nat _ _ e2 e1, ror_toNat x (32 - m), Nat.or_comm, show 32 - (32 - m) = m by omega]

theorem neg_and (m : Nat) (h1 : 1 ≤ m) (h2 : m ≤ 31) : bits BinOp.and IntKind.u64 (IntKind.u64.wrap (-((32 - m : Nat) : Int))) 31 = (m : Int) := by
  have e : IntKind.u64.wrap (-((32 - m : Nat) : Int)) = ((18446744073709551584 + m : Nat) : Int) := by
    rw [show IntKind.u64.wrap (-((32 - m : Nat) : Int)) = (-((32 - m : Nat) : Int)) % 18446744073709551616 from rfl]
    omega
  rw [e, show (31 : Int) = ((31 : Nat) : Int) from rfl, u64_and_nat _ _ (by omega) (by omega), show (31 : Nat) = 2 ^ 5 - 1 from rfl, Nat.and_two_pow_sub_one_eq_mod]
  congr 1
  omega

theorem left_any (x : UInt32) (m : Nat) (w : World) (h1 : 1 ≤ m) (h2 : m ≤ 31) :
    Calls Tryd.prog 105 #[.int .u32 x.toNat, .int .i64 (-((32 - m : Nat) : Int))] w fun e w' => e = .returned (.int .u32 (M.ror x (32 - m)).toNat) ∧ w' = w := by
  have hk := neg_and m h1 h2
  obtain ⟨z, hz⟩ : ∃ z : Int, z = -((32 - m : Nat) : Int) := ⟨_, rfl⟩
  rw [← hz] at hk ⊢
  clear hz
  go_enter Tryd.func105, Tryd.ntmps105
  go_wp2
  go_ret
  exact ⟨ret_w32 (ror_spelled2 x m h1 h2), rfl⟩

theorem sror_any (x : UInt32) (n : Nat) (w : World) (h1 : 1 ≤ n) (h2 : n ≤ 31) :
    Calls Tryd.prog 115 #[.int .u32 x.toNat, .int .i64 n] w fun e w' => e = .returned (.int .u32 (M.ror x n).toNat) ∧ w' = w := by
  obtain ⟨m, rfl⟩ : ∃ m, n = 32 - m := ⟨32 - n, by omega⟩
  have h3 : 1 ≤ m := by omega
  have h4 : m ≤ 31 := by omega
  have K := fun w => left_any x m w h3 h4
  obtain ⟨p, hp⟩ : ∃ p, p = 32 - m := ⟨_, rfl⟩
  rw [← hp] at K h1 h2 ⊢
  clear hp h3 h4
  go_enter Tryd.func115, Tryd.ntmps115
  go_wp2_with (go_at_call 105; go_must (refine (K _).mono ?_); rintro e w1 ⟨rfl, rfl⟩)
  go_ret
  exact ⟨rfl, rfl⟩

/-- At a literal. -/
theorem sror_lit (x : UInt32) (z : Int) (w : World) (h1 : 1 ≤ z) (h2 : z ≤ 31) :
    Calls Tryd.prog 115 #[.int .u32 x.toNat, .int .i64 z] w fun e w' => e = .returned (.int .u32 (M.ror x z.toNat).toNat) ∧ w' = w := by
  have h := sror_any x z.toNat w (by omega) (by omega)
  rw [show ((z.toNat : Nat) : Int) = z by omega] at h
  exact h

end Go.Proofs.YtdojalhaklkegaaDoor

namespace Go.Proofs.YtdojalhaklkegaaDoor
open Go.RowKit
set_option linter.unusedVariables false

/-- A block is just the cells cs. -/
def Blk (w : World) (g : Nat) (t : TypeId) (cs : List Value) : Prop := w.heap[g]? = some (.cells cs.toArray t (0, 0))

theorem Blk.lt {w : World} {g : Nat} {t : TypeId} {cs : List Value} (h : Blk w g t cs) : g < w.heap.size := by
  rcases Nat.lt_or_ge g w.heap.size with hlt | hge
  · exact hlt
  · unfold Blk at h; rw [Array.getElem?_eq_none hge] at h; cases h

theorem Blk.cell {w : World} {g : Nat} {t : TypeId} {cs : List Value} (h : Blk w g t cs) (i : Nat) : w.cell? ⟨g, i, none⟩ = cs[i]? := by
  rw [cell_of_row w g i cs.toArray t (0, 0) h]
  simp

theorem Blk.frozen {w : World} {g : Nat} {t : TypeId} {cs : List Value} (h : Blk w g t cs) (i : Nat) : w.frozen? ⟨g, i, none⟩ = false := frozen_of_row w g i _ t h

theorem Blk.new (w : World) (t : TypeId) (cs : Array Value) : Blk (w.alloc (.cells cs t)) w.heap.size t cs.toList := by
  have := heap_alloc_new w (.cells cs t)
  simpa [Blk] using this

theorem Blk.newAt (w : World) (t : TypeId) (cs : Array Value) (g : Nat) (xs : List Value) (hg : g = w.heap.size) (e : cs.toList = xs) : Blk (w.alloc (.cells cs t)) g t xs := by
  subst hg e
  exact Blk.new w t cs

theorem Blk.drew {w : World} {g : Nat} {t : TypeId} {cs : List Value} (h : Blk w g t cs) : Blk w.drew g t cs := h

theorem Blk.drewN {w : World} {g : Nat} {t : TypeId} {cs : List Value} (h : Blk w g t cs) (n : Nat) : Blk (w.drewN n) g t cs := h

theorem Blk.alloc {w : World} {g : Nat} {t : TypeId} {cs : List Value} (h : Blk w g t cs) (o : Obj) : Blk (w.alloc o) g t cs := (Below.heap_alloc w o g h.lt).trans h

theorem Blk.set_ {w : World} {g : Nat} {t : TypeId} {cs : List Value} (h : Blk w g t cs) (i : Nat) (u : Value) : Blk (w.setCell ⟨g, i, none⟩ u) g t (cs.set i u) := by
  have := heap_setCell_same w g i _ t u h
  simpa [Blk] using this

theorem Blk.far {w : World} {g : Nat} {t : TypeId} {cs : List Value} (h : Blk w g t cs) {p : Addr} (hp : g ≠ p.block) (u : Value) : Blk (w.setCell p u) g t cs := (Below.heap_setCell w p u g hp).trans h

theorem Blk.below {w w' : World} {g : Nat} {t : TypeId} {cs : List Value} {B : Nat} (h : Blk w g t cs) (hb : Below B w w') (hg : g < B) : Blk w' g t cs := (hb.block g hg).trans h

theorem Blk.grown {w w' : World} {g : Nat} {t : TypeId} {cs : List Value} {row : Option Nat} (h : Blk w g t cs) (hb : w.grownBy w' row) (hg : some g ≠ row) : Blk w' g t cs := (hb.block g h.lt hg).trans h

theorem Blk.eq_ {w : World} {g : Nat} {t : TypeId} {cs cs' : List Value} (h : Blk w g t cs) (e : cs = cs') : Blk w g t cs' := e ▸ h

theorem Blk.range {w : World} {g : Nat} {t : TypeId} {cs : List Value} (h : Blk w g t cs) (o : Nat) (xs ys : List Value) (e : cs.drop o = xs ++ ys) : w.rangeAt g o xs := by
  intro j v hv
  rw [h.cell, ← hv, ← List.getElem?_drop, e, List.getElem?_append_left (List.getElem?_eq_some_iff.1 hv).1]

/-- Only block g, and what is new, has turned. -/
abbrev Only (g : Nat) (a w : World) : Prop := a.grownBy w (some g)

theorem Only.below {g B : Nat} {a w : World} (h : Only g a w) (hB : B ≤ a.heap.size) (hg : B ≤ g) : Below B a w :=
  (Below.refl B a).grown h hB fun k hk => by cases hk; exact hg

theorem Only.drewN {g : Nat} {a w : World} (h : Only g a w) (n : Nat) : Only g a (w.drewN n) := ⟨h.os, h.tape, h.output, h.size, h.block⟩

theorem Only.drew {g : Nat} {a w : World} (h : Only g a w) : Only g a w.drew := ⟨h.os, h.tape, h.output, h.size, h.block⟩

theorem Only.alloc {g : Nat} {a w : World} (h : Only g a w) (o : Obj) : Only g a (w.alloc o) :=
  ⟨h.os, h.tape, h.output, Nat.le_trans h.size (by simp), fun i hi hne => (Below.heap_alloc w o i (Nat.lt_of_lt_of_le hi h.size)).trans (h.block i hi hne)⟩

theorem Only.setCell {g : Nat} {a w : World} (h : Only g a w) {p : Addr} (hp : p.block = g ∨ a.heap.size ≤ p.block) (u : Value) : Only g a (w.setCell p u) :=
  ⟨h.os, h.tape, h.output, by simpa [World.setCell] using h.size, fun i hi hne => (Below.heap_setCell w p u i (by
    rintro rfl
    rcases hp with hp | hp
    · exact hne (by rw [hp])
    · omega)).trans (h.block i hi hne)⟩

theorem Only.of_below {g : Nat} {a w : World} (h : Below a.heap.size a w) : Only g a w := ⟨h.os, h.tape, h.output, h.size, fun i hi _ => h.block i hi⟩

theorem Only.trans {g : Nat} {a b c : World} (h : Only g a b) (k : Only g b c) : Only g a c :=
  ⟨k.os.trans h.os, k.tape.trans h.tape, k.output.trans h.output, Nat.le_trans h.size k.size, fun i hi hne => (k.block i (Nat.lt_of_lt_of_le hi h.size) hne).trans (h.block i hi hne)⟩

theorem Only.refl (g : Nat) (a : World) : Only g a a := World.grownBy.refl _ _

theorem drewN_below {B : Nat} {a w : World} (h : Below B a w) (n : Nat) : Below B a (w.drewN n) := ⟨h.os, h.tape, h.output, h.size, h.block⟩

/-- The slice's bytes, if it has any, do not lie in block g. -/
def Off (v : Value) (g : Nat) : Prop := ∀ ad n c, v = .slice (some ad) n c → 0 < n → ad.block ≠ g

/-- What lies in memory does not lie in a block that is not there yet. -/
theorem IsB.off {w : World} {v : Value} {bs : List UInt8} {g : Nat} (h : IsB w v bs) (hg : w.heap.size ≤ g) : Off v g := by
  obtain ⟨ao, cap, rfl, h1, h2, h3⟩ := h
  intro ad n c e hn
  injection e with e1 e2 e3
  rcases h3 with h | ⟨b, off, h4, h⟩
  · rw [← e2, h] at hn
    simp at hn
  · rw [h4] at e1
    injection e1 with e1
    have := World.block_lt_of_cell? w _ (h 0 (by omega))
    rw [← e1]
    show b ≠ g
    have h5 : b < w.heap.size := this
    omega

theorem IsB.only {w w' : World} {v : Value} {bs : List UInt8} {g : Nat} (h : IsB w v bs) (k : Only g w w') (ho : Off v g) : IsB w' v bs := by
  obtain ⟨ao, cap, rfl, h1, h2, h3⟩ := h
  refine ⟨ao, cap, rfl, h1, h2, ?_⟩
  rcases h3 with h | ⟨b, off, rfl, h⟩
  · exact .inl h
  · refine .inr ⟨b, off, rfl, fun i hi => ?_⟩
    have hne : b ≠ g := ho _ _ _ rfl (by omega)
    exact k.cell (h i hi) (fun e => hne (by injection e))

/-- A word of 32 bits as a cell. -/
def c32 (x : UInt32) : Value := .int .u32 (x.toNat : Int)

def wc (l : List UInt32) : List Value := l.map c32

theorem wc_length (l : List UInt32) : (wc l).length = l.length := by simp [wc]

theorem wc_oneCell (l : List UInt32) : ∀ v ∈ (wc l).toArray.toList, v.oneCell' = true := by
  intro v hv
  simp [wc] at hv
  obtain ⟨_, _, rfl⟩ := hv
  rfl

theorem wc_append (a b : List UInt32) : wc (a ++ b) = wc a ++ wc b := by simp [wc]

theorem wc_get (l : List UInt32) (i : Nat) (h : i < l.length) : (wc l)[i]? = some (.int .u32 ((l.getD i 0).toNat : Int)) := by
  simp [wc, c32, h]

/-- The cells of a digest on its way. -/
def Hc (s : List UInt32) (wait : List UInt8) (n : Nat) : List Value := wc s ++ (Lib.byteCells wait ++ [.int .u64 (n : Int)])

theorem Hc_length (s : List UInt32) (wait : List UInt8) (n : Nat) : (Hc s wait n).length = s.length + wait.length + 1 := by
  simp [Hc, wc_length, byteCells_length]; omega

theorem Hc_state (s : List UInt32) (wait : List UInt8) (n i : Nat) (h : i < s.length) : (Hc s wait n)[i]? = some (.int .u32 ((s.getD i 0).toNat : Int)) := by
  rw [Hc, List.getElem?_append_left (by rw [wc_length]; exact h), wc_get s i h]

theorem Hc_wait (s : List UInt32) (wait : List UInt8) (n i : Nat) (hs : s.length = 8) (h : i < wait.length) : (Hc s wait n)[8 + i]? = some (.int .u8 ((wait.getD i 0).toNat : Int)) := by
  rw [Hc, List.getElem?_append_right (by rw [wc_length, hs]; omega), wc_length, hs, Nat.add_sub_cancel_left, List.getElem?_append_left (by rw [byteCells_length]; exact h), byteCells_getElem? wait i h]

theorem Hc_count (s : List UInt32) (wait : List UInt8) (n : Nat) (hs : s.length = 8) (hw : wait.length = 64) : (Hc s wait n)[72]? = some (.int .u64 (n : Int)) := by
  rw [Hc, List.getElem?_append_right (by rw [wc_length, hs]; omega), wc_length, hs, List.getElem?_append_right (by rw [byteCells_length, hw]; omega), byteCells_length, hw]
  rfl

/-- A whole array or struct into a block that is known. -/
theorem wpList_store_blk {P : Program} {ops : Array Oper} {rest : List Oper} {o : Oper} {a : Act} {w : World} {Q : Exit → Act → World → Prop} (hgd : o.guard = none) (ty : TypeId) (x y : Operand) (ho : o.op = .store ty x y)
    (g : Nat) (cells : Array Value) (hx : a.eval x = .pointer (some ⟨g, 0, none⟩)) (hy : a.eval y = .agg cells) (t : TypeId) (cs : List Value) (hg : Blk w g t cs)
    (hi : (P.info? ty).map (·.size) = some cells.size) (hl : cs.length = cells.size) (h1 : ∀ v ∈ cells.toList, v.oneCell' = true)
    (h : ∀ w', Blk w' g t cells.toList → Only g w w' → wpList P ops Q rest (a.put o.dst undef) w') : wpList P ops Q (o :: rest) a w := by
  refine wpList_plain hgd fun _ hK => ?_
  unfold Oper.wp execOp
  have h1' : cells.all (·.oneCell') = true := Array.all_eq_true_iff_forall_mem.2 fun v hv => h1 v (by simpa using hv)
  simp only [ho, hx, hy, Instr.storeAt, Instr.sureAddr, Sem.run_bind, Sem.run_pure, Result.andThen_ok, run_storeVar_row w g t ty cs.toArray cells hg hi (by simpa using hl) h1']
  refine hK _ _ (h _ ?_ ⟨rfl, rfl, rfl, by simp, fun k _ hne => ?_⟩)
  · have := setRow_heap w g cs.toArray cells t (0, 0) hg
    simpa [Blk] using this
  · exact setRow_other w g k cells (fun e => hne (by rw [e]))

/-- 'copy' into a block that is known, from cells that are known. -/
theorem wpList_copy_blk {P : Program} {w : World} {ops : Array Oper} {rest : List Oper} {o : Oper} {a : Act} {Q : Exit → Act → World → Prop} (hgd : o.guard = none) (d s : Operand) (dT sT : TypeId)
    (ho : o.op = .call { callee := .builtin .copy, args := #[d, s], argTypes := #[dT, sT] }) (elem : TypeId) (hu : P.underlying dT = some (.slice elem)) (hsz : (P.info? elem).map (·.size) = some 1)
    (dp sp : Option Addr) (dLen dCap sLen sCap : Nat) (hd : a.eval d = .slice dp dLen dCap) (hs : a.eval s = .slice sp sLen sCap)
    (g off : Nat) (cur : List Value) (t : TypeId) (hg : Blk w g t cur) (cs : List Value) (hn : cs.length = Nat.min sLen dLen)
    (hpos : 0 < cs.length → dp = some ⟨g, off, none⟩ ∧ ∃ ad, sp = some ad ∧ ∀ j v, cs[j]? = some v → w.cell? (ad.add j) = some v)
    (hfit : off + cs.length ≤ cur.length) (h1 : ∀ v ∈ cs, v.oneCell' = true)
    (h : ∀ w', Blk w' g t (splice cur off cs) → Only g w w' → wpList P ops Q rest (a.put o.dst (.int .i64 (cs.length : Int))) w') :
    wpList P ops Q (o :: rest) a w := by
  by_cases h0 : cs.length = 0
  · obtain rfl : cs = [] := List.eq_nil_of_length_eq_zero h0
    refine wpList_copy_nothing hgd d s dT sT ho elem hu hsz dp sp dLen dCap sLen sCap hd hs (by simpa using hn.symm) ?_
    exact h w (hg.eq_ (by simp [splice])) (Only.refl g w)
  · obtain ⟨rfl, ad, rfl, hsrc⟩ := hpos (by omega)
    refine wpList_copy_own hgd d s dT sT ho elem hu hsz g off dLen dCap ad sLen sCap hd hs cur.toArray t hg cs hn hsrc (by simpa using hfit) h1 ?_
    exact h _ (show _ = _ by simpa [splice] using setRow_heap w g _ _ t _ hg) ⟨rfl, rfl, rfl, by simp, fun k _ hne => setRow_other w g k _ (fun e => hne (by rw [e]))⟩

/-- A region that draws, of reads and calls that leave the world alone, ahead of a forced tail. -/
theorem wp_region_still {P : Program} {id : Nat} {Q : Exit → Act → World → Prop} {a : Act} {w : World} {l : List Oper} (n : Nat) (hm : P.follows .mixedOrders = true) (hB : Region.lexTailB .any l.toArray n = true)
    (h : wpStill P l.toArray w.drew (fun a' => wpList P l.toArray Q (l.drop n) a' w.drew) (l.take n) a) : (Code.region id l.toArray true).wp P Q a w :=
  wp_region_still_tail n hm hB h

/-- 'h.wait[at:]'. -/
theorem slice_wait (g at_ : Nat) (z : Int) (hz : z = at_) (h : at_ < 64) (w : World) :
    (Instr.sliceAt 101 (.pointer (some ⟨g, 8, none⟩)) (some (.int .i64 z)) none none).run Tryd.prog w = .ok (.slice (some ⟨g, 8 + at_, none⟩) (64 - at_) (64 - at_)) w := by
  subst hz
  have hal : Tryd.prog.arrayLen 101 = 64 := by simp [Program.arrayLen, Tryd.underlying101]
  have hel : Tryd.prog.elem 101 = 5 := by simp [Program.elem, Tryd.underlying101]
  rw [run_sliceAt_array_l w 101 ⟨g, 8, none⟩ (by rw [hal, hel]; exact Tryd.underlying101) .i64 (at_ : Int) (by omega) (by rw [hal]; omega), hel, Tryd.sizeOf5]
  simp only [Result.andThen_ok, slicedAt, hal, Int.toNat_natCast]
  rw [if_neg (by omega), Nat.mul_one, Addr.add_lit]

end Go.Proofs.YtdojalhaklkegaaDoor
