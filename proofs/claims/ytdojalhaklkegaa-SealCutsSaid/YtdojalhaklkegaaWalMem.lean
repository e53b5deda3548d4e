/-
  ROWS OF ROWS, LISTS OF CHANGES, AND THE INPUTS OF LAYER 10 AS THEY LIE; how they last beside a disk (St: a disk in memory of its own, and what its calls leave alone). Conditions: none.
-/
import Derived.Test.YtdojalhaklkegaaPkC
import Derived.Test.YtdojalhaklkegaaPkD
import Derived.Test.YtdojalhaklkegaaPkB
namespace Go.Proofs.Ytdojalhaklkegaa
open Go.RowKit
set_option linter.unusedVariables false

namespace M
/-- Changes: of each its block, and its bytes. -/
abbrev CL := List (Int × List UInt8)

/-- May changes be committed, of n blocks? -/
def May (n : Nat) (l : CL) : Prop := l.length ≤ 40 ∧ ∀ c ∈ l, 0 ≤ c.1 ∧ c.1 < n ∧ c.2.length = 256
instance (n : Nat) (l : CL) : Decidable (May n l) := by unfold May; infer_instance

/-- Blocks with changes done. -/
def done (L : List (List UInt8)) : CL → List (List UInt8)
  | [] => L
  | c :: r => done (L.set c.1.toNat c.2) r

theorem done_snoc (L : List (List UInt8)) (l : CL) (c : Int × List UInt8) : done L (l ++ [c]) = (done L l).set c.1.toNat c.2 := by
  induction l generalizing L with
  | nil => rfl
  | cons y l ih => exact ih _

theorem done_len (l : CL) : ∀ L : List (List UInt8), (done L l).length = L.length := by
  induction l with
  | nil => intro L; rfl
  | cons y l ih => intro L; rw [done, ih, List.length_set]

theorem done_append (l k : CL) : ∀ L : List (List UInt8), done L (l ++ k) = done (done L l) k := by
  induction l with
  | nil => intro L; rfl
  | cons y l ih => intro L; exact ih _

/-- A transaction: the blocks of its changes, their bytes, the act in which the power goes, what is kept, and both again. -/
structure Tx where
  blocks : List Int
  bytes : List UInt8
  fall : Int
  keep : List Bool
  again : Int
  keep2 : List Bool
def Tx.none : Tx := ⟨[], [], 0, [], 0, []⟩
instance : Inhabited Tx := ⟨Tx.none⟩
def Tx.small (t : Tx) : Bool := decide (t.blocks.length ≤ 60) && (decide (t.keep.length ≤ 1000) && decide (t.keep2.length ≤ 1000))
/-- Are the first 12 small enough? -/
def smallTx (l : List Tx) : Bool := (l.take 12).all Tx.small

def Tx.x (t : Tx) (i : Nat) : UInt8 := if i < t.bytes.length then t.bytes.getD i 0 else UInt8.ofNat i
def Tx.one (t : Tx) (i : Nat) : Int × List UInt8 := (t.blocks.getD i 0, M.full [t.x i, UInt8.ofNat i, t.x i])
/-- The changes of a transaction. -/
def Tx.changes (t : Tx) : CL := (List.range t.blocks.length).map t.one
end M

/-- The value is a slice of the rows L, whose values are xs. -/
def IsLL (w : World) (v : Value) (L : List (List UInt8)) (xs : List Value) : Prop := ∃ ao cap, v = .slice ao L.length cap ∧ L.length ≤ cap ∧ cap ≤ maxLen ∧ xs.length = L.length ∧
  (∀ i, i < L.length → IsB w (xs.getD i undef) (L.getD i []) ∧ ∀ n c, xs.getD i undef = .slice none n c → c = 0) ∧
  (L = [] ∨ ∃ b off, ao = some ⟨b, off, none⟩ ∧ ∀ i, i < L.length → w.cell? ⟨b, off + i, none⟩ = some (xs.getD i undef))

/-- The value is a slice of the changes l, whose rows' values are xs. -/
def IsCL (w : World) (v : Value) (l : M.CL) (xs : List Value) : Prop := ∃ ao cap, v = .slice ao l.length cap ∧ l.length ≤ cap ∧ cap ≤ maxLen ∧ xs.length = l.length ∧
  (∀ i, i < l.length → IsB w (xs.getD i undef) (l.getD i (0, [])).2 ∧ (∀ n c, xs.getD i undef = .slice none n c → c = 0) ∧ -9223372036854775808 ≤ (l.getD i (0, [])).1 ∧ (l.getD i (0, [])).1 < 9223372036854775808) ∧
  (l = [] ∨ ∃ b off, ao = some ⟨b, off, none⟩ ∧ ∀ i, i < l.length → w.cell? ⟨b, off + i * 2, none⟩ = some (.int .i64 (l.getD i (0, [])).1) ∧ w.cell? ⟨b, off + i * 2 + 1, none⟩ = some (xs.getD i undef))

/-- The value is a slice of the ints ks. -/
def IsInts (w : World) (v : Value) (ks : List Int) : Prop := ∃ ao cap, v = .slice ao ks.length cap ∧ ks.length ≤ cap ∧ cap ≤ maxLen ∧ (∀ i, i < ks.length → -9223372036854775808 ≤ ks.getD i 0 ∧ ks.getD i 0 < 9223372036854775808) ∧
  (ks = [] ∨ ∃ b off, ao = some ⟨b, off, none⟩ ∧ ∀ i, i < ks.length → w.cell? ⟨b, off + i, none⟩ = some (.int .i64 (ks.getD i 0)))

/-- The cells are those of a transaction. -/
def TxCells (w : World) (cs : List Value) (t : M.Tx) : Prop := ∃ bo bc yo yc ko kc jo jc,
  cs = [.slice bo t.blocks.length bc, .slice yo t.bytes.length yc, .int .i64 t.fall, .slice ko t.keep.length kc, .int .i64 t.again, .slice jo t.keep2.length jc] ∧
  IsInts w (.slice bo t.blocks.length bc) t.blocks ∧ IsB w (.slice yo t.bytes.length yc) t.bytes ∧ IsZ w (.slice ko t.keep.length kc) t.keep ∧ IsZ w (.slice jo t.keep2.length jc) t.keep2 ∧
  (-9223372036854775808 ≤ t.fall ∧ t.fall < 9223372036854775808) ∧ (-9223372036854775808 ≤ t.again ∧ t.again < 9223372036854775808)

/-- The value is a slice of transactions. -/
def IsTxs (w : World) (v : Value) (l : List M.Tx) : Prop := ∃ ao cap, v = .slice ao l.length cap ∧ l.length ≤ cap ∧ cap ≤ maxLen ∧
  (l = [] ∨ ∃ b off, ao = some ⟨b, off, none⟩ ∧ ∀ i, i < l.length → ∃ cs, TxCells w cs (l.getD i M.Tx.none) ∧ ∀ j, j < 6 → w.cell? ⟨b, off + i * 6 + j, none⟩ = some (cs.getD j undef))

theorem IsLL.shape {w : World} {v : Value} {L : List (List UInt8)} {xs : List Value} (h : IsLL w v L xs) : ∃ ao cap, v = .slice ao L.length cap := by
  obtain ⟨ao, cap, rfl, _⟩ := h
  exact ⟨ao, cap, rfl⟩

theorem IsCL.shape {w : World} {v : Value} {l : M.CL} {xs : List Value} (h : IsCL w v l xs) : ∃ ao cap, v = .slice ao l.length cap := by
  obtain ⟨ao, cap, rfl, _⟩ := h
  exact ⟨ao, cap, rfl⟩

theorem IsInts.below {w w' : World} {v : Value} {ks : List Int} (h : IsInts w v ks) (k : Below w.heap.size w w') : IsInts w' v ks := by
  obtain ⟨ao, cap, rfl, h1, h2, h3, h4⟩ := h
  refine ⟨ao, cap, rfl, h1, h2, h3, ?_⟩
  rcases h4 with h | ⟨b, off, rfl, h⟩
  · exact .inl h
  · exact .inr ⟨b, off, rfl, fun i hi => (k.cell (p := ⟨b, off + i, none⟩) (World.block_lt_of_cell? w _ (h i hi))).trans (h i hi)⟩

theorem TxCells.below {w w' : World} {cs : List Value} {t : M.Tx} (h : TxCells w cs t) (k : Below w.heap.size w w') : TxCells w' cs t := by
  obtain ⟨bo, bc, yo, yc, ko, kc, jo, jc, e, h1, h2, h3, h4, h5, h6⟩ := h
  exact ⟨bo, bc, yo, yc, ko, kc, jo, jc, e, h1.below k, h2.below k, h3.below k, h4.below k, h5, h6⟩

theorem IsTxs.below {w w' : World} {v : Value} {l : List M.Tx} (h : IsTxs w v l) (k : Below w.heap.size w w') : IsTxs w' v l := by
  obtain ⟨ao, cap, rfl, h1, h2, h3⟩ := h
  refine ⟨ao, cap, rfl, h1, h2, ?_⟩
  rcases h3 with h | ⟨b, off, rfl, h⟩
  · exact .inl h
  · refine .inr ⟨b, off, rfl, fun i hi => ?_⟩
    obtain ⟨cs, c1, c2⟩ := h i hi
    exact ⟨cs, c1.below k, fun j hj => (k.cell (p := ⟨b, off + i * 6 + j, none⟩) (World.block_lt_of_cell? w _ (c2 j hj))).trans (c2 j hj)⟩

/-- What lasts, whatever the blocks T come to hold. -/
def Keeps (T : Nat → Prop) (w : World) (K : World → Prop) : Prop := ∀ w', Chg T w w' → K w'

/-- What was made between w and w' makes K' of K, and lasts as K does. -/
def Gains (w w' : World) (K K' : World → Prop) : Prop := ∀ F w'', Chg F w' w'' → (∀ k, F k → k < w.heap.size ∨ w'.heap.size ≤ k) → K w'' → K' w''

theorem Keeps.now {T : Nat → Prop} {w : World} {K : World → Prop} (h : Keeps T w K) : K w := h w (Chg.refl _ _)

theorem Keeps.mono {T : Nat → Prop} {w : World} {K K' : World → Prop} (h : Keeps T w K) (k : ∀ x, K x → K' x) : Keeps T w K' := fun x c => k x (h x c)

theorem Keeps.and {T : Nat → Prop} {w : World} {K K' : World → Prop} (h : Keeps T w K) (h' : Keeps T w K') : Keeps T w (fun x => K x ∧ K' x) := fun x c => ⟨h x c, h' x c⟩

theorem Keeps.next {T T' : Nat → Prop} {w w' : World} {K : World → Prop} (h : Keeps T w K) (c : Chg T w w') (ht : ∀ k, T' k → T k ∨ w.heap.size ≤ k) : Keeps T' w' K :=
  fun x c' => h x (c.trans c' fun k hk h => (ht k h).resolve_right (by omega))

theorem Keeps.below {T : Nat → Prop} {w w' : World} {K : World → Prop} (h : Keeps T w K) (c : Below w.heap.size w w') : Keeps T w' K := h.next (Chg.of_below c) fun _ h => .inl h

theorem Keeps.gain {T : Nat → Prop} {w w' : World} {K K' : World → Prop} (h : Keeps T w K) (ht : ∀ k, T k → k < w.heap.size) (c : Below w.heap.size w w') (g : Gains w w' K K') : Keeps T w' (fun x => K x ∧ K' x) :=
  fun x c' => ⟨h.below c x c', g T x c' (fun k hk => .inl (ht k hk)) (h.below c x c')⟩

theorem Gains.mono {w w' : World} {K K' J J' : World → Prop} (g : Gains w w' K K') (h : ∀ x, J x → K x) (h' : ∀ x, K' x → J' x) : Gains w w' J J' := fun F x c hf hj => h' x (g F x c hf (h x hj))

theorem Gains.own {w w' : World} {K : World → Prop} {v : Value} {bs : List UInt8} (o : Own w' w.heap.size v bs) : Gains w w' K (fun x => IsB x v bs) :=
  fun F x c hf _ => o.isB.chg c (o.lies fun k h1 h2 h => by have := hf k h; omega)

theorem Gains.blk {w w' : World} {K : World → Prop} {g : Nat} {t : TypeId} {cs : List Value} (h : Blk w' g t cs) (hg : w.heap.size ≤ g) : Gains w w' K (fun x => Blk x g t cs) :=
  fun F x c hf _ => h.chg c fun h' => by have := hf g h'; have := h.lt; omega

/-- What was made in two steps. -/
theorem Gains.trans {w w1 w2 : World} {K K1 K2 : World → Prop} (k1 : Below w.heap.size w w1) (k2 : Below w1.heap.size w1 w2) (g1 : Gains w w1 K K1) (g2 : Gains w1 w2 (fun x => K x ∧ K1 x) K2) : Gains w w2 K K2 := by
  intro F x c hf hk
  have h1 := k1.size
  have h2 := k2.size
  have c1 : Chg F w1 x := (Chg.of_below k2 : Chg F w1 w2).trans c fun _ _ h => h
  have hk1 := g1 F x c1 (fun k h => by have := hf k h; omega) hk
  exact g2 F x c (fun k h => by have := hf k h; omega) ⟨hk, hk1⟩

section
variable {w0 w w' : World} {g : Nat} {m m' : M.Dsk} {K K' : World → Prop}

end

section
variable {w0 w : World} {g : Nat} {m : M.Dsk} {K : World → Prop}

end

end Go.Proofs.Ytdojalhaklkegaa
