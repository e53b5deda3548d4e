/-
  A DISK WITH A ROW BESIDE IT THAT IT DOESN'T TOUCH (SoloR); a script's steps as they last; what writes make of a disk whose power isn't armed. Conditions: as each says.
  TWO DISKS AND A BLOCK BESIDE THEM (PairF): what a call on one leaves alone; the reference's calls in the code's words; how many writes wait behind a step. Conditions: as each says.
  ROWS OF ROWS, LISTS OF CHANGES, AND THE INPUTS OF LAYER 10 AS THEY LIE; how they last beside a disk (St: a disk in memory of its own, and what its calls leave alone). Conditions: none.
  CONTRACTS OF orlopref10.May AND Same. Conditions: the list and the rows lie so.
  ROWS OF ROWS OF THE CALL'S OWN (OwnLL), 'append' onto rows of anything in plain regions, AND THE CONTRACT OF orlopref10.Ahead. Conditions: as each says.
-/
import Derived.Test.YtbgadfaiehkanaaGreatDoorPj15
import Derived.OpenShut
import Derived.Test.YtbgadfaiehkanaaGreatDoorPj13
import Derived.Test.YtbgadfaiehkanaaGreatDoorPj12
import Derived.Maps.AppendAt

namespace Go.Proofs.YtbgadfaiehkanaaGreatDoor
open Go.RowKit
set_option linter.unusedVariables false

/-- A disk in memory of its own since w0, and bytes that lie out of it. -/
def SoloR (P : (Nat → Prop) → World → Nat → M.Dsk → Prop) (w0 w : World) (g : Nat) (m : M.Dsk) (v : Value) (bs : List UInt8) : Prop :=
  ∃ T, P T w g m ∧ (∀ k, T k → w0.heap.size ≤ k) ∧ Below w0.heap.size w0 w ∧ IsB w v bs ∧ (bs ≠ [] → Lies (fun k => ¬ T k ∧ k < w.heap.size) v)

section
variable {P : (Nat → Prop) → World → Nat → M.Dsk → Prop} {w0 w W : World} {g : Nat} {m m' : M.Dsk} {v : Value} {bs : List UInt8}

theorem SoloR.under (s : SoloR P w0 w g m v bs) : Below w0.heap.size w0 w := by
  obtain ⟨T, p, t, k, _⟩ := s
  exact k

theorem SoloR.row (s : SoloR P w0 w g m v bs) : IsB w v bs := by
  obtain ⟨T, p, t, k, i, _⟩ := s
  exact i

/-- A row that was laid behind W3, on a disk that has stood since. -/
theorem Solo.with (l : Lasts P) {w3 : World} (s : Solo P w0 w3 g m) (k : Below w3.heap.size w3 w) (o : Own w w3.heap.size v bs) : SoloR P w0 w g m v bs := by
  obtain ⟨T, p, t, b⟩ := s
  exact ⟨T, l.below p k, t, b.trans (k.mono b.size), o.isB, fun _ => o.lies fun j h1 h2 => ⟨fun h => by have := l.there p j h; omega, h2⟩⟩

theorem SoloR.op (l : Lasts P) (s : SoloR P w0 w g m v bs) {f : Nat} {args : Array Value} {R : Ending → Prop}
    (call : ∀ T, P T w g m → (∀ k, T k → w0.heap.size ≤ k ∧ k < w.heap.size) → Calls Tryz.prog f args w fun e w' => R e ∧ Chg T w w' ∧ ∃ T', P T' w' g m' ∧ ∀ k, T' k → T k ∨ w.heap.size ≤ k) :
    Calls Tryz.prog f args w fun e w' => R e ∧ SoloR P w0 w' g m' v bs := by
  obtain ⟨T, p, t, b, i, hl⟩ := s
  have hb := b.size
  refine (call T p fun k hk => ⟨t k hk, l.there p k hk⟩).mono ?_
  rintro e w' ⟨r, c, T', p', ht⟩
  refine ⟨r, T', p', fun k hk => ?_, b.trans (c.below (by omega) t), ?_, fun hn => (hl hn).mono fun k hk => ⟨fun h => ?_, Nat.lt_of_lt_of_le hk.2 c.size⟩⟩
  · rcases ht k hk with q | q
    · exact t k q
    · omega
  · by_cases hn : bs = []
    · subst hn
      obtain ⟨ao, cap, rfl, h1, h2, h3⟩ := i
      exact ⟨ao, cap, rfl, h1, h2, .inl rfl⟩
    · exact i.chg c ((hl hn).mono fun k hk => hk.1)
  · rcases ht k h with q | q
    · exact hk.1 q
    · omega

theorem SoloR.see (l : Lasts P) (s : SoloR P w0 w g m v bs) {f : Nat} {args : Array Value} {R : Ending → World → Prop}
    (call : ∀ T, P T w g m → Calls Tryz.prog f args w fun e w' => R e w' ∧ Below w.heap.size w w') :
    Calls Tryz.prog f args w fun e w' => R e w' ∧ SoloR P w0 w' g m v bs ∧ Below w.heap.size w w' := by
  obtain ⟨T, p, t, b, i, hl⟩ := s
  refine (call T p).mono ?_
  rintro e w' ⟨r, c⟩
  exact ⟨r, ⟨T, l.below p c, t, b.trans (c.mono b.size), i.below c, fun hn => (hl hn).mono fun k hk => ⟨hk.1, Nat.lt_of_lt_of_le hk.2 c.size⟩⟩, c⟩

theorem SoloR.below (l : Lasts P) (s : SoloR P w0 w g m v bs) (c : Below w.heap.size w W) : SoloR P w0 W g m v bs := by
  obtain ⟨T, p, t, b, i, hl⟩ := s
  exact ⟨T, l.below p c, t, b.trans (c.mono b.size), i.below c, fun hn => (hl hn).mono fun k hk => ⟨hk.1, Nat.lt_of_lt_of_le hk.2 c.size⟩⟩

end

theorem wrap_next {k : Nat} (h : k < 1000000) : wrap64 ((k : Int) + 1) = ((k + 1 : Nat) : Int) := by unfold wrap64; omega

theorem in_i64 {n : Int} (h : (Lit.int .i64 n).wf = true) : -9223372036854775808 ≤ n ∧ n < 9223372036854775808 := by
  have := bounds_i64 h
  omega

theorem IsZ.below {w w' : World} {v : Value} {ks : List Bool} (h : IsZ w v ks) (k : Below w.heap.size w w') : IsZ w' v ks := by
  obtain ⟨ao, cap, rfl, h1, h2, h3⟩ := h
  refine ⟨ao, cap, rfl, h1, h2, ?_⟩
  rcases h3 with h | ⟨b, off, rfl, h⟩
  · exact .inl h
  · refine .inr ⟨b, off, rfl, fun i hi => ?_⟩
    exact (k.cell (p := ⟨b, off + i, none⟩) (World.block_lt_of_cell? w _ (h i hi))).trans (h i hi)

theorem StepAt.below {w w' : World} {b off : Nat} {a : M.Step} (h : StepAt w b off a) (k : Below w.heap.size w w') : StepAt w' b off a := by
  obtain ⟨bo, bc, ko, kc, c0, c1, c2, c3, ib, hn, iz, w0, w1⟩ := h
  have hb := World.block_lt_of_cell? w _ c0
  have hc : ∀ j, w'.cell? ⟨b, j, none⟩ = w.cell? ⟨b, j, none⟩ := fun j => k.cell (p := ⟨b, j, none⟩) hb
  exact ⟨bo, bc, ko, kc, (hc _).trans c0, (hc _).trans c1, (hc _).trans c2, (hc _).trans c3, ib.below k, hn, iz.below k, w0, w1⟩

theorem M.small_get {l : List M.Step} (h : M.small l = true) (i : Nat) (hi : i < l.length) (h6 : i < 60) : (l.getD i M.Step.none).bytes.length ≤ 1000 ∧ (l.getD i M.Step.none).keep.length ≤ 1000 := by
  have := List.all_eq_true.1 h (l.getD i M.Step.none) (by
    rw [List.getD_eq_getElem?_getD, List.getElem?_eq_getElem hi]
    exact List.mem_take_iff_getElem.2 ⟨i, by omega, rfl⟩)
  simpa [M.Step.small] using this

namespace M
theorem idle_some (s : List (List UInt8)) (c : List (Nat × List UInt8)) (i : Int) (b : List UInt8) : ∃ c', ((idle s c).doWrite i b).1 = idle s c' ∧ c'.length ≤ c.length + 1 := by
  by_cases h : 0 ≤ i ∧ i < (s.length : Int) ∧ b.length = 256
  · obtain ⟨j, rfl⟩ := Int.eq_ofNat_of_zero_le h.1
    rw [idle_write s c j b (by have := h.2.1; omega) h.2.2]
    exact ⟨_, rfl, by simp⟩
  · rw [idle_write_no s c i b h]
    exact ⟨c, rfl, by omega⟩

/-- Block k behind a row of writes was laid is what was seen. -/
theorem laid_get (k : Nat) : ∀ (c : List (Nat × List UInt8)) (s : List (List UInt8)), k < s.length → (laid s c).getD k [] = seen k (s.getD k []) c
  | [], s, _ => rfl
  | x :: c, s, hk => by
    rw [laid, laid_get k c _ (by rw [List.length_set]; exact hk), seen]
    congr 1
    by_cases h : x.1 = k
    · rw [if_pos h, h, List.getD_eq_getElem?_getD, List.getElem?_set_self hk]
      rfl
    · rw [if_neg h, List.getD_eq_getElem?_getD, List.getElem?_set_ne h, ← List.getD_eq_getElem?_getD]

theorem laid_len (c : List (Nat × List UInt8)) : ∀ (s : List (List UInt8)), (laid s c).length = s.length := by
  induction c with
  | nil => intro s; rfl
  | cons y c ih => intro s; rw [laid, ih, List.length_set]
end M

end Go.Proofs.YtbgadfaiehkanaaGreatDoor

namespace Go.Proofs.YtbgadfaiehkanaaGreatDoor
open Go.RowKit
set_option linter.unusedVariables false

/-- As Pair; block y is none of either's. -/
def PairF (P Q : (Nat → Prop) → World → Nat → M.Dsk → Prop) (w0 w : World) (g : Nat) (m : M.Dsk) (h : Nat) (n : M.Dsk) (y : Nat) : Prop :=
  ∃ T S, P T w g m ∧ Q S w h n ∧ (∀ k, T k → ¬ S k) ∧ (∀ k, T k → w0.heap.size ≤ k) ∧ (∀ k, S k → w0.heap.size ≤ k) ∧ Below w0.heap.size w0 w ∧ ¬ T y ∧ ¬ S y ∧ y < w.heap.size

section
variable {P Q : (Nat → Prop) → World → Nat → M.Dsk → Prop} {w0 w W : World} {g h y : Nat} {m n m' : M.Dsk}

theorem Pair.free (lp : Lasts P) (lq : Lasts Q) (s : Pair P Q w0 w g m h n) (k : Below w.heap.size w W) (h1 : w.heap.size ≤ y) (h2 : y < W.heap.size) : PairF P Q w0 W g m h n y := by
  obtain ⟨T, S, p, q, d, t, u, b⟩ := s
  exact ⟨T, S, lp.below p k, lq.below q k, d, t, u, b.trans (k.mono b.size), fun a => by have := lp.there p y a; omega, fun a => by have := lq.there q y a; omega, h2⟩

theorem PairF.pair (s : PairF P Q w0 w g m h n y) : Pair P Q w0 w g m h n := by
  obtain ⟨T, S, p, q, d, t, u, b, _⟩ := s
  exact ⟨T, S, p, q, d, t, u, b⟩

theorem PairF.swap (s : PairF P Q w0 w g m h n y) : PairF Q P w0 w h n g m y := by
  obtain ⟨T, S, p, q, d, t, u, k, a, b, c⟩ := s
  exact ⟨S, T, q, p, fun k a b => d k b a, u, t, k, b, a, c⟩

theorem PairF.under (s : PairF P Q w0 w g m h n y) : Below w0.heap.size w0 w := s.pair.under

theorem PairF.op (lp : Lasts P) (lq : Lasts Q) (s : PairF P Q w0 w g m h n y) (kW : Below w.heap.size w W) {f : Nat} {args : Array Value} {R : Ending → Prop}
    (call : ∀ T, P T W g m → (∀ k, T k → w0.heap.size ≤ k ∧ k < w.heap.size) → Calls Tryz.prog f args W fun e w' => R e ∧ Chg T W w' ∧ ∃ T', P T' w' g m' ∧ ∀ k, T' k → T k ∨ W.heap.size ≤ k) :
    Calls Tryz.prog f args W fun e w' => R e ∧ PairF P Q w0 w' g m' h n y ∧ w'.heap[y]? = w.heap[y]? := by
  obtain ⟨T, S, p, q, d, t, u, b, n1, n2, yw⟩ := s
  have hb := b.size
  have hk := kW.size
  refine (call T (lp.below p kW) fun k hk => ⟨t k hk, lp.there p k hk⟩).mono ?_
  rintro e w' ⟨r, c, T', p', ht⟩
  refine ⟨r, ⟨T', S, p', lq.chg (lq.below q kW) c (fun k a b => d k b a), fun k hk hs => ?_, fun k hk => ?_, u, (b.trans (kW.mono hb)).trans (c.below (by omega) t), fun a => ?_, n2, by have := c.size; omega⟩, (c.block y (by omega) n1).trans (kW.block y yw)⟩
  · rcases ht k hk with a | a
    · exact d k a hs
    · have := lq.there q k hs
      omega
  · rcases ht k hk with a | a
    · exact t k a
    · omega
  · rcases ht y a with a | a
    · exact n1 a
    · omega

end

theorem IsZ.there {w : World} {v : Value} {ks : List Bool} (h : IsZ w v ks) (hn : ks ≠ []) : Lies (fun k => k < w.heap.size) v := by
  obtain ⟨ao, cap, rfl, h1, h2, h3⟩ := h
  intro ad n c e
  injection e with e1 e2 e3
  rcases h3 with h | ⟨b, off, e4, h⟩
  · exact absurd h hn
  · rw [e4] at e1
    injection e1 with e1
    subst e1
    exact World.block_lt_of_cell? w _ (h 0 (by cases ks; exact absurd rfl hn; simp))

theorem out_z {w0 : World} {T : Nat → Prop} {v : Value} {ks : List Bool} (i : IsZ w0 v ks) (ht : ∀ k, T k → w0.heap.size ≤ k) : ks ≠ [] → Lies (fun b => ¬ T b) v :=
  fun hn => (i.there hn).mono fun k h1 h => by have := ht k h; omega

namespace M
theorem wait_goes (m : Dsk) : m.goes.1.wait = m.wait := by rw [Dsk.goes]; split; rfl; split <;> rfl

theorem wait_write (m : Dsk) (i : Int) (b : List UInt8) : (m.doWrite i b).1.wait.length ≤ m.wait.length + 1 := by
  rw [Dsk.doWrite]
  split
  · split
    · exact Nat.le_succ _
    · show (m.write i.toNat b).wait.length ≤ _
      rw [Dsk.write, wait_goes, List.length_append]
      exact Nat.le_refl _
  · exact Nat.le_succ _

theorem wait_sync (m : Dsk) : m.doSync.1.wait.length ≤ m.wait.length + 1 := by
  rw [Dsk.doSync]
  split
  · exact Nat.le_succ _
  · split
    · show m.goes.1.wait.length ≤ _
      rw [wait_goes]
      exact Nat.le_succ _
    · exact Nat.zero_le _
end M

end Go.Proofs.YtbgadfaiehkanaaGreatDoor

namespace Go.Proofs.YtbgadfaiehkanaaGreatDoor
open Go.RowKit
set_option linter.unusedVariables false

namespace M
/-- Changes: of each its block, and its bytes. -/
abbrev CL := List (Int × List UInt8)

/-- May changes be committed, of n blocks? -/
def May (n : Nat) (l : CL) : Prop := l.length ≤ 40 ∧ ∀ c ∈ l, 0 ≤ c.1 ∧ c.1 < n ∧ c.2.length = 256
instance (n : Nat) (l : CL) : Decidable (May n l) := by unfold May; infer_instance

/-- Blocks with changes done. -/
def done (L : List (List UInt8)) : CL → List (List UInt8)
  | [] => L
  | c :: r => done (L.set c.1.toNat c.2) r

theorem done_snoc (L : List (List UInt8)) (l : CL) (c : Int × List UInt8) : done L (l ++ [c]) = (done L l).set c.1.toNat c.2 := by
  induction l generalizing L with
  | nil => rfl
  | cons y l ih => exact ih _

theorem done_len (l : CL) : ∀ L : List (List UInt8), (done L l).length = L.length := by
  induction l with
  | nil => intro L; rfl
  | cons y l ih => intro L; rw [done, ih, List.length_set]

theorem done_append (l k : CL) : ∀ L : List (List UInt8), done L (l ++ k) = done (done L l) k := by
  induction l with
  | nil => intro L; rfl
  | cons y l ih => intro L; exact ih _

/-- A transaction: the blocks of its changes, their bytes, the act in which the power goes, what is kept, and both again. -/
structure Tx where
  blocks : List Int
  bytes : List UInt8
  fall : Int
  keep : List Bool
  again : Int
  keep2 : List Bool
def Tx.none : Tx := ⟨[], [], 0, [], 0, []⟩
instance : Inhabited Tx := ⟨Tx.none⟩
def Tx.small (t : Tx) : Bool := decide (t.blocks.length ≤ 60) && (decide (t.keep.length ≤ 1000) && decide (t.keep2.length ≤ 1000))
/-- Are the first 12 small enough? -/
def smallTx (l : List Tx) : Bool := (l.take 12).all Tx.small

def Tx.x (t : Tx) (i : Nat) : UInt8 := if i < t.bytes.length then t.bytes.getD i 0 else UInt8.ofNat i
def Tx.one (t : Tx) (i : Nat) : Int × List UInt8 := (t.blocks.getD i 0, M.full [t.x i, UInt8.ofNat i, t.x i])
/-- The changes of a transaction. -/
def Tx.changes (t : Tx) : CL := (List.range t.blocks.length).map t.one
end M

/-- The value is a slice of the rows L, whose values are xs. -/
def IsLL (w : World) (v : Value) (L : List (List UInt8)) (xs : List Value) : Prop := ∃ ao cap, v = .slice ao L.length cap ∧ L.length ≤ cap ∧ cap ≤ maxLen ∧ xs.length = L.length ∧
  (∀ i, i < L.length → IsB w (xs.getD i undef) (L.getD i []) ∧ ∀ n c, xs.getD i undef = .slice none n c → c = 0) ∧
  (L = [] ∨ ∃ b off, ao = some ⟨b, off, none⟩ ∧ ∀ i, i < L.length → w.cell? ⟨b, off + i, none⟩ = some (xs.getD i undef))

/-- The value is a slice of the changes l, whose rows' values are xs. -/
def IsCL (w : World) (v : Value) (l : M.CL) (xs : List Value) : Prop := ∃ ao cap, v = .slice ao l.length cap ∧ l.length ≤ cap ∧ cap ≤ maxLen ∧ xs.length = l.length ∧
  (∀ i, i < l.length → IsB w (xs.getD i undef) (l.getD i (0, [])).2 ∧ (∀ n c, xs.getD i undef = .slice none n c → c = 0) ∧ -9223372036854775808 ≤ (l.getD i (0, [])).1 ∧ (l.getD i (0, [])).1 < 9223372036854775808) ∧
  (l = [] ∨ ∃ b off, ao = some ⟨b, off, none⟩ ∧ ∀ i, i < l.length → w.cell? ⟨b, off + i * 2, none⟩ = some (.int .i64 (l.getD i (0, [])).1) ∧ w.cell? ⟨b, off + i * 2 + 1, none⟩ = some (xs.getD i undef))

/-- The value is a slice of the ints ks. -/
def IsInts (w : World) (v : Value) (ks : List Int) : Prop := ∃ ao cap, v = .slice ao ks.length cap ∧ ks.length ≤ cap ∧ cap ≤ maxLen ∧ (∀ i, i < ks.length → -9223372036854775808 ≤ ks.getD i 0 ∧ ks.getD i 0 < 9223372036854775808) ∧
  (ks = [] ∨ ∃ b off, ao = some ⟨b, off, none⟩ ∧ ∀ i, i < ks.length → w.cell? ⟨b, off + i, none⟩ = some (.int .i64 (ks.getD i 0)))

/-- The cells are those of a transaction. -/
def TxCells (w : World) (cs : List Value) (t : M.Tx) : Prop := ∃ bo bc yo yc ko kc jo jc,
  cs = [.slice bo t.blocks.length bc, .slice yo t.bytes.length yc, .int .i64 t.fall, .slice ko t.keep.length kc, .int .i64 t.again, .slice jo t.keep2.length jc] ∧
  IsInts w (.slice bo t.blocks.length bc) t.blocks ∧ IsB w (.slice yo t.bytes.length yc) t.bytes ∧ IsZ w (.slice ko t.keep.length kc) t.keep ∧ IsZ w (.slice jo t.keep2.length jc) t.keep2 ∧
  (-9223372036854775808 ≤ t.fall ∧ t.fall < 9223372036854775808) ∧ (-9223372036854775808 ≤ t.again ∧ t.again < 9223372036854775808)

/-- The value is a slice of transactions. -/
def IsTxs (w : World) (v : Value) (l : List M.Tx) : Prop := ∃ ao cap, v = .slice ao l.length cap ∧ l.length ≤ cap ∧ cap ≤ maxLen ∧
  (l = [] ∨ ∃ b off, ao = some ⟨b, off, none⟩ ∧ ∀ i, i < l.length → ∃ cs, TxCells w cs (l.getD i M.Tx.none) ∧ ∀ j, j < 6 → w.cell? ⟨b, off + i * 6 + j, none⟩ = some (cs.getD j undef))

theorem IsLL.shape {w : World} {v : Value} {L : List (List UInt8)} {xs : List Value} (h : IsLL w v L xs) : ∃ ao cap, v = .slice ao L.length cap := by
  obtain ⟨ao, cap, rfl, _⟩ := h
  exact ⟨ao, cap, rfl⟩

theorem IsCL.shape {w : World} {v : Value} {l : M.CL} {xs : List Value} (h : IsCL w v l xs) : ∃ ao cap, v = .slice ao l.length cap := by
  obtain ⟨ao, cap, rfl, _⟩ := h
  exact ⟨ao, cap, rfl⟩

theorem IsInts.below {w w' : World} {v : Value} {ks : List Int} (h : IsInts w v ks) (k : Below w.heap.size w w') : IsInts w' v ks := by
  obtain ⟨ao, cap, rfl, h1, h2, h3, h4⟩ := h
  refine ⟨ao, cap, rfl, h1, h2, h3, ?_⟩
  rcases h4 with h | ⟨b, off, rfl, h⟩
  · exact .inl h
  · exact .inr ⟨b, off, rfl, fun i hi => (k.cell (p := ⟨b, off + i, none⟩) (World.block_lt_of_cell? w _ (h i hi))).trans (h i hi)⟩

theorem TxCells.below {w w' : World} {cs : List Value} {t : M.Tx} (h : TxCells w cs t) (k : Below w.heap.size w w') : TxCells w' cs t := by
  obtain ⟨bo, bc, yo, yc, ko, kc, jo, jc, e, h1, h2, h3, h4, h5, h6⟩ := h
  exact ⟨bo, bc, yo, yc, ko, kc, jo, jc, e, h1.below k, h2.below k, h3.below k, h4.below k, h5, h6⟩

theorem IsTxs.below {w w' : World} {v : Value} {l : List M.Tx} (h : IsTxs w v l) (k : Below w.heap.size w w') : IsTxs w' v l := by
  obtain ⟨ao, cap, rfl, h1, h2, h3⟩ := h
  refine ⟨ao, cap, rfl, h1, h2, ?_⟩
  rcases h3 with h | ⟨b, off, rfl, h⟩
  · exact .inl h
  · refine .inr ⟨b, off, rfl, fun i hi => ?_⟩
    obtain ⟨cs, c1, c2⟩ := h i hi
    exact ⟨cs, c1.below k, fun j hj => (k.cell (p := ⟨b, off + i * 6 + j, none⟩) (World.block_lt_of_cell? w _ (c2 j hj))).trans (c2 j hj)⟩

/-- What lasts, whatever the blocks T come to hold. -/
def Keeps (T : Nat → Prop) (w : World) (K : World → Prop) : Prop := ∀ w', Chg T w w' → K w'

/-- What was made between w and w' makes K' of K, and lasts as K does. -/
def Gains (w w' : World) (K K' : World → Prop) : Prop := ∀ F w'', Chg F w' w'' → (∀ k, F k → k < w.heap.size ∨ w'.heap.size ≤ k) → K w'' → K' w''

theorem Keeps.now {T : Nat → Prop} {w : World} {K : World → Prop} (h : Keeps T w K) : K w := h w (Chg.refl _ _)

theorem Keeps.mono {T : Nat → Prop} {w : World} {K K' : World → Prop} (h : Keeps T w K) (k : ∀ x, K x → K' x) : Keeps T w K' := fun x c => k x (h x c)

theorem Keeps.and {T : Nat → Prop} {w : World} {K K' : World → Prop} (h : Keeps T w K) (h' : Keeps T w K') : Keeps T w (fun x => K x ∧ K' x) := fun x c => ⟨h x c, h' x c⟩

theorem Keeps.next {T T' : Nat → Prop} {w w' : World} {K : World → Prop} (h : Keeps T w K) (c : Chg T w w') (ht : ∀ k, T' k → T k ∨ w.heap.size ≤ k) : Keeps T' w' K :=
  fun x c' => h x (c.trans c' fun k hk h => (ht k h).resolve_right (by omega))

theorem Keeps.below {T : Nat → Prop} {w w' : World} {K : World → Prop} (h : Keeps T w K) (c : Below w.heap.size w w') : Keeps T w' K := h.next (Chg.of_below c) fun _ h => .inl h

theorem Keeps.gain {T : Nat → Prop} {w w' : World} {K K' : World → Prop} (h : Keeps T w K) (ht : ∀ k, T k → k < w.heap.size) (c : Below w.heap.size w w') (g : Gains w w' K K') : Keeps T w' (fun x => K x ∧ K' x) :=
  fun x c' => ⟨h.below c x c', g T x c' (fun k hk => .inl (ht k hk)) (h.below c x c')⟩

theorem Gains.mono {w w' : World} {K K' J J' : World → Prop} (g : Gains w w' K K') (h : ∀ x, J x → K x) (h' : ∀ x, K' x → J' x) : Gains w w' J J' := fun F x c hf hj => h' x (g F x c hf (h x hj))

theorem Gains.own {w w' : World} {K : World → Prop} {v : Value} {bs : List UInt8} (o : Own w' w.heap.size v bs) : Gains w w' K (fun x => IsB x v bs) :=
  fun F x c hf _ => o.isB.chg c (o.lies fun k h1 h2 h => by have := hf k h; omega)

theorem Gains.blk {w w' : World} {K : World → Prop} {g : Nat} {t : TypeId} {cs : List Value} (h : Blk w' g t cs) (hg : w.heap.size ≤ g) : Gains w w' K (fun x => Blk x g t cs) :=
  fun F x c hf _ => h.chg c fun h' => by have := hf g h'; have := h.lt; omega

/-- What was made in two steps. -/
theorem Gains.trans {w w1 w2 : World} {K K1 K2 : World → Prop} (k1 : Below w.heap.size w w1) (k2 : Below w1.heap.size w1 w2) (g1 : Gains w w1 K K1) (g2 : Gains w1 w2 (fun x => K x ∧ K1 x) K2) : Gains w w2 K K2 := by
  intro F x c hf hk
  have h1 := k1.size
  have h2 := k2.size
  have c1 : Chg F w1 x := (Chg.of_below k2 : Chg F w1 w2).trans c fun _ _ h => h
  have hk1 := g1 F x c1 (fun k h => by have := hf k h; omega) hk
  exact g2 F x c (fun k h => by have := hf k h; omega) ⟨hk, hk1⟩

section
variable {w0 w w' : World} {g : Nat} {m m' : M.Dsk} {K K' : World → Prop}

end

section
variable {w0 w : World} {g : Nat} {m : M.Dsk} {K : World → Prop}

end

end Go.Proofs.YtbgadfaiehkanaaGreatDoor

namespace Go.Proofs.YtbgadfaiehkanaaGreatDoor
open Go.RowKit
set_option linter.unusedVariables false

def M.Fits (n : Nat) (c : Int × List UInt8) : Prop := 0 ≤ c.1 ∧ c.1 < (n : Int) ∧ c.2.length = 256

theorem M.may_iff (n : Nat) (l : M.CL) : M.May n l ↔ l.length ≤ 40 ∧ ∀ i, i < l.length → M.Fits n (l.getD i (0, [])) := by
  constructor
  · rintro ⟨h1, h2⟩
    refine ⟨h1, fun i hi => h2 _ ?_⟩
    rw [List.getD_eq_getElem?_getD, List.getElem?_eq_getElem hi]
    exact List.getElem_mem hi
  · rintro ⟨h1, h2⟩
    refine ⟨h1, fun c hc => ?_⟩
    obtain ⟨i, hi, rfl⟩ := List.mem_iff_getElem.1 hc
    have := h2 i hi
    rwa [List.getD_eq_getElem?_getD, List.getElem?_eq_getElem hi] at this

theorem M.take_succ_rows (A B : List (List UInt8)) (k : Nat) (ha : k < A.length) (hb : k < B.length) : A.take (k + 1) = B.take (k + 1) ↔ A.take k = B.take k ∧ A.getD k [] = B.getD k [] := by
  rw [List.take_add_one, List.take_add_one, List.getElem?_eq_getElem ha, List.getElem?_eq_getElem hb, List.getD_eq_getElem?_getD, List.getD_eq_getElem?_getD, List.getElem?_eq_getElem ha, List.getElem?_eq_getElem hb]
  simp only [Option.toList, Option.getD_some]
  constructor
  · intro h
    have := List.append_inj h (by rw [List.length_take, List.length_take]; omega)
    exact ⟨this.1, by simpa using this.2⟩
  · rintro ⟨h1, h2⟩
    rw [h1, h2]

end Go.Proofs.YtbgadfaiehkanaaGreatDoor

namespace Go.Proofs.YtbgadfaiehkanaaGreatDoor
open Go.RowKit
set_option linter.unusedVariables false

/-- 'append(xs, ys...)' onto an owned row, in a plain region. -/
theorem wpList_app_row {t e : TypeId} {size bytes : Nat} {z : Value} (hT : RowTy t e size bytes z) (w : World) {ops : Array Oper} {rest : List Oper} {o : Oper} {a : Act} {Q : Exit → Act → World → Prop} (hg : o.guard = none) (s x : Operand)
    (ho : o.op = .call { callee := .builtin .append, args := #[s, x], argTypes := #[t, t] })
    (B : Nat) (v : Value) (n : Nat) (xs : List Value) (hs : a.eval s = v) (hown : w.ownsRow B e size v n xs) (ad : Addr) (m c : Nat) (news : List Value) (hx : a.eval x = .slice (some ad) m c) (hl : news.length = m * size)
    (hc : ∀ j u, news[j]? = some u → w.cell? (ad.add j) = some u) (h1 : ∀ u ∈ news, u.oneCell' = true) (hm : n + m ≤ maxLen) (hb : (n + m) * bytes ≤ 140737488355328) (hB : B ≤ w.heap.size)
    (h : ∀ v' w', w'.ownsRow B e size v' (n + m) (xs ++ news) → w.grownBy w' v.ownBlock → (v'.ownBlock = v.ownBlock ∨ v'.ownBlock = some w.heap.size) → wpList Tryz.prog ops Q rest (a.put o.dst v') w') : wpList Tryz.prog ops Q (o :: rest) a w := by
  obtain ⟨hu, hi, hz, h0⟩ := hT
  obtain ⟨i0, hi0, hz0, hz1, hz2⟩ := info_any hi
  exact wpList_append_own_at (P := Tryz.prog) w hg s x t ho B e i0 z size bytes hu hi0 hz0 hz1 hz2 hz h0 v n xs hs hown ad m c news hx hl hc h1 hm hb hB fun v' w' a b _ d => h v' w' a b d

/-- A row of rows of the call's own, from block B on; so are its rows. -/
structure OwnLL (w : World) (B : Nat) (v : Value) (L : List (List UInt8)) (rows : List Value) : Prop where
  row : w.ownsRow B 22 1 v L.length rows
  each : ∀ i, i < L.length → IsB w (rows.getD i undef) (L.getD i []) ∧ (∀ n c, rows.getD i undef = .slice none n c → c = 0) ∧ Lies (fun k => B ≤ k ∧ k < w.heap.size ∧ v.ownBlock ≠ some k) (rows.getD i undef)

theorem OwnLL.len {w : World} {B : Nat} {v : Value} {L : List (List UInt8)} {rows : List Value} (h : OwnLL w B v L rows) : rows.length = L.length := by
  have := h.row.1
  omega

theorem OwnLL.nil (w : World) (B : Nat) : OwnLL w B (.slice none 0 0) [] [] := ⟨World.ownsRow_nil _ _ _ _, fun i hi => by cases hi⟩

theorem OwnLL.chg {F : Nat → Prop} {w w' : World} {B : Nat} {v : Value} {L : List (List UInt8)} {rows : List Value} (h : OwnLL w B v L rows) (c : Chg F w w') (hF : ∀ k, F k → B ≤ k → k < w.heap.size → False) : OwnLL w' B v L rows where
  row := own_chg h.row c fun b hb hf => hF b hf (h.row.lt b hb).1 (h.row.lt b hb).2
  each := fun i hi => ⟨(h.each i hi).1.chg c ((h.each i hi).2.2.mono fun k hk hf => hF k hf hk.1 hk.2.1), (h.each i hi).2.1, (h.each i hi).2.2.mono fun k hk => ⟨hk.1, Nat.lt_of_lt_of_le hk.2.1 c.size, hk.2.2⟩⟩

theorem OwnLL.below {w w' : World} {B : Nat} {v : Value} {L : List (List UInt8)} {rows : List Value} (h : OwnLL w B v L rows) (c : Below w.heap.size w w') : OwnLL w' B v L rows :=
  h.chg (Chg.of_below (F := fun _ => False) c) fun _ h _ _ => h

theorem OwnLL.isLL {w : World} {B : Nat} {v : Value} {L : List (List UInt8)} {rows : List Value} (h : OwnLL w B v L rows) : IsLL w v L rows := by
  obtain ⟨ao, cap, rfl⟩ := ownShape h.row
  have hl := h.len
  rcases h.row.2 with ⟨e, hn⟩ | ⟨g, cap', cur, e, hb, hg, hn, hm, hs, ht⟩
  · injection e with e1 e2 e3
    refine ⟨ao, cap, rfl, by omega, by unfold maxLen; omega, hl, fun i hi => by omega, .inl (by cases L; rfl; simp at hn)⟩
  · injection e with e1 e2 e3
    subst e1 e3
    refine ⟨_, cap, rfl, by omega, hm, hl, fun i hi => ⟨(h.each i hi).1, (h.each i hi).2.1⟩, ?_⟩
    by_cases h0 : L = []
    · exact .inl h0
    · refine .inr ⟨g, 0, rfl, fun i hi => ?_⟩
      obtain ⟨g2, e9, _, cs, _⟩ := ownCells h.row (by cases L; exact absurd rfl h0; simp)
      injection e9 with e9
      injection e9 with e9
      subst e9
      rw [Nat.zero_add, cs _ (by omega), List.getD_eq_getElem?_getD, List.getElem?_eq_getElem (by omega)]
      rfl

theorem OwnLL.gains {w w' : World} {K : World → Prop} {v : Value} {L : List (List UInt8)} {rows : List Value} (h : OwnLL w' w.heap.size v L rows) : Gains w w' K (fun x => IsLL x v L rows) :=
  fun F x c hf _ => (h.chg c fun k h1 h2 h3 => by have := hf k h1; omega).isLL

/-- A row more. -/
theorem OwnLL.add {w w2 w4 : World} {B : Nat} {v v' rv : Value} {L : List (List UInt8)} {rows : List Value} {bs : List UInt8} (h : OwnLL w B v L rows) (k : Below w.heap.size w w2) (hB : B ≤ w.heap.size) (d : Own w2 w.heap.size rv bs)
    (o : w4.ownsRow B 22 1 v' (L.length + 1) (rows ++ [rv])) (g : w2.grownBy w4 v.ownBlock) (a : v'.ownBlock = v.ownBlock ∨ ∃ j, v'.ownBlock = some j ∧ w2.heap.size ≤ j) : OwnLL w4 B v' (L ++ [bs]) (rows ++ [rv]) where
  row := by rw [List.length_append]; exact o
  each := by
    intro i hi
    have hi' : i < L.length + 1 := by simpa using hi
    have hl := h.len
    have hk := k.size
    have c4 : Chg (fun b => v.ownBlock = some b) w2 w4 := Chg.of_grown g fun k hk => hk
    have hv : ∀ b, v.ownBlock = some b → b < w.heap.size := fun b hb => (h.row.lt b hb).2
    have hne : ∀ b, b < w2.heap.size → v.ownBlock ≠ some b → v'.ownBlock ≠ some b := fun b h1 h2 e => by
      rcases a with a | ⟨j, a, hj⟩
      · exact h2 (a ▸ e)
      · rw [a] at e
        injection e with e
        omega
    have g4 := c4.size
    rw [getD_snoc _ _ _ _ (by rw [hl]; exact hi'), getD_snoc _ _ _ _ hi', hl]
    by_cases hlt : i < L.length
    · rw [if_pos hlt, if_pos hlt]
      obtain ⟨h1, h2, h3⟩ := h.each i hlt
      exact ⟨(h1.below k).chg c4 (h3.mono fun b hb => hb.2.2), h2, h3.mono fun b hb => ⟨hb.1, by omega, hne b (by omega) hb.2.2⟩⟩
    · rw [if_neg hlt, if_neg hlt]
      have ld : Lies (fun b => w.heap.size ≤ b ∧ b < w2.heap.size) rv := d.lies fun k h1 h2 => ⟨h1, h2⟩
      exact ⟨d.isB.chg c4 (ld.mono fun b hb e => by have := hv b e; omega), d.nil0, ld.mono fun b hb => ⟨by omega, by omega, hne b hb.2 fun e => by have := hv b e; omega⟩⟩

theorem M.drop42_take (s : List (List UInt8)) (k : Nat) (h : 42 + k < s.length) : (s.drop 42).take (k + 1) = (s.drop 42).take k ++ [s.getD (42 + k) []] := by
  rw [List.take_add_one, List.getElem?_drop, List.getD_eq_getElem?_getD, List.getElem?_eq_getElem h]
  rfl

end Go.Proofs.YtbgadfaiehkanaaGreatDoor
