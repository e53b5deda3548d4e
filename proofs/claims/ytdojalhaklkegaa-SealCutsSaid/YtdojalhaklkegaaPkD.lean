/-
  A DISK, AND TWO OF THEM, IN MEMORY OF THEIR OWN (Solo, Pair): what a call on one does, and that the other one stays; what a disk does while its power isn't armed. Conditions: as each says.
  A DISK WITH A ROW BESIDE IT THAT IT DOESN'T TOUCH (SoloR); a script's steps as they last; what writes make of a disk whose power isn't armed. Conditions: as each says.
  TWO DISKS AND A BLOCK BESIDE THEM (PairF): what a call on one leaves alone; the reference's calls in the code's words; how many writes wait behind a step. Conditions: as each says.
-/
import Derived.Test.YtdojalhaklkegaaPkC
import Derived.OpenShut

namespace Go.Proofs.Ytdojalhaklkegaa
open Go.RowKit
set_option linter.unusedVariables false

/-- A predicate of disks that lasts where its blocks stay. -/
structure Lasts (P : (Nat → Prop) → World → Nat → M.Dsk → Prop) : Prop where
  chg : ∀ {T F w w' g m}, P T w g m → Chg F w w' → (∀ b, T b → ¬ F b) → P T w' g m
  there : ∀ {T w g m}, P T w g m → ∀ k, T k → k < w.heap.size
  ok : ∀ {T w g m}, P T w g m → m.Ok

/-- A disk in memory of its own since w0. -/
def Solo (P : (Nat → Prop) → World → Nat → M.Dsk → Prop) (w0 w : World) (g : Nat) (m : M.Dsk) : Prop := ∃ T, P T w g m ∧ (∀ k, T k → w0.heap.size ≤ k) ∧ Below w0.heap.size w0 w

/-- Two disks in memory of their own since w0, apart from each other. -/
def Pair (P Q : (Nat → Prop) → World → Nat → M.Dsk → Prop) (w0 w : World) (g : Nat) (m : M.Dsk) (h : Nat) (n : M.Dsk) : Prop :=
  ∃ T S, P T w g m ∧ Q S w h n ∧ (∀ k, T k → ¬ S k) ∧ (∀ k, T k → w0.heap.size ≤ k) ∧ (∀ k, S k → w0.heap.size ≤ k) ∧ Below w0.heap.size w0 w

section
variable {P Q : (Nat → Prop) → World → Nat → M.Dsk → Prop} {w0 w W : World} {g h : Nat} {m n m' : M.Dsk}

theorem Lasts.below (l : Lasts P) {T : Nat → Prop} {w' : World} (p : P T w g m) (k : Below w.heap.size w w') : P T w' g m := l.chg p (Chg.of_below (F := fun _ => False) k) fun _ _ h => h

theorem Solo.under (s : Solo P w0 w g m) : Below w0.heap.size w0 w := by
  obtain ⟨T, p, t, k⟩ := s
  exact k

theorem Solo.okay (l : Lasts P) (s : Solo P w0 w g m) : m.Ok := by
  obtain ⟨T, p, t, k⟩ := s
  exact l.ok p

theorem Solo.below (l : Lasts P) (s : Solo P w0 w g m) (k : Below w.heap.size w W) : Solo P w0 W g m := by
  obtain ⟨T, p, t, b⟩ := s
  exact ⟨T, l.below p k, t, b.trans (k.mono b.size)⟩

/-- A call that turns the disk's blocks alone. -/
theorem Solo.op (l : Lasts P) (s : Solo P w0 w g m) (kW : Below w.heap.size w W) {f : Nat} {args : Array Value} {R : Ending → Prop}
    (call : ∀ T, P T W g m → (∀ k, T k → w0.heap.size ≤ k ∧ k < w.heap.size) → Calls Try.prog f args W fun e w' => R e ∧ Chg T W w' ∧ ∃ T', P T' w' g m' ∧ ∀ k, T' k → T k ∨ W.heap.size ≤ k) :
    Calls Try.prog f args W fun e w' => R e ∧ Solo P w0 w' g m' := by
  obtain ⟨T, p, t, b⟩ := s
  have hb := b.size
  have hk := kW.size
  refine (call T (l.below p kW) fun k hk => ⟨t k hk, l.there p k hk⟩).mono ?_
  rintro e w' ⟨r, c, T', p', ht⟩
  refine ⟨r, T', p', fun k hk => ?_, (b.trans (kW.mono hb)).trans (c.below (by omega) t)⟩
  rcases ht k hk with q | q
  · exact t k q
  · omega

/-- As Solo.op; and what was laid since the disk's last turn stays. -/
theorem Solo.op2 (l : Lasts P) (s : Solo P w0 w g m) (kW : Below w.heap.size w W) {f : Nat} {args : Array Value} {R : Ending → Prop}
    (call : ∀ T, P T W g m → (∀ k, T k → w0.heap.size ≤ k ∧ k < w.heap.size) → Calls Try.prog f args W fun e w' => R e ∧ Chg T W w' ∧ ∃ T', P T' w' g m' ∧ ∀ k, T' k → T k ∨ W.heap.size ≤ k) :
    Calls Try.prog f args W fun e w' => R e ∧ Solo P w0 w' g m' ∧ ∀ b, w.heap.size ≤ b → b < W.heap.size → w'.heap[b]? = W.heap[b]? := by
  obtain ⟨T, p, t, b⟩ := s
  have hb := b.size
  have hk := kW.size
  refine (call T (l.below p kW) fun k hk => ⟨t k hk, l.there p k hk⟩).mono ?_
  rintro e w' ⟨r, c, T', p', ht⟩
  refine ⟨r, ⟨T', p', fun k hk => ?_, (b.trans (kW.mono hb)).trans (c.below (by omega) t)⟩, fun k h1 h2 => c.block k h2 fun h => by have := l.there p k h; omega⟩
  rcases ht k hk with q | q
  · exact t k q
  · omega

/-- A call that only reads. -/
theorem Solo.see (l : Lasts P) (s : Solo P w0 w g m) (kW : Below w.heap.size w W) {f : Nat} {args : Array Value} {R : Ending → World → Prop}
    (call : ∀ T, P T W g m → Calls Try.prog f args W fun e w' => R e w' ∧ Below W.heap.size W w') :
    Calls Try.prog f args W fun e w' => R e w' ∧ Solo P w0 w' g m ∧ Below W.heap.size W w' := by
  obtain ⟨T, p, t, b⟩ := s
  have s' : Solo P w0 W g m := ⟨T, l.below p kW, t, b.trans (kW.mono b.size)⟩
  refine (call T (l.below p kW)).mono ?_
  rintro e w' ⟨r, c⟩
  exact ⟨r, s'.below l c, c⟩

theorem Pair.under (s : Pair P Q w0 w g m h n) : Below w0.heap.size w0 w := by
  obtain ⟨T, S, p, q, d, t, u, k⟩ := s
  exact k

theorem Pair.swap (s : Pair P Q w0 w g m h n) : Pair Q P w0 w h n g m := by
  obtain ⟨T, S, p, q, d, t, u, k⟩ := s
  exact ⟨S, T, q, p, fun k a b => d k b a, u, t, k⟩

theorem Pair.below (lp : Lasts P) (lq : Lasts Q) (s : Pair P Q w0 w g m h n) (k : Below w.heap.size w W) : Pair P Q w0 W g m h n := by
  obtain ⟨T, S, p, q, d, t, u, b⟩ := s
  exact ⟨T, S, lp.below p k, lq.below q k, d, t, u, b.trans (k.mono b.size)⟩

theorem Pair.okay (lp : Lasts P) (s : Pair P Q w0 w g m h n) : m.Ok := by
  obtain ⟨T, S, p, q, d, t, u, b⟩ := s
  exact lp.ok p

/-- As Pair.op; and what was laid since the disks' last turn stays. -/
theorem Pair.op2 (lp : Lasts P) (lq : Lasts Q) (s : Pair P Q w0 w g m h n) (kW : Below w.heap.size w W) {f : Nat} {args : Array Value} {R : Ending → Prop}
    (call : ∀ T, P T W g m → (∀ k, T k → w0.heap.size ≤ k ∧ k < w.heap.size) → Calls Try.prog f args W fun e w' => R e ∧ Chg T W w' ∧ ∃ T', P T' w' g m' ∧ ∀ k, T' k → T k ∨ W.heap.size ≤ k) :
    Calls Try.prog f args W fun e w' => R e ∧ Pair P Q w0 w' g m' h n ∧ ∀ b, w.heap.size ≤ b → b < W.heap.size → w'.heap[b]? = W.heap[b]? := by
  obtain ⟨T, S, p, q, d, t, u, b⟩ := s
  have hb := b.size
  have hk := kW.size
  refine (call T (lp.below p kW) fun k hk => ⟨t k hk, lp.there p k hk⟩).mono ?_
  rintro e w' ⟨r, c, T', p', ht⟩
  refine ⟨r, ⟨T', S, p', lq.chg (lq.below q kW) c (fun k a b => d k b a), fun k hk hs => ?_, fun k hk => ?_, u, (b.trans (kW.mono hb)).trans (c.below (by omega) t)⟩, fun k h1 h2 => c.block k h2 fun h => by have := lp.there p k h; omega⟩
  · rcases ht k hk with a | a
    · exact d k a hs
    · have := lq.there q k hs
      omega
  · rcases ht k hk with a | a
    · exact t k a
    · omega

/-- The first one's call: the second one stays. -/
theorem Pair.op (lp : Lasts P) (lq : Lasts Q) (s : Pair P Q w0 w g m h n) (kW : Below w.heap.size w W) {f : Nat} {args : Array Value} {R : Ending → Prop}
    (call : ∀ T, P T W g m → (∀ k, T k → w0.heap.size ≤ k ∧ k < w.heap.size) → Calls Try.prog f args W fun e w' => R e ∧ Chg T W w' ∧ ∃ T', P T' w' g m' ∧ ∀ k, T' k → T k ∨ W.heap.size ≤ k) :
    Calls Try.prog f args W fun e w' => R e ∧ Pair P Q w0 w' g m' h n := by
  obtain ⟨T, S, p, q, d, t, u, b⟩ := s
  have hb := b.size
  have hk := kW.size
  refine (call T (lp.below p kW) fun k hk => ⟨t k hk, lp.there p k hk⟩).mono ?_
  rintro e w' ⟨r, c, T', p', ht⟩
  refine ⟨r, T', S, p', lq.chg (lq.below q kW) c (fun k a b => d k b a), fun k hk hs => ?_, fun k hk => ?_, u, (b.trans (kW.mono hb)).trans (c.below (by omega) t)⟩
  · rcases ht k hk with a | a
    · exact d k a hs
    · have := lq.there q k hs
      omega
  · rcases ht k hk with a | a
    · exact t k a
    · omega

theorem Pair.see (lp : Lasts P) (lq : Lasts Q) (s : Pair P Q w0 w g m h n) (kW : Below w.heap.size w W) {f : Nat} {args : Array Value} {R : Ending → World → Prop}
    (call : ∀ T, P T W g m → Calls Try.prog f args W fun e w' => R e w' ∧ Below W.heap.size W w') :
    Calls Try.prog f args W fun e w' => R e w' ∧ Pair P Q w0 w' g m h n ∧ Below W.heap.size W w' := by
  have s' := s.below lp lq kW
  obtain ⟨T, S, p, q, d, t, u, b⟩ := s
  refine (call T (lp.below p kW)).mono ?_
  rintro e w' ⟨r, c⟩
  exact ⟨r, s'.below lp lq c, c⟩

/-- A second one beside the first. -/
theorem Solo.beside (lp : Lasts P) (s : Solo P w0 w g m) {S : Nat → Prop} (q : Q S W h n) (k : Below w.heap.size w W) (hs : ∀ k, S k → w.heap.size ≤ k) : Pair P Q w0 W g m h n := by
  obtain ⟨T, p, t, b⟩ := s
  have hb := b.size
  exact ⟨T, S, lp.below p k, q, fun k a c => by have := lp.there p k a; have := hs k c; omega, t, fun k a => by have := hs k a; omega, b.trans (k.mono hb)⟩

end

section
variable {Dk : (Nat → Prop) → World → Nat → M.Dsk → Prop} {w0 w W : World} {g : Nat} {m : M.Dsk}

/-- A row of the call's own lies out of the disk; so does what came in. -/
theorem out_own {T : Nat → Prop} {B : Nat} {v : Value} {bs : List UInt8} (o : Own W B v bs) (ht : ∀ k, T k → k < B) : bs ≠ [] → Lies (fun b => ¬ T b) v :=
  fun _ => o.lies fun k h1 _ h => by have := ht k h; omega

theorem out_in {T : Nat → Prop} {v : Value} {bs : List UInt8} (i : IsB w0 v bs) (ht : ∀ k, T k → w0.heap.size ≤ k) : bs ≠ [] → Lies (fun b => ¬ T b) v :=
  fun hn => (i.there hn).mono fun k h1 h => by have := ht k h; omega

end

namespace M
/-- A disk whose power is there, and not armed. -/
def idle (s : List (List UInt8)) (c : List (Nat × List UInt8)) : Dsk := ⟨s, c, 0, false⟩

theorem idle_write (s : List (List UInt8)) (c : List (Nat × List UInt8)) (i : Nat) (b : List UInt8) (hi : i < s.length) (hb : b.length = 256) : (idle s c).doWrite (i : Int) b = (idle s (c ++ [(i, b)]), 0) := by
  have hok : 0 ≤ (i : Int) ∧ (i : Int) < ((idle s c).safe.length : Int) ∧ b.length = 256 := by
    refine ⟨by omega, ?_, hb⟩
    show (i : Int) < (s.length : Int)
    omega
  rw [Dsk.doWrite, if_pos hok, if_neg (show ¬ (idle s c).down = true from Bool.false_ne_true), Int.toNat_natCast]
  rfl

theorem idle_write_no (s : List (List UInt8)) (c : List (Nat × List UInt8)) (i : Int) (b : List UInt8) (h : ¬ (0 ≤ i ∧ i < (s.length : Int) ∧ b.length = 256)) : (idle s c).doWrite i b = (idle s c, 1) := by
  have hno : ¬ (0 ≤ i ∧ i < ((idle s c).safe.length : Int) ∧ b.length = 256) := h
  rw [Dsk.doWrite, if_neg hno]

theorem idle_sync (s : List (List UInt8)) (c : List (Nat × List UInt8)) : (idle s c).doSync = (idle (laid s c) [], 0) := rfl

theorem idle_crash (s : List (List UInt8)) (c : List (Nat × List UInt8)) (k : List Bool) : (idle s c).crash k = idle (kept s c k c.length) [] := rfl

theorem kept_nil (s : List (List UInt8)) (c : List (Nat × List UInt8)) : ∀ j, kept s c [] j = s
  | 0 => rfl
  | j + 1 => by rw [kept, if_neg (by simp), kept_nil s c j]

end M

end Go.Proofs.Ytdojalhaklkegaa

namespace Go.Proofs.Ytdojalhaklkegaa
open Go.RowKit
set_option linter.unusedVariables false

/-- A disk in memory of its own since w0, and bytes that lie out of it. -/
def SoloR (P : (Nat → Prop) → World → Nat → M.Dsk → Prop) (w0 w : World) (g : Nat) (m : M.Dsk) (v : Value) (bs : List UInt8) : Prop :=
  ∃ T, P T w g m ∧ (∀ k, T k → w0.heap.size ≤ k) ∧ Below w0.heap.size w0 w ∧ IsB w v bs ∧ (bs ≠ [] → Lies (fun k => ¬ T k ∧ k < w.heap.size) v)

section
variable {P : (Nat → Prop) → World → Nat → M.Dsk → Prop} {w0 w W : World} {g : Nat} {m m' : M.Dsk} {v : Value} {bs : List UInt8}

theorem SoloR.under (s : SoloR P w0 w g m v bs) : Below w0.heap.size w0 w := by
  obtain ⟨T, p, t, k, _⟩ := s
  exact k

theorem SoloR.row (s : SoloR P w0 w g m v bs) : IsB w v bs := by
  obtain ⟨T, p, t, k, i, _⟩ := s
  exact i

/-- A row that was laid behind W3, on a disk that has stood since. -/
theorem Solo.with (l : Lasts P) {w3 : World} (s : Solo P w0 w3 g m) (k : Below w3.heap.size w3 w) (o : Own w w3.heap.size v bs) : SoloR P w0 w g m v bs := by
  obtain ⟨T, p, t, b⟩ := s
  exact ⟨T, l.below p k, t, b.trans (k.mono b.size), o.isB, fun _ => o.lies fun j h1 h2 => ⟨fun h => by have := l.there p j h; omega, h2⟩⟩

theorem SoloR.op (l : Lasts P) (s : SoloR P w0 w g m v bs) {f : Nat} {args : Array Value} {R : Ending → Prop}
    (call : ∀ T, P T w g m → (∀ k, T k → w0.heap.size ≤ k ∧ k < w.heap.size) → Calls Try.prog f args w fun e w' => R e ∧ Chg T w w' ∧ ∃ T', P T' w' g m' ∧ ∀ k, T' k → T k ∨ w.heap.size ≤ k) :
    Calls Try.prog f args w fun e w' => R e ∧ SoloR P w0 w' g m' v bs := by
  obtain ⟨T, p, t, b, i, hl⟩ := s
  have hb := b.size
  refine (call T p fun k hk => ⟨t k hk, l.there p k hk⟩).mono ?_
  rintro e w' ⟨r, c, T', p', ht⟩
  refine ⟨r, T', p', fun k hk => ?_, b.trans (c.below (by omega) t), ?_, fun hn => (hl hn).mono fun k hk => ⟨fun h => ?_, Nat.lt_of_lt_of_le hk.2 c.size⟩⟩
  · rcases ht k hk with q | q
    · exact t k q
    · omega
  · by_cases hn : bs = []
    · subst hn
      obtain ⟨ao, cap, rfl, h1, h2, h3⟩ := i
      exact ⟨ao, cap, rfl, h1, h2, .inl rfl⟩
    · exact i.chg c ((hl hn).mono fun k hk => hk.1)
  · rcases ht k h with q | q
    · exact hk.1 q
    · omega

theorem SoloR.see (l : Lasts P) (s : SoloR P w0 w g m v bs) {f : Nat} {args : Array Value} {R : Ending → World → Prop}
    (call : ∀ T, P T w g m → Calls Try.prog f args w fun e w' => R e w' ∧ Below w.heap.size w w') :
    Calls Try.prog f args w fun e w' => R e w' ∧ SoloR P w0 w' g m v bs ∧ Below w.heap.size w w' := by
  obtain ⟨T, p, t, b, i, hl⟩ := s
  refine (call T p).mono ?_
  rintro e w' ⟨r, c⟩
  exact ⟨r, ⟨T, l.below p c, t, b.trans (c.mono b.size), i.below c, fun hn => (hl hn).mono fun k hk => ⟨hk.1, Nat.lt_of_lt_of_le hk.2 c.size⟩⟩, c⟩

theorem SoloR.below (l : Lasts P) (s : SoloR P w0 w g m v bs) (c : Below w.heap.size w W) : SoloR P w0 W g m v bs := by
  obtain ⟨T, p, t, b, i, hl⟩ := s
  exact ⟨T, l.below p c, t, b.trans (c.mono b.size), i.below c, fun hn => (hl hn).mono fun k hk => ⟨hk.1, Nat.lt_of_lt_of_le hk.2 c.size⟩⟩

end

theorem wrap_next {k : Nat} (h : k < 1000000) : wrap64 ((k : Int) + 1) = ((k + 1 : Nat) : Int) := by unfold wrap64; omega

theorem in_i64 {n : Int} (h : (Lit.int .i64 n).wf = true) : -9223372036854775808 ≤ n ∧ n < 9223372036854775808 := by
  have := bounds_i64 h
  omega

theorem IsZ.below {w w' : World} {v : Value} {ks : List Bool} (h : IsZ w v ks) (k : Below w.heap.size w w') : IsZ w' v ks := by
  obtain ⟨ao, cap, rfl, h1, h2, h3⟩ := h
  refine ⟨ao, cap, rfl, h1, h2, ?_⟩
  rcases h3 with h | ⟨b, off, rfl, h⟩
  · exact .inl h
  · refine .inr ⟨b, off, rfl, fun i hi => ?_⟩
    exact (k.cell (p := ⟨b, off + i, none⟩) (World.block_lt_of_cell? w _ (h i hi))).trans (h i hi)

theorem StepAt.below {w w' : World} {b off : Nat} {a : M.Step} (h : StepAt w b off a) (k : Below w.heap.size w w') : StepAt w' b off a := by
  obtain ⟨bo, bc, ko, kc, c0, c1, c2, c3, ib, hn, iz, w0, w1⟩ := h
  have hb := World.block_lt_of_cell? w _ c0
  have hc : ∀ j, w'.cell? ⟨b, j, none⟩ = w.cell? ⟨b, j, none⟩ := fun j => k.cell (p := ⟨b, j, none⟩) hb
  exact ⟨bo, bc, ko, kc, (hc _).trans c0, (hc _).trans c1, (hc _).trans c2, (hc _).trans c3, ib.below k, hn, iz.below k, w0, w1⟩

theorem M.small_get {l : List M.Step} (h : M.small l = true) (i : Nat) (hi : i < l.length) (h6 : i < 60) : (l.getD i M.Step.none).bytes.length ≤ 1000 ∧ (l.getD i M.Step.none).keep.length ≤ 1000 := by
  have := List.all_eq_true.1 h (l.getD i M.Step.none) (by
    rw [List.getD_eq_getElem?_getD, List.getElem?_eq_getElem hi]
    exact List.mem_take_iff_getElem.2 ⟨i, by omega, rfl⟩)
  simpa [M.Step.small] using this

namespace M
theorem idle_some (s : List (List UInt8)) (c : List (Nat × List UInt8)) (i : Int) (b : List UInt8) : ∃ c', ((idle s c).doWrite i b).1 = idle s c' ∧ c'.length ≤ c.length + 1 := by
  by_cases h : 0 ≤ i ∧ i < (s.length : Int) ∧ b.length = 256
  · obtain ⟨j, rfl⟩ := Int.eq_ofNat_of_zero_le h.1
    rw [idle_write s c j b (by have := h.2.1; omega) h.2.2]
    exact ⟨_, rfl, by simp⟩
  · rw [idle_write_no s c i b h]
    exact ⟨c, rfl, by omega⟩

/-- Block k behind a row of writes was laid is what was seen. -/
theorem laid_get (k : Nat) : ∀ (c : List (Nat × List UInt8)) (s : List (List UInt8)), k < s.length → (laid s c).getD k [] = seen k (s.getD k []) c
  | [], s, _ => rfl
  | x :: c, s, hk => by
    rw [laid, laid_get k c _ (by rw [List.length_set]; exact hk), seen]
    congr 1
    by_cases h : x.1 = k
    · rw [if_pos h, h, List.getD_eq_getElem?_getD, List.getElem?_set_self hk]
      rfl
    · rw [if_neg h, List.getD_eq_getElem?_getD, List.getElem?_set_ne h, ← List.getD_eq_getElem?_getD]

theorem laid_len (c : List (Nat × List UInt8)) : ∀ (s : List (List UInt8)), (laid s c).length = s.length := by
  induction c with
  | nil => intro s; rfl
  | cons y c ih => intro s; rw [laid, ih, List.length_set]
end M

end Go.Proofs.Ytdojalhaklkegaa

namespace Go.Proofs.Ytdojalhaklkegaa
open Go.RowKit
set_option linter.unusedVariables false

/-- As Pair; block y is none of either's. -/
def PairF (P Q : (Nat → Prop) → World → Nat → M.Dsk → Prop) (w0 w : World) (g : Nat) (m : M.Dsk) (h : Nat) (n : M.Dsk) (y : Nat) : Prop :=
  ∃ T S, P T w g m ∧ Q S w h n ∧ (∀ k, T k → ¬ S k) ∧ (∀ k, T k → w0.heap.size ≤ k) ∧ (∀ k, S k → w0.heap.size ≤ k) ∧ Below w0.heap.size w0 w ∧ ¬ T y ∧ ¬ S y ∧ y < w.heap.size

section
variable {P Q : (Nat → Prop) → World → Nat → M.Dsk → Prop} {w0 w W : World} {g h y : Nat} {m n m' : M.Dsk}

theorem Pair.free (lp : Lasts P) (lq : Lasts Q) (s : Pair P Q w0 w g m h n) (k : Below w.heap.size w W) (h1 : w.heap.size ≤ y) (h2 : y < W.heap.size) : PairF P Q w0 W g m h n y := by
  obtain ⟨T, S, p, q, d, t, u, b⟩ := s
  exact ⟨T, S, lp.below p k, lq.below q k, d, t, u, b.trans (k.mono b.size), fun a => by have := lp.there p y a; omega, fun a => by have := lq.there q y a; omega, h2⟩

theorem PairF.pair (s : PairF P Q w0 w g m h n y) : Pair P Q w0 w g m h n := by
  obtain ⟨T, S, p, q, d, t, u, b, _⟩ := s
  exact ⟨T, S, p, q, d, t, u, b⟩

theorem PairF.swap (s : PairF P Q w0 w g m h n y) : PairF Q P w0 w h n g m y := by
  obtain ⟨T, S, p, q, d, t, u, k, a, b, c⟩ := s
  exact ⟨S, T, q, p, fun k a b => d k b a, u, t, k, b, a, c⟩

theorem PairF.under (s : PairF P Q w0 w g m h n y) : Below w0.heap.size w0 w := s.pair.under

theorem PairF.op (lp : Lasts P) (lq : Lasts Q) (s : PairF P Q w0 w g m h n y) (kW : Below w.heap.size w W) {f : Nat} {args : Array Value} {R : Ending → Prop}
    (call : ∀ T, P T W g m → (∀ k, T k → w0.heap.size ≤ k ∧ k < w.heap.size) → Calls Try.prog f args W fun e w' => R e ∧ Chg T W w' ∧ ∃ T', P T' w' g m' ∧ ∀ k, T' k → T k ∨ W.heap.size ≤ k) :
    Calls Try.prog f args W fun e w' => R e ∧ PairF P Q w0 w' g m' h n y ∧ w'.heap[y]? = w.heap[y]? := by
  obtain ⟨T, S, p, q, d, t, u, b, n1, n2, yw⟩ := s
  have hb := b.size
  have hk := kW.size
  refine (call T (lp.below p kW) fun k hk => ⟨t k hk, lp.there p k hk⟩).mono ?_
  rintro e w' ⟨r, c, T', p', ht⟩
  refine ⟨r, ⟨T', S, p', lq.chg (lq.below q kW) c (fun k a b => d k b a), fun k hk hs => ?_, fun k hk => ?_, u, (b.trans (kW.mono hb)).trans (c.below (by omega) t), fun a => ?_, n2, by have := c.size; omega⟩, (c.block y (by omega) n1).trans (kW.block y yw)⟩
  · rcases ht k hk with a | a
    · exact d k a hs
    · have := lq.there q k hs
      omega
  · rcases ht k hk with a | a
    · exact t k a
    · omega
  · rcases ht y a with a | a
    · exact n1 a
    · omega

end

theorem IsZ.there {w : World} {v : Value} {ks : List Bool} (h : IsZ w v ks) (hn : ks ≠ []) : Lies (fun k => k < w.heap.size) v := by
  obtain ⟨ao, cap, rfl, h1, h2, h3⟩ := h
  intro ad n c e
  injection e with e1 e2 e3
  rcases h3 with h | ⟨b, off, e4, h⟩
  · exact absurd h hn
  · rw [e4] at e1
    injection e1 with e1
    subst e1
    exact World.block_lt_of_cell? w _ (h 0 (by cases ks; exact absurd rfl hn; simp))

theorem out_z {w0 : World} {T : Nat → Prop} {v : Value} {ks : List Bool} (i : IsZ w0 v ks) (ht : ∀ k, T k → w0.heap.size ≤ k) : ks ≠ [] → Lies (fun b => ¬ T b) v :=
  fun hn => (i.there hn).mono fun k h1 h => by have := ht k h; omega

namespace M
theorem wait_goes (m : Dsk) : m.goes.1.wait = m.wait := by rw [Dsk.goes]; split; rfl; split <;> rfl

theorem wait_write (m : Dsk) (i : Int) (b : List UInt8) : (m.doWrite i b).1.wait.length ≤ m.wait.length + 1 := by
  rw [Dsk.doWrite]
  split
  · split
    · exact Nat.le_succ _
    · show (m.write i.toNat b).wait.length ≤ _
      rw [Dsk.write, wait_goes, List.length_append]
      exact Nat.le_refl _
  · exact Nat.le_succ _

theorem wait_sync (m : Dsk) : m.doSync.1.wait.length ≤ m.wait.length + 1 := by
  rw [Dsk.doSync]
  split
  · exact Nat.le_succ _
  · split
    · show m.goes.1.wait.length ≤ _
      rw [wait_goes]
      exact Nat.le_succ _
    · exact Nat.zero_le _
end M

end Go.Proofs.Ytdojalhaklkegaa
