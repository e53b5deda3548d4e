/-
  FILES ON A DISK AS THEY LIE IN A LAW'S MEMORY (FSt), the disk alone (DSt), blocks that no call of theirs turns (R); each call of package file in these words. Conditions: the two tables of package sha lie as laid.
  CONTRACTS OF orlopref11.Need, Less, At, Free. Conditions: the files lie so.
-/
import Derived.Test.YtphcbpfpelonaaaGreatDoorPf29
import Derived.Test.YtphcbpfpelonaaaGreatDoorPw3
import Derived.Test.YtphcbpfpelonaaaGreatDoorFileH

namespace Go.Proofs.YtphcbpfpelonaaaGreatDoor
open Go.RowKit Go.Maps
set_option linter.unusedVariables false
set_option maxRecDepth 100000

/-- A disk in memory of its own since w0; blocks of R are none of its. -/
def DSt (w0 w : World) (g : Nat) (m : M.Dsk) (R : Nat → Prop) : Prop := ∃ T, CodeDk T w g m ∧ (∀ k, T k → w0.heap.size ≤ k) ∧ Below w0.heap.size w0 w ∧ ∀ k, R k → ¬ T k ∧ w0.heap.size ≤ k ∧ k < w.heap.size

/-- Files: the disk's blocks T, the lists' blocks S, the table's mb. -/
structure FsL (w0 w : World) (g gw gf : Nat) (m : M.Dsk) (t : M.Tab) (dn : Bool) (R T S : Nat → Prop) (mb : Nat) : Prop where
  dk : CodeDk T w g m
  new : ∀ k, T k → w0.heap.size ≤ k
  under : Below w0.heap.size w0 w
  wal : Keeps (fun k => T k ∨ k = gf ∨ R k) w (fun x => WalIs x gw g)
  at_ : FilesAt w gf gw mb dn
  tab : TabIn S w mb t
  s : ∀ k, S k → ¬ T k ∧ k ≠ gf ∧ k < w.heap.size
  mT : ¬ T mb
  fT : ¬ T gf
  mf : mb ≠ gf
  f0 : w0.heap.size ≤ gf
  r : ∀ k, R k → ¬ T k ∧ ¬ S k ∧ k ≠ gf ∧ k ≠ mb ∧ w0.heap.size ≤ k ∧ k < w.heap.size

def FSt (w0 w : World) (g gw gf : Nat) (m : M.Dsk) (t : M.Tab) (dn : Bool) (R : Nat → Prop) : Prop := ∃ T S mb, FsL w0 w g gw gf m t dn R T S mb

/-- What a call of the code may turn. -/
def Far (w0 : World) (R : Nat → Prop) (w w' : World) : Prop := Chg (fun k => ¬ R k ∧ w0.heap.size ≤ k) w w'

theorem Far.below {w0 w w' : World} {R : Nat → Prop} (h : Far w0 R w w') (k : w0.heap.size ≤ w.heap.size) : Below w0.heap.size w w' := Chg.below h k fun _ h => h.2
theorem Far.of_below {w0 w w' : World} {R : Nat → Prop} (h : Below w.heap.size w w') : Far w0 R w w' := Chg.of_below h
theorem Far.trans {w0 w w1 w' : World} {R : Nat → Prop} (h : Far w0 R w w1) (k : Far w0 R w1 w') : Far w0 R w w' := Chg.trans h k fun _ _ h => h

/-- What lies in R lasts. -/
theorem Far.fs {w0 w w' : World} {R S : Nat → Prop} (h : Far w0 R w w') {v : Value} {F : M.Fs} {xs : List Value} (i : IsFs S w v F xs) (hs : ∀ k, S k → R k) : IsFs S w' v F xs := i.chg h fun k hk e => e.1 (hs k hk)
theorem Far.blk {w0 w w' : World} {R : Nat → Prop} (h : Far w0 R w w') {g : Nat} {t : TypeId} {cs : List Value} (b : Blk w g t cs) (hg : R g) : Blk w' g t cs := b.chg h fun e => e.1 hg

section
variable {w0 w w' : World} {g gw gf : Nat} {m : M.Dsk} {t : M.Tab} {dn : Bool} {R R' : Nat → Prop}

theorem FSt.under (s : FSt w0 w g gw gf m t dn R) : Below w0.heap.size w0 w := by
  obtain ⟨T, S, mb, h⟩ := s
  exact h.under

theorem DSt.under (s : DSt w0 w g m R) : Below w0.heap.size w0 w := by
  obtain ⟨T, _, _, h, _⟩ := s
  exact h

theorem FSt.okay (s : FSt w0 w g gw gf m t dn R) : m.Ok := by
  obtain ⟨T, S, mb, h⟩ := s
  exact h.dk.ok

theorem FSt.rlt (s : FSt w0 w g gw gf m t dn R) : ∀ k, R k → w0.heap.size ≤ k ∧ k < w.heap.size := by
  obtain ⟨T, S, mb, h⟩ := s
  exact fun k hk => (h.r k hk).2.2.2.2

theorem FSt.less (s : FSt w0 w g gw gf m t dn R) (h : ∀ k, R' k → R k) : FSt w0 w g gw gf m t dn R' := by
  obtain ⟨T, S, mb, f⟩ := s
  exact ⟨T, S, mb, { f with wal := fun x c => f.wal x (c.mono fun k _ hk => hk.imp_right fun hk => hk.imp_right (h k)), r := fun k hk => f.r k (h k hk) }⟩

/-- What is new may be none of theirs. -/
theorem FSt.below (s : FSt w0 w g gw gf m t dn R) (k : Below w.heap.size w w') : FSt w0 w' g gw gf m t dn (fun b => R b ∨ (w.heap.size ≤ b ∧ b < w'.heap.size)) := by
  obtain ⟨T, S, mb, f⟩ := s
  have hk := k.size
  have hu := f.under.size
  obtain ⟨vs, ht, hl⟩ := f.tab
  have hgl := f.at_.lt
  have hml := ht.lt
  refine ⟨T, S, mb, ⟨f.dk.below k, f.new, f.under.trans (k.mono hu), f.wal.next (Chg.of_below k) fun j hj => ?_, f.at_.below k, ⟨vs, ht.below k, hl⟩, fun j hj => ?_, f.mT, f.fT, f.mf, f.f0, fun j hj => ?_⟩⟩
  · rcases hj with hj | hj | hj | hj
    · exact .inl (.inl hj)
    · exact .inl (.inr (.inl hj))
    · exact .inl (.inr (.inr hj))
    · exact .inr hj.1
  · have := f.s j hj
    exact ⟨this.1, this.2.1, by omega⟩
  · rcases hj with hj | hj
    · have := f.r j hj
      exact ⟨this.1, this.2.1, this.2.2.1, this.2.2.2.1, this.2.2.2.2.1, by omega⟩
    · exact ⟨fun h => by have := f.dk.there j h; omega, fun h => by have := (f.s j h).2.2; omega, by omega, by omega, by omega, hj.2⟩

theorem FSt.see (s : FSt w0 w g gw gf m t dn R) (k : Below w.heap.size w w') : FSt w0 w' g gw gf m t dn R := (s.below k).less fun _ h => .inl h

/-- A block of R turns. -/
theorem FSt.ref (s : FSt w0 w g gw gf m t dn R) {gr : Nat} (hr : R gr) (k : Chg (fun b => b = gr) w w') : FSt w0 w' g gw gf m t dn (fun b => R b ∨ (w.heap.size ≤ b ∧ b < w'.heap.size)) := by
  obtain ⟨T, S, mb, f⟩ := s
  have hk := k.size
  have hu := f.under.size
  obtain ⟨h1, h2, h3, h4, h5, h6⟩ := f.r gr hr
  have hgl := f.at_.lt
  have hml : mb < w.heap.size := by
    obtain ⟨vs, ht, hl⟩ := f.tab
    exact ht.lt
  refine ⟨T, S, mb, ⟨f.dk.chg k (fun b hb e => h1 (e ▸ hb)), f.new, f.under.trans (k.below hu fun b e => by subst e; exact h5), f.wal.next (k.mono fun b _ e => .inr (.inr (e ▸ hr))) fun j hj => ?_, Blk.chg f.at_ k (Ne.symm h3), f.tab.chg k (Ne.symm h4) (fun b hb e => h2 (e ▸ hb)), fun j hj => ?_, f.mT, f.fT, f.mf, f.f0, fun j hj => ?_⟩⟩
  · rcases hj with hj | hj | hj | hj
    · exact .inl (.inl hj)
    · exact .inl (.inr (.inl hj))
    · exact .inl (.inr (.inr hj))
    · exact .inr hj.1
  · have := f.s j hj
    exact ⟨this.1, this.2.1, by omega⟩
  · rcases hj with hj | hj
    · have := f.r j hj
      exact ⟨this.1, this.2.1, this.2.2.1, this.2.2.2.1, this.2.2.2.2.1, by omega⟩
    · exact ⟨fun h => by have := f.dk.there j h; omega, fun h => by have := (f.s j h).2.2; omega, by omega, by omega, by omega, hj.2⟩

theorem DSt.below (s : DSt w0 w g m R) (k : Below w.heap.size w w') : DSt w0 w' g m R := by
  obtain ⟨T, d, n, u, r⟩ := s
  have hk := k.size
  exact ⟨T, d.below k, n, u.trans (k.mono u.size), fun j hj => ⟨(r j hj).1, (r j hj).2.1, by have := (r j hj).2.2; omega⟩⟩

theorem FSt.disk (s : FSt w0 w g gw gf m t dn R) : DSt w0 w g m R := by
  obtain ⟨T, S, mb, f⟩ := s
  exact ⟨T, f.dk, f.new, f.under, fun k hk => ⟨(f.r k hk).1, (f.r k hk).2.2.2.2⟩⟩

theorem dst_new (n : Int) (hn : -9223372036854775808 ≤ n ∧ n < 9223372036854775808) (b : Below w0.heap.size w0 w) (hr : ∀ k, R k → w0.heap.size ≤ k ∧ k < w.heap.size) :
    Calls Tryz.prog 8 #[.int .i64 n] w fun e w' => ∃ g, e = .returned (.pointer (some ⟨g, 0, none⟩)) ∧ DSt w0 w' g (M.dnew n.toNat) R ∧ Below w.heap.size w w' := by
  refine (codeDk_new n hn w).mono ?_
  rintro e w' ⟨g, T, he, d, t, k⟩
  have hk := k.size
  exact ⟨g, he, ⟨T, d, fun j h => Nat.le_trans b.size (t j h), b.trans (k.mono b.size), fun j hj => ⟨fun h => by have := t j h; have := hr j hj; omega, (hr j hj).1, by have := hr j hj; omega⟩⟩, k⟩

end

section
variable {w0 w : World} {g gw gf k : Nat} {s : List (List UInt8)} {t : M.Tab} {dn : Bool} {R : Nat → Prop}

theorem FsL.flies {T S : Nat → Prop} {mb : Nat} (f : FsL w0 w g gw gf (M.lit s k) t dn R T S mb) (on : M.On s t) : ∃ vs, FLies T w gf gw g mb (M.nbS s) (M.lit s k) dn t vs ∧ ∀ i, i < t.length → Lies S (vs.getD i undef) := by
  obtain ⟨vs, ht, hl⟩ := f.tab
  have hb := on.big
  exact ⟨vs, ⟨f.dk, f.wal.now, f.at_, ht, on.ok, by show (M.nbS s : Int) = min ((s.length : Int) - 42 - 32) 2048; unfold M.nbS; omega⟩, hl⟩

theorem FSt.names (f : FSt w0 w g gw gf (M.lit s k) t dn R) (on : M.On s t) :
    Calls Tryz.prog 18 #[.pointer (some ⟨gf, 0, none⟩)] w fun e w' => ∃ v, e = .returned v ∧ OwnS w' w.heap.size v (t.map M.Pl.nm) ∧ Below w.heap.size w w' := by
  obtain ⟨T, S, mb, f⟩ := f
  obtain ⟨vs, h, _⟩ := f.flies on
  exact fnames2_any h.at_ h.tab (by have := on.ok.few; omega)

theorem FSt.free (f : FSt w0 w g gw gf (M.lit s k) t dn R) (on : M.On s t) :
    Calls Tryz.prog 56 #[.pointer (some ⟨gf, 0, none⟩)] w fun e w' => e = .returned (.int .i64 ((M.free (M.nbS s) t).length : Int)) ∧ Below w.heap.size w w' := by
  obtain ⟨T, S, mb, f⟩ := f
  obtain ⟨vs, h, _⟩ := f.flies on
  exact ffree_any h

theorem FSt.read (f : FSt w0 w g gw gf (M.lit s k) t dn R) (on : M.On s t) (i : Nat) (hi : i < t.length) :
    Calls Tryz.prog 45 #[.pointer (some ⟨gf, 0, none⟩), .string ⟨(t.getD i default).nm.toArray⟩] w fun e w' =>
      ∃ r, e = .returned (.tuple #[r, .int .i64 0]) ∧ Own w' w.heap.size r (M.datB s (t.getD i default)) ∧ Below w.heap.size w w' := by
  obtain ⟨T, S, mb, f⟩ := f
  obtain ⟨vs, h, _⟩ := f.flies on
  exact fread_yes h (by show 0 < 1000000; decide) i hi

theorem FSt.read_no (f : FSt w0 w g gw gf (M.lit s k) t dn R) (on : M.On s t) (nm : List UInt8) (hk : nm.length ≤ maxLen) (hno : M.has t nm = false) :
    Calls Tryz.prog 45 #[.pointer (some ⟨gf, 0, none⟩), .string ⟨nm.toArray⟩] w fun e w' => e = .returned (.tuple #[.slice none 0 0, .int .i64 4]) ∧ Below w.heap.size w w' := by
  obtain ⟨T, S, mb, f⟩ := f
  obtain ⟨vs, h, _⟩ := f.flies on
  exact fread_no h.at_ h.tab nm hk hno

theorem FSt.commit_down {m : M.Dsk} (f : FSt w0 w g gw gf m t true R) (lv : Value) :
    Calls Tryz.prog 9 #[.pointer (some ⟨gf, 0, none⟩), lv] w fun e w' => e = .returned (.int .i64 11) ∧ w' = w := by
  obtain ⟨T, S, mb, f⟩ := f
  exact fcommit_down f.at_ lv

theorem FSt.commit_no (f : FSt w0 w g gw gf (M.lit s k) t false R) (on : M.On s t) (lv : Value) (l : M.FL) (xs : List Value) (hl : IsFL w lv l xs) (hlen : l.length ≤ 10000) (hd : ∀ c ∈ l, c.data.length ≤ 1099511627776) (h0 : M.fmay (M.nbS s) t l ≠ 0) :
    Calls Tryz.prog 9 #[.pointer (some ⟨gf, 0, none⟩), lv] w fun e w' => e = .returned (.int .i64 (M.fmay (M.nbS s) t l)) ∧ Below w.heap.size w w' := by
  obtain ⟨T, S, mb, f⟩ := f
  obtain ⟨vs, h, _⟩ := f.flies on
  exact fcommit_no h lv l xs hl hlen hd _ rfl h0

/-- The state behind a call that has turned the disk and the box. -/
theorem FsL.after {w' : World} {m m' : M.Dsk} {T S T' S' : Nat → Prop} {mb b : Nat} {dn dn' : Bool} {t' : M.Tab} (f : FsL w0 w g gw gf m t dn R T S mb) (c : Chg (fun k => T k ∨ k = gf) w w') (d' : CodeDk T' w' g m') (ht : ∀ k, T' k → T k ∨ w.heap.size ≤ k)
    (ha : FilesAt w' gf gw b dn') (htab : TabIn S' w' b t') (hb : ¬ T' b) (hbf : b ≠ gf) (hbR : ∀ k, R k → k ≠ b) (hS : ∀ k, S' k → ¬ T' k ∧ k ≠ gf ∧ k < w'.heap.size) (hSR : ∀ k, R k → ¬ S' k) :
    FSt w0 w' g gw gf m' t' dn' R ∧ Far w0 R w w' := by
  have hk := c.size
  have hu := f.under.size
  have hgl := f.at_.lt
  refine ⟨⟨T', S', b, ⟨d', fun j h => ?_, f.under.trans (c.below hu fun j hj => ?_), f.wal.next (c.mono fun j _ h => h.imp_right .inl) fun j hj => ?_, ha, htab, hS, hb, fun h => ?_, hbf, f.f0, fun j hj => ?_⟩⟩, c.mono fun j _ h => ?_⟩
  · rcases ht j h with h | h
    · exact f.new j h
    · omega
  · rcases hj with hj | hj
    · exact f.new j hj
    · rw [hj]; exact f.f0
  · rcases hj with hj | hj
    · exact (ht j hj).imp_left .inl
    · exact .inl (.inr hj)
  · rcases ht gf h with h | h
    · exact f.fT h
    · omega
  · have h3 := f.r j hj
    refine ⟨fun h => ?_, hSR j hj, h3.2.2.1, hbR j hj, h3.2.2.2.2.1, by omega⟩
    rcases ht j h with h | h
    · exact h3.1 h
    · omega
  · rcases h with h | h
    · exact ⟨fun hr => (f.r j hr).1 h, f.new j h⟩
    · exact ⟨fun hr => (f.r j hr).2.2.1 h, by rw [h]; exact f.f0⟩

theorem FsL.commit_is {w' : World} {m : M.Dsk} {T S : Nat → Prop} {mb : Nat} {t' : M.Tab} {P : M.Dsk × Int} {e : Ending} (f : FsL w0 w g gw gf m t false R T S mb) (h : CommitIs T S w gf gw g mb t' P e w') :
    e = .returned (.int .i64 P.2) ∧ Far w0 R w w' ∧ ((P.2 = 0 ∧ FSt w0 w' g gw gf P.1 t' false R) ∨ (P.2 ≠ 0 ∧ FSt w0 w' g gw gf P.1 t true R)) := by
  obtain ⟨he, c, T', d', ht, hh⟩ := h
  have hk := c.size
  have hgl := f.at_.lt
  have hml : mb < w.heap.size := by
    obtain ⟨vs, ht, hl⟩ := f.tab
    exact ht.lt
  rcases hh with ⟨h0, b, S', hb, ha, htab, hbT, hS'⟩ | ⟨h0, ha⟩
  · have := f.after c d' ht ha htab hbT (by omega) (fun j hj => by have := (f.r j hj).2.2.2.2.2; omega) (fun j hj => ⟨(hS' j hj).2.1, fun e => by
      rcases (hS' j hj).1 with h | h
      · exact (f.s j h).2.1 e
      · omega, (hS' j hj).2.2⟩) (fun j hj h => by
      have h3 := f.r j hj
      rcases (hS' j h).1 with h | h
      · exact h3.2.1 h
      · omega)
    exact ⟨he, this.2, .inl ⟨h0, this.1⟩⟩
  · have hmT : ¬ T' mb := fun h => by
      rcases ht mb h with h | h
      · exact f.mT h
      · omega
    have htab : TabIn S w' mb t := f.tab.chg c (fun h => by
      rcases h with h | h
      · exact f.mT h
      · exact f.mf h) fun j hj h => by
      rcases h with h | h
      · exact (f.s j hj).1 h
      · exact (f.s j hj).2.1 h
    have := f.after c d' ht ha htab hmT f.mf (fun j hj => (f.r j hj).2.2.2.1) (fun j hj => ⟨fun h => by
      have h3 := f.s j hj
      rcases ht j h with h | h
      · exact h3.1 h
      · omega, (f.s j hj).2.1, by have := (f.s j hj).2.2; omega⟩) fun j hj => (f.r j hj).2.1
    exact ⟨he, this.2, .inr ⟨h0, this.1⟩⟩

/-- A commit that may be done. -/
theorem FSt.commit_yes (f : FSt w0 w g gw gf (M.lit s k) t false R) (hL : Laid w0) (on : M.On s t) (lv : Value) (l : M.FL) (xs : List Value) (hl : Keeps (fun j => ¬ R j ∧ w0.heap.size ≤ j) w (fun x => IsFL x lv l xs)) (hlen : l.length ≤ 10000) (hd : ∀ c ∈ l, c.data.length ≤ 1099511627776) (h0 : M.fmay (M.nbS s) t l = 0) :
    Calls Tryz.prog 9 #[.pointer (some ⟨gf, 0, none⟩), lv] w fun e w' =>
      e = .returned (.int .i64 (M.putP (M.chgN (M.free (M.nbS s) t) t l).1 l (M.lit s k)).2) ∧ Far w0 R w w' ∧
        (((M.putP (M.chgN (M.free (M.nbS s) t) t l).1 l (M.lit s k)).2 = 0 ∧ FSt w0 w' g gw gf (M.putP (M.chgN (M.free (M.nbS s) t) t l).1 l (M.lit s k)).1 (M.chgN (M.free (M.nbS s) t) t l).1 false R) ∨
         ((M.putP (M.chgN (M.free (M.nbS s) t) t l).1 l (M.lit s k)).2 ≠ 0 ∧ FSt w0 w' g gw gf (M.putP (M.chgN (M.free (M.nbS s) t) t l).1 l (M.lit s k)).1 t true R)) := by
  obtain ⟨T, S, mb, f⟩ := f
  obtain ⟨vs, h, hS⟩ := f.flies on
  have hT : ∀ j, T j → ¬ R j ∧ w0.heap.size ≤ j := fun j hj => ⟨fun hr => (f.r j hr).1 hj, f.new j hj⟩
  have hcnt := M.putWs_count on.ok h0
  have hnb : M.nbS s ≤ 2048 := Nat.min_le_right _ _
  refine (fcommit_yes (S := S) h lv l xs (fun x c => ⟨Blk.chg f.at_ c f.fT, f.wal x (c.mono fun j _ h => .inl h), hl x (c.mono fun j _ hj => hT j hj), wal_calls.ld hL (f.under.trans (c.below f.under.size f.new))⟩) hS (fun j hj => (f.s j hj).1) (fun j hj => (f.s j hj).2.2) f.fT (fun h => (f.s gf h).2.1 rfl) on.big hlen hd h0 (by show 0 + _ < 90000; omega)).mono ?_
  intro e w' hc
  exact f.commit_is hc

end

end Go.Proofs.YtphcbpfpelonaaaGreatDoor

namespace Go.Proofs.YtphcbpfpelonaaaGreatDoor
open Go.RowKit
set_option linter.unusedVariables false
set_option maxRecDepth 100000

theorem before_front : ∀ (p a b : List UInt8), bytesBefore (p ++ a) (p ++ b) = bytesBefore a b
  | [], a, b => rfl
  | x :: p, a, b => by
    rw [List.cons_append, List.cons_append, bytesBefore, before_front p a b]
    simp

theorem before_at {a b : List UInt8} {k : Nat} (h : a.take k = b.take k) : bytesBefore a b = bytesBefore (a.drop k) (b.drop k) := by
  have := before_front (a.take k) (a.drop k) (b.drop k)
  rw [List.take_append_drop] at this
  rw [← this, h, List.take_append_drop]

theorem before_ne {a b : List UInt8} {k : Nat} (h : a.take k = b.take k) (ha : k < a.length) (hb : k < b.length) (hne : a.getD k 0 ≠ b.getD k 0) : bytesBefore a b = decide (a.getD k 0 < b.getD k 0) := by
  rw [before_at h, List.drop_eq_getElem_cons ha, List.drop_eq_getElem_cons hb, bytesBefore]
  rw [List.getD_eq_getElem?_getD, List.getD_eq_getElem?_getD, List.getElem?_eq_getElem ha, List.getElem?_eq_getElem hb] at hne ⊢
  simp only [Option.getD_some] at hne ⊢
  simp [hne]

theorem before_end {a b : List UInt8} {k : Nat} (h : a.take k = b.take k) (hk : ¬ (k < a.length ∧ k < b.length)) (ha : k ≤ a.length) (hb : k ≤ b.length) : bytesBefore a b = decide (a.length < b.length) := by
  rw [before_at h]
  by_cases h1 : k = a.length
  · rw [h1, List.drop_length]
    by_cases h2 : a.length < b.length
    · rw [List.drop_eq_getElem_cons h2, decide_eq_true h2]
      rfl
    · rw [List.drop_eq_nil_of_le (by omega), decide_eq_false h2]
      rfl
  · rw [show b.drop k = [] from List.drop_eq_nil_of_le (by omega), decide_eq_false (by omega)]
    cases a.drop k <;> rfl

theorem size_list (l : List UInt8) : (⟨l.toArray⟩ : ByteArray).size = l.length := rfl

theorem index_list (l : List UInt8) (k : Nat) (h : k < l.length) (W : World) : (Instr.index 9 (.string ⟨l.toArray⟩) (.int .i64 (k : Int))).run Tryz.prog W = .ok (.int .u8 ((l.getD k 0).toNat : Int)) W := by
  have hs : (⟨l.toArray⟩ : ByteArray).size = l.length := rfl
  rw [run_index_string W 9 ⟨l.toArray⟩ .i64 (k : Int) Tryz.underlying9, dif_pos ⟨by omega, by rw [hs]; omega⟩]
  congr 3
  have e : (l.getD k 0) = l[k] := by rw [List.getD_eq_getElem?_getD, List.getElem?_eq_getElem h]; rfl
  rw [e]
  rfl

theorem u8_ne (x y : UInt8) : (((x.toNat : Nat) : Int) != ((y.toNat : Nat) : Int)) = !decide (x = y) := by
  by_cases h : x = y
  · subst h; simp
  · have : ¬ ((x.toNat : Nat) : Int) = ((y.toNat : Nat) : Int) := fun e => h (UInt8.toNat_inj.1 (by omega))
    rw [decide_eq_false h]
    simpa using this

end Go.Proofs.YtphcbpfpelonaaaGreatDoor
