/-
  FILES ON A DISK AS THEY LIE IN A LAW'S MEMORY (FSt), the disk alone (DSt), blocks that no call of theirs turns (R); each call of package file in these words. Conditions: the two tables of package sha lie as laid.
  CONTRACTS OF orlopref11.Need, Less, At, Free. Conditions: the files lie so.
-/
import Derived.Test.YtgmhfianpdhnmaaGreatDoorPf29
import Derived.Test.YtgmhfianpdhnmaaGreatDoorFsMem
import Derived.Test.YtgmhfianpdhnmaaGreatDoorFileH

namespace Go.Proofs.YtgmhfianpdhnmaaGreatDoor
open Go.RowKit Go.Maps
set_option linter.unusedVariables false
set_option maxRecDepth 100000

/-- A disk in memory of its own since w0; blocks of R are none of its. -/
def DSt (w0 w : World) (g : Nat) (m : M.Dsk) (R : Nat → Prop) : Prop := ∃ T, CodeDk T w g m ∧ (∀ k, T k → w0.heap.size ≤ k) ∧ Below w0.heap.size w0 w ∧ ∀ k, R k → ¬ T k ∧ w0.heap.size ≤ k ∧ k < w.heap.size

/-- Files: the disk's blocks T, the lists' blocks S, the table's mb. -/
structure FsL (w0 w : World) (g gw gf : Nat) (m : M.Dsk) (t : M.Tab) (dn : Bool) (R T S : Nat → Prop) (mb : Nat) : Prop where
  dk : CodeDk T w g m
  new : ∀ k, T k → w0.heap.size ≤ k
  under : Below w0.heap.size w0 w
  wal : Keeps (fun k => T k ∨ k = gf ∨ R k) w (fun x => WalIs x gw g)
  at_ : FilesAt w gf gw mb dn
  tab : TabIn S w mb t
  s : ∀ k, S k → ¬ T k ∧ k ≠ gf ∧ k < w.heap.size
  mT : ¬ T mb
  fT : ¬ T gf
  mf : mb ≠ gf
  f0 : w0.heap.size ≤ gf
  r : ∀ k, R k → ¬ T k ∧ ¬ S k ∧ k ≠ gf ∧ k ≠ mb ∧ w0.heap.size ≤ k ∧ k < w.heap.size

def FSt (w0 w : World) (g gw gf : Nat) (m : M.Dsk) (t : M.Tab) (dn : Bool) (R : Nat → Prop) : Prop := ∃ T S mb, FsL w0 w g gw gf m t dn R T S mb

/-- What a call of the code may turn. -/
def Far (w0 : World) (R : Nat → Prop) (w w' : World) : Prop := Chg (fun k => ¬ R k ∧ w0.heap.size ≤ k) w w'

theorem Far.below {w0 w w' : World} {R : Nat → Prop} (h : Far w0 R w w') (k : w0.heap.size ≤ w.heap.size) : Below w0.heap.size w w' := Chg.below h k fun _ h => h.2
theorem Far.of_below {w0 w w' : World} {R : Nat → Prop} (h : Below w.heap.size w w') : Far w0 R w w' := Chg.of_below h
theorem Far.trans {w0 w w1 w' : World} {R : Nat → Prop} (h : Far w0 R w w1) (k : Far w0 R w1 w') : Far w0 R w w' := Chg.trans h k fun _ _ h => h

/-- What lies in R lasts. -/
theorem Far.fs {w0 w w' : World} {R S : Nat → Prop} (h : Far w0 R w w') {v : Value} {F : M.Fs} {xs : List Value} (i : IsFs S w v F xs) (hs : ∀ k, S k → R k) : IsFs S w' v F xs := i.chg h fun k hk e => e.1 (hs k hk)
theorem Far.blk {w0 w w' : World} {R : Nat → Prop} (h : Far w0 R w w') {g : Nat} {t : TypeId} {cs : List Value} (b : Blk w g t cs) (hg : R g) : Blk w' g t cs := b.chg h fun e => e.1 hg

section
variable {w0 w w' : World} {g gw gf : Nat} {m : M.Dsk} {t : M.Tab} {dn : Bool} {R R' : Nat → Prop}

theorem FSt.under (s : FSt w0 w g gw gf m t dn R) : Below w0.heap.size w0 w := by
  obtain ⟨T, S, mb, h⟩ := s
  exact h.under

theorem DSt.under (s : DSt w0 w g m R) : Below w0.heap.size w0 w := by
  obtain ⟨T, _, _, h, _⟩ := s
  exact h

theorem FSt.okay (s : FSt w0 w g gw gf m t dn R) : m.Ok := by
  obtain ⟨T, S, mb, h⟩ := s
  exact h.dk.ok

theorem FSt.rlt (s : FSt w0 w g gw gf m t dn R) : ∀ k, R k → w0.heap.size ≤ k ∧ k < w.heap.size := by
  obtain ⟨T, S, mb, h⟩ := s
  exact fun k hk => (h.r k hk).2.2.2.2

theorem FSt.less (s : FSt w0 w g gw gf m t dn R) (h : ∀ k, R' k → R k) : FSt w0 w g gw gf m t dn R' := by
  obtain ⟨T, S, mb, f⟩ := s
  exact ⟨T, S, mb, { f with wal := fun x c => f.wal x (c.mono fun k _ hk => hk.imp_right fun hk => hk.imp_right (h k)), r := fun k hk => f.r k (h k hk) }⟩

/-- What is new may be none of theirs. -/
theorem FSt.below (s : FSt w0 w g gw gf m t dn R) (k : Below w.heap.size w w') : FSt w0 w' g gw gf m t dn (fun b => R b ∨ (w.heap.size ≤ b ∧ b < w'.heap.size)) := by
  obtain ⟨T, S, mb, f⟩ := s
  have hk := k.size
  have hu := f.under.size
  obtain ⟨vs, ht, hl⟩ := f.tab
  have hgl := f.at_.lt
  have hml := ht.lt
  refine ⟨T, S, mb, ⟨f.dk.below k, f.new, f.under.trans (k.mono hu), f.wal.next (Chg.of_below k) fun j hj => ?_, f.at_.below k, ⟨vs, ht.below k, hl⟩, fun j hj => ?_, f.mT, f.fT, f.mf, f.f0, fun j hj => ?_⟩⟩
  · rcases hj with hj | hj | hj | hj
    · exact .inl (.inl hj)
    · exact .inl (.inr (.inl hj))
    · exact .inl (.inr (.inr hj))
    · exact .inr hj.1
  · have := f.s j hj
    exact ⟨this.1, this.2.1, by omega⟩
  · rcases hj with hj | hj
    · have := f.r j hj
      exact ⟨this.1, this.2.1, this.2.2.1, this.2.2.2.1, this.2.2.2.2.1, by omega⟩
    · exact ⟨fun h => by have := f.dk.there j h; omega, fun h => by have := (f.s j h).2.2; omega, by omega, by omega, by omega, hj.2⟩

theorem FSt.see (s : FSt w0 w g gw gf m t dn R) (k : Below w.heap.size w w') : FSt w0 w' g gw gf m t dn R := (s.below k).less fun _ h => .inl h

/-- A block of R turns. -/
theorem FSt.ref (s : FSt w0 w g gw gf m t dn R) {gr : Nat} (hr : R gr) (k : Chg (fun b => b = gr) w w') : FSt w0 w' g gw gf m t dn (fun b => R b ∨ (w.heap.size ≤ b ∧ b < w'.heap.size)) := by
  obtain ⟨T, S, mb, f⟩ := s
  have hk := k.size
  have hu := f.under.size
  obtain ⟨h1, h2, h3, h4, h5, h6⟩ := f.r gr hr
  have hgl := f.at_.lt
  have hml : mb < w.heap.size := by
    obtain ⟨vs, ht, hl⟩ := f.tab
    exact ht.lt
  refine ⟨T, S, mb, ⟨f.dk.chg k (fun b hb e => h1 (e ▸ hb)), f.new, f.under.trans (k.below hu fun b e => by subst e; exact h5), f.wal.next (k.mono fun b _ e => .inr (.inr (e ▸ hr))) fun j hj => ?_, Blk.chg f.at_ k (Ne.symm h3), f.tab.chg k (Ne.symm h4) (fun b hb e => h2 (e ▸ hb)), fun j hj => ?_, f.mT, f.fT, f.mf, f.f0, fun j hj => ?_⟩⟩
  · rcases hj with hj | hj | hj | hj
    · exact .inl (.inl hj)
    · exact .inl (.inr (.inl hj))
    · exact .inl (.inr (.inr hj))
    · exact .inr hj.1
  · have := f.s j hj
    exact ⟨this.1, this.2.1, by omega⟩
  · rcases hj with hj | hj
    · have := f.r j hj
      exact ⟨this.1, this.2.1, this.2.2.1, this.2.2.2.1, this.2.2.2.2.1, by omega⟩
    · exact ⟨fun h => by have := f.dk.there j h; omega, fun h => by have := (f.s j h).2.2; omega, by omega, by omega, by omega, hj.2⟩

theorem DSt.below (s : DSt w0 w g m R) (k : Below w.heap.size w w') : DSt w0 w' g m R := by
  obtain ⟨T, d, n, u, r⟩ := s
  have hk := k.size
  exact ⟨T, d.below k, n, u.trans (k.mono u.size), fun j hj => ⟨(r j hj).1, (r j hj).2.1, by have := (r j hj).2.2; omega⟩⟩

theorem FSt.disk (s : FSt w0 w g gw gf m t dn R) : DSt w0 w g m R := by
  obtain ⟨T, S, mb, f⟩ := s
  exact ⟨T, f.dk, f.new, f.under, fun k hk => ⟨(f.r k hk).1, (f.r k hk).2.2.2.2⟩⟩

/-- Arm. -/
theorem FSt.arm (s : FSt w0 w g gw gf m t dn R) (n : Int) (hn : -9223372036854775808 ≤ n ∧ n < 9223372036854775808) :
    Calls Tryz.prog 19 #[.pointer (some ⟨g, 0, none⟩), .int .i64 n] w fun e w' => e = .returned (.tuple #[]) ∧ FSt w0 w' g gw gf (m.arm n) t dn R ∧ Far w0 R w w' := by
  obtain ⟨T, S, mb, f⟩ := s
  refine (codeDk_arm f.dk n hn).mono ?_
  rintro e w' ⟨he, c, T', d', ht⟩
  have hk := c.size
  have hu := f.under.size
  have hgl := f.at_.lt
  have hml : mb < w.heap.size := by
    obtain ⟨vs, ht, hl⟩ := f.tab
    exact ht.lt
  refine ⟨he, ⟨T', S, mb, ⟨d', fun k h => ?_, f.under.trans (c.below hu f.new), f.wal.next (c.mono fun b _ h => .inl h) fun j hj => ?_, Blk.chg f.at_ c f.fT, f.tab.chg c f.mT (fun b hb => (f.s b hb).1), fun j hj => ?_, fun h => ?_, fun h => ?_, f.mf, f.f0, fun j hj => ?_⟩⟩, c.mono fun k _ h => ⟨fun hr => (f.r k hr).1 h, f.new k h⟩⟩
  · rcases ht k h with h | h
    · exact f.new k h
    · omega
  · rcases hj with hj | hj
    · exact (ht j hj).imp_left .inl
    · exact .inl (.inr hj)
  · have h3 := f.s j hj
    refine ⟨fun h => ?_, h3.2.1, by omega⟩
    rcases ht j h with h | h
    · exact h3.1 h
    · omega
  · rcases ht mb h with h | h
    · exact f.mT h
    · omega
  · rcases ht gf h with h | h
    · exact f.fT h
    · omega
  · have h3 := f.r j hj
    refine ⟨fun h => ?_, h3.2.1, h3.2.2.1, h3.2.2.2.1, h3.2.2.2.2.1, by omega⟩
    rcases ht j h with h | h
    · exact h3.1 h
    · omega

/-- Crash. -/
theorem DSt.crash (s : DSt w0 w g m R) (kv : Value) (kp : List Bool) (hk : IsZ w0 kv kp) :
    Calls Tryz.prog 17 #[.pointer (some ⟨g, 0, none⟩), kv] w fun e w' => e = .returned (.tuple #[]) ∧ DSt w0 w' g (m.crash kp) R ∧ Far w0 R w w' := by
  obtain ⟨T, d, n, u, r⟩ := s
  refine (codeDk_crash d kv kp (hk.below u) (out_z hk n)).mono ?_
  rintro e w' ⟨he, c, T', d', ht⟩
  have hu := u.size
  have hc := c.size
  refine ⟨he, ⟨T', d', fun k h => ?_, u.trans (c.below hu n), fun j hj => ?_⟩, c.mono fun k _ h => ⟨fun hr => (r k hr).1 h, n k h⟩⟩
  · rcases ht k h with h | h
    · exact n k h
    · omega
  · have h3 := r j hj
    refine ⟨fun h => ?_, h3.2.1, by omega⟩
    rcases ht j h with h | h
    · exact h3.1 h
    · omega

theorem dst_new (n : Int) (hn : -9223372036854775808 ≤ n ∧ n < 9223372036854775808) (b : Below w0.heap.size w0 w) (hr : ∀ k, R k → w0.heap.size ≤ k ∧ k < w.heap.size) :
    Calls Tryz.prog 10 #[.int .i64 n] w fun e w' => ∃ g, e = .returned (.pointer (some ⟨g, 0, none⟩)) ∧ DSt w0 w' g (M.dnew n.toNat) R ∧ Below w.heap.size w w' := by
  refine (codeDk_new n hn w).mono ?_
  rintro e w' ⟨g, T, he, d, t, k⟩
  have hk := k.size
  exact ⟨g, he, ⟨T, d, fun j h => Nat.le_trans b.size (t j h), b.trans (k.mono b.size), fun j hj => ⟨fun h => by have := t j h; have := hr j hj; omega, (hr j hj).1, by have := hr j hj; omega⟩⟩, k⟩

theorem dst_load {bv : Value} {bs : List UInt8} (hb : IsB w bv bs) (h1 : bs.length % 256 = 0) (h2 : bs.length ≤ 557056) (b : Below w0.heap.size w0 w) (hr : ∀ k, R k → w0.heap.size ≤ k ∧ k < w.heap.size) :
    Calls Tryz.prog 26 #[bv] w fun e w' => ∃ g, e = .returned (.tuple #[.pointer (some ⟨g, 0, none⟩), .int .i64 0]) ∧ DSt w0 w' g (M.dload bs) R ∧ Below w.heap.size w w' := by
  refine (codeDk_load hb h1 h2).mono ?_
  rintro e w' ⟨g, T, he, d, t, k⟩
  have hk := k.size
  exact ⟨g, he, ⟨T, d, fun j h => Nat.le_trans b.size (t j h), b.trans (k.mono b.size), fun j hj => ⟨fun h => by have := t j h; have := hr j hj; omega, (hr j hj).1, by have := hr j hj; omega⟩⟩, k⟩

end

section
variable {w0 w : World} {g gw gf k : Nat} {s : List (List UInt8)} {t : M.Tab} {dn : Bool} {R : Nat → Prop}

theorem FsL.flies {T S : Nat → Prop} {mb : Nat} (f : FsL w0 w g gw gf (M.lit s k) t dn R T S mb) (on : M.On s t) : ∃ vs, FLies T w gf gw g mb (M.nbS s) (M.lit s k) dn t vs ∧ ∀ i, i < t.length → Lies S (vs.getD i undef) := by
  obtain ⟨vs, ht, hl⟩ := f.tab
  have hb := on.big
  exact ⟨vs, ⟨f.dk, f.wal.now, f.at_, ht, on.ok, by show (M.nbS s : Int) = min ((s.length : Int) - 42 - 32) 2048; unfold M.nbS; omega⟩, hl⟩

theorem FSt.names (f : FSt w0 w g gw gf (M.lit s k) t dn R) (on : M.On s t) :
    Calls Tryz.prog 31 #[.pointer (some ⟨gf, 0, none⟩)] w fun e w' => ∃ v, e = .returned v ∧ OwnS w' w.heap.size v (t.map M.Pl.nm) ∧ Below w.heap.size w w' := by
  obtain ⟨T, S, mb, f⟩ := f
  obtain ⟨vs, h, _⟩ := f.flies on
  exact fnames2_any h.at_ h.tab (by have := on.ok.few; omega)

theorem FSt.free (f : FSt w0 w g gw gf (M.lit s k) t dn R) (on : M.On s t) :
    Calls Tryz.prog 29 #[.pointer (some ⟨gf, 0, none⟩)] w fun e w' => e = .returned (.int .i64 ((M.free (M.nbS s) t).length : Int)) ∧ Below w.heap.size w w' := by
  obtain ⟨T, S, mb, f⟩ := f
  obtain ⟨vs, h, _⟩ := f.flies on
  exact ffree_any h

theorem FSt.read (f : FSt w0 w g gw gf (M.lit s k) t dn R) (on : M.On s t) (i : Nat) (hi : i < t.length) :
    Calls Tryz.prog 32 #[.pointer (some ⟨gf, 0, none⟩), .string ⟨(t.getD i default).nm.toArray⟩] w fun e w' =>
      ∃ r, e = .returned (.tuple #[r, .int .i64 0]) ∧ Own w' w.heap.size r (M.datB s (t.getD i default)) ∧ Below w.heap.size w w' := by
  obtain ⟨T, S, mb, f⟩ := f
  obtain ⟨vs, h, _⟩ := f.flies on
  exact fread_yes h (by show 0 < 1000000; decide) i hi

theorem FSt.read_no (f : FSt w0 w g gw gf (M.lit s k) t dn R) (on : M.On s t) (nm : List UInt8) (hk : nm.length ≤ maxLen) (hno : M.has t nm = false) :
    Calls Tryz.prog 32 #[.pointer (some ⟨gf, 0, none⟩), .string ⟨nm.toArray⟩] w fun e w' => e = .returned (.tuple #[.slice none 0 0, .int .i64 4]) ∧ Below w.heap.size w w' := by
  obtain ⟨T, S, mb, f⟩ := f
  obtain ⟨vs, h, _⟩ := f.flies on
  exact fread_no h.at_ h.tab nm hk hno

theorem FSt.commit_down {m : M.Dsk} (f : FSt w0 w g gw gf m t true R) (lv : Value) :
    Calls Tryz.prog 13 #[.pointer (some ⟨gf, 0, none⟩), lv] w fun e w' => e = .returned (.int .i64 11) ∧ w' = w := by
  obtain ⟨T, S, mb, f⟩ := f
  exact fcommit_down f.at_ lv

theorem FSt.erase_down {m : M.Dsk} (f : FSt w0 w g gw gf m t true R) (lv : Value) :
    Calls Tryz.prog 15 #[.pointer (some ⟨gf, 0, none⟩), lv] w fun e w' => e = .returned (.int .i64 11) ∧ w' = w := by
  obtain ⟨T, S, mb, f⟩ := f
  exact ferase_down f.at_ lv

theorem FSt.commit_no (f : FSt w0 w g gw gf (M.lit s k) t false R) (on : M.On s t) (lv : Value) (l : M.FL) (xs : List Value) (hl : IsFL w lv l xs) (hlen : l.length ≤ 10000) (hd : ∀ c ∈ l, c.data.length ≤ 1099511627776) (h0 : M.fmay (M.nbS s) t l ≠ 0) :
    Calls Tryz.prog 13 #[.pointer (some ⟨gf, 0, none⟩), lv] w fun e w' => e = .returned (.int .i64 (M.fmay (M.nbS s) t l)) ∧ Below w.heap.size w w' := by
  obtain ⟨T, S, mb, f⟩ := f
  obtain ⟨vs, h, _⟩ := f.flies on
  exact fcommit_no h lv l xs hl hlen hd _ rfl h0

theorem FSt.erase_no (f : FSt w0 w g gw gf (M.lit s k) t false R) (on : M.On s t) (nm : List UInt8) (hk : nm.length ≤ maxLen) (hno : M.has t nm = false) :
    Calls Tryz.prog 15 #[.pointer (some ⟨gf, 0, none⟩), .string ⟨nm.toArray⟩] w fun e w' => e = .returned (.int .i64 4) ∧ Below w.heap.size w w' := by
  obtain ⟨T, S, mb, f⟩ := f
  obtain ⟨vs, h, _⟩ := f.flies on
  exact ferase_no h.at_ h.tab nm hk hno

/-- The state behind a call that has turned the disk and the box. -/
theorem FsL.after {w' : World} {m m' : M.Dsk} {T S T' S' : Nat → Prop} {mb b : Nat} {dn dn' : Bool} {t' : M.Tab} (f : FsL w0 w g gw gf m t dn R T S mb) (c : Chg (fun k => T k ∨ k = gf) w w') (d' : CodeDk T' w' g m') (ht : ∀ k, T' k → T k ∨ w.heap.size ≤ k)
    (ha : FilesAt w' gf gw b dn') (htab : TabIn S' w' b t') (hb : ¬ T' b) (hbf : b ≠ gf) (hbR : ∀ k, R k → k ≠ b) (hS : ∀ k, S' k → ¬ T' k ∧ k ≠ gf ∧ k < w'.heap.size) (hSR : ∀ k, R k → ¬ S' k) :
    FSt w0 w' g gw gf m' t' dn' R ∧ Far w0 R w w' := by
  have hk := c.size
  have hu := f.under.size
  have hgl := f.at_.lt
  refine ⟨⟨T', S', b, ⟨d', fun j h => ?_, f.under.trans (c.below hu fun j hj => ?_), f.wal.next (c.mono fun j _ h => h.imp_right .inl) fun j hj => ?_, ha, htab, hS, hb, fun h => ?_, hbf, f.f0, fun j hj => ?_⟩⟩, c.mono fun j _ h => ?_⟩
  · rcases ht j h with h | h
    · exact f.new j h
    · omega
  · rcases hj with hj | hj
    · exact f.new j hj
    · rw [hj]; exact f.f0
  · rcases hj with hj | hj
    · exact (ht j hj).imp_left .inl
    · exact .inl (.inr hj)
  · rcases ht gf h with h | h
    · exact f.fT h
    · omega
  · have h3 := f.r j hj
    refine ⟨fun h => ?_, hSR j hj, h3.2.2.1, hbR j hj, h3.2.2.2.2.1, by omega⟩
    rcases ht j h with h | h
    · exact h3.1 h
    · omega
  · rcases h with h | h
    · exact ⟨fun hr => (f.r j hr).1 h, f.new j h⟩
    · exact ⟨fun hr => (f.r j hr).2.2.1 h, by rw [h]; exact f.f0⟩

theorem FsL.commit_is {w' : World} {m : M.Dsk} {T S : Nat → Prop} {mb : Nat} {t' : M.Tab} {P : M.Dsk × Int} {e : Ending} (f : FsL w0 w g gw gf m t false R T S mb) (h : CommitIs T S w gf gw g mb t' P e w') :
    e = .returned (.int .i64 P.2) ∧ Far w0 R w w' ∧ ((P.2 = 0 ∧ FSt w0 w' g gw gf P.1 t' false R) ∨ (P.2 ≠ 0 ∧ FSt w0 w' g gw gf P.1 t true R)) := by
  obtain ⟨he, c, T', d', ht, hh⟩ := h
  have hk := c.size
  have hgl := f.at_.lt
  have hml : mb < w.heap.size := by
    obtain ⟨vs, ht, hl⟩ := f.tab
    exact ht.lt
  rcases hh with ⟨h0, b, S', hb, ha, htab, hbT, hS'⟩ | ⟨h0, ha⟩
  · have := f.after c d' ht ha htab hbT (by omega) (fun j hj => by have := (f.r j hj).2.2.2.2.2; omega) (fun j hj => ⟨(hS' j hj).2.1, fun e => by
      rcases (hS' j hj).1 with h | h
      · exact (f.s j h).2.1 e
      · omega, (hS' j hj).2.2⟩) (fun j hj h => by
      have h3 := f.r j hj
      rcases (hS' j h).1 with h | h
      · exact h3.2.1 h
      · omega)
    exact ⟨he, this.2, .inl ⟨h0, this.1⟩⟩
  · have hmT : ¬ T' mb := fun h => by
      rcases ht mb h with h | h
      · exact f.mT h
      · omega
    have htab : TabIn S w' mb t := f.tab.chg c (fun h => by
      rcases h with h | h
      · exact f.mT h
      · exact f.mf h) fun j hj h => by
      rcases h with h | h
      · exact (f.s j hj).1 h
      · exact (f.s j hj).2.1 h
    have := f.after c d' ht ha htab hmT f.mf (fun j hj => (f.r j hj).2.2.2.1) (fun j hj => ⟨fun h => by
      have h3 := f.s j hj
      rcases ht j h with h | h
      · exact h3.1 h
      · omega, (f.s j hj).2.1, by have := (f.s j hj).2.2; omega⟩) fun j hj => (f.r j hj).2.1
    exact ⟨he, this.2, .inr ⟨h0, this.1⟩⟩

/-- A commit that may be done. -/
theorem FSt.commit_yes (f : FSt w0 w g gw gf (M.lit s k) t false R) (hL : Laid w0) (on : M.On s t) (lv : Value) (l : M.FL) (xs : List Value) (hl : Keeps (fun j => ¬ R j ∧ w0.heap.size ≤ j) w (fun x => IsFL x lv l xs)) (hlen : l.length ≤ 10000) (hd : ∀ c ∈ l, c.data.length ≤ 1099511627776) (h0 : M.fmay (M.nbS s) t l = 0) :
    Calls Tryz.prog 13 #[.pointer (some ⟨gf, 0, none⟩), lv] w fun e w' =>
      e = .returned (.int .i64 (M.putP (M.chgN (M.free (M.nbS s) t) t l).1 l (M.lit s k)).2) ∧ Far w0 R w w' ∧
        (((M.putP (M.chgN (M.free (M.nbS s) t) t l).1 l (M.lit s k)).2 = 0 ∧ FSt w0 w' g gw gf (M.putP (M.chgN (M.free (M.nbS s) t) t l).1 l (M.lit s k)).1 (M.chgN (M.free (M.nbS s) t) t l).1 false R) ∨
         ((M.putP (M.chgN (M.free (M.nbS s) t) t l).1 l (M.lit s k)).2 ≠ 0 ∧ FSt w0 w' g gw gf (M.putP (M.chgN (M.free (M.nbS s) t) t l).1 l (M.lit s k)).1 t true R)) := by
  obtain ⟨T, S, mb, f⟩ := f
  obtain ⟨vs, h, hS⟩ := f.flies on
  have hT : ∀ j, T j → ¬ R j ∧ w0.heap.size ≤ j := fun j hj => ⟨fun hr => (f.r j hr).1 hj, f.new j hj⟩
  have hcnt := M.putWs_count on.ok h0
  have hnb : M.nbS s ≤ 2048 := Nat.min_le_right _ _
  refine (fcommit_yes (S := S) h lv l xs (fun x c => ⟨Blk.chg f.at_ c f.fT, f.wal x (c.mono fun j _ h => .inl h), hl x (c.mono fun j _ hj => hT j hj), wal_calls.ld hL (f.under.trans (c.below f.under.size f.new))⟩) hS (fun j hj => (f.s j hj).1) (fun j hj => (f.s j hj).2.2) f.fT (fun h => (f.s gf h).2.1 rfl) on.big hlen hd h0 (by show 0 + _ < 90000; omega)).mono ?_
  intro e w' hc
  exact f.commit_is hc

/-- An erase. -/
theorem FSt.erase_yes (f : FSt w0 w g gw gf (M.lit s k) t false R) (hL : Laid w0) (on : M.On s t) (i : Nat) (hi : i < t.length) :
    Calls Tryz.prog 15 #[.pointer (some ⟨gf, 0, none⟩), .string ⟨(t.getD i default).nm.toArray⟩] w fun e w' =>
      e = .returned (.int .i64 (M.eraseP (M.nbS s) t (t.getD i default).bs (t.getD i default).nm (M.lit s k)).2) ∧ Far w0 R w w' ∧
        (((M.eraseP (M.nbS s) t (t.getD i default).bs (t.getD i default).nm (M.lit s k)).2 = 0 ∧ FSt w0 w' g gw gf (M.eraseP (M.nbS s) t (t.getD i default).bs (t.getD i default).nm (M.lit s k)).1 (M.tdel t (t.getD i default).nm) false R) ∨
         ((M.eraseP (M.nbS s) t (t.getD i default).bs (t.getD i default).nm (M.lit s k)).2 ≠ 0 ∧ FSt w0 w' g gw gf (M.eraseP (M.nbS s) t (t.getD i default).bs (t.getD i default).nm (M.lit s k)).1 t true R)) := by
  obtain ⟨T, S, mb, f⟩ := f
  obtain ⟨vs, h, hS⟩ := f.flies on
  refine (ferase_yes (S := S) h (fun x c => ⟨Blk.chg f.at_ c f.fT, f.wal x (c.mono fun j _ h => .inl h), wal_calls.ld hL (f.under.trans (c.below f.under.size f.new))⟩) hS (fun j hj => (f.s j hj).1) (fun j hj => (f.s j hj).2.2) f.mT f.fT (fun h => (f.s gf h).2.1 rfl) on.big (by show 0 < 80000; decide) i hi).mono ?_
  intro e w' hc
  exact f.commit_is hc

end

end Go.Proofs.YtgmhfianpdhnmaaGreatDoor

namespace Go.Proofs.YtgmhfianpdhnmaaGreatDoor
open Go.RowKit
set_option linter.unusedVariables false
set_option maxRecDepth 100000

theorem rneed_any (n : Nat) (w : World) (h : n ≤ 1099511627776) : Calls Tryz.prog 39 #[.int .i64 (n : Int)] w fun e w' => e = .returned (.int .i64 ((M.need n : Nat) : Int)) ∧ w' = w := by
  have e1 : Int.tdiv (n : Int) 256 = ((n / 256 : Nat) : Int) := rfl
  have e2 : Int.tmod (n : Int) 256 = ((n % 256 : Nat) : Int) := rfl
  obtain ⟨q, hq⟩ : ∃ q, q = n / 256 := ⟨_, rfl⟩
  obtain ⟨r, hr⟩ : ∃ q, q = n % 256 := ⟨_, rfl⟩
  obtain ⟨z, hz⟩ : ∃ q, q = M.need n := ⟨_, rfl⟩
  rw [← hz]
  rw [← hq] at e1
  rw [← hr] at e2
  rw [M.need] at hz
  by_cases h0 : 0 < r
  · have b1 : (0 : Int) < (r : Int) := by omega
    have w1 : wrap64 (q : Int) = (q : Int) := by unfold wrap64; omega
    have w2 : wrap64 ((q : Int) + 1) = (z : Int) := by unfold wrap64; omega
    clear hq hr hz h0
    go_enter Tryz.func39, Tryz.ntmps39
    go_wp2
    go_ret
    exact ⟨by simp only [w1, w2]; rfl, rfl⟩
  · have b1 : ¬ (0 : Int) < (r : Int) := by omega
    have w1 : wrap64 (q : Int) = (q : Int) := by unfold wrap64; omega
    have w2 : (q : Int) = (z : Int) := by omega
    rw [w2] at e1 w1
    clear hq hr hz h0 w2
    go_enter Tryz.func39, Tryz.ntmps39
    go_wp2
    go_ret
    exact ⟨rfl, rfl⟩

theorem before_front : ∀ (p a b : List UInt8), bytesBefore (p ++ a) (p ++ b) = bytesBefore a b
  | [], a, b => rfl
  | x :: p, a, b => by
    rw [List.cons_append, List.cons_append, bytesBefore, before_front p a b]
    simp

theorem before_at {a b : List UInt8} {k : Nat} (h : a.take k = b.take k) : bytesBefore a b = bytesBefore (a.drop k) (b.drop k) := by
  have := before_front (a.take k) (a.drop k) (b.drop k)
  rw [List.take_append_drop] at this
  rw [← this, h, List.take_append_drop]

theorem before_ne {a b : List UInt8} {k : Nat} (h : a.take k = b.take k) (ha : k < a.length) (hb : k < b.length) (hne : a.getD k 0 ≠ b.getD k 0) : bytesBefore a b = decide (a.getD k 0 < b.getD k 0) := by
  rw [before_at h, List.drop_eq_getElem_cons ha, List.drop_eq_getElem_cons hb, bytesBefore]
  rw [List.getD_eq_getElem?_getD, List.getD_eq_getElem?_getD, List.getElem?_eq_getElem ha, List.getElem?_eq_getElem hb] at hne ⊢
  simp only [Option.getD_some] at hne ⊢
  simp [hne]

theorem before_end {a b : List UInt8} {k : Nat} (h : a.take k = b.take k) (hk : ¬ (k < a.length ∧ k < b.length)) (ha : k ≤ a.length) (hb : k ≤ b.length) : bytesBefore a b = decide (a.length < b.length) := by
  rw [before_at h]
  by_cases h1 : k = a.length
  · rw [h1, List.drop_length]
    by_cases h2 : a.length < b.length
    · rw [List.drop_eq_getElem_cons h2, decide_eq_true h2]
      rfl
    · rw [List.drop_eq_nil_of_le (by omega), decide_eq_false h2]
      rfl
  · rw [show b.drop k = [] from List.drop_eq_nil_of_le (by omega), decide_eq_false (by omega)]
    cases a.drop k <;> rfl

theorem size_list (l : List UInt8) : (⟨l.toArray⟩ : ByteArray).size = l.length := rfl

theorem index_list (l : List UInt8) (k : Nat) (h : k < l.length) (W : World) : (Instr.index 9 (.string ⟨l.toArray⟩) (.int .i64 (k : Int))).run Tryz.prog W = .ok (.int .u8 ((l.getD k 0).toNat : Int)) W := by
  have hs : (⟨l.toArray⟩ : ByteArray).size = l.length := rfl
  rw [run_index_string W 9 ⟨l.toArray⟩ .i64 (k : Int) Tryz.underlying9, dif_pos ⟨by omega, by rw [hs]; omega⟩]
  congr 3
  have e : (l.getD k 0) = l[k] := by rw [List.getD_eq_getElem?_getD, List.getElem?_eq_getElem h]; rfl
  rw [e]
  rfl

theorem u8_ne (x y : UInt8) : (((x.toNat : Nat) : Int) != ((y.toNat : Nat) : Int)) = !decide (x = y) := by
  by_cases h : x = y
  · subst h; simp
  · have : ¬ ((x.toNat : Nat) : Int) = ((y.toNat : Nat) : Int) := fun e => h (UInt8.toNat_inj.1 (by omega))
    rw [decide_eq_false h]
    simpa using this

set_option maxHeartbeats 4000000 in
theorem rless_any (a b : List UInt8) (w : World) (ha : a.length ≤ maxLen) (hb : b.length ≤ maxLen) :
    Calls Tryz.prog 43 #[.string ⟨a.toArray⟩, .string ⟨b.toArray⟩] w fun e w' => e = .returned (.bool (bytesBefore a b)) ∧ Below w.heap.size w w' := by
  have hia := Lib.hid (index_list a)
  have hib := Lib.hid (index_list b)
  obtain ⟨sa, hsa⟩ : ∃ s : ByteArray, s = ⟨a.toArray⟩ := ⟨_, rfl⟩
  obtain ⟨sb, hsb⟩ : ∃ s : ByteArray, s = ⟨b.toArray⟩ := ⟨_, rfl⟩
  obtain ⟨n, hn⟩ : ∃ n, n = a.length := ⟨_, rfl⟩
  obtain ⟨m, hm⟩ : ∃ n, n = b.length := ⟨_, rfl⟩
  have za : sa.size = n := by rw [hsa, hn]; rfl
  have zb : sb.size = m := by rw [hsb, hm]; rfl
  rw [← hsa, ← hn] at hia
  rw [← hsb, ← hm] at hib
  rw [← hsa, ← hsb]
  have HN : Hid (a.length = n) := hn.symm
  have HM : Hid (b.length = m) := hm.symm
  have HL : Hid (n ≤ maxLen ∧ m ≤ maxLen) := by rw [Hid]; omega
  clear hsa hsb hn hm ha hb
  go_enter Tryz.func43, Tryz.ntmps43
  go_wp2
  go_loopw [5] (fun i wr => ∃ k : Nat, i = .int .i64 (k : Int) ∧ Hid (k ≤ n ∧ k ≤ m ∧ a.take k = b.take k) ∧ Hid (Below w.heap.size w wr))
    (fun i _ => n - numOf i)
  case atStart => exact ⟨0, rfl, ⟨Nat.zero_le _, Nat.zero_le _, by simp⟩, Below.refl _ _⟩
  case round =>
    obtain ⟨wz, rfl⟩ : ∃ x, x = wr := ⟨_, rfl⟩
    obtain ⟨k, rfl, hk, kk⟩ := hrel
    by_cases hlt : k < n ∧ k < m
    · have b1 : (k : Int) < (n : Int) := by omega
      have b2 : (k : Int) < (m : Int) := by omega
      have h1 := hia.out k hlt.1
      have h2 := hib.out k hlt.2
      obtain ⟨x, hx⟩ : ∃ x, x = a.getD k 0 := ⟨_, rfl⟩
      obtain ⟨y, hy⟩ : ∃ x, x = b.getD k 0 := ⟨_, rfl⟩
      rw [← hx] at h1
      rw [← hy] at h2
      have HX := Lib.hid hx
      have HY := Lib.hid hy
      have HLT := Lib.hid hlt
      have g1 : wrap64 ((k : Int) + 1) = ((k + 1 : Nat) : Int) := by have := HL.out; unfold maxLen at this; unfold wrap64; omega
      have G1 := Lib.hid g1
      have u1 := u8_ne x y
      clear hx hy hlt g1
      by_cases hxy : x = y
      · rw [decide_eq_true hxy] at u1
        have hS : Hid (k + 1 ≤ n ∧ k + 1 ≤ m ∧ a.take (k + 1) = b.take (k + 1)) := by
          have h := hk.out
          have hl := HLT.out
          refine ⟨hl.1, hl.2, ?_⟩
          rw [List.take_add_one, List.take_add_one, h.2.2]
          rw [HX.out, HY.out, List.getD_eq_getElem?_getD, List.getD_eq_getElem?_getD, List.getElem?_eq_getElem (by rw [HN.out]; exact hl.1), List.getElem?_eq_getElem (by rw [HM.out]; exact hl.2)] at hxy
          rw [List.getElem?_eq_getElem (by rw [HN.out]; exact hl.1), List.getElem?_eq_getElem (by rw [HM.out]; exact hl.2)]
          simp only [Option.getD_some] at hxy
          rw [hxy]
        simp only [Bool.not_true] at u1
        clear hk hxy HX HY
        obtain ⟨xi, hxi⟩ : ∃ z, z = ((x.toNat : Nat) : Int) := ⟨_, rfl⟩
        obtain ⟨yi, hyi⟩ : ∃ z, z = ((y.toNat : Nat) : Int) := ⟨_, rfl⟩
        rw [← hxi] at h1 u1
        rw [← hyi] at h2 u1
        clear hxi hyi
        go_upto_region 4 with fail
        go_quiet (fail)
        go_wp2
        go_roundw
        case rel => exact ⟨k + 1, by rw [G1.out], hS, drewN_below kk.out _⟩
        case measure =>
          have := HLT.out
          rw [G1.out]
          show n - (((k + 1 : Nat) : Int)).toNat < n - ((k : Int)).toNat
          omega
      · rw [decide_eq_false hxy] at u1
        have hR : Hid (decide (((x.toNat : Nat) : Int) < ((y.toNat : Nat) : Int)) = bytesBefore a b) := by
          rw [Hid, before_ne hk.out.2.2 (by rw [HN.out]; exact HLT.out.1) (by rw [HM.out]; exact HLT.out.2) (by rw [← HX.out, ← HY.out]; exact hxy), ← HX.out, ← HY.out]
          refine decide_eq_decide.2 ?_
          rw [UInt8.lt_iff_toNat_lt]
          omega
        simp only [Bool.not_false] at u1
        obtain ⟨xi, hxi⟩ : ∃ z, z = ((x.toNat : Nat) : Int) := ⟨_, rfl⟩
        obtain ⟨yi, hyi⟩ : ∃ z, z = ((y.toNat : Nat) : Int) := ⟨_, rfl⟩
        rw [← hxi] at h1 u1 hR
        rw [← hyi] at h2 u1 hR
        clear hk hxi hyi hxy
        go_upto_region 4 with fail
        go_quiet (fail)
        go_upto_region 5 with fail
        go_quiet (fail)
        go_wp2
        go_ret
        exact ⟨by rw [← hR.out]; rfl, drewN_below (drewN_below kk.out _) _⟩
    · have HE : Hid (decide (n < m) = bytesBefore a b) := by
        rw [Hid, before_end hk.out.2.2 (by rw [HN.out, HM.out]; exact hlt) (by rw [HN.out]; exact hk.out.1) (by rw [HM.out]; exact hk.out.2.1), HN.out, HM.out]
      by_cases h1 : k < n
      · have b1 : (k : Int) < (n : Int) := by omega
        have b2 : ¬ (k : Int) < (m : Int) := by omega
        clear hk hlt h1
        go_wp2
        go_ret
        exact ⟨by rw [← HE.out]; rfl, kk.out⟩
      · have b1 : ¬ (k : Int) < (n : Int) := by omega
        clear hk hlt h1
        go_wp2
        go_ret
        exact ⟨by rw [← HE.out]; rfl, kk.out⟩

end Go.Proofs.YtgmhfianpdhnmaaGreatDoor
