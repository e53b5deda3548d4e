/-
  THE FACE OF THE CODE'S JOURNAL (WalOk): what each of its calls does, over a predicate Wl w gw gd ('a Wal at gw over the disk at gd') and functions O (Open), C (Commit) of disks; and what these make of what may survive a loss of power. Nothing of it is proved here. Conditions: none.
  'append(x, make([]byte, n)...)' ONTO A ROW OF THE CALL'S OWN, AS A LAW FOR THE WALK. Conditions: the sum of the lengths is at most 2^47.
-/
import Derived.Test.YtphcbpfpelonaaaGreatDoorPf12
import Derived.Test.YtphcbpfpelonaaaGreatDoorPf3
import Derived.Lib.AppendZerosOnto

namespace Go.Proofs.YtphcbpfpelonaaaGreatDoor
open Go.RowKit
set_option linter.unusedVariables false

/-- What a journal's disk may be: its power is there, nothing waits; armed or not. -/
def M.lit (s : List (List UInt8)) (k : Nat) : M.Dsk := ⟨s, [], k, false⟩

/-- The calls. Ld: what the code leans on besides (package-level variables); Wl: a Wal; O, C: what Open and Commit make of a disk, and what they answer. -/
structure WalCalls (Ld : World → Prop) (Wl : World → Nat → Nat → Prop) (O : M.Dsk → M.Dsk × Int) (C : M.Dsk → M.CL → M.Dsk × Int) : Prop where
  ld : ∀ {w0 w}, Ld w0 → Below w0.heap.size w0 w → Ld w
  open_yes : ∀ {T w g m}, CodeDk T w g m → Keeps T w Ld → 42 < m.safe.length → m.wait.length < 100000 → Calls Tryz.prog 25 #[.pointer (some ⟨g, 0, none⟩)] w fun e w' =>
    Chg T w w' ∧ ∃ T', CodeDk T' w' g (O m).1 ∧ (∀ k, T' k → T k ∨ w.heap.size ≤ k) ∧
      (((O m).2 = 0 ∧ ∃ gw, e = .returned (.tuple #[.pointer (some ⟨gw, 0, none⟩), .int .i64 0]) ∧ ∀ F, (∀ k, F k → T' k ∨ k < w.heap.size ∨ w'.heap.size ≤ k) → Keeps F w' (fun x => Wl x gw g)) ∨ ((O m).2 = 11 ∧ e = .returned (.tuple #[.pointer none, .int .i64 11])))
  open_no : ∀ {T w g m}, CodeDk T w g m → Keeps T w Ld → m.safe.length ≤ 42 → Calls Tryz.prog 25 #[.pointer (some ⟨g, 0, none⟩)] w fun e w' =>
    e = .returned (.tuple #[.pointer none, .int .i64 1]) ∧ Below w.heap.size w w'
  blocks : ∀ {T w gw g m}, CodeDk T w g m → Wl w gw g → 42 < m.safe.length → Calls Tryz.prog 46 #[.pointer (some ⟨gw, 0, none⟩)] w fun e w' =>
    e = .returned (.int .i64 ((m.safe.length - 42 : Nat) : Int)) ∧ Below w.heap.size w w'
  read_yes : ∀ {T w gw g m}, CodeDk T w g m → Wl w gw g → m.wait.length < 1000000 → ∀ (i : Nat), 42 + i < m.safe.length → Calls Tryz.prog 49 #[.pointer (some ⟨gw, 0, none⟩), .int .i64 (i : Int)] w fun e w' =>
    ∃ r, e = .returned (.tuple #[r, .int .i64 0]) ∧ Own w' w.heap.size r (m.read (42 + i)) ∧ Below w.heap.size w w'
  read_no : ∀ {T w gw g m}, CodeDk T w g m → Wl w gw g → 42 < m.safe.length → ∀ (i : Int), ¬ (0 ≤ i ∧ i < ((m.safe.length - 42 : Nat) : Int)) → Calls Tryz.prog 49 #[.pointer (some ⟨gw, 0, none⟩), .int .i64 i] w fun e w' =>
    e = .returned (.tuple #[.slice none 0 0, .int .i64 1]) ∧ Below w.heap.size w w'
  write_yes : ∀ {T w gw g m}, CodeDk T w g m → Keeps T w (fun x => Wl x gw g) → m.wait.length < 1000000 → ∀ (i : Nat), 42 + i < m.safe.length → ∀ (bv : Value) (bs : List UInt8), IsB w bv bs → bs.length = 256 →
    Calls Tryz.prog 60 #[.pointer (some ⟨gw, 0, none⟩), .int .i64 (i : Int), bv] w fun e w' =>
      e = .returned (.int .i64 (m.doWrite ((42 + i : Nat) : Int) bs).2) ∧ Chg T w w' ∧ ∃ T', CodeDk T' w' g (m.doWrite ((42 + i : Nat) : Int) bs).1 ∧ ∀ k, T' k → T k ∨ w.heap.size ≤ k
  write_no : ∀ {T w gw g m}, CodeDk T w g m → Wl w gw g → 42 < m.safe.length → ∀ (i : Int) (bv : Value) (bs : List UInt8), -9223372036854775808 ≤ i ∧ i < 9223372036854775808 → IsB w bv bs → ¬ (0 ≤ i ∧ i < ((m.safe.length - 42 : Nat) : Int) ∧ bs.length = 256) →
    Calls Tryz.prog 60 #[.pointer (some ⟨gw, 0, none⟩), .int .i64 i, bv] w fun e w' => e = .returned (.int .i64 1) ∧ Below w.heap.size w w'
  sync : ∀ {T w gw g m}, CodeDk T w g m → Keeps T w (fun x => Wl x gw g) → m.wait.length < 1000000 → Calls Tryz.prog 61 #[.pointer (some ⟨gw, 0, none⟩)] w fun e w' =>
    e = .returned (.int .i64 m.doSync.2) ∧ Chg T w w' ∧ ∃ T', CodeDk T' w' g m.doSync.1 ∧ ∀ k, T' k → T k ∨ w.heap.size ≤ k
  commit_yes : ∀ {T w gw g m}, CodeDk T w g m → Keeps T w Ld → Keeps T w (fun x => Wl x gw g) → 42 < m.safe.length → m.wait.length < 100000 → ∀ (lv : Value) (l : M.CL) (xs : List Value), Keeps T w (fun x => IsCL x lv l xs) → M.May (m.safe.length - 42) l →
    Calls Tryz.prog 62 #[.pointer (some ⟨gw, 0, none⟩), lv] w fun e w' =>
      e = .returned (.int .i64 (C m l).2) ∧ Chg T w w' ∧ ∃ T', CodeDk T' w' g (C m l).1 ∧ ∀ k, T' k → T k ∨ w.heap.size ≤ k
  commit_no : ∀ {T w gw g m}, CodeDk T w g m → Keeps T w Ld → Wl w gw g → 42 < m.safe.length → ∀ (lv : Value) (l : M.CL) (xs : List Value), IsCL w lv l xs → ¬ M.May (m.safe.length - 42) l → l.length ≤ 1000000 →
    Calls Tryz.prog 62 #[.pointer (some ⟨gw, 0, none⟩), lv] w fun e w' => e = .returned (.int .i64 1) ∧ Below w.heap.size w w'

/-- What O and C make of disks whose journal is settled. Rec: what an opening makes of safe blocks. -/
structure WalMath (O : M.Dsk → M.Dsk × Int) (C : M.Dsk → M.CL → M.Dsk × Int) (Clean : List (List UInt8) → Prop) (Rec : List (List UInt8) → List (List UInt8)) : Prop where
  /-- an opening, the power being there and not armed: OK, all is settled and safe -/
  opens : ∀ (s : List (List UInt8)) (c : List (Nat × List UInt8)), (⟨s, c, 0, false⟩ : M.Dsk).Ok → 42 < s.length → ∃ s', O ⟨s, c, 0, false⟩ = (M.lit s' 0, 0) ∧ s'.length = s.length ∧ s'.drop 42 = Rec (M.laid s c) ∧ Clean s'
  recs : ∀ (s : List (List UInt8)), Clean s → Rec s = s.drop 42
  /-- an opening in which the power goes, or not -/
  falls : ∀ (s : List (List UInt8)) (k : Nat), (M.lit s k).Ok → 42 < s.length → ((O (M.lit s k)).2 = 0 ∨ (O (M.lit s k)).2 = 11) ∧ (O (M.lit s k)).1.safe.length = s.length ∧ (O (M.lit s k)).1.wait.length ≤ 1000 ∧ ∀ keep, Rec ((O (M.lit s k)).1.crash keep).safe = Rec s
  /-- a commit of no changes -/
  none : ∀ (m : M.Dsk), C m [] = m.doSync
  /-- a commit, the power being there -/
  commits : ∀ (s : List (List UInt8)) (k : Nat) (l : M.CL), (M.lit s k).Ok → 42 < s.length → Clean s → M.May (s.length - 42) l →
    (((C (M.lit s k) l).2 = 0 ∧ ∃ s' k', (C (M.lit s k) l).1 = M.lit s' k' ∧ k' ≤ k ∧ s'.length = s.length ∧ s'.drop 42 = M.done (s.drop 42) l ∧ Clean s') ∨
     ((C (M.lit s k) l).2 = 11 ∧ k ≠ 0 ∧ (C (M.lit s k) l).1.down = true ∧ (C (M.lit s k) l).1.safe.length = s.length ∧ (C (M.lit s k) l).1.wait.length ≤ 1000 ∧
        ∀ keep, Rec ((C (M.lit s k) l).1.crash keep).safe = s.drop 42 ∨ Rec ((C (M.lit s k) l).1.crash keep).safe = M.done (s.drop 42) l))

section
variable {Ld : World → Prop} {Wl : World → Nat → Nat → Prop} {O : M.Dsk → M.Dsk × Int} {C : M.Dsk → M.CL → M.Dsk × Int} {w0 w : World} {g gw : Nat} {m : M.Dsk} {K : World → Prop}

/-- An opening: a Wal, or none. -/
theorem St.open_ (W : WalCalls Ld Wl O C) (hL : Ld w0) (s : St w0 w g m K) (h42 : 42 < m.safe.length) (hw : m.wait.length < 100000) :
    Calls Tryz.prog 25 #[.pointer (some ⟨g, 0, none⟩)] w fun e w' =>
      ((O m).2 = 0 ∧ ∃ gw, e = .returned (.tuple #[.pointer (some ⟨gw, 0, none⟩), .int .i64 0]) ∧ St w0 w' g (O m).1 (fun x => K x ∧ Wl x gw g)) ∨ ((O m).2 = 11 ∧ e = .returned (.tuple #[.pointer none, .int .i64 11]) ∧ St w0 w' g (O m).1 K) := by
  obtain ⟨T, d, t, b, k⟩ := s
  have hb := b.size
  refine (W.open_yes d (fun x c => W.ld hL (b.trans (c.below hb t))) h42 hw).mono ?_
  rintro e w' ⟨c, T', d', ht, h⟩
  have t' : ∀ j, T' j → w0.heap.size ≤ j := fun j hj => by
    rcases ht j hj with q | q
    · exact t j q
    · omega
  rcases h with ⟨h0, gw, he, kw⟩ | ⟨h11, he⟩
  · exact .inl ⟨h0, gw, he, T', d', t', b.trans (c.below hb t), (k.next c ht).and (kw T' fun _ h => .inl h)⟩
  · exact .inr ⟨h11, he, T', d', t', b.trans (c.below hb t), k.next c ht⟩

theorem St.open_no (W : WalCalls Ld Wl O C) (hL : Ld w0) (s : St w0 w g m K) (h42 : m.safe.length ≤ 42) :
    Calls Tryz.prog 25 #[.pointer (some ⟨g, 0, none⟩)] w fun e w' => e = .returned (.tuple #[.pointer none, .int .i64 1]) ∧ Below w.heap.size w w' := by
  obtain ⟨T, d, t, b, k⟩ := s
  exact W.open_no d (fun x c => W.ld hL (b.trans (c.below b.size t))) h42

theorem St.wblocks (W : WalCalls Ld Wl O C) (s : St w0 w g m K) (hk : K w → Wl w gw g) (h42 : 42 < m.safe.length) :
    Calls Tryz.prog 46 #[.pointer (some ⟨gw, 0, none⟩)] w fun e w' => e = .returned (.int .i64 ((m.safe.length - 42 : Nat) : Int)) ∧ Below w.heap.size w w' := by
  obtain ⟨T, d, t, b, k⟩ := s
  exact W.blocks d (hk k.now) h42

theorem St.wread (W : WalCalls Ld Wl O C) (s : St w0 w g m K) (hk : K w → Wl w gw g) (hw : m.wait.length < 1000000) (i : Nat) (hi : 42 + i < m.safe.length) :
    Calls Tryz.prog 49 #[.pointer (some ⟨gw, 0, none⟩), .int .i64 (i : Int)] w fun e w' => ∃ r, e = .returned (.tuple #[r, .int .i64 0]) ∧ Own w' w.heap.size r (m.read (42 + i)) ∧ Below w.heap.size w w' := by
  obtain ⟨T, d, t, b, k⟩ := s
  exact W.read_yes d (hk k.now) hw i hi

theorem St.wread_no (W : WalCalls Ld Wl O C) (s : St w0 w g m K) (hk : K w → Wl w gw g) (h42 : 42 < m.safe.length) (i : Int) (hi : ¬ (0 ≤ i ∧ i < ((m.safe.length - 42 : Nat) : Int))) :
    Calls Tryz.prog 49 #[.pointer (some ⟨gw, 0, none⟩), .int .i64 i] w fun e w' => e = .returned (.tuple #[.slice none 0 0, .int .i64 1]) ∧ Below w.heap.size w w' := by
  obtain ⟨T, d, t, b, k⟩ := s
  exact W.read_no d (hk k.now) h42 i hi

theorem St.wwrite (W : WalCalls Ld Wl O C) (s : St w0 w g m K) (hk : ∀ x, K x → Wl x gw g) (hw : m.wait.length < 1000000) (i : Nat) (hi : 42 + i < m.safe.length) (bv : Value) (bs : List UInt8) (hb : K w → IsB w bv bs) (hl : bs.length = 256) :
    Calls Tryz.prog 60 #[.pointer (some ⟨gw, 0, none⟩), .int .i64 (i : Int), bv] w fun e w' => e = .returned (.int .i64 (m.doWrite ((42 + i : Nat) : Int) bs).2) ∧ St w0 w' g (m.doWrite ((42 + i : Nat) : Int) bs).1 K :=
  s.op fun T d _ k => W.write_yes d (k.mono fun x h => hk x h.1) hw i hi bv bs (hb k.now.1) hl

theorem St.wwrite_no (W : WalCalls Ld Wl O C) (s : St w0 w g m K) (hk : K w → Wl w gw g) (h42 : 42 < m.safe.length) (i : Int) (hi : -9223372036854775808 ≤ i ∧ i < 9223372036854775808) (bv : Value) (bs : List UInt8) (hb : K w → IsB w bv bs) (hno : ¬ (0 ≤ i ∧ i < ((m.safe.length - 42 : Nat) : Int) ∧ bs.length = 256)) :
    Calls Tryz.prog 60 #[.pointer (some ⟨gw, 0, none⟩), .int .i64 i, bv] w fun e w' => e = .returned (.int .i64 1) ∧ Below w.heap.size w w' := by
  obtain ⟨T, d, t, b, k⟩ := s
  exact W.write_no d (hk k.now) h42 i bv bs hi (hb k.now) hno

theorem St.wsync (W : WalCalls Ld Wl O C) (s : St w0 w g m K) (hk : ∀ x, K x → Wl x gw g) (hw : m.wait.length < 1000000) :
    Calls Tryz.prog 61 #[.pointer (some ⟨gw, 0, none⟩)] w fun e w' => e = .returned (.int .i64 m.doSync.2) ∧ St w0 w' g m.doSync.1 K :=
  s.op fun T d _ k => W.sync d (k.mono fun x h => hk x h.1) hw

theorem St.commit (W : WalCalls Ld Wl O C) (hL : Ld w0) (s : St w0 w g m K) (hk : ∀ x, K x → Wl x gw g) (h42 : 42 < m.safe.length) (hw : m.wait.length < 100000) (lv : Value) (l : M.CL) (xs : List Value) (hl : ∀ x, K x → IsCL x lv l xs) (hm : M.May (m.safe.length - 42) l) :
    Calls Tryz.prog 62 #[.pointer (some ⟨gw, 0, none⟩), lv] w fun e w' => e = .returned (.int .i64 (C m l).2) ∧ St w0 w' g (C m l).1 K :=
  s.op fun T d _ k => W.commit_yes d (k.mono fun x h => W.ld hL h.2) (k.mono fun x h => hk x h.1) h42 hw lv l xs (k.mono fun x h => hl x h.1) hm

theorem St.commit_no (W : WalCalls Ld Wl O C) (hL : Ld w0) (s : St w0 w g m K) (hk : K w → Wl w gw g) (h42 : 42 < m.safe.length) (lv : Value) (l : M.CL) (xs : List Value) (hl : K w → IsCL w lv l xs) (hm : ¬ M.May (m.safe.length - 42) l) (hll : l.length ≤ 1000000) :
    Calls Tryz.prog 62 #[.pointer (some ⟨gw, 0, none⟩), lv] w fun e w' => e = .returned (.int .i64 1) ∧ Below w.heap.size w w' := by
  obtain ⟨T, d, t, b, k⟩ := s
  exact W.commit_no d (fun x c => W.ld hL (b.trans (c.below b.size t))) (hk k.now) h42 lv l xs (hl k.now) hm hll

end

end Go.Proofs.YtphcbpfpelonaaaGreatDoor

namespace Go.Proofs.YtphcbpfpelonaaaGreatDoor
open Go.RowKit
set_option linter.unusedVariables false

theorem zeroCells_bytes (n : Nat) : (Builtin.zeroCells (Value.int IntKind.u8 0).cells n).toList = Lib.byteCells (List.replicate n 0) := by
  have h : (Builtin.zeroCells (Value.int IntKind.u8 0).cells n).toList = List.replicate n (.int .u8 0) := by
    rw [show Builtin.zeroCells (Value.int IntKind.u8 0).cells n = Builtin.zeroCells #[.int .u8 0] n from rfl]
    apply List.eq_replicate_iff.2
    refine ⟨by simp [Builtin.zeroCells], fun b hb => ?_⟩
    simp [Builtin.zeroCells, Nat.mod_one] at hb
    obtain ⟨_, _, rfl⟩ := hb
    rfl
  rw [h]
  simp [Lib.byteCells]

theorem run_append_room_zeros (w : World) (ty : TypeId) (g n cap : Nat) (cur : Array Value) (hg : w.heap[g]? = some (.cells cur 5 (0, 0))) (m : Nat) (hm : m ≤ 140737488355328) (hroom : n + m ≤ cap) (hfit : n + m ≤ cur.size) :
    (Builtin.append_ #[38, 3] ty #[.slice (some ⟨g, 0, none⟩) n cap, .int .i64 (m : Int)]).run Tryz.prog w =
      .ok (.slice (some ⟨g, 0, none⟩) (n + m) cap) (w.setRow g (cur.toList.take n ++ Lib.byteCells (List.replicate m 0) ++ cur.toList.drop (n + m)).toArray) := by
  obtain ⟨i0, h0, hz0, hz1, hz2⟩ := info_parts Tryz.info5
  have hst := run_storeCells_at Tryz.prog g n 5 (Lib.byteCells (List.replicate m 0)) 0 cur w hg (by rw [byteCells_length, List.length_replicate, Nat.add_zero]; exact hfit) (byteCells_oneCell _)
  rw [byteCells_length, List.length_replicate] at hst
  simp only [Nat.add_zero] at hst
  have hw : IntKind.i64.wrap (m : Int) = m := by rw [IntKind.wrap_i64]; omega
  have hneg : ¬ ((m : Int) < 0) := by omega
  have h48i : ¬ (281474976710656 < (m : Int) * (i0.bytes : Int)) := by rw [hz2]; omega
  by_cases hm0 : m = 0
  · subst hm0
    have hw0 : IntKind.i64.wrap (0 : Int) = 0 := rfl
    simp [hw0, Builtin.append_, run_underlying Tryz.underlying38, run_underlying Tryz.underlying3, sizeOf, typeInfo, zeroValue, h0, hz0, hz1, asInt, asIntOf, Addr.add_lit] at hst ⊢
    have hst2 : (storeCells ⟨g, n, none⟩ ([] : List Value)).run Tryz.prog w = .ok () (w.setRow g cur) := by simpa [Lib.byteCells] using hst
    have hroom0 : n ≤ cap := by omega
    simp [hroom0, hst2, Lib.byteCells]
  · have hns : ¬ (m * i0.size = 0) := by rw [hz1]; omega
    have hns' : ¬ m = 0 := hm0
    have hzl := zeroCells_bytes m
    simp [Builtin.append_, run_underlying Tryz.underlying38, run_underlying Tryz.underlying3, sizeOf, typeInfo, zeroValue, h0, hz0, hz1, asInt, asIntOf, hw, hneg, h48i, hroom, hns', Addr.add_lit, hzl, hst]

theorem append_zeros_own (w : World) (ty : TypeId) (B : Nat) (v : Value) (bs : List UInt8) (hown : Own w B v bs) (m : Nat) (hlen : bs.length + m ≤ 140737488355328) (hB : B ≤ w.heap.size) :
    ∃ v' w', (Builtin.append_ #[38, 3] ty #[v, .int .i64 (m : Int)]).run Tryz.prog w = .ok v' w' ∧ Own w' B v' (bs ++ List.replicate m 0) ∧ Below B w w' ∧ w.grownBy w' v.ownBlock ∧ (v'.ownBlock = v.ownBlock ∨ v'.ownBlock = some w.heap.size) := by
  obtain ⟨i0, h0, hz0, hz1, hz2⟩ := info_parts Tryz.info5
  have far : ∀ (o : Obj) (row : Option Nat), w.grownBy (w.drew.alloc o) row := fun o row => ⟨rfl, rfl, rfl, by simp, fun k hk _ => ((Below.refl w.heap.size w).drew.alloc (Nat.le_refl _) o).block k hk⟩
  have grown : ∀ (old : Nat), old < bs.length + m →
      Own (w.drew.alloc (.cells ((Lib.byteCells bs).toArray ++ Builtin.zeroCells (Value.int IntKind.u8 0).cells m ++ Builtin.zeroCells (Value.int IntKind.u8 0).cells (grownCap w (bs.length + m) old 5 - (bs.length + m))) 5)) B
        (.slice (some ⟨w.heap.size, 0, none⟩) (bs.length + m) (grownCap w (bs.length + m) old 5)) (bs ++ List.replicate m 0) ∧
      Below B w (w.drew.alloc (.cells ((Lib.byteCells bs).toArray ++ Builtin.zeroCells (Value.int IntKind.u8 0).cells m ++ Builtin.zeroCells (Value.int IntKind.u8 0).cells (grownCap w (bs.length + m) old 5 - (bs.length + m))) 5)) := by
    intro old ho
    have hge := grownCap_ge w (bs.length + m) old 5
    have hcm : grownCap w (bs.length + m) old 5 ≤ maxLen := grownCap_le_maxLen w (bs.length + m) old 5 (by unfold maxLen; omega)
    have hl : (bs ++ List.replicate m 0).length = bs.length + m := by simp
    refine ⟨?_, ((Below.refl _ _).drew.alloc (by exact hB) _)⟩
    rw [Own, hl]
    refine ⟨by rw [byteCells_length, hl, Nat.mul_one], .inr ⟨w.heap.size, _, _, rfl, hB, heap_alloc_new w.drew _, hge, hcm, ?_, ?_⟩⟩
    · simp [byteCells_length, size_zeroCells, Value.cells]
      omega
    · simp only [Array.toList_append, zeroCells_bytes, List.append_assoc]
      rw [Nat.mul_one, ← List.append_assoc, byteCells_append]
      have hL : (Lib.byteCells bs ++ Lib.byteCells (List.replicate m 0)).length = bs.length + m := by rw [List.length_append, byteCells_length, byteCells_length, List.length_replicate]
      rw [← hL]
      exact List.take_left
  rcases hown.2 with ⟨rfl, hn⟩ | ⟨g, cap, cur, rfl, hbg, hg, hnc, hcm, hcs, htake⟩
  · obtain rfl : bs = [] := List.eq_nil_of_length_eq_zero hn
    by_cases hm : m = 0
    · subst hm
      refine ⟨.slice none 0 0, w, ?_, World.ownsRow_nil w B 5 1, Below.refl _ _, World.grownBy.refl _ _, .inl rfl⟩
      have hw : IntKind.i64.wrap (0 : Int) = 0 := by rw [IntKind.wrap_i64]; omega
      simp [Builtin.append_, run_underlying Tryz.underlying38, run_underlying Tryz.underlying3, sizeOf, typeInfo, h0, asInt, asIntOf, hw]
    · have hr := Lib.run_append_nil_zeros (P := Tryz.prog) w 38 3 ty 5 i0 (.int .u8 0) .i64 .i64 Tryz.underlying38 Tryz.underlying3 h0 hz0 m (by omega) (by omega) (by omega) (by rw [hz2]; simp at hlen; omega)
      have hgr := grown 0 (by simp; omega)
      simp only [List.length_nil, Nat.zero_add, List.nil_append, Lib.byteCells, List.map_nil, Array.empty_append] at hgr ⊢
      exact ⟨_, _, hr, hgr.1, hgr.2, far _ _, .inr rfl⟩
  · by_cases hroom : bs.length + m ≤ cap
    · have hr := run_append_room_zeros w ty g bs.length cap cur hg m (by omega) hroom (by omega)
      refine ⟨_, _, hr, ?_, ⟨rfl, rfl, rfl, by simp, fun k hk => setRow_other w g k _ (fun e => by omega)⟩, ⟨rfl, rfl, rfl, by simp, fun k hk hne => setRow_other w g k _ (fun e => hne (by simp [Value.ownBlock, e]))⟩, .inl rfl⟩
      have hl : (bs ++ List.replicate m 0).length = bs.length + m := by simp
      rw [Own, hl]
      refine ⟨by rw [byteCells_length, hl, Nat.mul_one], .inr ⟨g, cap, _, rfl, hbg, setRow_heap w g cur _ 5 _ hg, hroom, hcm, ?_, ?_⟩⟩
      · simp [byteCells_length]
        omega
      · rw [Nat.mul_one] at htake
        rw [htake, byteCells_append, Nat.mul_one]
        have hL : (Lib.byteCells bs ++ Lib.byteCells (List.replicate m 0)).length = bs.length + m := by rw [List.length_append, byteCells_length, byteCells_length, List.length_replicate]
        rw [← hL]
        exact List.take_left
    · have hrow := hown.row
      have holds : ∀ j u, (Lib.byteCells bs)[j]? = some u → w.cell? ((⟨g, 0, none⟩ : Addr).add j) = some u := hrow.cells (g := g) rfl
      have hf := run_firstCells_some (P := Tryz.prog) w.drew i0.size bs.length ⟨g, 0, none⟩ bs.length cap (Lib.byteCells bs) (by rw [byteCells_length, hz1, Nat.mul_one]) (by simpa using holds)
      have hfit := growslice_fits (need := bs.length + m) (old := cap) (bytes := 1) (by omega) (by omega)
      have hm0 : 0 < m := by omega
      have hr := Lib.run_append_grow_zeros (P := Tryz.prog) w 38 3 ty 5 i0 (.int .u8 0) .i64 .i64 Tryz.underlying38 Tryz.underlying3 h0 hz0 (some ⟨g, 0, none⟩) bs.length cap (Lib.byteCells bs) hf m hm0 (by omega) (by omega) (by omega) (by rw [hz2]; omega) (by rw [hz2]; exact hfit)
      have hgr := grown cap (by omega)
      exact ⟨_, _, hr, hgr.1, hgr.2, far _ _, .inr rfl⟩

theorem wpList_app_zeros (w : World) {ops : Array Oper} {rest : List Oper} {o : Oper} {a : Act} {Q : Exit → Act → World → Prop} (hg : o.guard = none) (s x : Operand)
    (ho : o.op = .call { callee := .builtin .append, args := #[s, x], argTypes := #[38, 3] })
    (B : Nat) (v : Value) (bs : List UInt8) (hs : a.eval s = v) (hown : Own w B v bs) (m : Nat) (hx : a.eval x = .int .i64 (m : Int)) (hlen : bs.length + m ≤ 140737488355328) (hB : B ≤ w.heap.size)
    (h : ∀ v' w', Own w' B v' (bs ++ List.replicate m 0) → Below B w w' → wpList Tryz.prog ops Q rest (a.put o.dst v') w') : wpList Tryz.prog ops Q (o :: rest) a w := by
  obtain ⟨v', w', hr, h1, h2, _⟩ := append_zeros_own w o.type B v bs hown m hlen hB
  exact Lib.wpList_append_run w hg s x _ _ ho _ _ hs hx v' w' hr (h v' w' h1 h2)

/-- As wpList_app_zeros; what is appended to is all that has turned, and where the new row lies. -/
theorem wpList_app_zeros3 (w : World) {ops : Array Oper} {rest : List Oper} {o : Oper} {a : Act} {Q : Exit → Act → World → Prop} (hg : o.guard = none) (s x : Operand)
    (ho : o.op = .call { callee := .builtin .append, args := #[s, x], argTypes := #[38, 3] })
    (B : Nat) (v : Value) (bs : List UInt8) (hs : a.eval s = v) (hown : Own w B v bs) (m : Nat) (hx : a.eval x = .int .i64 (m : Int)) (hlen : bs.length + m ≤ 140737488355328) (hB : B ≤ w.heap.size)
    (h : ∀ v' w', Own w' B v' (bs ++ List.replicate m 0) → w.grownBy w' v.ownBlock → (v'.ownBlock = v.ownBlock ∨ v'.ownBlock = some w.heap.size) → wpList Tryz.prog ops Q rest (a.put o.dst v') w') : wpList Tryz.prog ops Q (o :: rest) a w := by
  obtain ⟨v', w', hr, h1, _, h3, h4⟩ := append_zeros_own w o.type B v bs hown m hlen hB
  exact Lib.wpList_append_run w hg s x _ _ ho _ _ hs hx v' w' hr (h v' w' h1 h3 h4)

end Go.Proofs.YtphcbpfpelonaaaGreatDoor
