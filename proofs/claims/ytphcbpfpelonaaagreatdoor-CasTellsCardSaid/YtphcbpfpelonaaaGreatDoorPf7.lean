/-
  THE CODE'S DISK IN MEMORY (DkAt): its struct's block, the row of safe bytes, the row of writes that wait; how it lasts, and what becomes of it. Conditions: none.
  CONTRACTS OF bytes.Clone AND OF package disk's small functions: New, Load, Blocks, Down, Waiting, Image, Arm, has, act. Conditions: the disk lies so; rows of at most 2^47 bytes.
  CONTRACTS OF package disk's small functions: New, what Load refuses, Blocks, Down, Waiting, Image, Arm, has, act. Conditions: the disk lies so.
-/
import Derived.Test.YtphcbpfpelonaaaGreatDoorPf6

namespace Go.Proofs.YtphcbpfpelonaaaGreatDoor
open Go.RowKit
set_option linter.unusedVariables false

structure DkAt (T : Nat → Prop) (w : World) (g : Nat) (sv wv : Value) (dvs : List Value) (m : M.Dsk) : Prop where
  blk : Blk w g 66 [sv, wv, .int .i64 (m.left : Int), .bool m.down]
  srow : Own w 0 sv m.safe.flatten
  wrow : w.ownsRow 0 152 2 wv m.wait.length (chgs m.wait dvs)
  dlen : dvs.length = m.wait.length
  dvs_ : ∀ j, j < m.wait.length → IsB w (dvs.getD j undef) (m.wait.getD j (0, [])).2 ∧ Lies (RefS T g sv wv) (dvs.getD j undef)
  tg : T g
  ts : ∀ k, sv.ownBlock = some k → T k ∧ k ≠ g
  tw : ∀ k, wv.ownBlock = some k → T k ∧ k ≠ g ∧ sv.ownBlock ≠ some k
  there : ∀ k, T k → k < w.heap.size
  left_ : m.left < 9223372036854775808
  ok : m.Ok

theorem DkAt.flat {T : Nat → Prop} {w : World} {g : Nat} {sv wv : Value} {dvs : List Value} {m : M.Dsk} (h : DkAt T w g sv wv dvs m) : m.safe.flatten.length = 256 * m.safe.length := flat_length _ h.ok.full

/-- What another call turns doesn't touch it. -/
theorem DkAt.chg {T F : Nat → Prop} {w w' : World} {g : Nat} {sv wv : Value} {dvs : List Value} {m : M.Dsk} (h : DkAt T w g sv wv dvs m) (k : Chg F w w') (hF : ∀ b, T b → ¬ F b) : DkAt T w' g sv wv dvs m where
  blk := h.blk.chg k (hF _ h.tg)
  srow := own_chg h.srow k fun b hb => hF _ (h.ts b hb).1
  wrow := own_chg h.wrow k fun b hb => hF _ (h.tw b hb).1
  dlen := h.dlen
  dvs_ := fun i hi => ⟨(h.dvs_ i hi).1.chg k ((h.dvs_ i hi).2.mono fun b hb => hF _ hb.1), (h.dvs_ i hi).2⟩
  tg := h.tg
  ts := h.ts
  tw := h.tw
  there := fun b hb => Nat.lt_of_lt_of_le (h.there b hb) k.size
  left_ := h.left_
  ok := h.ok

theorem DkAt.below {T : Nat → Prop} {w w' : World} {g : Nat} {sv wv : Value} {dvs : List Value} {m : M.Dsk} (h : DkAt T w g sv wv dvs m) (k : Below w.heap.size w w') : DkAt T w' g sv wv dvs m :=
  h.chg (Chg.of_below (F := fun _ => False) k) fun _ _ h => h

/-- Its struct's last two fields turned. -/
theorem DkAt.fields {T : Nat → Prop} {w w' : World} {g : Nat} {sv wv : Value} {dvs : List Value} {m : M.Dsk} (h : DkAt T w g sv wv dvs m) (k : Chg (fun b => b = g) w w') (l : Nat) (d : Bool)
    (hb : Blk w' g 66 [sv, wv, .int .i64 (l : Int), .bool d]) (hl : l < 9223372036854775808) : DkAt T w' g sv wv dvs { m with left := l, down := d } where
  blk := hb
  srow := own_chg h.srow k fun b hb => (h.ts b hb).2
  wrow := own_chg h.wrow k fun b hb => (h.tw b hb).2.1
  dlen := h.dlen
  dvs_ := fun i hi => ⟨(h.dvs_ i hi).1.chg k ((h.dvs_ i hi).2.mono fun b hb => hb.2.1), (h.dvs_ i hi).2⟩
  tg := h.tg
  ts := h.ts
  tw := h.tw
  there := fun b hb => Nat.lt_of_lt_of_le (h.there b hb) k.size
  left_ := hl
  ok := ⟨h.ok.few, h.ok.full, h.ok.wat⟩

/-- A write more waits. -/
theorem DkAt.push {T : Nat → Prop} {w w' : World} {g : Nat} {sv wv wv' dv : Value} {dvs : List Value} {m : M.Dsk} (h : DkAt T w g sv wv dvs m) {i : Nat} {bs : List UInt8} (hi : i < m.safe.length) (hl : bs.length = 256)
    (k : Chg (fun b => b = g ∨ wv.ownBlock = some b) w w') (hb : Blk w' g 66 [sv, wv', .int .i64 (m.left : Int), .bool m.down])
    (ho : w'.ownsRow 0 152 2 wv' (m.wait.length + 1) (chgs m.wait dvs ++ [.int .i64 (i : Int), dv])) (hd : IsB w' dv bs)
    (hlie : Lies (fun b => w.heap.size ≤ b ∧ b < w'.heap.size ∧ wv'.ownBlock ≠ some b) dv) (hat : wv'.ownBlock = wv.ownBlock ∨ ∃ b, wv'.ownBlock = some b ∧ w.heap.size ≤ b ∧ b < w'.heap.size) :
    DkAt (Grown T w w') w' g sv wv' (dvs ++ [dv]) { m with wait := m.wait ++ [(i, bs)] } where
  blk := hb
  srow := own_chg h.srow k fun b hb => fun e => by
    rcases e with e | e
    · exact (h.ts b hb).2 e
    · exact (h.tw b e).2.2 hb
  wrow := by
    rw [chgs_append _ _ _ _ h.dlen]
    simpa using ho
  dlen := by simp [h.dlen]
  dvs_ := fun j hj => by
    have hj' : j < m.wait.length + 1 := by simpa using hj
    rw [getD_snoc _ _ _ _ (by rw [h.dlen]; exact hj'), getD_snoc _ _ _ _ hj', h.dlen]
    by_cases hlt : j < m.wait.length
    · rw [if_pos hlt, if_pos hlt]
      refine ⟨(h.dvs_ j hlt).1.chg k ((h.dvs_ j hlt).2.mono fun b hb e => ?_), (h.dvs_ j hlt).2.mono fun b hb => ⟨⟨.inl hb.1, Nat.lt_of_lt_of_le (h.there b hb.1) k.size⟩, hb.2.1, hb.2.2.1, fun e => ?_⟩⟩
      · rcases e with e | e
        · exact hb.2.1 e
        · exact hb.2.2.2 e
      · rcases hat with hat | ⟨b', e', h1, h2⟩
        · exact hb.2.2.2 (hat ▸ e)
        · rw [e'] at e
          injection e with e
          have := h.there b hb.1
          omega
    · rw [if_neg hlt, if_neg hlt]
      refine ⟨hd, hlie.mono fun b hb => ⟨⟨.inr hb.1, hb.2.1⟩, fun e => ?_, fun e => ?_, hb.2.2⟩⟩
      · have := h.there g h.tg
        omega
      · have := h.there b (h.ts b e).1
        omega
  tg := ⟨.inl h.tg, Nat.lt_of_lt_of_le (h.there g h.tg) k.size⟩
  ts := fun b hb => ⟨⟨.inl (h.ts b hb).1, Nat.lt_of_lt_of_le (h.there b (h.ts b hb).1) k.size⟩, (h.ts b hb).2⟩
  tw := fun b hb => by
    rcases hat with hat | ⟨b', e', h1, h2⟩
    · rw [hat] at hb
      have := h.tw b hb
      exact ⟨⟨.inl this.1, Nat.lt_of_lt_of_le (h.there b this.1) k.size⟩, this.2⟩
    · rw [e'] at hb
      injection hb with hb
      subst hb
      refine ⟨⟨.inr h1, h2⟩, fun e => ?_, fun e => ?_⟩
      · have := h.there g h.tg
        omega
      · have := h.there b' (h.ts b' e).1
        omega
  there := fun b hb => hb.2
  left_ := h.left_
  ok := M.Ok_push h.ok hi hl

/-- Its safe bytes turned to other blocks. -/
theorem DkAt.lay {T : Nat → Prop} {w w' : World} {g : Nat} {sv wv : Value} {dvs : List Value} {m : M.Dsk} (h : DkAt T w g sv wv dvs m) (s : List (List UInt8)) (k : Chg (fun k => sv.ownBlock = some k) w w') (ho : Own w' 0 sv s.flatten)
    (hs : s.length = m.safe.length) (hf : ∀ b ∈ s, b.length = 256) : DkAt T w' g sv wv dvs { m with safe := s } where
  blk := h.blk.chg k fun e => (h.ts g e).2 rfl
  srow := ho
  wrow := own_chg h.wrow k fun b hb e => (h.tw b hb).2.2 e
  dlen := h.dlen
  dvs_ := fun j hj => ⟨(h.dvs_ j hj).1.chg k ((h.dvs_ j hj).2.mono fun b hb e => hb.2.2.1 e), (h.dvs_ j hj).2⟩
  tg := h.tg
  ts := h.ts
  tw := h.tw
  there := fun b hb => Nat.lt_of_lt_of_le (h.there b hb) k.size
  left_ := h.left_
  ok := ⟨by rw [hs]; exact h.ok.few, hf, fun c hc => by rw [hs]; exact h.ok.wat c hc⟩

/-- Nothing waits any more. -/
theorem DkAt.drained {T : Nat → Prop} {w w' : World} {g : Nat} {sv wv : Value} {dvs : List Value} {m : M.Dsk} (h : DkAt T w g sv wv dvs m) (k : Chg (fun b => b = g) w w') (l : Nat) (d : Bool) (hl : l < 9223372036854775808)
    (hb : Blk w' g 66 [sv, .slice none 0 0, .int .i64 (l : Int), .bool d]) : DkAt T w' g sv (.slice none 0 0) [] ⟨m.safe, [], l, d⟩ where
  blk := hb
  srow := own_chg h.srow k fun b hb => (h.ts b hb).2
  wrow := World.ownsRow_nil _ _ _ _
  dlen := rfl
  dvs_ := fun j hj => by cases hj
  tg := h.tg
  ts := h.ts
  tw := fun b hb => by cases hb
  there := fun b hb => Nat.lt_of_lt_of_le (h.there b hb) k.size
  left_ := hl
  ok := ⟨h.ok.few, h.ok.full, fun c hc => by cases hc⟩

/-- An owned row's block. -/
theorem Own.blk9 {w : World} {B : Nat} {v : Value} {bs : List UInt8} (h : Own w B v bs) (hne : 0 < bs.length) : ∃ g cap cur, v = .slice (some ⟨g, 0, none⟩) bs.length cap ∧ B ≤ g ∧ Blk w g 5 cur ∧ bs.length ≤ cap ∧ cap ≤ maxLen ∧ cur.length = cap ∧ cur.take bs.length = Lib.byteCells bs := by
  rcases h.2 with ⟨_, hn⟩ | ⟨g, cap, cur, rfl, hb, hg, hn, hm, hs, ht⟩
  · omega
  · rw [Nat.mul_one] at hs ht
    exact ⟨g, cap, cur.toList, rfl, hb, by simpa [Blk] using hg, hn, hm, by rw [Array.length_toList, hs], ht⟩

theorem Own.of_blk9 {w : World} {B g cap : Nat} {bs : List UInt8} {cur : List Value} (hB : B ≤ g) (hg : Blk w g 5 cur) (hn : bs.length ≤ cap) (hm : cap ≤ maxLen) (hs : cur.length = cap) (ht : cur.take bs.length = Lib.byteCells bs) :
    Own w B (.slice (some ⟨g, 0, none⟩) bs.length cap) bs :=
  ⟨by rw [byteCells_length, Nat.mul_one], .inr ⟨g, cap, cur.toArray, rfl, hB, hg, hn, hm, by rw [List.size_toArray, hs, Nat.mul_one], by rw [Nat.mul_one]; exact ht⟩⟩

/-- Cells laid into an owned row. -/
theorem splice_row {cur : List Value} {bs xs : List UInt8} {o : Nat} (ht : cur.take bs.length = Lib.byteCells bs) (ho : o + xs.length ≤ bs.length) (hc : bs.length ≤ cur.length) :
    (splice cur o (Lib.byteCells xs)).take bs.length = Lib.byteCells (bs.take o ++ xs ++ bs.drop (o + xs.length)) := by
  have e1 : cur.take o = Lib.byteCells (bs.take o) := by
    have := congrArg (List.take o) ht
    rw [List.take_take, Nat.min_eq_left (by omega)] at this
    rw [this]
    simp [Lib.byteCells, List.map_take]
  have e2 : (cur.drop (o + xs.length)).take (bs.length - (o + xs.length)) = Lib.byteCells (bs.drop (o + xs.length)) := by
    have := congrArg (List.drop (o + xs.length)) ht
    rw [List.drop_take] at this
    rw [this]
    simp [Lib.byteCells, List.map_drop]
  rw [splice, byteCells_length, byteCells_append, byteCells_append, ← e1, ← e2]
  rw [List.take_append, List.take_append]
  have l1 : (cur.take o).length = o := by rw [List.length_take]; omega
  rw [l1, byteCells_length, List.take_of_length_le (by omega), List.take_of_length_le (l := Lib.byteCells xs) (by rw [byteCells_length]; omega), List.append_assoc, Nat.sub_sub]

end Go.Proofs.YtphcbpfpelonaaaGreatDoor

namespace Go.Proofs.YtphcbpfpelonaaaGreatDoor
open Go.RowKit
set_option linter.unusedVariables false
set_option maxRecDepth 100000

theorem not_nil9 (ad : Addr) (n cap : Nat) (w : World) : (binOp .eql 38 (.slice (some ad) n cap) (.slice none 0 0)).run Tryz.prog w = .ok (.bool false) w := rfl

theorem yes_nil9 (n cap : Nat) (w : World) : (binOp .eql 38 (.slice none n cap) (.slice none 0 0)).run Tryz.prog w = .ok (.bool true) w := rfl

set_option maxHeartbeats 2000000 in
theorem clone9_any (kv : Value) (ks : List UInt8) (w : World) (hk : IsB w kv ks) (hlen : ks.length ≤ 140737488355328) :
    Calls Tryz.prog 41 #[kv] w (Makes w ks) := by
  obtain ⟨ao, cap, rfl⟩ := hk.shape
  cases ao with
  | none =>
    have he : ks = [] := by
      obtain ⟨ao', cap', e, h1, h2, h3⟩ := hk
      rcases h3 with h | ⟨b, off, h4, h⟩
      · exact h
      · rw [h4] at e; cases e
    subst he
    have hn := yes_nil9 0 cap
    clear hk hlen
    show Calls Tryz.prog 41 #[.slice none 0 cap] w (Makes w [])
    go_enter Tryz.func41, Tryz.ntmps41
    go_wp2
    go_ret
    exact ⟨_, rfl, World.ownsRow_nil _ _ _ _, Below.refl _ _⟩
  | some ad =>
    have HK := Lib.hid hk
    obtain ⟨n, hn⟩ : ∃ n, n = ks.length := ⟨_, rfl⟩
    have HN : Hid (ks.length = n) := hn.symm
    have HL : Hid (n ≤ 140737488355328) := by rw [Hid, hn]; exact hlen
    rw [← hn] at HK ⊢
    have hnn := not_nil9 ad n cap
    clear hk hn hlen
    go_enter Tryz.func41, Tryz.ntmps41
    go_wp2_with (at_builtin; go_must (refine wpList_app _ rfl _ _ rfl w.heap.size _ [] rfl ?c1 _ ks rfl ?c2 (by intro n c e; cases e) (by rw [HN.out]; have := HL.out; simp; exact this) (by simp) ?_))
    case c1 => exact own_empty w
    case c2 => exact HK.out.below ((Below.refl _ _).alloc (Nat.le_refl _) _)
    intro r1 w1 o1 b1 z1
    have K1 : Below w.heap.size w w1 := ((Below.refl _ _).alloc (Nat.le_refl _) (.cells #[] 5)).trans b1
    clear z1 b1
    go_wp2
    go_ret
    exact ⟨r1, rfl, o1, K1⟩

/-- A disk that was just made. -/
theorem dkAt_new {w w' : World} {g : Nat} {sv : Value} {m : M.Dsk} (hB : Blk w' g 66 [sv, .slice none 0 0, .int .i64 ((0 : Nat) : Int), .bool false]) (ho : Own w' w.heap.size sv m.safe.flatten) (hg : w.heap.size ≤ g) (hne : ∀ k, sv.ownBlock = some k → k ≠ g)
    (hm : m = ⟨m.safe, [], 0, false⟩) (hok : m.Ok) : DkAt (fun k => w.heap.size ≤ k ∧ k < w'.heap.size) w' g sv (.slice none 0 0) [] m where
  blk := by rw [hm]; exact hB
  srow := ho.mono (Nat.zero_le _)
  wrow := by rw [hm]; exact World.ownsRow_nil _ _ _ _
  dlen := by rw [hm]; rfl
  dvs_ := fun j hj => by rw [hm] at hj; cases hj
  tg := ⟨hg, hB.lt⟩
  ts := fun k hk => ⟨ho.block_lt k hk, hne k hk⟩
  tw := fun b hb => by cases hb
  there := fun k hk => hk.2
  left_ := by rw [hm]; exact (by decide : 0 < 9223372036854775808)
  ok := hok

theorem M.dload_ok (bs : List UInt8) (h256 : bs.length % 256 = 0) (hmax : bs.length ≤ 557056) : (M.dload bs).Ok ∧ (M.dload bs).safe.flatten = bs :=
  ⟨⟨by rw [M.dload, M.cut_length]; omega, M.cut_full _ _ (by omega), fun c hc => by cases hc⟩, by rw [M.dload, M.cut_flat, List.take_of_length_le (by omega)]⟩

theorem M.dnew_ok (n : Nat) : (M.dnew n).Ok ∧ (M.dnew n).safe.flatten = List.replicate (256 * min n 2176) 0 :=
  ⟨⟨by rw [M.dnew, List.length_replicate]; omega, fun b hb => by rw [List.eq_of_mem_replicate hb]; exact List.length_replicate, fun c hc => by cases hc⟩, by rw [M.dnew, M.zero256, List.flatten_replicate_replicate, Nat.mul_comm]⟩

end Go.Proofs.YtphcbpfpelonaaaGreatDoor

namespace Go.Proofs.YtphcbpfpelonaaaGreatDoor
open Go.RowKit
set_option linter.unusedVariables false
set_option maxRecDepth 100000

set_option maxHeartbeats 4000000 in
theorem new9_any (n : Int) (hn : -9223372036854775808 ≤ n ∧ n < 9223372036854775808) (w : World) :
    Calls Tryz.prog 8 #[.int .i64 n] w fun e w' => ∃ g sv T, e = .returned (.pointer (some ⟨g, 0, none⟩)) ∧ DkAt T w' g sv (.slice none 0 0) [] (M.dnew n.toNat) ∧ (∀ k, T k → w.heap.size ≤ k) ∧ Below w.heap.size w w' := by
  have HD := Lib.hid (M.dnew_ok n.toNat)
  obtain ⟨k, hk⟩ : ∃ k, k = min n.toNat 2176 := ⟨_, rfl⟩
  obtain ⟨l, hl⟩ : ∃ l, l = 256 * k := ⟨_, rfl⟩
  obtain ⟨ZC, hZC⟩ := make_run l (by omega)
  have HO : Hid (Own (w.alloc (.cells ZC 5)) w.heap.size (.slice (some ⟨w.heap.size, 0, none⟩) l l) (M.dnew n.toNat).safe.flatten) := by rw [Hid, HD.out.2, ← hk, ← hl]; exact (hZC w).2
  have hmk := (hZC w).1
  obtain ⟨g, hg⟩ : ∃ g, g = w.heap.size + 1 := ⟨_, rfl⟩
  obtain ⟨W, hW⟩ : ∃ W, Hid (W = (w.alloc (.cells ZC 5)).alloc (.cells #[.slice (some ⟨w.heap.size, 0, none⟩) l l, .slice none 0 0, .int .i64 0, .bool false] 66)) := ⟨_, rfl⟩
  have B0 : Blk W g 66 [.slice (some ⟨w.heap.size, 0, none⟩) l l, .slice none 0 0, .int .i64 ((0 : Nat) : Int), .bool false] := by rw [hW.out]; exact Blk.newAt _ _ _ _ _ (by rw [hg]; simp) rfl
  have k2 : Below (w.alloc (.cells ZC 5)).heap.size (w.alloc (.cells ZC 5)) W := by rw [hW.out]; exact (Below.refl _ _).alloc (Nat.le_refl _) _
  have k1 : Below w.heap.size w (w.alloc (.cells ZC 5)) := (Below.refl _ _).alloc (Nat.le_refl _) _
  have R : Hid (DkAt (fun k => w.heap.size ≤ k ∧ k < W.heap.size) W g (.slice (some ⟨w.heap.size, 0, none⟩) l l) (.slice none 0 0) [] (M.dnew n.toNat)) := dkAt_new B0 (HO.out.below k2) (by omega) (fun k hk e => by simp [Value.ownBlock] at hk; omega) rfl HD.out.1
  have K : Hid (Below w.heap.size w W) := k1.trans (k2.mono k1.size)
  have HG : Hid (g = w.heap.size + 1) := hg
  have t3 : wrap64 ((k : Int) * 256) = (l : Int) := by unfold wrap64; omega
  have t3' : wrap64 (256 * (k : Int)) = (l : Int) := by unfold wrap64; omega
  have HMK := Lib.hid hmk
  clear hZC hmk HO B0 k2 k1 HD hg hl
  by_cases h1 : n < 0
  · obtain rfl : k = 0 := by omega
    obtain rfl : l = 0 := by unfold wrap64 at t3; omega
    have hmk : (Instr.makeSlice 38 (.int .i64 0) (.int .i64 0)).run Tryz.prog w = .ok (.slice (some ⟨w.heap.size, 0, none⟩) 0 0) (w.alloc (.cells ZC 5)) := HMK.out
    clear hk hn t3 t3'
    go_enter Tryz.func8, Tryz.ntmps8
    go_upto_region 2 with fail
    go_wp2
    rw [← hW.out, ← HG.out]
    go_ret
    exact ⟨g, _, _, rfl, R.out, fun k h => h.1, K.out⟩
  · by_cases h2 : 2176 < n
    · obtain rfl : k = 2176 := by omega
      obtain rfl : l = 557056 := by unfold wrap64 at t3; omega
      have hmk : (Instr.makeSlice 38 (.int .i64 557056) (.int .i64 557056)).run Tryz.prog w = .ok (.slice (some ⟨w.heap.size, 0, none⟩) 557056 557056) (w.alloc (.cells ZC 5)) := HMK.out
      clear hk hn t3 t3'
      go_enter Tryz.func8, Tryz.ntmps8
      go_upto_region 2 with fail
      go_wp2
      rw [← hW.out, ← HG.out]
      go_ret
      exact ⟨g, rfl, _, _, R.out, fun k h => h.1, K.out⟩
    · obtain rfl : n = (k : Int) := by omega
      have hmk := HMK.out
      have t5 : (k : Int) * 256 = (l : Int) := by unfold wrap64 at t3; omega
      clear hk hn t3 t3'
      go_enter Tryz.func8, Tryz.ntmps8
      go_upto_region 2 with fail
      go_wp2
      rw [← hW.out, ← HG.out]
      go_ret
      exact ⟨g, rfl, _, _, R.out, fun k h => h.1, K.out⟩

set_option maxHeartbeats 2000000 in
theorem blocks9_any {T : Nat → Prop} {w : World} {g : Nat} {sv wv : Value} {dvs : List Value} {m : M.Dsk} (h : DkAt T w g sv wv dvs m) :
    Calls Tryz.prog 71 #[.pointer (some ⟨g, 0, none⟩)] w fun e w' => e = .returned (.int .i64 (m.safe.length : Int)) ∧ w' = w := by
  have c0 : w.cell? ⟨g, 0, none⟩ = some sv := h.blk.cell 0
  obtain ⟨n, hn⟩ : ∃ n, n = m.safe.length := ⟨_, rfl⟩
  obtain ⟨l, hl⟩ : ∃ l, l = 256 * n := ⟨_, rfl⟩
  obtain ⟨sa, sc, es⟩ := ownShape h.srow
  rw [h.flat, ← hn, ← hl] at es
  subst es
  rw [← hn]
  have t2 : (l : Int).tdiv 256 = (n : Int) := by rw [Int.tdiv_eq_ediv_of_nonneg (by omega)]; omega
  have t2' : (l : Int) / 256 = (n : Int) := by omega
  have t4 : wrap64 (n : Int) = (n : Int) := by have := h.ok.few; unfold wrap64; omega
  clear h hn hl
  go_enter Tryz.func71, Tryz.ntmps71
  go_wp2
  go_ret
  exact ⟨by show Ending.returned (.int .i64 (wrap64 (n : Int))) = _; rw [t4], rfl⟩

set_option maxHeartbeats 2000000 in
theorem has9_any {T : Nat → Prop} {w : World} {g : Nat} {sv wv : Value} {dvs : List Value} {m : M.Dsk} (h : DkAt T w g sv wv dvs m) (i : Int) :
    Calls Tryz.prog 99 #[.pointer (some ⟨g, 0, none⟩), .int .i64 i] w fun e w' => e = .returned (.bool (decide (0 ≤ i ∧ i < (m.safe.length : Int)))) ∧ w' = w := by
  have C := Lib.hid (blocks9_any h)
  obtain ⟨n, hn⟩ : ∃ n, n = m.safe.length := ⟨_, rfl⟩
  rw [← hn] at C ⊢
  clear h hn
  by_cases h0 : 0 ≤ i
  · by_cases h1 : i < (n : Int)
    · have hd : Hid (decide (0 ≤ i ∧ i < (n : Int)) = true) := decide_eq_true ⟨h0, h1⟩
      rw [hd.out]
      go_enter Tryz.func99, Tryz.ntmps99
      go_wp2_with fail
      refine C.out.mono ?_
      rintro e w1 ⟨rfl, rfl⟩
      go_wp2
      go_ret
      exact ⟨rfl, rfl⟩
    · have hd : Hid (decide (0 ≤ i ∧ i < (n : Int)) = false) := decide_eq_false fun h => h1 h.2
      rw [hd.out]
      go_enter Tryz.func99, Tryz.ntmps99
      go_wp2_with fail
      refine C.out.mono ?_
      rintro e w1 ⟨rfl, rfl⟩
      go_wp2
      go_ret
      exact ⟨by show Ending.returned (.bool (decide (i < (n : Int)))) = _; rw [decide_eq_false (by omega)], rfl⟩
  · have hd : Hid (decide (0 ≤ i ∧ i < (n : Int)) = false) := decide_eq_false fun h => h0 h.1
    rw [hd.out]
    clear C
    go_enter Tryz.func99, Tryz.ntmps99
    go_wp2
    go_ret
    exact ⟨rfl, rfl⟩

set_option maxHeartbeats 2000000 in
/-- An act, while the power is there. -/
theorem act9_any {T : Nat → Prop} {w : World} {g : Nat} {sv wv : Value} {dvs : List Value} {m : M.Dsk} (h : DkAt T w g sv wv dvs m) (hdn : m.down = false) :
    Calls Tryz.prog 97 #[.pointer (some ⟨g, 0, none⟩)] w fun e w' => e = .returned (.int .i64 (if m.goes.2 = true then 11 else 0)) ∧ DkAt T w' g sv wv dvs m.goes.1 ∧ Chg (fun b => b = g) w w' := by
  have H := Lib.hid h
  have c2 : w.cell? ⟨g, 2, none⟩ = some (.int .i64 (m.left : Int)) := h.blk.cell 2
  have c3 : w.cell? ⟨g, 3, none⟩ = some (.bool false) := by rw [← hdn]; exact h.blk.cell 3
  have f2 : w.frozen? ⟨g, 2, none⟩ = false := h.blk.frozen 2
  have f3 : w.frozen? ⟨g, 3, none⟩ = false := h.blk.frozen 3
  obtain ⟨l, hl⟩ : ∃ l, l = m.left := ⟨_, rfl⟩
  have hl63 := h.left_
  rw [← hl] at c2 hl63
  by_cases h0 : l = 0
  · have hg : m.goes = (m, false) := by rw [M.Dsk.goes, if_pos (by omega)]
    rw [hg]
    subst h0
    clear h hl63 hl hg hdn
    go_enter Tryz.func97, Tryz.ntmps97
    go_wp2
    go_ret
    exact ⟨rfl, H.out, Chg.refl _ _⟩
  · by_cases h1 : l = 1
    · have hg : m.goes = ({ m with left := 0, down := true }, true) := by rw [M.Dsk.goes, if_neg (by omega), if_pos (by omega)]
      rw [hg]
      have B1 := (h.blk.set_ 2 (.int .i64 ((0 : Nat) : Int))).set_ 3 (.bool true)
      have K1 : Chg (fun b => b = g) w ((w.setCell ⟨g, 2, none⟩ (.int .i64 ((0 : Nat) : Int))).setCell ⟨g, 3, none⟩ (.bool true)) := ((Chg.refl _ w).cell 2 _).cell 3 _
      have R1 := Lib.hid (h.fields K1 0 true B1 (by decide))
      have K1' := Lib.hid K1
      subst h1
      clear h hl63 hl hg B1 K1 hdn
      go_enter Tryz.func97, Tryz.ntmps97
      go_wp2
      go_ret
      exact ⟨rfl, R1.out, K1'.out⟩
    · obtain ⟨n, hn⟩ : ∃ n, n = l - 1 := ⟨_, rfl⟩
      have hg : m.goes = ({ m with left := n }, false) := by rw [M.Dsk.goes, if_neg (by omega), if_neg (by omega), ← hl, ← hn, hdn]
      rw [hg]
      have s1 : wrap64 ((l : Int) - 1) = (n : Int) := by unfold wrap64; omega
      have s2 : ((n : Int) == 0) = false := by have : ¬ (n : Int) = 0 := by omega
                                               simpa using this
      have s3 : ((l : Int) == 0) = false := by have : ¬ (l : Int) = 0 := by omega
                                               simpa using this
      have B1 := (h.blk.set_ 2 (.int .i64 (n : Int))).set_ 3 (.bool false)
      have K1 : Chg (fun b => b = g) w ((w.setCell ⟨g, 2, none⟩ (.int .i64 (n : Int))).setCell ⟨g, 3, none⟩ (.bool false)) := ((Chg.refl _ w).cell 2 _).cell 3 _
      have R1 := Lib.hid (h.fields K1 n false B1 (by omega))
      have hdn' : Hid (m.down = false) := hdn
      have K1' := Lib.hid K1
      have n0 : ¬ n = 0 := by omega
      clear h hl63 hl hg B1 K1 h1 hn hdn
      go_enter Tryz.func97, Tryz.ntmps97
      go_wp2
      go_ret
      exact ⟨rfl, by rw [hdn'.out]; exact R1.out, K1'.out⟩

end Go.Proofs.YtphcbpfpelonaaaGreatDoor
