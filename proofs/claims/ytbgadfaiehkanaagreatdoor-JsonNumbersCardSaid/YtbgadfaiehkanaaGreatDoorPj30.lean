/-
  VALUES THAT STILL WAIT TO BE COPIED: a list of pointers, and what they point at. Nothing of the program. Conditions: none.
  append(nil, row...): a row in new memory. Nothing of the program. Conditions: as it says.
  A VALUE IS COPIED: what waits behind it. Nothing of the program. Conditions: none.
  A VALUE'S ROWS ARE COPIED: what waits then. Nothing of the program. Conditions: none.
-/
import Derived.Test.YtbgadfaiehkanaaGreatDoorPj29
import Derived.Test.YtbgadfaiehkanaaGreatDoorJsS1
import Derived.Deep.Upon

namespace Go.Proofs.YtbgadfaiehkanaaGreatDoor
open Go.RowKit Go.Proofs Go.Shelf
set_option linter.unusedVariables false
set_option maxRecDepth 100000

/-- A value that waits: where its cells lie, and what they are. -/
structure It where
  g : Nat
  off : Nat
  d : Nat
  cs : List Value
  x : M.GV
def It.ptr (t : It) : Value := .pointer (some ⟨t.g, t.off, none⟩)
def It.apart (a b : It) : Prop := a.g ≠ b.g ∨ a.off + 6 ≤ b.off ∨ b.off + 6 ≤ a.off

structure ItOk (lo : Nat) (w : World) (t : It) : Prop where
  rng : w.rangeAt t.g t.off t.cs
  thr : w.there t.g t.off 6
  val : IsV (fun b => b < lo) w t.d t.cs t.x
  new : lo ≤ t.g
  lt : t.g < w.heap.size

theorem ItOk.chg {F : Nat → Prop} {lo : Nat} {w w' : World} {t : It} (h : ItOk lo w t) (k : Chg F w w') (h1 : ¬ F t.g) (h2 : ∀ b, b < lo → ¬ F b) : ItOk lo w' t := by
  have hb := k.block t.g h.lt h1
  refine ⟨fun j v hv => ?_, fun j hj => ?_, IsV.chg k (fun b hb => h2 b hb) _ h.val, h.new, Nat.lt_of_lt_of_le h.lt k.size⟩
  · rw [World.cell?_of_block (a := ⟨t.g, t.off + j, none⟩) hb]
    exact h.rng j v hv
  · have := h.thr j hj
    rw [World.cell?_of_block (a := ⟨t.g, t.off + j, none⟩) hb, World.frozen?_of_block (a := ⟨t.g, t.off + j, none⟩) hb]
    exact this

/-- A cell of one that is apart is written over. -/
theorem ItOk.set {lo : Nat} {w : World} {s t : It} (h : ItOk lo w s) (hst : It.apart s t) (ht : lo ≤ t.g) (i : Nat) (hi : i < 6) (v : Value) : ItOk lo (w.setCell ⟨t.g, t.off + i, none⟩ v) s := by
  have hl := h.val.len
  have e : w.setCell ⟨t.g, t.off + i, none⟩ v = w.setCells t.g (t.off + i) [v] := rfl
  refine ⟨?_, ?_, IsV.chg (F := fun b => b = t.g) ((Chg.refl _ _).cell _ _) (fun b hb e => by rw [e] at hb; omega) _ h.val, h.new, by rw [World.size_setCell]; exact h.lt⟩
  · rw [e]
    refine World.rangeAt_setCells_apart h.rng _ _ _ ?_
    rcases hst with hst | hst | hst
    · exact .inl hst
    · exact .inr (.inl (by omega))
    · exact .inr (.inr (by show t.off + i + 1 ≤ s.off; omega))
  · rw [e]
    exact World.there_setCells h.thr _ _ _

/-- What waits, and the value that is handed back at last. -/
structure CW (w0 : World) (gX gR : Nat) (x : M.GV) (wr : World) (wv : Value) (its : List It) : Prop where
  bel : Below w0.heap.size w0 wr
  row : wr.ownsRow w0.heap.size 156 1 wv its.length (its.map It.ptr)
  ok : ∀ t ∈ its, ItOk w0.heap.size wr t
  far : ∀ t ∈ its, wv.ownBlock ≠ some t.g
  pw : its.Pairwise It.apart
  root : ∃ a1 c1 a2 c2, Blk wr gX 27 (vcs x.k x.b x.n x.t (.slice a1 x.l.length c1) (.slice a2 x.m.length c2))
  rfar : wv.ownBlock ≠ some gX
  rnew : w0.heap.size ≤ gX
  out : Blk wr gR 27 z6
  ofar : wv.ownBlock ≠ some gR
  oit : ∀ t ∈ its, t.g ≠ gR
  onew : w0.heap.size ≤ gR

theorem CW.chg {F : Nat → Prop} {w0 : World} {gX gR : Nat} {x : M.GV} {wr w' : World} {wv : Value} {its : List It} (h : CW w0 gX gR x wr wv its) (k : Chg F wr w') (h1 : ∀ b, b < w0.heap.size → ¬ F b) (h2 : ∀ t ∈ its, ¬ F t.g) (h3 : ¬ F gX) (h5 : ¬ F gR) (h4 : ∀ b, wv.ownBlock = some b → ¬ F b) : CW w0 gX gR x w' wv its := by
  obtain ⟨a1, c1, a2, c2, hb⟩ := h.root
  exact ⟨h.bel.trans (k.below h.bel.size fun b hb => Nat.le_of_not_lt fun e => h1 b e hb), own_chg h.row k h4, fun t ht => (h.ok t ht).chg k (h2 t ht) h1, h.far, h.pw, ⟨a1, c1, a2, c2, hb.chg k h3⟩, h.rfar, h.rnew, h.out.chg k h5, h.ofar, h.oit, h.onew⟩

theorem CW.below {w0 : World} {gX gR : Nat} {x : M.GV} {wr w' : World} {wv : Value} {its : List It} (h : CW w0 gX gR x wr wv its) (k : Below wr.heap.size wr w') : CW w0 gX gR x w' wv its :=
  h.chg (Chg.of_below (F := fun _ => False) k) (fun _ _ e => e) (fun _ _ e => e) (fun e => e) (fun e => e) (fun _ _ e => e)

/-- One more waits. -/
theorem CW.push {w0 : World} {gX gR : Nat} {x : M.GV} {w1 w2 : World} {wv v2 : Value} {its : List It} {c : It} (h : CW w0 gX gR x w1 wv its) (o : w2.ownsRow w0.heap.size 156 1 v2 (its.length + 1) (its.map It.ptr ++ [c.ptr]))
    (g : w1.grownBy w2 wv.ownBlock) (a : v2.ownBlock = wv.ownBlock ∨ v2.ownBlock = some w1.heap.size) (hc : ItOk w0.heap.size w1 c) (hca : ∀ t ∈ its, It.apart t c) (hcf : wv.ownBlock ≠ some c.g) (hcr : c.g ≠ gR) : CW w0 gX gR x w2 v2 (its ++ [c]) := by
  have k : Chg (fun b => wv.ownBlock = some b) w1 w2 := Chg.of_grown g fun k hk => hk
  have h1 : ∀ b, b < w0.heap.size → ¬ wv.ownBlock = some b := fun b hb e => by have := (h.row.lt b e).1; omega
  have far2 : ∀ y, y < w1.heap.size → wv.ownBlock ≠ some y → v2.ownBlock ≠ some y := by
    intro y hy hn
    rcases a with a | a
    · rw [a]; exact hn
    · rw [a]; intro e; injection e with e; omega
  obtain ⟨a1, c1, a2, c2, hb⟩ := h.root
  refine ⟨h.bel.trans (k.below h.bel.size fun b hb => Nat.le_of_not_lt fun e => h1 b e hb), ?_, ?_, ?_, ?_, ⟨a1, c1, a2, c2, hb.chg k h.rfar⟩, far2 _ hb.lt h.rfar, h.rnew, h.out.chg k h.ofar, far2 _ h.out.lt h.ofar, fun t ht => ?_, h.onew⟩
  · rw [List.length_append, List.map_append]
    exact o
  · intro t ht
    rcases List.mem_append.1 ht with ht | ht
    · exact (h.ok t ht).chg k (h.far t ht) h1
    · rw [List.mem_singleton.1 ht]; exact hc.chg k hcf h1
  · intro t ht
    rcases List.mem_append.1 ht with ht | ht
    · exact far2 _ (h.ok t ht).lt (h.far t ht)
    · rw [List.mem_singleton.1 ht]; exact far2 _ hc.lt hcf
  · refine List.pairwise_append.2 ⟨h.pw, List.pairwise_singleton _ _, fun a ha b hb => ?_⟩
    rw [List.mem_singleton.1 hb]
    exact hca a ha
  · rcases List.mem_append.1 ht with ht | ht
    · exact h.oit t ht
    · rw [List.mem_singleton.1 ht]; exact hcr

/-- The last one is taken. -/
theorem CW.pop {w0 : World} {gX gR : Nat} {x : M.GV} {wr : World} {wv : Value} {its : List It} {t : It} (h : CW w0 gX gR x wr wv (its ++ [t])) :
    ∃ b cap, wv = .slice (some ⟨b, 0, none⟩) (its.length + 1) cap ∧ CW w0 gX gR x wr (.slice (some ⟨b, 0, none⟩) its.length cap) its ∧ ItOk w0.heap.size wr t ∧ (∀ s ∈ its, It.apart s t) ∧ b ≠ t.g ∧ wr.cell? ⟨b, its.length, none⟩ = some t.ptr ∧ its.length + 1 ≤ cap := by
  have hr := h.row
  rw [List.length_append, List.map_append] at hr
  rcases hr.2 with ⟨_, h0⟩ | ⟨b, cap, cur, hv, hb, hg, hn, hm, hs, ht⟩
  · simp at h0
  · subst hv
    have hlen : (its.map It.ptr).length = its.length := List.length_map ..
    refine ⟨b, cap, rfl, ⟨h.bel, ?_, fun s hs => h.ok s (List.mem_append_left _ hs), fun s hs => h.far s (List.mem_append_left _ hs), (List.pairwise_append.1 h.pw).1, h.root, h.rfar, h.rnew, h.out, h.ofar, fun s hs => h.oit s (List.mem_append_left _ hs), h.onew⟩, h.ok t (List.mem_append_right _ (List.mem_singleton.2 rfl)), fun s hs => (List.pairwise_append.1 h.pw).2.2 s hs t (List.mem_singleton.2 rfl), ?_, ?_, hn⟩
    · refine ⟨by rw [hlen, Nat.mul_one], .inr ⟨b, cap, cur, rfl, hb, hg, by simp at hn; omega, hm, hs, ?_⟩⟩
      have := congrArg (List.take its.length) ht
      have h9 : ((its.map It.ptr) ++ [t].map It.ptr).take its.length = its.map It.ptr := by
        rw [← hlen]
        exact List.take_left
      rw [List.take_take, h9, Nat.min_eq_left (by simp)] at this
      rw [Nat.mul_one]
      exact this
    · intro e
      have := h.far t (List.mem_append_right _ (List.mem_singleton.2 rfl))
      exact this (by rw [← e]; rfl)
    · have := hr.cells (g := b) rfl its.length t.ptr (by rw [List.getElem?_append_right (by omega), hlen, Nat.sub_self]; rfl)
      rw [add_plainJ, Nat.zero_add] at this
      exact this

end Go.Proofs.YtbgadfaiehkanaaGreatDoor

namespace Go.Proofs.YtbgadfaiehkanaaGreatDoor
open Go.RowKit Go.Proofs Go.Shelf
set_option linter.unusedVariables false
set_option maxRecDepth 100000

theorem src_none (size : Nat) (tx e : TypeId) (c : Nat) (w : World) (h : Tryz.prog.underlying tx = some (.slice e)) : Src Tryz.prog size tx (.slice none 0 c) 0 [] w :=
  ⟨.inl ⟨e, h⟩, fun w' => by simp [Builtin.lenOf], by simp [Builtin.firstCells], by simp [Builtin.firstCells], by simp, fun u hu => by cases hu⟩

theorem wpList_copy {t e : TypeId} {size bytes : Nat} {z : Value} (hT : RowTy t e size bytes z) (w : World) {ops : Array Oper} {rest : List Oper} {o : Oper} {a : Act} {Q : Exit → Act → World → Prop} (hg : o.guard = none) (s x : Operand)
    (ho : o.op = .call { callee := .builtin .append, args := #[s, x], argTypes := #[t, t] }) (hs : a.eval s = .slice none 0 0) (S : Nat → Prop) (lv : Value) (n : Nat) (xs : List Value) (hx : a.eval x = lv) (hr : RowAt S w size lv n xs) (h1 : ∀ u ∈ xs, u.oneCell' = true) (hb : n * bytes ≤ 140737488355328)
    (h : ∀ v' w', w'.ownsRow w.heap.size e size v' n xs → Below w.heap.size w w' → wpList Tryz.prog ops Q rest (a.put o.dst v') w') : wpList Tryz.prog ops Q (o :: rest) a w := by
  obtain ⟨ao, cap, rfl, hnc, hcm, hl, h0⟩ := hr
  have hnm : n ≤ maxLen := Nat.le_trans hnc hcm
  cases ao with
  | some ad =>
    have hc : ∀ j u, xs[j]? = some u → w.cell? (ad.add j) = some u := by
      intro j u hu
      rcases h0 with h0 | ⟨b, off, e, _, _, hc⟩
      · subst h0
        rw [Nat.zero_mul] at hl
        rw [List.eq_nil_of_length_eq_zero hl] at hu
        cases hu
      · injection e with e
        rw [e, add_plainJ]
        exact hc j u hu
    refine wpList_app_row hT w hg s x ho w.heap.size (.slice none 0 0) 0 [] hs (World.ownsRow_nil _ _ _ _) ad n cap xs hx hl hc h1 (by omega) (by rw [Nat.zero_add]; exact hb) (Nat.le_refl _) fun v' w' o g _ => ?_
    rw [Nat.zero_add, List.nil_append] at o
    exact h v' w' o ⟨g.os, g.tape, g.output, g.size, fun k hk => g.block k hk (by simp [Value.ownBlock])⟩
  | none =>
    have hn : n = 0 := by
      rcases h0 with h0 | ⟨b, off, e, _⟩
      · exact h0
      · cases e
    subst hn
    rw [Nat.zero_mul] at hl
    have hxs := List.eq_nil_of_length_eq_zero hl
    subst hxs
    obtain ⟨hu, hi, hz, hz0⟩ := hT
    obtain ⟨i0, hi0, _, hz1, _⟩ := info_any hi
    refine wpList_plain hg fun K hK => ?_
    have hrun := run_append_nothing (P := Tryz.prog) w t t o.type e i0 hu hi0 none 0 0 (Nat.le_refl _) (.slice none 0 cap) (src_none i0.size t e cap w hu)
    unfold Oper.wp
    simp [execOp, ho, resolve, invoke, builtin, hs, hx, hrun, Result.andThen]
    exact hK _ _ (h _ _ (World.ownsRow_nil _ _ _ _) (Below.refl _ _))

end Go.Proofs.YtbgadfaiehkanaaGreatDoor

namespace Go.Proofs.YtbgadfaiehkanaaGreatDoor
open Go.RowKit Go.Proofs Go.Shelf
set_option linter.unusedVariables false
set_option maxRecDepth 100000

/-- What waits, what is to wait besides, and cells that stay. -/
structure CX (w0 : World) (gX gR : Nat) (x : M.GV) (wr : World) (wv : Value) (its todo : List It) (cells : List (Addr × Value)) : Prop where
  cw : CW w0 gX gR x wr wv its
  ok : ∀ c ∈ todo, ItOk w0.heap.size wr c ∧ wv.ownBlock ≠ some c.g ∧ c.g ≠ gR ∧ c.g ≠ gX
  ap : ∀ t ∈ its, ∀ c ∈ todo, It.apart t c
  pw : todo.Pairwise It.apart
  keep : ∀ p ∈ cells, wr.cell? p.1 = some p.2 ∧ p.1.block < wr.heap.size ∧ wv.ownBlock ≠ some p.1.block
  root : ∀ t ∈ its, t.g ≠ gX

theorem CX.below {w0 : World} {gX gR : Nat} {x : M.GV} {wr w' : World} {wv : Value} {its todo : List It} {cells : List (Addr × Value)} (h : CX w0 gX gR x wr wv its todo cells) (k : Below wr.heap.size wr w') : CX w0 gX gR x w' wv its todo cells :=
  ⟨h.cw.below k, fun c hc => ⟨(h.ok c hc).1.chg (Chg.of_below (F := fun _ => False) k) (fun e => e) (fun _ _ e => e), (h.ok c hc).2⟩, h.ap, h.pw, fun p hp => ⟨cell_below k (h.keep p hp).1, Nat.lt_of_lt_of_le (h.keep p hp).2.1 k.size, (h.keep p hp).2.2⟩, h.root⟩

theorem CX.push {w0 : World} {gX gR : Nat} {x : M.GV} {w1 w2 : World} {wv v2 : Value} {its todo : List It} {c : It} {cells : List (Addr × Value)} (h : CX w0 gX gR x w1 wv its (c :: todo) cells) (o : w2.ownsRow w0.heap.size 156 1 v2 (its.length + 1) (its.map It.ptr ++ [c.ptr]))
    (g : w1.grownBy w2 wv.ownBlock) (a : v2.ownBlock = wv.ownBlock ∨ v2.ownBlock = some w1.heap.size) : CX w0 gX gR x w2 v2 (its ++ [c]) todo cells := by
  have hc := h.ok c List.mem_cons_self
  have k : Chg (fun b => wv.ownBlock = some b) w1 w2 := Chg.of_grown g fun k hk => hk
  have h1 : ∀ b, b < w0.heap.size → ¬ wv.ownBlock = some b := fun b hb e => by have := (h.cw.row.lt b e).1; omega
  have far2 : ∀ y, y < w1.heap.size → wv.ownBlock ≠ some y → v2.ownBlock ≠ some y := by
    intro y hy hn
    rcases a with a | a
    · rw [a]; exact hn
    · rw [a]; intro e; injection e with e; omega
  refine ⟨h.cw.push o g a hc.1 (fun t ht => h.ap t ht c List.mem_cons_self) hc.2.1 hc.2.2.1, fun s hs => ?_, ?_, (List.pairwise_cons.1 h.pw).2, fun p hp => ?_, ?_⟩
  · have := h.ok s (List.mem_cons_of_mem _ hs)
    exact ⟨this.1.chg k this.2.1 h1, far2 _ this.1.lt this.2.1, this.2.2⟩
  · intro t ht s hs
    rcases List.mem_append.1 ht with ht | ht
    · exact h.ap t ht s (List.mem_cons_of_mem _ hs)
    · rw [List.mem_singleton.1 ht]
      exact (List.pairwise_cons.1 h.pw).1 s hs
  · have hp := h.keep p hp
    refine ⟨?_, Nat.lt_of_lt_of_le hp.2.1 k.size, far2 _ hp.2.1 hp.2.2⟩
    rw [World.cell?_of_block (k.block p.1.block hp.2.1 hp.2.2)]
    exact hp.1
  · intro t ht
    rcases List.mem_append.1 ht with ht | ht
    · exact h.root t ht
    · rw [List.mem_singleton.1 ht]; exact hc.2.2.2

/-- The values in a row, as such that are to wait. -/
def kids (g k o d : Nat) (cf : Nat → List Value) (xf : Nat → M.GV) : Nat → List It
  | 0 => []
  | n + 1 => kids g k o d cf xf n ++ [⟨g, n * k + o, d, cf n, xf n⟩]

theorem kids_len (g k o d : Nat) (cf : Nat → List Value) (xf : Nat → M.GV) (n : Nat) : (kids g k o d cf xf n).length = n := by
  induction n with
  | zero => rfl
  | succ n ih => rw [kids, List.length_append, ih]; rfl
theorem kids_mem {g k o d : Nat} {cf : Nat → List Value} {xf : Nat → M.GV} {n : Nat} {c : It} (h : c ∈ kids g k o d cf xf n) : ∃ i, i < n ∧ c = ⟨g, i * k + o, d, cf i, xf i⟩ := by
  induction n with
  | zero => cases h
  | succ n ih =>
    rcases List.mem_append.1 h with h | h
    · obtain ⟨i, hi, e⟩ := ih h
      exact ⟨i, by omega, e⟩
    · exact ⟨n, by omega, List.mem_singleton.1 h⟩
theorem kids_pw (g k o d : Nat) (cf : Nat → List Value) (xf : Nat → M.GV) (hk : 6 ≤ k) (n : Nat) : (kids g k o d cf xf n).Pairwise It.apart := by
  induction n with
  | zero => exact List.Pairwise.nil
  | succ n ih =>
    refine List.pairwise_append.2 ⟨ih, List.pairwise_singleton _ _, fun a ha b hb => ?_⟩
    obtain ⟨i, hi, rfl⟩ := kids_mem ha
    rw [List.mem_singleton.1 hb]
    refine .inr (.inl ?_)
    show i * k + o + 6 ≤ n * k + o
    have : (i + 1) * k ≤ n * k := Nat.mul_le_mul_right k hi
    rw [Nat.add_mul, Nat.one_mul] at this
    omega
theorem kids_at (g k o d : Nat) (cf : Nat → List Value) (xf : Nat → M.GV) (n j : Nat) (hj : j < n) : (kids g k o d cf xf n)[j]? = some ⟨g, j * k + o, d, cf j, xf j⟩ := by
  induction n with
  | zero => omega
  | succ n ih =>
    rw [kids]
    by_cases h : j < n
    · rw [List.getElem?_append_left (by rw [kids_len]; exact h)]
      exact ih h
    · have e : j = n := by omega
      subst e
      rw [List.getElem?_append_right (by rw [kids_len]; exact Nat.le_refl _), kids_len, Nat.sub_self]
      rfl
theorem kids_drop (g k o d : Nat) (cf : Nat → List Value) (xf : Nat → M.GV) (n j : Nat) (hj : j < n) : (kids g k o d cf xf n).drop j = ⟨g, j * k + o, d, cf j, xf j⟩ :: (kids g k o d cf xf n).drop (j + 1) := by
  have hl := kids_len g k o d cf xf n
  have ha := kids_at g k o d cf xf n j hj
  rw [List.getElem?_eq_getElem (by omega)] at ha
  rw [List.drop_eq_getElem_cons (by omega), Option.some.inj ha]
theorem kids_take (g k o d : Nat) (cf : Nat → List Value) (xf : Nat → M.GV) (n j : Nat) (hj : j < n) : (kids g k o d cf xf n).take (j + 1) = (kids g k o d cf xf n).take j ++ [⟨g, j * k + o, d, cf j, xf j⟩] := by
  rw [List.take_add_one, kids_at g k o d cf xf n j hj]
  rfl
theorem kids_sum (g k o d : Nat) (cf : Nat → List Value) (xf : Nat → M.GV) (f : It → Nat) (z : M.GV → Nat) (hf : ∀ i, f ⟨g, i * k + o, d, cf i, xf i⟩ = z (xf i)) (n : Nat) : ((kids g k o d cf xf n).map f).sum = ((List.range n).map fun i => z (xf i)).sum := by
  induction n with
  | zero => rfl
  | succ n ih => rw [kids, List.map_append, List.sum_append, ih, List.range_succ, List.map_append, List.sum_append, List.map_singleton, List.map_singleton, hf]

/-- A row's element waits. -/
theorem kid_ok {lo : Nat} {w : World} {B size n g c : Nat} {e : TypeId} {xs : List Value} (h : w.ownsRow B e size (.slice (some ⟨g, 0, none⟩) n c) n xs) (o d : Nat) (ho : o + 6 ≤ n * size) (cs : List Value) (x : M.GV) (hcs : ∀ (j : Nat) u, cs[j]? = some u → xs[o + j]? = some u) (iv : IsV (fun b => b < lo) w d cs x) (hlo : lo ≤ g) : ItOk lo w ⟨g, o, d, cs, x⟩ := by
  refine ⟨fun j v hv => ?_, fun j hj => ?_, iv, hlo, (h.lt g rfl).2⟩
  · have := h.cells (g := g) rfl (o + j) v (hcs j v hv)
    rw [add_plainJ, Nat.zero_add] at this
    exact this
  · rcases h.2 with ⟨h0, _⟩ | ⟨g2, cp, cur, he, hb, hg, hn, hm, hs, ht⟩
    · cases h0
    · injection he with e1 e2 e3
      injection e1 with e1
      injection e1 with e1
      subst e1 e3
      have hB : Blk w g e cur.toList := by unfold Blk; rw [hg]
      have := hB.there (o + j) 1 (by
        rw [Array.length_toList, hs]
        have : n * size ≤ c * size := Nat.mul_le_mul_right size hn
        omega)
      have := this 0 (by omega)
      rw [Nat.add_zero] at this
      exact this

end Go.Proofs.YtbgadfaiehkanaaGreatDoor

namespace Go.Proofs.YtbgadfaiehkanaaGreatDoor
open Go.RowKit Go.Proofs Go.Shelf
set_option linter.unusedVariables false
set_option maxRecDepth 100000

/-- Where the value that is handed back lies, if it is this one. -/
def RootOr (gX : Nat) (x : M.GV) (its : List It) (t : It) : Prop := (t.g ≠ gX ∧ ∀ s ∈ its, s.g ≠ gX) ∨ (its = [] ∧ t.g = gX ∧ t.off = 0 ∧ t.x = x)

theorem CW.set {w0 : World} {gX gR : Nat} {x : M.GV} {wr : World} {wv : Value} {its : List It} (h : CW w0 gX gR x wr wv its) (t : It) (ht : w0.heap.size ≤ t.g) (hap : ∀ s ∈ its, It.apart s t) (hv : wv.ownBlock ≠ some t.g) (hr : t.g ≠ gR) (hro : RootOr gX x its t) (i : Nat) (v : Value)
    (hi : (i = 4 ∧ ∃ a c, v = .slice a t.x.l.length c) ∨ (i = 5 ∧ ∃ a c, v = .slice a t.x.m.length c)) : CW w0 gX gR x (wr.setCell ⟨t.g, t.off + i, none⟩ v) wv its := by
  have k : Chg (fun b => b = t.g) wr (wr.setCell ⟨t.g, t.off + i, none⟩ v) := (Chg.refl _ _).cell _ _
  have hi6 : i < 6 := by rcases hi with ⟨e, _⟩ | ⟨e, _⟩ <;> omega
  obtain ⟨a1, c1, a2, c2, hb⟩ := h.root
  refine ⟨h.bel.trans (k.below h.bel.size fun b hb => by rw [hb]; exact ht), own_chg h.row k (fun b hb e => hv (by rw [hb, e])), fun s hs => (h.ok s hs).set (hap s hs) ht i hi6 v, h.far, h.pw, ?_, h.rfar, h.rnew, h.out.chg k (fun e => hr e.symm), h.ofar, h.oit, h.onew⟩
  rcases hro with ⟨hne, _⟩ | ⟨_, e1, e2, e3⟩
  · exact ⟨a1, c1, a2, c2, hb.chg k fun e => hne e.symm⟩
  · rw [e1, e2, Nat.zero_add]
    rw [e3] at hi
    have hb2 := hb.set_ i v
    rcases hi with ⟨rfl, a, c, rfl⟩ | ⟨rfl, a, c, rfl⟩
    · exact ⟨a, c, a2, c2, hb2⟩
    · exact ⟨a1, c1, a, c, hb2⟩

def blkOf (v : Value) : Nat := v.ownBlock.getD 0

theorem own_n0 {w : World} {B size n : Nat} {e : TypeId} {v : Value} {xs : List Value} (h : w.ownsRow B e size v n xs) : (∃ a c, v = .slice a n c) ∧ (n ≠ 0 → ∃ c, v = .slice (some ⟨blkOf v, 0, none⟩) n c) := by
  rcases h.2 with ⟨rfl, rfl⟩ | ⟨g, cap, cur, rfl, _⟩
  · exact ⟨⟨_, _, rfl⟩, fun e => absurd rfl e⟩
  · exact ⟨⟨_, _, rfl⟩, fun _ => ⟨cap, rfl⟩⟩

theorem flat_pre (k : Nat) (ls : List (List Value)) (h : ∀ l ∈ ls, l.length = k) (o i : Nat) (hi : i < ls.length) (cs : List Value) (hcs : ∀ (j : Nat) u, cs[j]? = some u → (ls.getD i [])[o + j]? = some u) : ∀ (j : Nat) u, cs[j]? = some u → ls.flatten[i * k + o + j]? = some u := by
  intro j u hu
  have h2 := hcs j u hu
  have hm : ls.getD i [] ∈ ls := by
    rw [List.getD_eq_getElem?_getD, List.getElem?_eq_getElem hi]
    exact List.getElem_mem _
  have hj : o + j < k := by rw [← h _ hm]; exact (List.getElem?_eq_some_iff.1 h2).1
  rw [Nat.add_assoc, flat_at k ls h i (o + j) hi hj]
  exact h2

/-- A value's rows are new ones now: what they hold is to wait. -/
theorem CW.opened {w0 : World} {gX gR : Nat} {x : M.GV} {wz w2 w3 w4 w5 : World} {v lv mv v5 v6 : Value} {its : List It} {t : It} {d : Nat} {ls ms : List (List Value)} (h : CW w0 gX gR x wz v its) (hok : ItOk w0.heap.size wz t) (hap : ∀ s ∈ its, It.apart s t) (hv : v.ownBlock ≠ some t.g) (hr : t.g ≠ gR) (hro : RootOr gX x its t)
    (LR : LisRow (fun b => b < w0.heap.size) wz d lv t.x.l ls) (MR : MemRow (fun b => b < w0.heap.size) wz d mv t.x.m ms)
    (k2 : Below wz.heap.size wz w2) (o5 : w2.ownsRow wz.heap.size 27 6 v5 t.x.l.length ls.flatten) (e3 : w3 = w2.setCell ⟨t.g, t.off + 4, none⟩ v5)
    (k4 : Below w3.heap.size w3 w4) (o6 : w4.ownsRow w3.heap.size 55 7 v6 t.x.m.length ms.flatten) (e5 : w5 = w4.setCell ⟨t.g, t.off + 5, none⟩ v6) :
    CX w0 gX gR x w5 v its (kids (blkOf v5) 6 0 d (fun i => ls.getD i []) (fun i => t.x.l.getD i M.vNull) t.x.l.length ++ kids (blkOf v6) 7 1 d (fun i => (ms.getD i []).tail) (fun i => (t.x.m.getD i ([], M.vNull)).2) t.x.m.length)
      [(⟨t.g, t.off + 4, none⟩, v5), (⟨t.g, t.off + 5, none⟩, v6)] := by
  have s3 : w3.heap.size = w2.heap.size := by rw [e3, World.size_setCell]
  have s5 : w5.heap.size = w4.heap.size := by rw [e5, World.size_setCell]
  have hk2 := k2.size
  have hk4 := k4.size
  have htl := hok.lt
  have q3 : Chg (fun b => b = t.g) w2 w3 := by rw [e3]; exact (Chg.refl _ _).cell _ _
  have q5 : Chg (fun b => b = t.g) w4 w5 := by rw [e5]; exact (Chg.refl _ _).cell _ _
  have cw2 := h.below k2
  have cw3 : CW w0 gX gR x w3 v its := by rw [e3]; exact cw2.set t hok.new hap hv hr hro 4 v5 (.inl ⟨rfl, (own_n0 o5).1⟩)
  have cw4 := cw3.below k4
  have cw5 : CW w0 gX gR x w5 v its := by rw [e5]; exact cw4.set t hok.new hap hv hr hro 5 v6 (.inr ⟨rfl, (own_n0 o6).1⟩)
  obtain ⟨_, _, _, _, hbr⟩ := h.root
  have hxl := hbr.lt
  have hrl := h.out.lt
  have hlo := h.bel.size
  have hvl : ∀ b, v.ownBlock = some b → b < wz.heap.size := fun b hb => (h.row.lt b hb).2
  have L5 : ∀ c ∈ kids (blkOf v5) 6 0 d (fun i => ls.getD i []) (fun i => t.x.l.getD i M.vNull) t.x.l.length, ItOk w0.heap.size w5 c ∧ wz.heap.size ≤ c.g ∧ c.g < w3.heap.size := by
    intro c hc
    obtain ⟨i, hi, rfl⟩ := kids_mem hc
    obtain ⟨cp, hv5⟩ := (own_n0 o5).2 (by omega)
    rw [hv5] at o5
    have hlt : wz.heap.size ≤ blkOf v5 ∧ blkOf v5 < w2.heap.size := o5.lt _ rfl
    have iv := (LR.2.2 i hi).below k2
    have ok2 : ItOk w0.heap.size w2 ⟨blkOf v5, i * 6 + 0, d, ls.getD i [], t.x.l.getD i M.vNull⟩ :=
      kid_ok o5 (i * 6 + 0) d (by have : (i + 1) * 6 ≤ t.x.l.length * 6 := Nat.mul_le_mul_right 6 hi; omega) _ _ (flat_pre 6 ls (len_of LR.1 fun i hi => (LR.2.2 i hi).len) 0 i (by rw [LR.1]; exact hi) _ fun j u hu => by rw [Nat.zero_add]; exact hu) iv (by omega)
    have ok3 := ok2.chg q3 (by show ¬ blkOf v5 = t.g; omega) (fun b hb e => by have := hok.new; omega)
    have ok4 := ok3.chg (Chg.of_below (F := fun _ => False) k4) (fun e => e) (fun _ _ e => e)
    have ok5 := ok4.chg q5 (by show ¬ blkOf v5 = t.g; omega) (fun b hb e => by have := hok.new; omega)
    exact ⟨ok5, hlt.1, by rw [s3]; exact hlt.2⟩
  have L6 : ∀ c ∈ kids (blkOf v6) 7 1 d (fun i => (ms.getD i []).tail) (fun i => (t.x.m.getD i ([], M.vNull)).2) t.x.m.length, ItOk w0.heap.size w5 c ∧ w3.heap.size ≤ c.g := by
    intro c hc
    obtain ⟨i, hi, rfl⟩ := kids_mem hc
    obtain ⟨cp, hv6⟩ := (own_n0 o6).2 (by omega)
    rw [hv6] at o6
    have hlt : w3.heap.size ≤ blkOf v6 ∧ blkOf v6 < w4.heap.size := o6.lt _ rfl
    obtain ⟨cs, ec, iv0⟩ := MR.2.2 i hi
    have hce : (ms.getD i []).tail = cs := by rw [ec]; rfl
    have iv3 := IsV.chg q3 (fun b hb e => by have := hok.new; omega) d (iv0.below k2)
    have iv := iv3.below k4
    have ok4 : ItOk w0.heap.size w4 ⟨blkOf v6, i * 7 + 1, d, (ms.getD i []).tail, (t.x.m.getD i ([], M.vNull)).2⟩ :=
      kid_ok o6 (i * 7 + 1) d (by have : (i + 1) * 7 ≤ t.x.m.length * 7 := Nat.mul_le_mul_right 7 hi; omega) _ _ (flat_pre 7 ms (len_of MR.1 fun i hi => by obtain ⟨c, e, iv⟩ := MR.2.2 i hi; rw [e, List.length_cons, iv.len]) 1 i (by rw [MR.1]; exact hi) _ fun j u hu => by
        rw [ec] at hu ⊢
        rw [Nat.add_comm 1 j, List.getElem?_cons_succ]
        exact hu) (by rw [hce]; exact iv) (by omega)
    have ok5 := ok4.chg q5 (by show ¬ blkOf v6 = t.g; omega) (fun b hb e => by have := hok.new; omega)
    exact ⟨ok5, hlt.1⟩
  have c4 : w3.cell? ⟨t.g, t.off + 4, none⟩ = some v5 := by
    have := (hok.chg (Chg.of_below (F := fun _ => False) k2) (fun e => e) (fun _ _ e => e)).thr 4 (by omega)
    obtain ⟨u, hu⟩ := Option.isSome_iff_exists.1 this.1
    rw [e3]
    exact World.cell?_setCell_same _ _ _ hu
  have c5 : w5.cell? ⟨t.g, t.off + 5, none⟩ = some v6 := by
    have h2 := (hok.chg (Chg.of_below (F := fun _ => False) k2) (fun e => e) (fun _ _ e => e)).thr
    have h3 : w3.there t.g t.off 6 := by rw [e3]; exact World.there_setCells h2 t.g (t.off + 4) [v5]
    obtain ⟨u, hu⟩ := Option.isSome_iff_exists.1 (h3 5 (by omega)).1
    rw [e5]
    exact World.cell?_setCell_same _ _ _ (cell_below k4 hu)
  have c45 : w5.cell? ⟨t.g, t.off + 4, none⟩ = some v5 := by
    rw [e5, World.cell?_setCell_other _ _ _ _ (fun e => by injection e with _ e _; omega)]
    exact cell_below k4 c4
  refine ⟨cw5, fun c hc => ?_, fun s hs c hc => ?_, ?_, fun p hp => ?_, ?_⟩
  · rcases List.mem_append.1 hc with hc | hc
    · have := L5 c hc
      exact ⟨this.1, fun e => by have := hvl _ e; omega, by omega, by omega⟩
    · have := L6 c hc
      exact ⟨this.1, fun e => by have := hvl _ e; omega, by omega, by omega⟩
  · have hs2 := (h.ok s hs).lt
    rcases List.mem_append.1 hc with hc | hc
    · have := L5 c hc
      exact .inl (by omega)
    · have := L6 c hc
      exact .inl (by omega)
  · refine List.pairwise_append.2 ⟨kids_pw _ _ _ _ _ _ (Nat.le_refl _) _, kids_pw _ _ _ _ _ _ (by omega) _, fun a ha b hb => ?_⟩
    have h1 := L5 a ha
    have h2 := L6 b hb
    exact .inl (by omega)
  · rcases List.mem_cons.1 hp with hp | hp
    · rw [hp]; exact ⟨c45, by show t.g < _; omega, hv⟩
    · rw [List.mem_singleton.1 hp]; exact ⟨c5, by show t.g < _; omega, hv⟩
  · rcases hro with ⟨_, h2⟩ | ⟨h2, _⟩
    · exact h2
    · rw [h2]; intro s hs; cases hs

end Go.Proofs.YtbgadfaiehkanaaGreatDoor
