/-
  BLOBS BY DIGESTS AS A STATE (CasSt): files, a crypt, and what no call of package cas turns; its calls read, spoilt, Get, Has. Conditions: the tables of package sha lie as laid.
  THE BOOK'S Sum, AND THE CRYPT'S Sum IN THE STATE'S WORDS. Conditions: the tables of package sha lie as laid; fewer than 100000 texts.
  THE BOOK'S Sum. Conditions: fewer than 100000 texts.
  A CRYPT'S Sum IN THE STATE'S WORDS, AND (*Cas).spoilt. Conditions: the tables of package sha lie as laid; a book of fewer than 100000 texts.
  (*Cas).read, Get, Has. Conditions: the tables of package sha lie as laid; a book of fewer than 90000 texts.
  (*Cas).marked AND List: the digests of all files of a mark, rising. Conditions: none.
  CHANGES THAT WAIT (BtAt), AND Begin, Drop, Set. Conditions: fewer than 100000 changes.
-/
import Derived.Test.YtphcbpfpelonaaaGreatDoorPcA
import Derived.Test.YtphcbpfpelonaaaGreatDoorPf33
import Derived.Test.YtphcbpfpelonaaaGreatDoorFileE

namespace Go.Proofs.YtphcbpfpelonaaaGreatDoor
open Go.RowKit Go.Maps
set_option linter.unusedVariables false
set_option maxRecDepth 100000

section
variable {w0 w w' : World} {g gw gf gc k N : Nat} {m : M.Dsk} {t : M.Tab} {dn : Bool} {F : M.Fs} {R Q : Nat → Prop} {c : M.Cr} {cv : Value}

/-- Blocks of R turn. -/
theorem FSt.refs (s : FSt w0 w g gw gf m t dn R) {P : Nat → Prop} (hP : ∀ k, P k → R k) (k : Chg P w w') : FSt w0 w' g gw gf m t dn (fun b => R b ∨ (w.heap.size ≤ b ∧ b < w'.heap.size)) := by
  obtain ⟨T, S, mb, f⟩ := s
  have hk := k.size
  have hu := f.under.size
  have hr := fun j (h : P j) => f.r j (hP j h)
  have hgl := f.at_.lt
  have hml : mb < w.heap.size := by
    obtain ⟨vs, ht, hl⟩ := f.tab
    exact ht.lt
  refine ⟨T, S, mb, ⟨f.dk.chg k (fun b hb e => (hr b e).1 hb), f.new, f.under.trans (k.below hu fun b e => (hr b e).2.2.2.2.1), f.wal.next (k.mono fun b _ e => .inr (.inr (hP b e))) fun j hj => ?_, Blk.chg f.at_ k (fun e => (hr _ e).2.2.1 rfl), f.tab.chg k (fun e => (hr _ e).2.2.2.1 rfl) (fun b hb e => (hr b e).2.1 hb), fun j hj => ?_, f.mT, f.fT, f.mf, f.f0, fun j hj => ?_⟩⟩
  · rcases hj with hj | hj | hj | hj
    · exact .inl (.inl hj)
    · exact .inl (.inr (.inl hj))
    · exact .inl (.inr (.inr hj))
    · exact .inr hj.1
  · have := f.s j hj
    exact ⟨this.1, this.2.1, by omega⟩
  · rcases hj with hj | hj
    · have := f.r j hj
      exact ⟨this.1, this.2.1, this.2.2.1, this.2.2.2.1, this.2.2.2.2.1, by omega⟩
    · exact ⟨fun h => by have := f.dk.there j h; omega, fun h => by have := (f.s j h).2.2; omega, by omega, by omega, by omega, hj.2⟩

theorem Fine.refs (f : Fine w0 w g gf N F R) {P : Nat → Prop} (hP : ∀ k, P k → R k) (k : Chg P w w') : Fine w0 w' g gf N F (fun b => R b ∨ (w.heap.size ≤ b ∧ b < w'.heap.size)) := by
  obtain ⟨gw, s, t, f, rest⟩ := f
  exact ⟨gw, s, t, f.refs hP k, rest⟩

theorem Fine.rise (f : Fine w0 w g gf N F R) : M.RiseF F := by
  obtain ⟨gw, s, t, f, on, _, _, _, rfl⟩ := f
  exact List.pairwise_map.2 on.ok.rise

theorem Fine.nms (f : Fine w0 w g gf N F R) : ∀ q ∈ F, 1 ≤ q.nm.length ∧ q.nm.length ≤ 40 := by
  obtain ⟨gw, s, t, f, on, _, _, _, rfl⟩ := f
  intro q hq
  obtain ⟨p, hp, rfl⟩ := List.mem_map.1 hq
  exact on.ok.nm p hp

theorem Fine.free0 (f : Fine w0 w g gf N F R) : 0 ≤ M.freeF N F := by
  obtain ⟨gw, s, t, f, on, _, rfl, _, rfl⟩ := f
  have := M.freeF_img on.ok (M.datB s) fun p hp => M.datB_len on hp
  show 0 ≤ M.freeF ((M.nbS s : Nat) : Int) (t.map (M.img (M.datB s)))
  have e : M.freeF ((M.nbS s : Nat) : Int) (t.map (M.img (M.datB s))) = (((M.free (M.nbS s) t).length : Nat) : Int) := this
  rw [e]
  exact Int.natCast_nonneg _

/-- Blobs by digests: the files F, the crypt c; no call of the code turns a block of Q. -/
def CasSt (w0 w : World) (g gf gc N : Nat) (F : M.Fs) (c : M.Cr) (cv : Value) (Q : Nat → Prop) : Prop :=
  ∃ T R, Fine w0 w g gf N F R ∧ Blk w gc 76 [.pointer (some ⟨gf, 0, none⟩), cv] ∧ CrIs T w cv c ∧ R gc ∧ ¬ T gc ∧ (∀ k, T k → R k) ∧ ∀ k, Q k → R k ∧ ¬ T k ∧ k ≠ gc

theorem CasSt.less (s : CasSt w0 w g gf gc N F c cv Q) {Q' : Nat → Prop} (h : ∀ k, Q' k → Q k) : CasSt w0 w g gf gc N F c cv Q' := by
  obtain ⟨T, R, f, b, cr, h1, h2, h3, h4⟩ := s
  exact ⟨T, R, f, b, cr, h1, h2, h3, fun k hk => h4 k (h k hk)⟩

theorem CasSt.under (s : CasSt w0 w g gf gc N F c cv Q) : Below w0.heap.size w0 w := by
  obtain ⟨T, R, f, _⟩ := s
  exact f.under

theorem CasSt.rise (s : CasSt w0 w g gf gc N F c cv Q) : M.RiseF F := by
  obtain ⟨T, R, f, _⟩ := s
  exact f.rise

theorem CasSt.few (s : CasSt w0 w g gf gc N F c cv Q) : F.length ≤ 64 := by
  obtain ⟨T, R, f, _⟩ := s
  exact f.few

theorem CasSt.free0 (s : CasSt w0 w g gf gc N F c cv Q) : 0 ≤ M.freeF N F := by
  obtain ⟨T, R, f, _⟩ := s
  exact f.free0

theorem CasSt.nms (s : CasSt w0 w g gf gc N F c cv Q) : ∀ q ∈ F, 1 ≤ q.nm.length ∧ q.nm.length ≤ 40 := by
  obtain ⟨T, R, f, _⟩ := s
  exact f.nms

theorem CasSt.data (s : CasSt w0 w g gf gc N F c cv Q) : ∀ q ∈ F, q.data.length ≤ 1099511627776 := by
  obtain ⟨T, R, f, _⟩ := s
  exact f.data

theorem M.look_mem {F : M.Fs} {k d : List UInt8} (h : M.look F k = some d) : (⟨k, d⟩ : M.Fil) ∈ F := by
  have := M.kget_mem h
  obtain ⟨q, hq, e⟩ := List.mem_map.1 this
  injection e with e1 e2
  cases q
  subst e1 e2
  exact hq

theorem CasSt.size (s : CasSt w0 w g gf gc N F c cv Q) {k d : List UInt8} (h : M.look F k = some d) : d.length ≤ 1099511627776 := s.data _ (M.look_mem h)

theorem CasSt.qlt (s : CasSt w0 w g gf gc N F c cv Q) : ∀ k, Q k → w0.heap.size ≤ k ∧ k < w.heap.size := by
  obtain ⟨T, R, f, _, _, _, _, _, h4⟩ := s
  exact fun k hk => f.rlt k (h4 k hk).1

theorem CasSt.cells (s : CasSt w0 w g gf gc N F c cv Q) : w.cell? ⟨gc, 0, none⟩ = some (.pointer (some ⟨gf, 0, none⟩)) ∧ w.cell? ⟨gc, 1, none⟩ = some cv := by
  obtain ⟨T, R, _, b, _⟩ := s
  exact ⟨b.cell 0, b.cell 1⟩

theorem CasSt.glt (s : CasSt w0 w g gf gc N F c cv Q) : w0.heap.size ≤ gc ∧ gc < w.heap.size ∧ ¬ Q gc := by
  obtain ⟨T, R, f, b, _, h1, _, _, h4⟩ := s
  exact ⟨(f.rlt gc h1).1, b.lt, fun h => (h4 gc h).2.2 rfl⟩

/-- Blocks of Q turn. -/
theorem CasSt.ref (s : CasSt w0 w g gf gc N F c cv Q) {P : Nat → Prop} (hP : ∀ k, P k → Q k) (k : Chg P w w') : CasSt w0 w' g gf gc N F c cv (fun b => Q b ∨ (w.heap.size ≤ b ∧ b < w'.heap.size)) := by
  obtain ⟨T, R, f, b, cr, h1, h2, h3, h4⟩ := s
  have hlt := f.rlt
  refine ⟨T, _, f.refs (fun k hk => (h4 k (hP k hk)).1) k, b.chg k fun h => (h4 gc (hP gc h)).2.2 rfl, cr.chg k fun j hj h => (h4 j (hP j h)).2.1 hj, .inl h1, h2, fun j hj => .inl (h3 j hj), fun j hj => ?_⟩
  rcases hj with hj | hj
  · exact ⟨.inl (h4 j hj).1, (h4 j hj).2⟩
  · exact ⟨.inr hj, fun h => by have := (hlt j (h3 j h)).2; omega, fun e => by subst e; have := (hlt j h1).2; omega⟩

theorem CasSt.below (s : CasSt w0 w g gf gc N F c cv Q) (k : Below w.heap.size w w') : CasSt w0 w' g gf gc N F c cv (fun b => Q b ∨ (w.heap.size ≤ b ∧ b < w'.heap.size)) :=
  s.ref (P := fun _ => False) (fun _ h => h.elim) (Chg.of_below k)

theorem CasSt.see (s : CasSt w0 w g gf gc N F c cv Q) (k : Below w.heap.size w w') : CasSt w0 w' g gf gc N F c cv Q := (s.below k).less fun _ h => .inl h

/-- A file read. -/
theorem CasSt.fread (s : CasSt w0 w g gf gc N F c cv Q) (nm d : List UInt8) (h : M.look F nm = some d) :
    Calls Tryz.prog 45 #[.pointer (some ⟨gf, 0, none⟩), .string ⟨nm.toArray⟩] w fun e w' => ∃ r, e = .returned (.tuple #[r, .int .i64 0]) ∧ Own w' w.heap.size r d ∧ Below w.heap.size w w' := by
  obtain ⟨T, R, f, _⟩ := s
  have := f.read_yes nm (by rw [M.hasF_look, h]; rfl)
  rwa [M.dataF, M.dataF_look h] at this

theorem CasSt.fread_no (s : CasSt w0 w g gf gc N F c cv Q) (nm : List UInt8) (hk : nm.length ≤ maxLen) (h : M.look F nm = none) :
    Calls Tryz.prog 45 #[.pointer (some ⟨gf, 0, none⟩), .string ⟨nm.toArray⟩] w fun e w' => e = .returned (.tuple #[.slice none 0 0, .int .i64 4]) ∧ Below w.heap.size w w' := by
  obtain ⟨T, R, f, _⟩ := s
  exact f.read_no nm hk (by rw [M.hasF_look, h]; rfl)

/-- All files' names. -/
theorem CasSt.names (s : CasSt w0 w g gf gc N F c cv Q) :
    Calls Tryz.prog 18 #[.pointer (some ⟨gf, 0, none⟩)] w fun e w' => ∃ v, e = .returned v ∧ OwnS w' w.heap.size v (F.map M.Fil.nm) ∧ Below w.heap.size w w' := by
  obtain ⟨T, R, f, _⟩ := s
  exact f.names

/-- A commit of files. -/
theorem CasSt.fcommit (s : CasSt w0 w g gf gc N F c cv Q) (hL : Laid w0) (lv : Value) (l : M.FL) (xs : List Value) (hl : Keeps (fun j => ¬ Q j ∧ j ≠ gc ∧ w0.heap.size ≤ j) w (fun x => IsFL x lv l xs)) (hlen : l.length ≤ 10000) (hd : ∀ c ∈ l, c.data.length ≤ 1099511627776) (r : Int) (hr : r = M.fcode N F l) (G : M.Fs) (hG : G = if r = 0 then M.fapply F l else F) :
    Calls Tryz.prog 9 #[.pointer (some ⟨gf, 0, none⟩), lv] w fun e w' => e = .returned (.int .i64 r) ∧ Far w0 Q w w' ∧ CasSt w0 w' g gf gc N G c cv Q := by
  obtain ⟨T, R, f, b, cr, h1, h2, h3, h4⟩ := s
  refine (f.commit hL lv l xs (fun x k => hl x (k.mono fun j _ hj => ⟨fun h => hj.1 (h4 j h).1, fun e => hj.1 (e ▸ h1), hj.2⟩)) hlen hd r hr G hG).mono ?_
  rintro e w' ⟨he, far, f'⟩
  exact ⟨he, far.mono fun j _ hj => ⟨fun h => hj.1 (h4 j h).1, hj.2⟩, T, R, f', b.chg far fun h => h.1 h1, cr.chg far fun j hj h => h.1 (h3 j hj), h1, h2, h3, h4⟩

end

end Go.Proofs.YtphcbpfpelonaaaGreatDoor

namespace Go.Proofs.YtphcbpfpelonaaaGreatDoor
open Go.RowKit Go.Maps
set_option linter.unusedVariables false
set_option maxRecDepth 100000

theorem M.bookDg_lay (n : Nat) : M.lay11 (M.lay11 (List.replicate 32 0) 0 [83, 85, 77, 33]) 24 (M.le n 8).reverse = M.bookDg n := by
  have hl : (M.le n 8).reverse.length = 8 := by rw [List.length_reverse, M.le_length]
  obtain ⟨x, hx⟩ : ∃ x, x = (M.le n 8).reverse := ⟨_, rfl⟩
  rw [M.bookDg, ← hx]
  rw [← hx] at hl
  have e : M.lay11 (List.replicate 32 0) 0 [83, 85, 77, 33] = [83, 85, 77, 33] ++ List.replicate 20 0 ++ List.replicate 8 (0 : UInt8) := by decide
  rw [e, M.lay11, hl, List.take_left' (by decide), List.drop_eq_nil_of_le (by decide), List.append_nil]

theorem M.bookDg_length (n : Nat) : (M.bookDg n).length = 32 := by
  rw [M.bookDg, List.length_append, List.length_append, List.length_reverse, M.le_length, List.length_replicate]
  rfl

theorem M.csum_length (c : M.Cr) (b : List UInt8) : (M.csum c b).length = 32 := by
  cases c with
  | real => exact M.sha_length b
  | book l => exact M.bookDg_length _

theorem isBook_store {w' : World} {b : Nat} {l : List (List UInt8)} {es : M.KL Value} {bs : List UInt8} (h : es.length = l.length) (hk : ∀ k, M.kget es k = if k ∈ l then some (.int .u64 ((M.numOf l k : Nat) : Int)) else none) (hm : IsMp w' b (M.kput es bs (.int .u64 ((l.length : Nat) : Int)))) (hr : M.KRise es) (hn : bs ∉ l) : IsBook w' b (l ++ [bs]) := by
  refine ⟨_, hm, ?_, fun k => ?_⟩
  · have hd : M.kdel es bs = es := List.filter_eq_self.2 fun p hp => by
      have : p.1 ≠ bs := M.kget_none (by rw [hk, if_neg hn]) p hp
      simpa using this
    have h1 : ∀ l : M.KL Value, (M.kins bs (.int .u64 0) l).length = l.length + 1 := fun l => by
      induction l with
      | nil => rfl
      | cons x r ih =>
        rw [M.kins]
        split
        · rfl
        · rw [List.length_cons, ih, List.length_cons]
    have h2 : ∀ (v : Value) (l : M.KL Value), (M.kins bs v l).length = l.length + 1 := fun v l => by
      induction l with
      | nil => rfl
      | cons x r ih =>
        rw [M.kins]
        split
        · rfl
        · rw [List.length_cons, ih, List.length_cons]
    rw [M.kput, hd, h2, h, List.length_append]
    rfl
  · rw [M.kget_kput hr, hk, M.numOf_snoc]
    by_cases e : k = bs
    · subst e
      rw [if_pos rfl, if_pos (by simp), if_neg hn, if_pos rfl]
    · rw [if_neg e]
      by_cases h : k ∈ l
      · rw [if_pos h, if_pos (by simp [h]), if_pos h]
      · rw [if_neg h, if_neg (by simp [h, e])]

/-- What lies in cells stays while a map is written. -/
theorem IsB.turned {w w' : World} {b : Nat} {v : Value} {bs : List UInt8} (h : IsB w v bs) (hb : ∃ es clock, w.heap[b]? = some (.map es clock)) (g : w.grownBy w' (some b)) : IsB w' v bs := by
  obtain ⟨ao, cap, rfl, h1, h2, h3⟩ := h
  refine ⟨ao, cap, rfl, h1, h2, ?_⟩
  rcases h3 with h | ⟨k, off, rfl, h⟩
  · exact .inl h
  · refine .inr ⟨k, off, rfl, fun i hi => ?_⟩
    have hc := h i hi
    have hne : some k ≠ some b := by
      intro e
      injection e with e
      subst e
      obtain ⟨es, clock, hb⟩ := hb
      simp [World.cell?, hb] at hc
    exact g.cell (a := ⟨k, off + i, none⟩) hc hne

theorem zero_u64 (w : World) : (zeroValue 173).run Tryz.prog w = .ok (.int .u64 0) w := Tryz.zeroValue173 w

end Go.Proofs.YtphcbpfpelonaaaGreatDoor

namespace Go.Proofs.YtphcbpfpelonaaaGreatDoor
open Go.RowKit Go.Maps
set_option linter.unusedVariables false
set_option maxRecDepth 100000


set_option maxHeartbeats 4000000 in
theorem bookSum_any {w : World} {gb m1 : Nat} {m2 : Value} {l : List (List UInt8)} (hb : Blk w gb 86 [.map (some m1), m2]) (hm : IsBook w m1 l) (hne : gb ≠ m1) (hfew : l.length < 100000) (bv : Value) (bs : List UInt8) (hv : IsB w bv bs) (hlen : bs.length ≤ maxLen) :
    Calls Tryz.prog 167 #[.pointer (some ⟨gb, 0, none⟩), bv] w fun e w' => ∃ r, e = .returned r ∧ Own w' w.heap.size r (M.bookDg (M.numOf l bs)) ∧ (∃ l', M.Cr.book l' = M.cnext (.book l) bs ∧ IsBook w' m1 l') ∧ Chg (fun b => b = m1) w w' := by
  obtain ⟨es, hmp, hel, hk⟩ := hm
  have HB := Lib.hid hb
  have HM := Lib.hid hmp
  have HV := Lib.hid hv
  have c0 : w.cell? ⟨gb, 0, none⟩ = some (.map (some m1)) := hb.cell 0
  obtain ⟨ao, cap, hsh⟩ := hv.shape
  have HK := Lib.hid hk
  have HEL := Lib.hid hel
  have HFEW := Lib.hid hfew
  have HR := Lib.hid hmp.rise
  have HNE := Lib.hid hne
  have hlk := fun (x : World) (k : Below w.heap.size w x) => (hmp.below k).look_ok Tryz.underlying83 (zero_u64 x) bs hlen
  have HLK := Lib.hid hlk
  have HST := Lib.hid fun (x : World) (k : Below w.heap.size w x) => str_any (hv.below k)
  have HC0 := Lib.hid fun (x : World) (k : Below w.heap.size w x) => (k.cell (p := ⟨gb, 0, none⟩) (World.block_lt_of_cell? _ _ c0)).trans c0
  obtain ⟨z, hz⟩ : ∃ z, z = (M.kget es bs).getD (.int .u64 0) := ⟨_, rfl⟩
  obtain ⟨ok, hok⟩ : ∃ ok, ok = (M.kget es bs).isSome := ⟨_, rfl⟩
  rw [← hz, ← hok] at HLK
  have hzn : ∃ n : Nat, z = .int .u64 (n : Int) ∧ (ok = true → n = M.numOf l bs) := by
    rw [hz, hok, hk]
    by_cases h : bs ∈ l
    · rw [if_pos h]
      exact ⟨_, rfl, fun _ => rfl⟩
    · rw [if_neg h]
      exact ⟨0, rfl, fun h => by cases h⟩
  obtain ⟨n, rfl, hn⟩ := hzn
  have HOK : Hid (ok = decide (bs ∈ l)) := by
    rw [Hid, hok, hk]
    by_cases h : bs ∈ l
    · rw [if_pos h, decide_eq_true h]; rfl
    · rw [if_neg h, decide_eq_false h]; rfl
  have HN := Lib.hid hn
  have HMK := Lib.hid (make_run 32 (by decide))
  rw [hsh] at HST HV ⊢
  obtain ⟨nm, hnm⟩ : ∃ s : ByteArray, s = ⟨bs.toArray⟩ := ⟨_, rfl⟩
  rw [← hnm] at HLK HST
  have HNM := Lib.hid hnm
  obtain ⟨bn, hbn⟩ : ∃ q, q = bs.length := ⟨_, rfl⟩
  rw [← hbn] at HST HV ⊢
  have HLEN := Lib.hid hlen
  clear hmp hv hb hsh hk hel hfew hne hlk c0 hz hok hn hnm hbn hlen
  go_enter Tryz.func167, Tryz.ntmps167
  go_upto_region 1 with fail
  refine wp_region_any (by kernel_rfl) ?_
  change wpAny _ _ _ _ _ _ _ (World.drew _)
  refine wpAny_of_held (S := fun w' => Below w.heap.size w w') _ _ _ _ ?_
  have S0 : Below w.heap.size w w.drew := (Below.refl _ _).drew
  refine wpAnyH_take_at (i := 0) (v := .pointer (some ⟨gb, 0, none⟩)) rfl rfl (by kernel_rfl) (by kernel_rfl) (by kernel_rfl) (fun _ _ _ h => h) (Or.inl ⟨by rfl, fun w hS => by go_simp⟩) S0 ?_
  try simp only [List.setIfInBounds_toArray, List.set_cons_zero, List.set_cons_succ]
  refine wpAnyH_take_at (i := 1) (v := .pointer (some ⟨gb, 0, none⟩)) rfl rfl (by kernel_rfl) (by kernel_rfl) (by kernel_rfl) (fun _ _ _ h => h) (Or.inl ⟨by rfl, fun w hS => by go_simp⟩) S0 ?_
  try simp only [List.setIfInBounds_toArray, List.set_cons_zero, List.set_cons_succ]
  refine wpAnyH_take_at (i := 2) (v := .pointer (some ⟨gb, 0, none⟩)) rfl rfl (by kernel_rfl) (by kernel_rfl) (by kernel_rfl) (fun _ _ _ h => h) (Or.inl ⟨by rfl, fun w hS => by go_simp⟩) S0 ?_
  try simp only [List.setIfInBounds_toArray, List.set_cons_zero, List.set_cons_succ]
  refine wpAnyH_take_at (i := 3) (v := .map (some m1)) rfl rfl (by kernel_rfl) (by kernel_rfl) (by kernel_rfl) (fun _ _ _ h => h) (Or.inl ⟨by rfl, fun w hS => by have c := HC0.out w hS; go_simp⟩) S0 ?_
  try simp only [List.setIfInBounds_toArray, List.set_cons_zero, List.set_cons_succ]
  refine wpAnyH_take_at (i := 4) (v := .slice ao bn cap) rfl rfl (by kernel_rfl) (by kernel_rfl) (by kernel_rfl) (fun _ _ _ h => h) (Or.inl ⟨by rfl, fun w hS => by go_simp⟩) S0 ?_
  try simp only [List.setIfInBounds_toArray, List.set_cons_zero, List.set_cons_succ]
  refine wpAnyH_take_at (i := 5) (v := .string nm) rfl rfl (by kernel_rfl) (by kernel_rfl) (by kernel_rfl) (fun _ _ _ h => h) (Or.inl ⟨by rfl, fun w hS => by have c := HST.out w hS; go_simp⟩) S0 ?_
  try simp only [List.setIfInBounds_toArray, List.set_cons_zero, List.set_cons_succ]
  refine wpAnyH_take_at (i := 6) (v := .tuple #[.int .u64 (n : Int), .bool ok]) rfl rfl (by kernel_rfl) (by kernel_rfl) (by kernel_rfl) (fun _ _ _ h => h) (Or.inl ⟨by rfl, fun w hS => by have c := HLK.out w hS; go_simp⟩) S0 ?_
  try simp only [List.setIfInBounds_toArray, List.set_cons_zero, List.set_cons_succ]
  refine wpAnyH_take_at (i := 7) (v := .tuple #[.int .u64 (n : Int), .bool ok]) rfl rfl (by kernel_rfl) (by kernel_rfl) (by kernel_rfl) (fun _ _ _ h => h) (Or.inl ⟨by rfl, fun w hS => by go_simp⟩) S0 ?_
  try simp only [List.setIfInBounds_toArray, List.set_cons_zero, List.set_cons_succ]
  refine wpAnyH_take_at (i := 8) (v := .int .u64 (n : Int)) rfl rfl (by kernel_rfl) (by kernel_rfl) (by kernel_rfl) (fun _ _ _ h => h) (Or.inl ⟨by rfl, fun w hS => by go_simp⟩) S0 ?_
  try simp only [List.setIfInBounds_toArray, List.set_cons_zero, List.set_cons_succ]
  refine wpAnyH_take_at (i := 9) (v := .bool ok) rfl rfl (by kernel_rfl) (by kernel_rfl) (by kernel_rfl) (fun _ _ _ h => h) (Or.inl ⟨by rfl, fun w hS => by go_simp⟩) S0 ?_
  try simp only [List.setIfInBounds_toArray, List.set_cons_zero, List.set_cons_succ]
  refine wpAnyH_take_at (i := 10) (v := .int .u64 (n : Int)) rfl rfl (by kernel_rfl) (by kernel_rfl) (by kernel_rfl) (fun _ _ _ h => h) (Or.inl ⟨by rfl, fun w hS => by go_simp⟩) S0 ?_
  try simp only [List.setIfInBounds_toArray, List.set_cons_zero, List.set_cons_succ]
  refine wpAnyH_take_at (i := 11) (v := .bool ok) rfl rfl (by kernel_rfl) (by kernel_rfl) (by kernel_rfl) (fun _ _ _ h => h) (Or.inl ⟨by rfl, fun w hS => by go_simp⟩) S0 ?_
  try simp only [List.setIfInBounds_toArray, List.set_cons_zero, List.set_cons_succ]
  refine wpAnyH_done (by kernel_rfl) ?_ _
  obtain ⟨W1, hW1⟩ : ∃ x, Hid (x = w.drew) := ⟨_, rfl⟩
  have K1 : Hid (Below w.heap.size w W1) := by rw [hW1.out]; exact S0
  have HSZ : Hid (W1.heap.size = w.heap.size) := by rw [hW1.out]; rfl
  rw [← hW1.out]
  clear S0 hW1
  cases ok with
  | true =>
    have hmem : bs ∈ l := by have := HOK.out; simpa using this.symm
    have HN2 : Hid (n = M.numOf l bs) := HN.out rfl
    have CH : Hid (Chg (fun b => b = m1) w W1) := Chg.of_below K1.out
    have IB : Hid (∃ l', M.Cr.book l' = M.cnext (.book l) bs ∧ IsBook W1 m1 l') := ⟨l, by rw [M.cnext, if_pos hmem], es, HM.out.below K1.out, HEL.out, HK.out⟩
    clear hmem HOK HN HLK HST HC0
    go_upto_region 5 with fail
    have CB := Lib.hid (big64_any n W1)
    have h8 : (M.le n 8).reverse.length = 8 := by rw [List.length_reverse, M.le_length]
    obtain ⟨yb, hyb⟩ : ∃ yb, yb = (M.le n 8).reverse := ⟨_, rfl⟩
    rw [← hyb] at CB h8
    have HYB := Lib.hid hyb
    have H8 := Lib.hid h8
    clear hyb h8
    go_wp2_with fail
    refine CB.out.mono ?_
    rintro e w3 ⟨ev, rfl, o3, k3⟩
    obtain ⟨eg, ec, rfl, heg⟩ := o3.shape (by rw [H8.out]; decide)
    have CE := Lib.hid o3.cells
    rw [H8.out]
    have K3 := Lib.hid k3
    have HEG := Lib.hid heg
    clear CB o3 k3 heg
    obtain ⟨C, hmk⟩ := HMK.out
    have hmk1 : ∀ w : World, (Instr.makeSlice 38 (.int .i64 32) (.int .i64 32)).run Tryz.prog w = .ok (.slice (some ⟨w.heap.size, 0, none⟩) 32 32) (w.alloc (.cells C 5)) := fun w => (hmk w).1
    have o4 : Own (w3.alloc (.cells C 5)) w3.heap.size (.slice (some ⟨w3.heap.size, 0, none⟩) 32 32) (List.replicate 32 0) := (hmk w3).2
    obtain ⟨mg, mc, e4, hmg, hmc, hd4⟩ := o4.hd (by decide)
    injection e4 with e5 e6 e7
    injection e5 with e5
    injection e5 with e5
    subst e5 e7
    obtain ⟨w4, hw4⟩ : ∃ x, Hid (x = w3.alloc (.cells C 5)) := ⟨_, rfl⟩
    obtain ⟨G, hG⟩ : ∃ x, Hid (x = w3.heap.size) := ⟨_, rfl⟩
    rw [← hw4.out, ← hG.out] at hd4
    have K4 : Hid (Below w3.heap.size w3 w4) := by rw [hw4.out]; exact (Below.refl _ _).alloc (Nat.le_refl _) _
    have HD4 := Lib.hid hd4
    clear hmk o4 hmg hmc e6 hd4
    go_upto_region 7 with fail
    rw [← hw4.out, ← hG.out]
    obtain ⟨w5, h5, hd5, o5⟩ := HD4.out.copyStr (o := 0) (dLen := 32) (dCap := 32) [83, 85, 77, 33] (by decide) (by decide) 3
    have HD5 := Lib.hid hd5
    have O5 := Lib.hid o5
    clear HD4 hd5 o5 hmk1
    go_upto_region 8 with fail
    clear h5
    obtain ⟨cur, hb5, c1, c2, c3, c4⟩ := HD5.out
    have ce5 : ∀ j u, (Lib.byteCells yb)[j]? = some u → w5.cell? ⟨eg, j, none⟩ = some u := fun j u hj => by
      have h3 := CE.out j u hj
      rw [Addr.add_mid, Nat.zero_add] at h3
      have hb3 := World.block_lt_of_cell? w3 _ h3
      have h4 : w4.cell? ⟨eg, j, none⟩ = some u := (K4.out.cell hb3).trans h3
      have hb3' : eg < w3.heap.size := hb3
      have hne : some eg ≠ some G := by rw [hG.out]; intro e; injection e with e; omega
      rw [World.cell?_of_block (O5.out.block eg (Nat.lt_of_lt_of_le hb3' K4.out.size) hne), h4]
    go_wp2_with (refine wpList_copy_blk rfl (.tmp 45) (.tmp 46) 38 38 rfl 5 Tryz.underlying38 (by kernel_rfl) (some ⟨G, 24, none⟩) (some ⟨eg, 0, none⟩) 8 8 8 ec rfl rfl G 24 cur 5 hb5 (Lib.byteCells yb) ?d1 ?d2 ?d3 (byteCells_oneCell _) ?_)
    case d1 => rw [byteCells_length, H8.out]; rfl
    case d2 => exact fun _ => ce5
    case d3 => rw [byteCells_length, H8.out, c1]; decide
    intro w6 hb6 o6
    have hl5 : (M.lay11 (List.replicate 32 0) 0 [83, 85, 77, 33]).length = 32 := by decide
    have hd6 : Hd w6 G 32 (M.lay11 (M.lay11 (List.replicate 32 0) 0 [83, 85, 77, 33]) 24 yb) := Hd.lay c1 c2 c3 c4 (by rw [hl5, H8.out]; decide) hb6
    rw [HYB.out, M.bookDg_lay, HN2.out] at hd6
    have HD6 := Lib.hid hd6
    have O6 := Lib.hid o6
    clear hb5 c1 c2 c3 c4 ce5 hb6 o6 hl5 hd6 CE
    go_wp2
    go_ret
    have hz3 := K3.out.size
    have hz := hG.out
    have hsz : w.heap.size ≤ W1.heap.size := CH.out.size
    have c6 : Chg (fun b => b = G) w4 w6 := (⟨O5.out.os, O5.out.tape, O5.out.output, O5.out.size, fun k h1 h2 => O5.out.block k h1 fun e => by injection e with e; exact h2 e⟩ : Chg (fun b => b = G) w4 w5).trans (⟨O6.out.os, O6.out.tape, O6.out.output, O6.out.size, fun k h1 h2 => O6.out.block k h1 fun e => by injection e with e; exact h2 e⟩ : Chg (fun b => b = G) w5 w6) fun _ _ h => h
    have k6 : Below W1.heap.size W1 w6 := (K3.out.trans (K4.out.mono hz3)).trans (c6.below (Nat.le_trans hz3 K4.out.size) fun k e => by subst e; omega)
    obtain ⟨l', e1, es', m6, e2, e3⟩ := IB.out
    have ho := HD6.out.own (B := w.heap.size) (by omega)
    rw [M.bookDg_length] at ho
    exact ⟨_, rfl, ho, ⟨l', e1, es', m6.below k6, e2, e3⟩, CH.out.trans (Chg.of_below k6) fun _ _ h => h⟩
  | false =>
    have hmem : bs ∉ l := by have := HOK.out; simpa using this.symm
    obtain ⟨q, hq⟩ : ∃ q, q = l.length := ⟨_, rfl⟩
    have hq1 : q < 100000 := by rw [hq]; exact HFEW.out
    have n4 : IntKind.u64.wrap (q : Int) = (q : Int) := by
      simp [IntKind.wrap, IntKind.signed, IntKind.bits]
      omega
    have c1 := HC0.out W1 K1.out
    have hln : ∀ ty, (Builtin.len_ #[83] ty #[.map (some m1)]).run Tryz.prog W1 = .ok (.int .i64 (q : Int)) W1 := fun ty => by
      have := (HM.out.below K1.out).lenM Tryz.underlying83 ty
      rwa [HEL.out, ← hq] at this
    have HQ := Lib.hid hq
    have HQ1 := Lib.hid hq1
    clear hq hq1
    go_upto_region 4 with fail
    clear c1 hln n4
    go_upto_region 4 with fail
    refine wp_region_any (by kernel_rfl) ?_
    change wpAny _ _ _ _ _ _ _ (World.drew _)
    refine wpAny_of_held (S := fun w' => IsB w' (.slice ao bn cap) bs ∧ w'.cell? ⟨gb, 0, none⟩ = some (.map (some m1))) _ _ _ _ ?_
    have S1 : IsB W1.drew (.slice ao bn cap) bs ∧ W1.drew.cell? ⟨gb, 0, none⟩ = some (.map (some m1)) := ⟨HV.out.below K1.out.drew, HC0.out _ K1.out.drew⟩
    refine wpAnyH_take_at (i := 0) (v := .pointer (some ⟨gb, 0, none⟩)) rfl rfl (by kernel_rfl) (by kernel_rfl) (by kernel_rfl) (fun _ _ _ h => h) (Or.inl ⟨by rfl, fun w hS => by go_simp⟩) S1 ?_
    try simp only [List.setIfInBounds_toArray, List.set_cons_zero, List.set_cons_succ]
    refine wpAnyH_take_at (i := 1) (v := .pointer (some ⟨gb, 0, none⟩)) rfl rfl (by kernel_rfl) (by kernel_rfl) (by kernel_rfl) (fun _ _ _ h => h) (Or.inl ⟨by rfl, fun w hS => by go_simp⟩) S1 ?_
    try simp only [List.setIfInBounds_toArray, List.set_cons_zero, List.set_cons_succ]
    refine wpAnyH_take_at (i := 2) (v := .pointer (some ⟨gb, 0, none⟩)) rfl rfl (by kernel_rfl) (by kernel_rfl) (by kernel_rfl) (fun _ _ _ h => h) (Or.inl ⟨by rfl, fun w hS => by go_simp⟩) S1 ?_
    try simp only [List.setIfInBounds_toArray, List.set_cons_zero, List.set_cons_succ]
    refine wpAnyH_take_at (i := 3) (v := .map (some m1)) rfl rfl (by kernel_rfl) (by kernel_rfl) (by kernel_rfl) (fun _ _ _ h => h) (Or.inl ⟨by rfl, fun w hS => by have c := hS.2; go_simp⟩) S1 ?_
    try simp only [List.setIfInBounds_toArray, List.set_cons_zero, List.set_cons_succ]
    refine wpAnyH_take_at (i := 4) (v := .slice ao bn cap) rfl rfl (by kernel_rfl) (by kernel_rfl) (by kernel_rfl) (fun _ _ _ h => h) (Or.inl ⟨by rfl, fun w hS => by go_simp⟩) S1 ?_
    try simp only [List.setIfInBounds_toArray, List.set_cons_zero, List.set_cons_succ]
    refine wpAnyH_take_at (i := 5) (v := .string nm) rfl rfl (by kernel_rfl) (by kernel_rfl) (by kernel_rfl) (fun _ _ _ h => h) (Or.inl ⟨by rfl, fun w hS => by have c := str_any hS.1; rw [← HNM.out] at c; go_simp⟩) S1 ?_
    try simp only [List.setIfInBounds_toArray, List.set_cons_zero, List.set_cons_succ]
    refine wpAnyH_take_at (i := 6) (v := .int .u64 (q : Int)) rfl rfl (by kernel_rfl) (by kernel_rfl) (by kernel_rfl) (fun _ _ _ h => h) (Or.inl ⟨by rfl, fun w hS => by go_simp⟩) S1 ?_
    try simp only [List.setIfInBounds_toArray, List.set_cons_zero, List.set_cons_succ]
    refine wpAnyH_ready (rs := [7]) (by kernel_rfl) (by simp) ?_
    refine AllReadyH.cons rfl (fun K hK => ?_) AllReadyH.nil
    obtain ⟨W2, hrun, hm2, hg2, hz2⟩ := (HM.out.below K1.out.drew).store Tryz.underlying83 bs (.int .u64 (q : Int)) HLEN.out (by rw [HEL.out, ← HQ.out]; have := HQ1.out; omega)
    rw [← HNM.out] at hrun
    go_simp
    have c2 : Chg (fun b => b = m1) W1 W2 := (Chg.refl _ W1).drew.trans (Chg.of_grown hg2 fun b hb => by injection hb with hb; exact hb.symm) fun _ _ h => h
    have IV2 : IsB W2 (.slice ao bn cap) bs := S1.1.turned (HM.out.below K1.out.drew).isMap hg2
    have hcb : W2.cell? ⟨gb, 0, none⟩ = some (.map (some m1)) := hg2.cell S1.2 (by intro e; injection e with e; exact HNE.out e)
    refine hK.out _ _ ⟨IV2, hcb⟩ (fun _ => ?_)
    have CH : Hid (Chg (fun b => b = m1) w W2) := (Chg.of_below K1.out).trans c2 fun _ _ h => h
    have HZ2 : Hid (W2.heap.size = w.heap.size) := by rw [Hid, hz2]; exact HSZ.out
    have IB : Hid (∃ l', M.Cr.book l' = M.cnext (.book l) bs ∧ IsBook W2 m1 l') := ⟨l ++ [bs], by rw [M.cnext, if_neg hmem], by
      refine isBook_store HEL.out HK.out ?_ HR.out hmem
      rw [← HQ.out]
      exact hm2⟩
    have HN2 : Hid (q = M.numOf l bs) := by rw [Hid, M.numOf_new hmem]; exact HQ.out
    refine wpAnyH_done (by kernel_rfl) ?_ _
    clear hK S1 hrun hm2 hg2 hz2 c2 IV2 hcb hmem HOK HN HLK HST HC0 HQ
    go_upto_region 5 with fail
    have CB := Lib.hid (big64_any q W2)
    have h8 : (M.le q 8).reverse.length = 8 := by rw [List.length_reverse, M.le_length]
    obtain ⟨yb, hyb⟩ : ∃ yb, yb = (M.le q 8).reverse := ⟨_, rfl⟩
    rw [← hyb] at CB h8
    have HYB := Lib.hid hyb
    have H8 := Lib.hid h8
    clear hyb h8
    go_wp2_with fail
    refine CB.out.mono ?_
    rintro e w3 ⟨ev, rfl, o3, k3⟩
    obtain ⟨eg, ec, rfl, heg⟩ := o3.shape (by rw [H8.out]; decide)
    have CE := Lib.hid o3.cells
    rw [H8.out]
    have K3 := Lib.hid k3
    have HEG := Lib.hid heg
    clear CB o3 k3 heg
    obtain ⟨C, hmk⟩ := HMK.out
    have hmk1 : ∀ w : World, (Instr.makeSlice 38 (.int .i64 32) (.int .i64 32)).run Tryz.prog w = .ok (.slice (some ⟨w.heap.size, 0, none⟩) 32 32) (w.alloc (.cells C 5)) := fun w => (hmk w).1
    have o4 : Own (w3.alloc (.cells C 5)) w3.heap.size (.slice (some ⟨w3.heap.size, 0, none⟩) 32 32) (List.replicate 32 0) := (hmk w3).2
    obtain ⟨mg, mc, e4, hmg, hmc, hd4⟩ := o4.hd (by decide)
    injection e4 with e5 e6 e7
    injection e5 with e5
    injection e5 with e5
    subst e5 e7
    obtain ⟨w4, hw4⟩ : ∃ x, Hid (x = w3.alloc (.cells C 5)) := ⟨_, rfl⟩
    obtain ⟨G, hG⟩ : ∃ x, Hid (x = w3.heap.size) := ⟨_, rfl⟩
    rw [← hw4.out, ← hG.out] at hd4
    have K4 : Hid (Below w3.heap.size w3 w4) := by rw [hw4.out]; exact (Below.refl _ _).alloc (Nat.le_refl _) _
    have HD4 := Lib.hid hd4
    clear hmk o4 hmg hmc e6 hd4
    go_upto_region 7 with fail
    rw [← hw4.out, ← hG.out]
    obtain ⟨w5, h5, hd5, o5⟩ := HD4.out.copyStr (o := 0) (dLen := 32) (dCap := 32) [83, 85, 77, 33] (by decide) (by decide) 3
    have HD5 := Lib.hid hd5
    have O5 := Lib.hid o5
    clear HD4 hd5 o5 hmk1
    go_upto_region 8 with fail
    clear h5
    obtain ⟨cur, hb5, c1, c2, c3, c4⟩ := HD5.out
    have ce5 : ∀ j u, (Lib.byteCells yb)[j]? = some u → w5.cell? ⟨eg, j, none⟩ = some u := fun j u hj => by
      have h3 := CE.out j u hj
      rw [Addr.add_mid, Nat.zero_add] at h3
      have hb3 := World.block_lt_of_cell? w3 _ h3
      have h4 : w4.cell? ⟨eg, j, none⟩ = some u := (K4.out.cell hb3).trans h3
      have hb3' : eg < w3.heap.size := hb3
      have hne : some eg ≠ some G := by rw [hG.out]; intro e; injection e with e; omega
      rw [World.cell?_of_block (O5.out.block eg (Nat.lt_of_lt_of_le hb3' K4.out.size) hne), h4]
    go_wp2_with (refine wpList_copy_blk rfl (.tmp 45) (.tmp 46) 38 38 rfl 5 Tryz.underlying38 (by kernel_rfl) (some ⟨G, 24, none⟩) (some ⟨eg, 0, none⟩) 8 8 8 ec rfl rfl G 24 cur 5 hb5 (Lib.byteCells yb) ?d1 ?d2 ?d3 (byteCells_oneCell _) ?_)
    case d1 => rw [byteCells_length, H8.out]; rfl
    case d2 => exact fun _ => ce5
    case d3 => rw [byteCells_length, H8.out, c1]; decide
    intro w6 hb6 o6
    have hl5 : (M.lay11 (List.replicate 32 0) 0 [83, 85, 77, 33]).length = 32 := by decide
    have hd6 : Hd w6 G 32 (M.lay11 (M.lay11 (List.replicate 32 0) 0 [83, 85, 77, 33]) 24 yb) := Hd.lay c1 c2 c3 c4 (by rw [hl5, H8.out]; decide) hb6
    rw [HYB.out, M.bookDg_lay, HN2.out] at hd6
    have HD6 := Lib.hid hd6
    have O6 := Lib.hid o6
    clear hb5 c1 c2 c3 c4 ce5 hb6 o6 hl5 hd6 CE
    go_wp2
    go_ret
    have hz3 := K3.out.size
    have hz := hG.out
    have hsz : w.heap.size ≤ W2.heap.size := CH.out.size
    have c6 : Chg (fun b => b = G) w4 w6 := (⟨O5.out.os, O5.out.tape, O5.out.output, O5.out.size, fun k h1 h2 => O5.out.block k h1 fun e => by injection e with e; exact h2 e⟩ : Chg (fun b => b = G) w4 w5).trans (⟨O6.out.os, O6.out.tape, O6.out.output, O6.out.size, fun k h1 h2 => O6.out.block k h1 fun e => by injection e with e; exact h2 e⟩ : Chg (fun b => b = G) w5 w6) fun _ _ h => h
    have k6 : Below W2.heap.size W2 w6 := (K3.out.trans (K4.out.mono hz3)).trans (c6.below (Nat.le_trans hz3 K4.out.size) fun k e => by subst e; omega)
    obtain ⟨l', e1, es', m6, e2, e3⟩ := IB.out
    have ho := HD6.out.own (B := w.heap.size) (by omega)
    rw [M.bookDg_length] at ho
    exact ⟨_, rfl, ho, ⟨l', e1, es', m6.below k6, e2, e3⟩, CH.out.trans (Chg.of_below k6) fun _ _ h => h⟩

end Go.Proofs.YtphcbpfpelonaaaGreatDoor

namespace Go.Proofs.YtphcbpfpelonaaaGreatDoor
open Go.RowKit Go.Maps
set_option linter.unusedVariables false
set_option maxRecDepth 100000

theorem Far.isB {w0 w w' : World} {Q : Nat → Prop} (h : Far w0 Q w w') {v : Value} {bs : List UInt8} (i : IsB w v bs) (hl : Lies (fun k => Q k ∨ k < w0.heap.size) v) : IsB w' v bs :=
  i.chg h (hl.mono fun k hk e => by rcases hk with hk | hk; exact e.1 hk; omega)

/-- A book of so few texts. -/
def M.Cr.few : M.Cr → Nat → Prop
  | .real, _ => True
  | .book l, n => l.length ≤ n

theorem M.Cr.few.next {c : M.Cr} {n : Nat} (h : c.few n) (b : List UInt8) : (M.cnext c b).few (n + 1) := by
  cases c with
  | real => trivial
  | book l =>
    have h' : l.length ≤ n := h
    rw [M.cnext]
    split
    · show l.length ≤ n + 1
      omega
    · show (l ++ [b]).length ≤ n + 1
      rw [List.length_append]
      simp
      omega

theorem M.Cr.few.more {c : M.Cr} {n k : Nat} (h : c.few n) (hk : n ≤ k) : c.few k := by
  cases c with
  | real => trivial
  | book l => exact Nat.le_trans (show l.length ≤ n from h) hk

theorem sum_real (w : World) : (method 322 74 (.agg #[]) "Sum").run Tryz.prog w = .ok (164, .agg #[]) w := by kernel_rfl
theorem sum_book (w : World) (a : Addr) : (method 322 82 (.pointer (some a)) "Sum").run Tryz.prog w = .ok (167, .pointer (some a)) w := by kernel_rfl

section
variable {w0 w w' : World} {g gf gc N : Nat} {F : M.Fs} {Q : Nat → Prop} {c : M.Cr} {cv : Value}

/-- What a Sum hands back. -/
def SumEnds (w0 w : World) (g gf gc N : Nat) (F : M.Fs) (c : M.Cr) (cv : Value) (Q : Nat → Prop) (bs : List UInt8) (e : Ending) (w' : World) : Prop :=
  ∃ r, e = .returned r ∧ Own w' w.heap.size r (M.csum c bs) ∧ CasSt w0 w' g gf gc N F (M.cnext c bs) cv (fun b => Q b ∨ (w.heap.size ≤ b ∧ b < w'.heap.size)) ∧ Far w0 Q w w'

/-- Which Sum a crypt's is. -/
theorem CasSt.sum (s : CasSt w0 w g gf gc N F c cv Q) (hL : Laid w0) (hfew : c.few 90000) :
    (cv = .iface 74 (.agg #[]) ∧ ∀ bv bs, IsB w bv bs → bs.length ≤ 562949953421312 → Calls Tryz.prog 164 #[.agg #[], bv] w (SumEnds w0 w g gf gc N F c cv Q bs)) ∨
    (∃ gb, cv = .iface 82 (.pointer (some ⟨gb, 0, none⟩)) ∧ ∀ bv bs, IsB w bv bs → bs.length ≤ maxLen → Calls Tryz.prog 167 #[.pointer (some ⟨gb, 0, none⟩), bv] w (SumEnds w0 w g gf gc N F c cv Q bs)) := by
  have hu := s.under
  have hl0 := s
  cases c with
  | real =>
    refine .inl ⟨?_, fun bv bs hb hlen => ?_⟩
    · obtain ⟨T, R, _, _, cr, _⟩ := s
      exact cr
    · refine (realSum_any bv bs w (hL.below hu hL.size) hb hlen).mono ?_
      rintro e w' ⟨r, he, o, k⟩
      exact ⟨r, he, o, s.below k, Far.of_below k⟩
  | book l =>
    obtain ⟨T, R, f, b, ⟨gb, m1, m2, ecv, bb, ib, hne, t1, t2⟩, h1, h2, h3, h4⟩ := s
    refine .inr ⟨gb, ecv, fun bv bs hb hlen => ?_⟩
    refine (bookSum_any bb ib hne (by have : l.length ≤ 90000 := hfew; omega) bv bs hb hlen).mono ?_
    rintro e w' ⟨r, he, o, ⟨l', e1, ib'⟩, ch⟩
    have hlt := f.rlt
    have hP : ∀ k, k = m1 → R k := fun k e => e ▸ h3 m1 t2
    refine ⟨r, he, o, ⟨T, _, f.refs hP ch, b.chg ch fun e => h2 (e ▸ t2), ?_, .inl h1, h2, fun j hj => .inl (h3 j hj), fun j hj => ?_⟩, ch.mono fun k _ e => ⟨fun hq => (h4 k hq).2.1 (e ▸ t2), by subst e; exact (hlt _ (h3 _ t2)).1⟩⟩
    · rw [← e1]
      exact ⟨gb, m1, m2, ecv, bb.chg ch hne, ib', hne, t1, t2⟩
    · rcases hj with hj | hj
      · exact ⟨.inl (h4 j hj).1, (h4 j hj).2⟩
      · exact ⟨.inr hj, fun h => by have := (hlt j (h3 j h)).2; omega, fun e => by subst e; have := (hlt j h1).2; omega⟩

set_option maxHeartbeats 2000000 in
/-- Whether bytes have another digest. -/
theorem CasSt.spoilt (s : CasSt w0 w g gf gc N F c cv Q) (hL : Laid w0) (hfew : c.few 90000) (dv bv : Value) (d bs : List UInt8) (hd : IsB w dv d) (hdl : Lies (fun k => Q k ∨ k < w0.heap.size) dv) (hb : IsB w bv bs) (hlen : bs.length ≤ 1099511627776) :
    Calls Tryz.prog 32 #[.pointer (some ⟨gc, 0, none⟩), dv, bv] w fun e w' => e = .returned (.bool (!decide (M.csum c bs = d))) ∧ CasSt w0 w' g gf gc N F (M.cnext c bs) cv (fun b => Q b ∨ (w.heap.size ≤ b ∧ b < w'.heap.size)) ∧ Far w0 Q w w' := by
  have c1 := s.cells.2
  have HD := Lib.hid hd
  have HDL := Lib.hid hdl
  have HS := s.sum hL hfew
  obtain ⟨bo, bn, hbs⟩ := hb.shape
  obtain ⟨do_, dn, hds⟩ := hd.shape
  rcases HS with ⟨rfl, C⟩ | ⟨gb, rfl, C⟩
  focus
    have CS := Lib.hid (C bv bs hb (by omega))
  rotate_left
  focus
    have CS := Lib.hid (C bv bs hb (by unfold maxLen; omega))
  all_goals (
    rw [hds] at HD HDL
    rw [hbs, hds]
    rw [hbs] at CS
    clear C s hd hdl hb hbs hds
    have hm1 := sum_real
    have hm2 := sum_book
    go_enter Tryz.func32, Tryz.ntmps32
    go_wp2_with fail
    refine CS.out.mono ?_
    rintro e w1 ⟨r, rfl, o, s1, far⟩
    have CE := Lib.hid (bytesEqual_all r (.slice do_ d.length dn) (M.csum c bs) d w1 o.isB (far.isB HD.out HDL.out))
    have S1 := Lib.hid s1
    have FAR := Lib.hid far
    clear CS o s1 far
    go_wp2_with fail
    refine CE.out.mono ?_
    rintro e w2 ⟨rfl, rfl⟩
    go_wp2
    go_ret
    exact ⟨rfl, S1.out, FAR.out⟩)

end

end Go.Proofs.YtphcbpfpelonaaaGreatDoor

namespace Go.Proofs.YtphcbpfpelonaaaGreatDoor
open Go.RowKit Go.Maps
set_option linter.unusedVariables false
set_option maxRecDepth 100000

/-- A blob's bytes as they lie. -/
def M.blob (F : M.Fs) (d : List UInt8) : Option (List UInt8) := if d.length = 32 then M.look F (98 :: d) else none

section
variable {w0 w w' : World} {g gf gc N : Nat} {F : M.Fs} {Q : Nat → Prop} {c : M.Cr} {cv : Value}

set_option maxHeartbeats 2000000 in
/-- A blob that is there, read. -/
theorem CasSt.read_yes (s : CasSt w0 w g gf gc N F c cv Q) (dv : Value) (d x : List UInt8) (hd : IsB w dv d) (h : M.blob F d = some x) :
    Calls Tryz.prog 31 #[.pointer (some ⟨gc, 0, none⟩), dv] w fun e w' => ∃ r, e = .returned (.tuple #[r, .int .i64 0]) ∧ Own w' w.heap.size r x ∧ Below w.heap.size w w' := by
  rw [M.blob] at h
  by_cases h32 : d.length = 32
  · rw [if_pos h32] at h
    obtain ⟨do_, dn, rfl⟩ := hd.shape
    rw [h32] at hd ⊢
    have HC0 := Lib.hid fun (x : World) (k : Below w.heap.size w x) => (s.see k).cells.1
    have HN := Lib.hid fun (x : World) (k : Below w.heap.size w x) => name_any _ d x (hd.below k) (by omega)
    have HR := Lib.hid fun (y : World) (k : Below w.heap.size w y) => (s.see k).fread (98 :: d) x h
    obtain ⟨nm, hnm⟩ : ∃ s : ByteArray, s = ⟨(98 :: d).toArray⟩ := ⟨_, rfl⟩
    rw [← hnm] at HN HR
    clear s hd h h32 hnm
    go_enter Tryz.func31, Tryz.ntmps31
    go_upto_region 3 with fail
    refine wp_region_any (by kernel_rfl) ?_
    change wpAny _ _ _ _ _ _ _ (World.drew _)
    refine wpAny_of_held (S := fun w' => Below w.heap.size w w') _ _ _ _ ?_
    have S0 : Below w.heap.size w w.drew := (Below.refl _ _).drew
    refine wpAnyH_take_at (i := 0) (v := .pointer (some ⟨gc, 0, none⟩)) rfl rfl (by kernel_rfl) (by kernel_rfl) (by kernel_rfl) (fun _ _ _ h => h) (Or.inl ⟨by rfl, fun w hS => by go_simp⟩) S0 ?_
    try simp only [List.setIfInBounds_toArray, List.set_cons_zero, List.set_cons_succ]
    refine wpAnyH_take_at (i := 1) (v := .pointer (some ⟨gc, 0, none⟩)) rfl rfl (by kernel_rfl) (by kernel_rfl) (by kernel_rfl) (fun _ _ _ h => h) (Or.inl ⟨by rfl, fun w hS => by go_simp⟩) S0 ?_
    try simp only [List.setIfInBounds_toArray, List.set_cons_zero, List.set_cons_succ]
    refine wpAnyH_take_at (i := 2) (v := .pointer (some ⟨gc, 0, none⟩)) rfl rfl (by kernel_rfl) (by kernel_rfl) (by kernel_rfl) (fun _ _ _ h => h) (Or.inl ⟨by rfl, fun w hS => by go_simp⟩) S0 ?_
    try simp only [List.setIfInBounds_toArray, List.set_cons_zero, List.set_cons_succ]
    refine wpAnyH_take_at (i := 3) (v := .pointer (some ⟨gf, 0, none⟩)) rfl rfl (by kernel_rfl) (by kernel_rfl) (by kernel_rfl) (fun _ _ _ h => h) (Or.inl ⟨by rfl, fun w hS => by have c := HC0.out w hS; go_simp⟩) S0 ?_
    try simp only [List.setIfInBounds_toArray, List.set_cons_zero, List.set_cons_succ]
    refine wpAnyH_take_at (i := 4) (v := .slice do_ 32 dn) rfl rfl (by kernel_rfl) (by kernel_rfl) (by kernel_rfl) (fun _ _ _ h => h) (Or.inl ⟨by rfl, fun w hS => by go_simp⟩) S0 ?_
    try simp only [List.setIfInBounds_toArray, List.set_cons_zero, List.set_cons_succ]
    refine wpAnyH_ready (rs := [5]) (by kernel_rfl) (by simp) ?_
    refine AllReadyH.cons rfl (fun K hK => ?_) AllReadyH.nil
    go_simp
    refine (HN.out _ S0).mono ?_
    rintro e w1 ⟨rfl, rfl⟩
    refine hK.out _ _ S0 (fun _ => ?_)
    clear hK
    refine wpAnyH_ready (rs := [6]) (by kernel_rfl) (by simp) ?_
    refine AllReadyH.cons rfl (fun K hK => ?_) AllReadyH.nil
    go_simp
    refine (HR.out _ S0).mono ?_
    rintro e w2 ⟨r, rfl, o2, k2⟩
    have K2 : Below w.heap.size w w2 := S0.trans (k2.mono S0.size)
    refine hK.out _ _ K2 (fun _ => ?_)
    clear hK
    refine wpAnyH_take_at (i := 7) (v := r) rfl rfl (by kernel_rfl) (by kernel_rfl) (by kernel_rfl) (fun _ _ _ h => h) (Or.inl ⟨by rfl, fun w hS => by go_simp⟩) K2 ?_
    try simp only [List.setIfInBounds_toArray, List.set_cons_zero, List.set_cons_succ]
    refine wpAnyH_take_at (i := 8) (v := .int .i64 0) rfl rfl (by kernel_rfl) (by kernel_rfl) (by kernel_rfl) (fun _ _ _ h => h) (Or.inl ⟨by rfl, fun w hS => by go_simp⟩) K2 ?_
    try simp only [List.setIfInBounds_toArray, List.set_cons_zero, List.set_cons_succ]
    refine wpAnyH_take_at (i := 9) (v := r) rfl rfl (by kernel_rfl) (by kernel_rfl) (by kernel_rfl) (fun _ _ _ h => h) (Or.inl ⟨by rfl, fun w hS => by go_simp⟩) K2 ?_
    try simp only [List.setIfInBounds_toArray, List.set_cons_zero, List.set_cons_succ]
    refine wpAnyH_take_at (i := 10) (v := .int .i64 0) rfl rfl (by kernel_rfl) (by kernel_rfl) (by kernel_rfl) (fun _ _ _ h => h) (Or.inl ⟨by rfl, fun w hS => by go_simp⟩) K2 ?_
    try simp only [List.setIfInBounds_toArray, List.set_cons_zero, List.set_cons_succ]
    refine wpAnyH_done (by kernel_rfl) ?_ _
    have O2 := Lib.hid o2
    have KK := Lib.hid K2
    clear S0 k2 K2 o2
    go_wp2
    go_ret2
    exact ⟨r, rfl, O2.out, KK.out⟩
  · rw [if_neg h32] at h
    cases h

set_option maxHeartbeats 2000000 in
/-- A blob that is not there, read. -/
theorem CasSt.read_no (s : CasSt w0 w g gf gc N F c cv Q) (dv : Value) (d : List UInt8) (hd : IsB w dv d) (h : M.blob F d = none) :
    Calls Tryz.prog 31 #[.pointer (some ⟨gc, 0, none⟩), dv] w fun e w' => e = .returned (.tuple #[.slice none 0 0, .int .i64 4]) ∧ Below w.heap.size w w' := by
  rw [M.blob] at h
  by_cases h32 : d.length = 32
  · rw [if_pos h32] at h
    obtain ⟨do_, dn, rfl⟩ := hd.shape
    rw [h32] at hd ⊢
    have HC0 := Lib.hid fun (x : World) (k : Below w.heap.size w x) => (s.see k).cells.1
    have HN := Lib.hid fun (x : World) (k : Below w.heap.size w x) => name_any _ d x (hd.below k) (by omega)
    have HR := Lib.hid fun (y : World) (k : Below w.heap.size w y) => (s.see k).fread_no (98 :: d) (by rw [List.length_cons, h32]; unfold maxLen; omega) h
    obtain ⟨nm, hnm⟩ : ∃ s : ByteArray, s = ⟨(98 :: d).toArray⟩ := ⟨_, rfl⟩
    rw [← hnm] at HN HR
    clear s hd h h32 hnm
    go_enter Tryz.func31, Tryz.ntmps31
    go_upto_region 3 with fail
    refine wp_region_any (by kernel_rfl) ?_
    change wpAny _ _ _ _ _ _ _ (World.drew _)
    refine wpAny_of_held (S := fun w' => Below w.heap.size w w') _ _ _ _ ?_
    have S0 : Below w.heap.size w w.drew := (Below.refl _ _).drew
    refine wpAnyH_take_at (i := 0) (v := .pointer (some ⟨gc, 0, none⟩)) rfl rfl (by kernel_rfl) (by kernel_rfl) (by kernel_rfl) (fun _ _ _ h => h) (Or.inl ⟨by rfl, fun w hS => by go_simp⟩) S0 ?_
    try simp only [List.setIfInBounds_toArray, List.set_cons_zero, List.set_cons_succ]
    refine wpAnyH_take_at (i := 1) (v := .pointer (some ⟨gc, 0, none⟩)) rfl rfl (by kernel_rfl) (by kernel_rfl) (by kernel_rfl) (fun _ _ _ h => h) (Or.inl ⟨by rfl, fun w hS => by go_simp⟩) S0 ?_
    try simp only [List.setIfInBounds_toArray, List.set_cons_zero, List.set_cons_succ]
    refine wpAnyH_take_at (i := 2) (v := .pointer (some ⟨gc, 0, none⟩)) rfl rfl (by kernel_rfl) (by kernel_rfl) (by kernel_rfl) (fun _ _ _ h => h) (Or.inl ⟨by rfl, fun w hS => by go_simp⟩) S0 ?_
    try simp only [List.setIfInBounds_toArray, List.set_cons_zero, List.set_cons_succ]
    refine wpAnyH_take_at (i := 3) (v := .pointer (some ⟨gf, 0, none⟩)) rfl rfl (by kernel_rfl) (by kernel_rfl) (by kernel_rfl) (fun _ _ _ h => h) (Or.inl ⟨by rfl, fun w hS => by have c := HC0.out w hS; go_simp⟩) S0 ?_
    try simp only [List.setIfInBounds_toArray, List.set_cons_zero, List.set_cons_succ]
    refine wpAnyH_take_at (i := 4) (v := .slice do_ 32 dn) rfl rfl (by kernel_rfl) (by kernel_rfl) (by kernel_rfl) (fun _ _ _ h => h) (Or.inl ⟨by rfl, fun w hS => by go_simp⟩) S0 ?_
    try simp only [List.setIfInBounds_toArray, List.set_cons_zero, List.set_cons_succ]
    refine wpAnyH_ready (rs := [5]) (by kernel_rfl) (by simp) ?_
    refine AllReadyH.cons rfl (fun K hK => ?_) AllReadyH.nil
    go_simp
    refine (HN.out _ S0).mono ?_
    rintro e w1 ⟨rfl, rfl⟩
    refine hK.out _ _ S0 (fun _ => ?_)
    clear hK
    refine wpAnyH_ready (rs := [6]) (by kernel_rfl) (by simp) ?_
    refine AllReadyH.cons rfl (fun K hK => ?_) AllReadyH.nil
    go_simp
    refine (HR.out _ S0).mono ?_
    rintro e w2 ⟨rfl, k2⟩
    have K2 : Below w.heap.size w w2 := S0.trans (k2.mono S0.size)
    refine hK.out _ _ K2 (fun _ => ?_)
    clear hK
    refine wpAnyH_take_at (i := 7) (v := .slice none 0 0) rfl rfl (by kernel_rfl) (by kernel_rfl) (by kernel_rfl) (fun _ _ _ h => h) (Or.inl ⟨by rfl, fun w hS => by go_simp⟩) K2 ?_
    try simp only [List.setIfInBounds_toArray, List.set_cons_zero, List.set_cons_succ]
    refine wpAnyH_take_at (i := 8) (v := .int .i64 4) rfl rfl (by kernel_rfl) (by kernel_rfl) (by kernel_rfl) (fun _ _ _ h => h) (Or.inl ⟨by rfl, fun w hS => by go_simp⟩) K2 ?_
    try simp only [List.setIfInBounds_toArray, List.set_cons_zero, List.set_cons_succ]
    refine wpAnyH_take_at (i := 9) (v := .slice none 0 0) rfl rfl (by kernel_rfl) (by kernel_rfl) (by kernel_rfl) (fun _ _ _ h => h) (Or.inl ⟨by rfl, fun w hS => by go_simp⟩) K2 ?_
    try simp only [List.setIfInBounds_toArray, List.set_cons_zero, List.set_cons_succ]
    refine wpAnyH_take_at (i := 10) (v := .int .i64 4) rfl rfl (by kernel_rfl) (by kernel_rfl) (by kernel_rfl) (fun _ _ _ h => h) (Or.inl ⟨by rfl, fun w hS => by go_simp⟩) K2 ?_
    try simp only [List.setIfInBounds_toArray, List.set_cons_zero, List.set_cons_succ]
    refine wpAnyH_done (by kernel_rfl) ?_ _
    have KK := Lib.hid K2
    clear S0 k2 K2
    go_wp2
    go_ret2
    exact ⟨rfl, KK.out⟩
  · obtain ⟨do_, dn, rfl⟩ := hd.shape
    obtain ⟨n, hn⟩ : ∃ n, n = d.length := ⟨_, rfl⟩
    rw [← hn] at h32 ⊢
    have b1 : ¬ (n : Int) = 32 := by omega
    clear s hd h hn
    go_enter Tryz.func31, Tryz.ntmps31
    go_wp2
    all_goals (first | (exfalso; omega) | skip)
    go_ret2
    exact ⟨rfl, Below.refl _ _⟩

set_option maxHeartbeats 2000000 in
/-- Has. -/
theorem CasSt.has (s : CasSt w0 w g gf gc N F c cv Q) (dv : Value) (d : List UInt8) (hd : IsB w dv d) :
    Calls Tryz.prog 24 #[.pointer (some ⟨gc, 0, none⟩), dv] w fun e w' => e = .returned (.bool (M.blob F d).isSome) ∧ Below w.heap.size w w' := by
  have hdv := hd
  obtain ⟨do_, dn, hds⟩ := hd.shape
  cases hb : M.blob F d with
  | none =>
    have C := Lib.hid (s.read_no dv d hd hb)
    rw [hds] at C ⊢
    clear s hd hdv hb hds
    go_enter Tryz.func24, Tryz.ntmps24
    go_wp2_with fail
    refine C.out.mono ?_
    rintro e w1 ⟨rfl, k1⟩
    have K1 := Lib.hid k1
    clear C k1
    go_wp2
    go_ret
    exact ⟨rfl, K1.out⟩
  | some x =>
    have C := Lib.hid (s.read_yes dv d x hd hb)
    rw [hds] at C ⊢
    clear s hd hdv hb hds
    go_enter Tryz.func24, Tryz.ntmps24
    go_wp2_with fail
    refine C.out.mono ?_
    rintro e w1 ⟨r, rfl, o1, k1⟩
    have K1 := Lib.hid k1
    clear C k1 o1
    go_wp2
    go_ret
    exact ⟨rfl, K1.out⟩

set_option maxHeartbeats 2000000 in
/-- Get of a blob that is not there. -/
theorem CasSt.get_no (s : CasSt w0 w g gf gc N F c cv Q) (dv : Value) (d : List UInt8) (hd : IsB w dv d) (hb : M.blob F d = none) :
    Calls Tryz.prog 13 #[.pointer (some ⟨gc, 0, none⟩), dv] w fun e w' => e = .returned (.tuple #[.slice none 0 0, .int .i64 4]) ∧ Below w.heap.size w w' := by
  obtain ⟨do_, dn, hds⟩ := hd.shape
  have C := Lib.hid (s.read_no dv d hd hb)
  rw [hds] at C ⊢
  clear s hd hb hds
  go_enter Tryz.func13, Tryz.ntmps13
  go_wp2_with fail
  refine C.out.mono ?_
  rintro e w1 ⟨rfl, k1⟩
  have K1 := Lib.hid k1
  clear C k1
  go_wp2
  go_ret2
  exact ⟨rfl, K1.out⟩

/-- What Get tells of a blob that is there. -/
def GetEnds (w0 w : World) (g gf gc N : Nat) (F : M.Fs) (c : M.Cr) (cv : Value) (Q : Nat → Prop) (d x : List UInt8) (e : Ending) (w' : World) : Prop :=
  ∃ r, e = .returned (.tuple #[if M.csum c x = d then r else .slice none 0 0, .int .i64 (if M.csum c x = d then 0 else 6)]) ∧ (M.csum c x = d → IsB w' r x ∧ Lies (fun k => w.heap.size ≤ k ∧ k < w'.heap.size) r ∧ ∀ n c, r = .slice none n c → c = 0) ∧ CasSt w0 w' g gf gc N F (M.cnext c x) cv (fun b => Q b ∨ (w.heap.size ≤ b ∧ b < w'.heap.size)) ∧ Far w0 Q w w'

set_option maxHeartbeats 2000000 in
/-- Get of a blob that is there. -/
theorem CasSt.get_yes (s : CasSt w0 w g gf gc N F c cv Q) (hL : Laid w0) (hfew : c.few 90000) (dv : Value) (d x : List UInt8) (hd : IsB w dv d) (hdl : Lies (fun k => Q k ∨ k < w0.heap.size) dv) (hb : M.blob F d = some x) :
    Calls Tryz.prog 13 #[.pointer (some ⟨gc, 0, none⟩), dv] w (GetEnds w0 w g gf gc N F c cv Q d x) := by
  have HX : Hid (x.length ≤ 1099511627776) := by
    rw [M.blob] at hb
    split at hb
    · exact s.size hb
    · cases hb
  obtain ⟨do_, dn, hds⟩ := hd.shape
  have C := Lib.hid (s.read_yes dv d x hd hb)
  have SS := Lib.hid s
  have HD := Lib.hid hd
  have HDL := Lib.hid hdl
  have HL := Lib.hid hL
  have HF := Lib.hid hfew
  rw [hds] at C HD HDL ⊢
  clear s hd hb hds hdl hL hfew
  go_enter Tryz.func13, Tryz.ntmps13
  go_wp2_with fail
  refine C.out.mono ?_
  rintro e w1 ⟨r, rfl, o1, k1⟩
  obtain ⟨ra, rc, rfl⟩ := o1.shape'
  have CS := Lib.hid ((SS.out.below k1).spoilt HL.out HF.out (.slice do_ d.length dn) (.slice ra x.length rc) d x (HD.out.below k1) (HDL.out.mono fun k hk => hk.imp_left .inl) o1.isB HX.out)
  have LR : Hid (Lies (fun k => w.heap.size ≤ k ∧ k < w1.heap.size) (.slice ra x.length rc)) := o1.lies fun k h1 h2 => ⟨h1, h2⟩
  have IR := Lib.hid o1.isB
  have N0 := Lib.hid o1.nil0
  have K1 := Lib.hid k1
  clear C k1 o1
  obtain ⟨sp, hsp⟩ : ∃ b, b = !decide (M.csum c x = d) := ⟨_, rfl⟩
  rw [← hsp] at CS
  obtain ⟨xn, hxn⟩ : ∃ q, q = x.length := ⟨_, rfl⟩
  rw [← hxn] at CS LR IR N0 ⊢
  cases sp with
  | true =>
    have hne : ¬ M.csum c x = d := by simpa using hsp.symm
    have HNE := Lib.hid hne
    clear hne hsp hxn
    go_wp2_with fail
    refine CS.out.mono ?_
    rintro e w2 ⟨rfl, s2, far⟩
    have S2 := Lib.hid s2
    have FAR := Lib.hid far
    clear CS s2 far
    go_wp2
    go_ret2
    refine ⟨.slice none 0 0, by rw [if_neg HNE.out, if_neg HNE.out]; rfl, fun h => absurd h HNE.out, S2.out.less fun k hk => ?_, (Far.of_below K1.out).trans (FAR.out.mono fun k _ h => ⟨fun hq => h.1 (.inl hq), h.2⟩)⟩
    have := K1.out.size
    have := FAR.out.size
    rcases hk with hk | hk
    · exact .inl (.inl hk)
    · by_cases hlt : k < w1.heap.size
      · exact .inl (.inr ⟨hk.1, hlt⟩)
      · exact .inr ⟨by omega, hk.2⟩
  | false =>
    have hne : M.csum c x = d := by simpa using hsp.symm
    have HNE := Lib.hid hne
    clear hne hsp hxn
    go_wp2_with fail
    refine CS.out.mono ?_
    rintro e w2 ⟨rfl, s2, far⟩
    have S2 := Lib.hid s2
    have FAR := Lib.hid far
    clear CS s2 far
    go_wp2
    go_ret2
    have h1 := K1.out.size
    have h2 := FAR.out.size
    refine ⟨.slice ra xn rc, by rw [if_pos HNE.out, if_pos HNE.out]; rfl, fun h => ⟨IR.out.chg FAR.out (LR.out.mono fun k hk h => h.1 (.inr hk)), LR.out.mono fun k hk => ⟨hk.1, by omega⟩, N0.out⟩, S2.out.less fun k hk => ?_, (Far.of_below K1.out).trans (FAR.out.mono fun k _ h => ⟨fun hq => h.1 (.inl hq), h.2⟩)⟩
    rcases hk with hk | hk
    · exact .inl (.inl hk)
    · by_cases hlt : k < w1.heap.size
      · exact .inl (.inr ⟨hk.1, hlt⟩)
      · exact .inr ⟨by omega, hk.2⟩

end

end Go.Proofs.YtphcbpfpelonaaaGreatDoor

namespace Go.Proofs.YtphcbpfpelonaaaGreatDoor
open Go.RowKit Go.Maps
set_option linter.unusedVariables false
set_option maxRecDepth 100000

theorem M.markB_begins (c : UInt8) (n : List UInt8) : M.markB c n = (M.begins c n && decide ((M.behind1 c n).length = 32)) := by
  rw [M.markB, M.begins, M.behind1, M.begins]
  cases n with
  | nil => simp
  | cons x r =>
    by_cases h : x = c
    · subst h
      have e : ((x :: r).head? == some x) = true := by simp
      rw [e, if_pos rfl, Bool.true_and, Bool.true_and, List.drop_one, List.tail_cons, List.length_cons]
      by_cases h2 : r.length = 32
      · rw [decide_eq_true h2]; simp [h2]
      · rw [decide_eq_false h2]
        have : ¬ r.length + 1 = 33 := by omega
        simpa using this
    · have e : ((x :: r).head? == some c) = false := by simpa using h
      rw [e, Bool.false_and, Bool.false_and]

theorem M.take_nextD {α : Type} (l : List α) (z : α) (k : Nat) (h : k < l.length) : l.take (k + 1) = l.take k ++ [l.getD k z] := by
  rw [List.take_add_one, List.getElem?_eq_getElem h, List.getD_eq_getElem?_getD, List.getElem?_eq_getElem h]
  rfl

/-- The call hands back rows in memory of its own; what was there stands. -/
def GivesLL (w : World) (L : List (List UInt8)) (e : Ending) (w' : World) : Prop := ∃ v rows, e = .returned v ∧ OwnLL w' w.heap.size v L rows ∧ Below w.heap.size w w'

theorem OwnLL.base {w : World} {B B' : Nat} {v : Value} {L : List (List UInt8)} {rows : List Value} (h : OwnLL w B v L rows) (hB : B' ≤ B) : OwnLL w B' v L rows where
  row := ownsRow_base_a h.row hB
  each := fun i hi => ⟨(h.each i hi).1, (h.each i hi).2.1, (h.each i hi).2.2.mono fun k hk => ⟨Nat.le_trans hB hk.1, hk.2⟩⟩

section
variable {w0 w w' : World} {g gf gc N : Nat} {F : M.Fs} {Q : Nat → Prop} {c : M.Cr} {cv : Value}

set_option maxHeartbeats 8000000 in
theorem CasSt.marked (s : CasSt w0 w g gf gc N F c cv Q) (ch : UInt8) :
    Calls Tryz.prog 30 #[.pointer (some ⟨gc, 0, none⟩), .string ⟨#[ch]⟩] w (GivesLL w (M.marked ch F)) := by
  have c0 := s.cells.1
  have CN := Lib.hid s.names
  obtain ⟨ns, hns⟩ : ∃ l, l = F.map M.Fil.nm := ⟨_, rfl⟩
  have H40 : Hid (∀ x ∈ ns, x.length ≤ 40) := fun x hx => by
    rw [hns] at hx
    obtain ⟨q, hq, rfl⟩ := List.mem_map.1 hx
    exact (s.nms q hq).2
  have HM : Hid (M.marked ch F = M.markN ch ns) := by rw [Hid, hns]; rfl
  rw [← hns] at CN
  obtain ⟨n, hn⟩ : ∃ n, n = ns.length := ⟨_, rfl⟩
  have HN : Hid (ns.length = n) := hn.symm
  have H64 : Hid (n ≤ 64) := by rw [Hid, hn, hns, List.length_map]; exact s.few
  obtain ⟨p, hp⟩ : ∃ p : ByteArray, p = ⟨#[ch]⟩ := ⟨_, rfl⟩
  have HP := Lib.hid hp
  rw [← hp]
  clear s hns hn hp
  go_enter Tryz.func30, Tryz.ntmps30
  go_wp2_with fail
  refine CN.out.mono ?_
  rintro e w1 ⟨nv, rfl, on1, k1⟩
  obtain ⟨na, nc, hnv⟩ := ownShape on1
  rw [HN.out] at hnv
  subst hnv
  have ON1 := Lib.hid on1
  have K1 := Lib.hid k1
  clear CN on1 k1 c0
  go_wp2
  go_loopw [5, 16] (fun v i wr => ∃ (j : Nat) (rows : List Value), i = .int .i64 (j : Int) ∧ Hid (j ≤ n) ∧ Hid (Below w1.heap.size w1 wr) ∧ Hid (OwnLL wr w1.heap.size v (M.markN ch (ns.take j)) rows))
    (fun v i _ => n - numOf i)
  case atStart => exact ⟨0, [], rfl, Nat.zero_le _, Below.refl _ _, by rw [List.take_zero]; exact OwnLL.nil _ _⟩
  case round =>
    obtain ⟨wz, rfl⟩ : ∃ x, x = wr := ⟨_, rfl⟩
    obtain ⟨v5, rfl⟩ : ∃ x, x = u5 := ⟨_, rfl⟩
    obtain ⟨j, rows, rfl, hj, kk, oo⟩ := hrel
    have KZ : Hid (Below w.heap.size w wz) := K1.out.trans (kk.out.mono K1.out.size)
    by_cases hlt : j < n
    · have b1 : (j : Int) < (n : Int) := by omega
      have onz := own_below ON1.out kk.out
      rw [HN.out] at onz
      obtain ⟨nb0, hna, _, hcs, _⟩ := ownCells onz (by omega)
      have hjl : j < ns.length := by rw [HN.out]; exact hlt
      obtain ⟨nm, hnm⟩ : ∃ x, x = ns.getD j [] := ⟨_, rfl⟩
      have hcell : wz.cell? ⟨nb0, j, none⟩ = some (.string ⟨nm.toArray⟩) := by
        rw [hcs j (by rw [List.length_map]; exact hjl), List.getElem?_map, List.getElem?_eq_getElem hjl, hnm, List.getD_eq_getElem?_getD, List.getElem?_eq_getElem hjl]
        rfl
      have hmem : nm ∈ ns := by rw [hnm, List.getD_eq_getElem?_getD, List.getElem?_eq_getElem hjl]; exact List.getElem_mem _
      have hl40 := H40.out nm hmem
      have HT : Hid (M.markN ch (ns.take (j + 1)) = if M.markB ch nm = true then M.markN ch (ns.take j) ++ [nm.drop 1] else M.markN ch (ns.take j)) := by
        rw [Hid, M.take_nextD ns [] j hjl, ← hnm, M.markN_snoc]
      have CC := Lib.hid (cutPrefix_any nm ch wz (by omega))
      rw [← HP.out] at CC
      rw [M.markB_begins] at HT
      obtain ⟨bg, hbg⟩ : ∃ b, b = M.begins ch nm := ⟨_, rfl⟩
      obtain ⟨dg, hdg⟩ : ∃ d, d = M.behind1 ch nm := ⟨_, rfl⟩
      rw [← hbg, ← hdg] at CC HT
      have HDG : Hid (bg = true → dg = nm.drop 1) := fun h => by rw [hdg, M.behind1, ← hbg, if_pos h]
      have HDL : Hid (dg.length ≤ 40) := by
        rw [Hid, hdg, M.behind1]
        split
        · rw [List.length_drop]; omega
        · exact hl40
      obtain ⟨snm, hsnm⟩ : ∃ s : ByteArray, s = ⟨nm.toArray⟩ := ⟨_, rfl⟩
      rw [← hsnm] at hcell CC
      obtain ⟨sd, hsd⟩ : ∃ s : ByteArray, s = ⟨dg.toArray⟩ := ⟨_, rfl⟩
      rw [← hsd] at CC
      have hsz : sd.size = dg.length := by rw [hsd]; show dg.toArray.size = _; simp
      have HSD := Lib.hid hsd
      have HLT := Lib.hid hlt
      have g2 : (0 : Int) ≤ (j : Int) := by omega
      have g3 : ((j : Int)).toNat = j := by omega
      have G1 : Hid (wrap64 ((j : Int) + 1) = ((j + 1 : Nat) : Int)) := wrap_next (by have := H64.out; omega)
      obtain ⟨dl, hdl⟩ : ∃ x, x = dg.length := ⟨_, rfl⟩
      rw [← hdl] at hsz HDL HT
      have HDLL := Lib.hid hdl
      subst hna
      clear onz hcs hjl hnm hmem hl40 hbg hdg hsnm hsd hdl hlt
      go_wp2_with fail
      refine CC.out.mono ?_
      rintro e w2 ⟨rfl, rfl⟩
      clear CC hcell
      cases bg with
      | false =>
        have hno : M.markN ch (ns.take (j + 1)) = M.markN ch (ns.take j) := by rw [HT.out]; simp
        have HNO := Lib.hid hno
        clear hno hsz
        go_wp2
        go_roundw
        case rel => exact ⟨j + 1, rows, by first | rfl | rw [G1.out], HLT.out, by first | exact kk | exact kk.out.drew, by rw [HNO.out]; exact oo⟩
        case measure =>
          have := HLT.out
          try rw [G1.out]
          show n - (((j + 1 : Nat) : Int)).toNat < n - ((j : Int)).toNat
          omega
      | true =>
        by_cases h32 : dl = 32
        · subst h32
          have hyes : M.markN ch (ns.take (j + 1)) = M.markN ch (ns.take j) ++ [dg] := by rw [HT.out, HDG.out rfl]; simp
          have HYES := Lib.hid hyes
          obtain ⟨L, hL⟩ : ∃ L, L = M.markN ch (ns.take j) := ⟨_, rfl⟩
          rw [← hL] at oo HYES
          have HLL : Hid (L.length ≤ 64) := by
            rw [Hid, hL, M.markN, List.length_map]
            have h1 : ((ns.take j).filter (M.markB ch)).length ≤ (ns.take j).length := List.length_filter_le _ _
            rw [List.length_take] at h1
            have := H64.out
            have := HLT.out
            omega
          clear hyes hL
          go_wp2_with (refine wpList_bytes _ rfl _ rfl dg (by rw [← HSD.out]; rfl) (by rw [← HDLL.out]; decide) ?_)
          intro rv w3 i3 l3 z3 k3
          obtain ⟨ra, rc, rfl⟩ := i3.shape
          rw [← HDLL.out] at i3 l3 z3 ⊢
          have K12 : Below w3.heap.size w3 (w3.alloc (.cells #[.slice ra 32 rc] 38)) := (Below.refl _ _).alloc (Nat.le_refl _) _
          have K2 : Hid (Below w2.heap.size w2 (w3.alloc (.cells #[.slice ra 32 rc] 38))) := k3.trans (K12.mono k3.size)
          have B2 : Hid (Blk (w3.alloc (.cells #[.slice ra 32 rc] 38)) w3.heap.size 38 [(.slice ra 32 rc)]) := Blk.newAt _ _ _ _ _ rfl rfl
          have I2 : Hid (IsB (w3.alloc (.cells #[.slice ra 32 rc] 38)) (.slice ra 32 rc) dg) := i3.below K12
          have L2 : Hid (Lies (fun b => w2.heap.size ≤ b ∧ b < (w3.alloc (.cells #[.slice ra 32 rc] 38)).heap.size) (.slice ra 32 rc)) := l3.mono fun b hb => ⟨hb.1, Nat.lt_of_lt_of_le hb.2 K12.size⟩
          have Z2 := Lib.hid z3
          have R2 : Hid ((w3.alloc (.cells #[.slice ra 32 rc] 38)).ownsRow w1.heap.size 38 1 v5 L.length rows) := own_chg oo.out.row (Chg.of_below (F := fun _ => False) K2.out) fun _ _ h => h
          have HC1 : Hid (∀ u ∈ [Value.slice ra 32 rc], u.oneCell' = true) := by intro u hu; simp only [List.mem_cons, List.not_mem_nil, or_false] at hu; rw [hu]; rfl
          have HS : Hid (w1.heap.size ≤ (w3.alloc (.cells #[.slice ra 32 rc] 38)).heap.size) := Nat.le_trans kk.out.size K2.out.size
          clear i3 l3 z3 k3 K12
          go_wp2_with (at_builtin; go_must (refine wpList_app_row rows10 _ rfl _ _ rfl w1.heap.size v5 L.length rows rfl R2.out ⟨w3.heap.size, 0, none⟩ 1 1 [(.slice ra 32 rc)] rfl rfl ?d1 HC1.out ?d2 ?d3 HS.out ?_))
          case d1 => exact fun j u hj => by rw [Addr.add_lit, Nat.zero_add, B2.out.cell]; exact hj
          case d2 => have := HLL.out; unfold maxLen; omega
          case d3 => have := HLL.out; omega
          intro v4 w4 o4 g4 a4
          have OO := Lib.hid (oo.out.addI K2.out kk.out.size I2.out L2.out Z2.out o4 g4 (a4.imp_right fun h => ⟨_, h, by simp⟩))
          have K4 : Hid (Below w1.heap.size w1 w4) := (kk.out.trans (K2.out.mono kk.out.size)).grown g4 (Nat.le_trans kk.out.size K2.out.size) fun b hb => (R2.out.lt b hb).1
          rw [← HYES.out] at OO
          clear B2 I2 L2 Z2 R2 HC1 HS o4 g4 a4 K2
          go_wp2
          go_roundw
          case rel => exact ⟨j + 1, _, by first | rfl | rw [G1.out], HLT.out, K4, OO⟩
          case measure =>
            have := HLT.out
            try rw [G1.out]
            show n - (((j + 1 : Nat) : Int)).toNat < n - ((j : Int)).toNat
            omega
        · have hno : M.markN ch (ns.take (j + 1)) = M.markN ch (ns.take j) := by rw [HT.out]; simp [h32]
          have HNO := Lib.hid hno
          have b32 : ¬ (dl : Int) = 32 := by omega
          clear hno
          go_wp2
          go_roundw
          case rel => exact ⟨j + 1, rows, by first | rfl | rw [G1.out], HLT.out, by first | exact kk | exact kk.out.drew, by rw [HNO.out]; exact oo⟩
          case measure =>
            have := HLT.out
            try rw [G1.out]
            show n - (((j + 1 : Nat) : Int)).toNat < n - ((j : Int)).toNat
            omega
    · have b1 : ¬ (j : Int) < (n : Int) := by omega
      obtain rfl : j = n := by have := hj.out; omega
      have et : ns.take j = ns := by rw [← HN.out, List.take_length]
      rw [et, ← HM.out] at oo
      clear et hlt
      go_wp2
      go_ret
      exact ⟨_, rows, rfl, oo.out.base K1.out.size, KZ.out⟩

set_option maxHeartbeats 1000000 in
/-- The digests of all blobs. -/
theorem CasSt.list (s : CasSt w0 w g gf gc N F c cv Q) :
    Calls Tryz.prog 12 #[.pointer (some ⟨gc, 0, none⟩)] w (GivesLL w (M.marked 98 F)) := by
  have C := Lib.hid (s.marked 98)
  clear s
  go_enter Tryz.func12, Tryz.ntmps12
  go_wp2_with fail
  refine C.out.mono ?_
  rintro e w1 ⟨v, rows, rfl, o, k⟩
  have O := Lib.hid o
  have K := Lib.hid k
  clear C o k
  go_wp2
  go_ret
  exact ⟨v, rows, rfl, O.out, K.out⟩

end

end Go.Proofs.YtphcbpfpelonaaaGreatDoor

namespace Go.Proofs.YtphcbpfpelonaaaGreatDoor
open Go.RowKit Go.Maps
set_option linter.unusedVariables false
set_option maxRecDepth 100000

theorem M.KRel.rise {α β : Type} {Q : List UInt8 → α → β → Prop} {l : M.KL α} {m : M.KL β} (h : M.KRel Q l m) (hr : M.KRise l) : M.KRise m := by
  have h1 : (l.map (·.1)).Pairwise (fun a b => bytesBefore a b = true) := List.pairwise_map.2 hr
  rw [h.keys] at h1
  exact List.pairwise_map.1 h1

/-- How a blob that waits lies. -/
def BlQ (S : Nat → Prop) (w : World) (k : List UInt8) (v : Value) (x : List UInt8) : Prop := IsB w v x ∧ Lies S v ∧ (∀ n c, v = .slice none n c → c = 0) ∧ k.length ≤ maxLen
/-- How a change of a file that waits lies. -/
def ChQ (S : Nat → Prop) (w : World) (k : List UInt8) (v : Value) (x : List UInt8 × Bool) : Prop := ∃ y, v = .agg #[.string ⟨k.toArray⟩, y, .bool x.2] ∧ IsB w y x.1 ∧ Lies S y ∧ (∀ n c, y = .slice none n c → c = 0) ∧ k.length ≤ maxLen

/-- Block gb is a batch of the blobs B and the files L that wait; their bytes lie in S. -/
structure BtAt (S : Nat → Prop) (w : World) (gb gc bm fm : Nat) (B : M.KL (List UInt8)) (L : M.Chs) : Prop where
  blk : Blk w gb 90 [.pointer (some ⟨gc, 0, none⟩), .map (some bm), .map (some fm)]
  bl : ∃ eb, IsMp w bm eb ∧ M.KRel (BlQ S w) eb B
  fl : ∃ ef, IsMp w fm ef ∧ M.KRel (ChQ S w) ef L
  n1 : gb ≠ bm
  n2 : gb ≠ fm
  n3 : bm ≠ fm

section
variable {S S' : Nat → Prop} {w w' : World} {gb gc bm fm : Nat} {B : M.KL (List UInt8)} {L : M.Chs}

theorem BtAt.chg (h : BtAt S w gb gc bm fm B L) {F : Nat → Prop} (k : Chg F w w') (h1 : ¬ F gb) (h2 : ¬ F bm) (h3 : ¬ F fm) (h4 : ∀ j, S j → ¬ F j) : BtAt S w' gb gc bm fm B L := by
  obtain ⟨eb, mb, rb⟩ := h.bl
  obtain ⟨ef, mf, rf⟩ := h.fl
  refine ⟨h.blk.chg k h1, ⟨eb, mb.chg k h2, rb.mono fun kk v x q => ⟨q.1.chg k (q.2.1.mono h4), q.2⟩⟩, ⟨ef, mf.chg k h3, rf.mono fun kk v x q => ?_⟩, h.n1, h.n2, h.n3⟩
  obtain ⟨y, e, q1, q2⟩ := q
  exact ⟨y, e, q1.chg k (q2.1.mono h4), q2⟩

theorem BtAt.below (h : BtAt S w gb gc bm fm B L) (k : Below w.heap.size w w') : BtAt S w' gb gc bm fm B L := h.chg (Chg.of_below (F := fun _ => False) k) (fun h => h) (fun h => h) (fun h => h) fun _ _ h => h

theorem BtAt.mono (h : BtAt S w gb gc bm fm B L) (hs : ∀ k, S k → S' k) : BtAt S' w gb gc bm fm B L := by
  obtain ⟨eb, mb, rb⟩ := h.bl
  obtain ⟨ef, mf, rf⟩ := h.fl
  refine ⟨h.blk, ⟨eb, mb, rb.mono fun kk v x q => ⟨q.1, q.2.1.mono hs, q.2.2⟩⟩, ⟨ef, mf, rf.mono fun kk v x q => ?_⟩, h.n1, h.n2, h.n3⟩
  obtain ⟨y, e, q1, q2⟩ := q
  exact ⟨y, e, q1, q2.1.mono hs, q2.2⟩

theorem BtAt.riseB (h : BtAt S w gb gc bm fm B L) : M.KRise B := by
  obtain ⟨eb, mb, rb⟩ := h.bl
  exact rb.rise mb.rise

theorem BtAt.riseL (h : BtAt S w gb gc bm fm B L) : M.KRise L := by
  obtain ⟨ef, mf, rf⟩ := h.fl
  exact rf.rise mf.rise

theorem BtAt.lt (h : BtAt S w gb gc bm fm B L) : gb < w.heap.size ∧ bm < w.heap.size ∧ fm < w.heap.size := by
  obtain ⟨eb, mb, rb⟩ := h.bl
  obtain ⟨ef, mf, rf⟩ := h.fl
  exact ⟨h.blk.lt, mb.lt, mf.lt⟩

/-- 'b.files[name] = ..'. -/
theorem BtAt.storeF (h : BtAt S w gb gc bm fm B L) (nm : List UInt8) (y : Value) (x : List UInt8) (g : Bool) (hk : nm.length ≤ maxLen) (hy : IsB w y x) (hl : Lies S y) (h0 : ∀ n c, y = .slice none n c → c = 0) (hfew : L.length < 100000) :
    ∃ w', (Instr.mapUpdate 88 (.map (some fm)) (.string ⟨nm.toArray⟩) (.agg #[.string ⟨nm.toArray⟩, y, .bool g])).run Tryz.prog w = .ok () w' ∧ BtAt S w' gb gc bm fm B (M.kput L nm (x, g)) ∧ Chg (fun b => b = fm) w w' ∧ w.grownBy w' (some fm) ∧ w'.heap.size = w.heap.size := by
  obtain ⟨eb, mb, rb⟩ := h.bl
  obtain ⟨ef, mf, rf⟩ := h.fl
  obtain ⟨w', hr, hm, hg, hz⟩ := mf.store Tryz.underlying88 nm (.agg #[.string ⟨nm.toArray⟩, y, .bool g]) hk (by rw [rf.len]; omega)
  have hc : Chg (fun b => b = fm) w w' := Chg.of_grown hg fun k hk => by injection hk with hk; exact hk.symm
  have hi : ∀ v bs, IsB w v bs → IsB w' v bs := fun v bs h => h.turned mf.isMap hg
  refine ⟨w', hr, ⟨h.blk.chg hc h.n2, ⟨eb, mb.chg hc h.n3, rb.mono fun kk v x q => ⟨hi _ _ q.1, q.2⟩⟩, ⟨_, hm, (rf.mono (Q' := ChQ S w') fun kk v x q => ?_).put nm _ _ ⟨y, rfl, hi _ _ hy, hl, h0, hk⟩⟩, h.n1, h.n2, h.n3⟩, hc, hg, hz⟩
  obtain ⟨y, e, q1, q2⟩ := q
  exact ⟨y, e, hi _ _ q1, q2⟩

/-- 'b.blobs[name] = ..'. -/
theorem BtAt.storeB (h : BtAt S w gb gc bm fm B L) (nm : List UInt8) (y : Value) (x : List UInt8) (hk : nm.length ≤ maxLen) (hy : IsB w y x) (hl : Lies S y) (h0 : ∀ n c, y = .slice none n c → c = 0) (hfew : B.length < 100000) :
    ∃ w', (Instr.mapUpdate 87 (.map (some bm)) (.string ⟨nm.toArray⟩) y).run Tryz.prog w = .ok () w' ∧ BtAt S w' gb gc bm fm (M.kput B nm x) L ∧ Chg (fun b => b = bm) w w' ∧ w.grownBy w' (some bm) ∧ w'.heap.size = w.heap.size ∧ ∀ v bs, IsB w v bs → IsB w' v bs := by
  obtain ⟨eb, mb, rb⟩ := h.bl
  obtain ⟨ef, mf, rf⟩ := h.fl
  obtain ⟨w', hr, hm, hg, hz⟩ := mb.store Tryz.underlying87 nm y hk (by rw [rb.len]; omega)
  have hc : Chg (fun b => b = bm) w w' := Chg.of_grown hg fun k hk => by injection hk with hk; exact hk.symm
  have hi : ∀ v bs, IsB w v bs → IsB w' v bs := fun v bs h => h.turned mb.isMap hg
  refine ⟨w', hr, ⟨h.blk.chg hc h.n1, ⟨_, hm, (rb.mono (Q' := BlQ S w') fun kk v x q => ⟨hi _ _ q.1, q.2⟩).put nm _ _ ⟨hi _ _ hy, hl, h0, hk⟩⟩, ⟨ef, mf.chg hc (Ne.symm h.n3), rf.mono fun kk v x q => ?_⟩, h.n1, h.n2, h.n3⟩, hc, hg, hz, hi⟩
  obtain ⟨y, e, q1, q2⟩ := q
  exact ⟨y, e, hi _ _ q1, q2⟩

set_option maxHeartbeats 2000000 in
/-- Begin. -/
theorem begin_any (gc : Nat) (w : World) :
    Calls Tryz.prog 21 #[.pointer (some ⟨gc, 0, none⟩)] w fun e w' => ∃ gb bm fm, e = .returned (.pointer (some ⟨gb, 0, none⟩)) ∧ BtAt (fun _ => False) w' gb gc bm fm [] [] ∧ Below w.heap.size w w' ∧ w.heap.size ≤ gb ∧ w.heap.size ≤ bm ∧ w.heap.size ≤ fm := by
  have hmm := @run_makeMap Tryz.prog
  go_enter Tryz.func21, Tryz.ntmps21
  go_wp2
  go_ret
  refine ⟨w.heap.size + 1 + 1, w.heap.size, w.heap.size + 1, rfl, ?_, ?_, by omega, by omega, by omega⟩
  · have z1 : (w.alloc (.map #[] 0)).heap.size = w.heap.size + 1 := by simp
    have z2 : ((w.alloc (.map #[] 0)).alloc (.map #[] 0)).heap.size = w.heap.size + 1 + 1 := by simp
    have m1 : IsMp ((w.alloc (.map #[] 0)).alloc (.map #[] 0)) (w.heap.size + 1) [] := by
      have := mp_made (w.alloc (.map #[] 0))
      rwa [z1] at this
    refine ⟨Blk.newAt _ _ _ _ _ (by rw [z2]) rfl, ⟨[], ((mp_made w).alloc _).alloc _, trivial⟩, ⟨[], m1.alloc _, trivial⟩, by omega, by omega, by omega⟩
  · exact (((Below.refl _ w).alloc (Nat.le_refl _) _).alloc (by simp) _).alloc (by simp; omega) _

set_option maxHeartbeats 2000000 in
/-- Drop. -/
theorem drop_any (h : BtAt S w gb gc bm fm B L) (nm : List UInt8) (hk : nm.length ≤ maxLen) (hfew : L.length < 100000) :
    Calls Tryz.prog 33 #[.pointer (some ⟨gb, 0, none⟩), .string ⟨nm.toArray⟩] w fun e w' => e = .returned (.tuple #[]) ∧ BtAt S w' gb gc bm fm B (M.kput L nm ([], true)) ∧ Chg (fun b => b = fm) w w' := by
  have c2 : w.cell? ⟨gb, 2, none⟩ = some (.map (some fm)) := h.blk.cell 2
  obtain ⟨w1, hr, h1, hc, -, -⟩ := h.storeF nm (.slice none 0 0) [] true hk (IsB.nil w) (fun ad n c e => by cases e) (fun n c e => by injection e with _ _ e; exact e.symm) hfew
  obtain ⟨snm, hsnm⟩ : ∃ s : ByteArray, s = ⟨nm.toArray⟩ := ⟨_, rfl⟩
  rw [← hsnm] at hr ⊢
  have H1 := Lib.hid h1
  have HC := Lib.hid hc
  clear h h1 hc hsnm
  go_enter Tryz.func33, Tryz.ntmps33
  go_wp2
  go_end0
  exact ⟨rfl, H1.out, HC.out⟩

end

end Go.Proofs.YtphcbpfpelonaaaGreatDoor
