/-
  CONTRACT OF strconv.ParseUint, of four bytes in base 16 within 16 bits; what of the library's variables is asked. Conditions: none.
  WHAT THE ROWS OF LAYER 15 LIST (tables and errors of the library), a world in which they lie so, and what the proofs ask of it. Conditions: none.
  FROM AN ARGUMENT'S READING TO 'IsB': a slice of bytes that came in. Conditions: none.
  PLAIN MATHEMATICS OF MAPS BY NAMES (lists by rising names). Nothing of the program. Conditions: none.
  MAPS BY NAMES AS THEY LIE, WHATEVER THEIR VALUES (IsMp): what a look-up finds, a store, how many there are. Conditions: none.
-/
import Derived.Test.YtbgadfaiehkanaaGreatDoorJsPU
import Derived.Lib.LaidTab
import Derived.Shelf.Strconv.Itoa4
import Derived.Test.YtbgadfaiehkanaaGreatDoorRows
import Derived.ProofKit
import Derived.LaidMore
import Derived.Lay
import Derived.OpenShut
import Derived.Stop.Joined
import Derived.Stop.LaidErr
import Derived.Lib.LaidU8T
import Derived.Test.YtbgadfaiehkanaaGreatDoorPj2
import Derived.WideAt
import Derived.Maps.OwnSet
import Derived.Maps.Ext
import Derived.Test.YtbgadfaiehkanaaGreatDoorPj3
import Derived.Maps.RangeWalk

namespace Go.Proofs.YtbgadfaiehkanaaGreatDoor
open Go.RowKit Go.Proofs Go.Shelf
set_option linter.unusedVariables false
set_option maxRecDepth 100000

theorem gPow : Tryz.prog.globalNamed "internal/strconv.uint64pow10" = some 3 := by kernel_rfl

/-- The variables of the library that the program reads lie as laid. -/
structure JLaid (w : World) : Prop where
  tabs : Lib.Utf8Tabs 0 1 w
  pow : Lib.TabIs Tryz.prog w "internal/strconv.uint64pow10" .u64 Lib.pow10Tab
  synt : ∃ ev, w.cell? ⟨4, 0, none⟩ = some ev ∧ (ev = .nilIface ∨ ∃ te pe, ev = .iface te pe)
  rang : ∃ ev, w.cell? ⟨5, 0, none⟩ = some ev ∧ (ev = .nilIface ∨ ∃ te pe, ev = .iface te pe)
  many : 6 ≤ w.heap.size

/-- What a row of ParseUint's error is: an interface that isn't nil. -/
def SomeErr (v : Value) : Prop := ∃ N, v = .iface 243 (.pointer (some ⟨N, 0, none⟩))

/-- How strconv.ParseUint ends. -/
def U16Ends (o : Option Nat) (v : Value) : Prop :=
  match o with
  | some n => v = .tuple #[.int .u64 (n : Int), .nilIface]
  | none => ∃ e, v = .tuple #[.int .u64 0, e] ∧ SomeErr e

set_option maxHeartbeats 4000000 in
theorem parseU16_any (bs : List UInt8) (hn : bs.length = 4) (w : World) (hL : JLaid w) :
    Calls Tryz.prog 237 #[.string ⟨bs.toArray⟩, .int .i64 16, .int .i64 16] w fun e w' => (∃ v, e = .returned v ∧ U16Ends (M.hexG 4 bs 0) v) ∧ Below w.heap.size w w' := by
  have HC := Lib.hid (parseU16_in bs hn w)
  obtain ⟨o, ho⟩ : ∃ o, o = M.hexG 4 bs 0 := ⟨_, rfl⟩
  rw [← ho] at HC ⊢
  clear ho
  obtain ⟨ev, he, hev⟩ := hL.synt
  have hge : 4 < w.heap.size := by have := hL.many; omega
  cases o with
  | some n =>
    go_enter Tryz.func237, Tryz.ntmps237
    go_wp2_with fail
    refine HC.out.mono ?_
    rintro e w1 ⟨rfl, k1⟩
    have K1 := Lib.hid k1
    clear k1
    unfold u16Ends
    go_wp2
    go_ret2
    exact ⟨⟨_, rfl, rfl⟩, K1.out⟩
  | none =>
    have HE : Hid (∀ w1, Below w.heap.size w w1 → Calls Tryz.prog 197 #[.string ⟨#[80, 97, 114, 115, 101, 85, 105, 110, 116]⟩, .string ⟨bs.toArray⟩, .int .i64 16, .int .i64 16, .iface 240 (.int .i64 2)] w1 fun e w2 => ∃ N, e = .returned (.iface 243 (.pointer (some ⟨N, 0, none⟩))) ∧ Below w1.heap.size w1 w2) := fun w1 k1 =>
      (Any.strconv_toError_syntax lay_lays245 ⟨#[80, 97, 114, 115, 101, 85, 105, 110, 116]⟩ ⟨bs.toArray⟩ 16 16 ev w1 (by show bs.toArray.size ≤ _; rw [List.size_toArray, hn]; decide) ((World.cell?_of_block (k1.block _ hge)).trans he) hev).mono fun e w2 ⟨N, h1, _, _, h2⟩ => ⟨N, h1, h2⟩
    clear he hev hge hL
    go_enter Tryz.func237, Tryz.ntmps237
    go_wp2_with fail
    refine HC.out.mono ?_
    rintro e w1 ⟨rfl, k1⟩
    have K1 := Lib.hid k1
    clear k1
    unfold u16Ends
    go_wp2_with (refine (HE.out _ K1.out).mono ?_; rintro e w2 ⟨N, rfl, k2⟩; refine Hid.out ?_)
    refine Lib.hid ?_
    go_wp2
    go_ret2
    exact ⟨⟨_, rfl, _, rfl, _, rfl⟩, K1.out.trans (k2.mono K1.out.size)⟩

end Go.Proofs.YtbgadfaiehkanaaGreatDoor

namespace Go.Proofs.YtbgadfaiehkanaaGreatDoor
open Go.ChangeShapes Go.WideShapes Go.ChangeAt Go.WideMaps Go.WideElems Go.RowKit Go.Shelf Go.Proofs
set_option linter.unusedVariables false

/-- What the rows list. -/
def laidJson : List (String × DataW Unit) := [("math/bits.deBruijn32tab", Rows.laid_math_bits_deBruijn32tab), ("math/bits.deBruijn64tab", Rows.laid_math_bits_deBruijn64tab), ("internal/strconv.uint64pow10", Rows.laid_internal_strconv_uint64pow10), ("unicode/utf8.acceptRanges", Rows.laid_unicode_utf8_acceptRanges), ("strconv.ErrRange", Rows.laid_strconv_ErrRange), ("strconv.ErrSyntax", Rows.laid_strconv_ErrSyntax), ("unicode/utf8.first", Rows.laid_unicode_utf8_first)]

set_option maxRecDepth 100000 in
/-- A world that is laid so. -/
theorem laid_met15 (os : Os) (args : Array Value) : laidMetH Tryz.prog laidJson ((World.laidAll Tryz.prog os laidJson).forCall (fun _ _ => 0) ⟨#[], args, []⟩).memory := by
  rw [MakeChecks.laidMetH_plain _ _ _ (by kernel_rfl)]
  exact laidMet_laidAll _ (by kernel_rfl) (by kernel_rfl)

theorem dFirst : Rows.laid_unicode_utf8_first = Lib.firstData := by kernel_rfl
theorem dAccept : (Rows.laid_unicode_utf8_acceptRanges : DataW Unit) = Lib.acceptData := by kernel_rfl
theorem dPow : (Rows.laid_internal_strconv_uint64pow10 : DataW Unit) = Lib.tabData .u64 Lib.pow10Tab := by kernel_rfl

theorem starErr : "*" ++ "errors.errorString" = "*errors.errorString" := by decide
theorem rowErr (u : TypeId) (h : Tryz.prog.typeName? 3 u = some "*errors.errorString") : u = 258 :=
  Go.typeName_ptr_named (nm := "errors.errorString") (by rw [starErr]; kernel_rfl) (by kernel_rfl) (by decide) u (by rw [starErr]; exact h)

theorem of_laid15 {W : World} (h : laidMetH Tryz.prog laidJson W) : JLaid W := by
  rw [MakeChecks.laidMetH_plain _ _ _ (by kernel_rfl)] at h
  obtain ⟨a1, t1, hv1, hc1, _, _⟩ := laid_sentinel (g := 5) h.tail.tail.tail.tail (by kernel_rfl) (by kernel_rfl) Tryz.underlying136 rowErr Tryz.underlying258 Tryz.underlying260 rfl rfl Tryz.underlying9 (by kernel_rfl) (by kernel_rfl)
  obtain ⟨a0, t0, hv0, hc0, _, _⟩ := laid_sentinel (g := 4) h.tail.tail.tail.tail.tail (by kernel_rfl) (by kernel_rfl) Tryz.underlying136 rowErr Tryz.underlying258 Tryz.underlying260 rfl rfl Tryz.underlying9 (by kernel_rfl) (by kernel_rfl)
  have c1 : W.cell? ⟨5, 0, none⟩ = some (.iface 258 (.pointer (some a1))) := by
    have := World.var?_cell (g := 5) (by kernel_rfl) hv1 0
    rw [this]
    rfl
  have c0 : W.cell? ⟨4, 0, none⟩ = some (.iface 258 (.pointer (some a0))) := by
    have := World.var?_cell (g := 4) (by kernel_rfl) hv0 0
    rw [this]
    rfl
  have hp := h.tail.tail
  unfold laidJson at hp
  rw [dPow] at hp
  refine ⟨?_, Lib.tabIs_of_head (g := 3) (by kernel_rfl) (by kernel_rfl) Tryz.underlying248 Tryz.underlying115 (by kernel_rfl) (by kernel_rfl) hp, ⟨_, c0, .inr ⟨_, _, rfl⟩⟩, ⟨_, c1, .inr ⟨_, _, rfl⟩⟩, ?_⟩
  · exact utf8Tabs_of_readsT (U8Types.of196 lay_lays196) ⟨by kernel_rfl, by kernel_rfl, by kernel_rfl, by kernel_rfl, by kernel_rfl, by kernel_rfl, by kernel_rfl⟩ (dFirst ▸ Lib.laidMet.reads h (by simp [laidJson])) (dAccept ▸ Lib.laidMet.reads h (by simp [laidJson]))
  · exact World.block_lt_of_cell? W _ c1

end Go.Proofs.YtbgadfaiehkanaaGreatDoor

namespace Go.Proofs.YtbgadfaiehkanaaGreatDoor
open Go.RowKit

theorem isB_of_ints {w : World} {x : Addr} {len cap : Nat} {zs : List Int} (hl : len ≤ cap) (hm : cap ≤ maxLen) (hz : zs.length = cap)
    (hcell : ∀ i, i < zs.length → w.cell? (x.add i) = some (.int .u8 (zs.getD i 0))) (hwz : ∀ n ∈ zs, (Lit.int .u8 n).wf = true) :
    ∃ bs : List UInt8, bs.length = len ∧ IsB w (.slice (some x) len cap) bs := by
  refine ⟨(zs.take len).map fun z => UInt8.ofNat z.toNat, by simp; omega, some x, cap, by simp; omega, by simp; omega, hm, ?_⟩
  by_cases h0 : len = 0
  · subst h0
    exact .inl (by simp)
  · obtain ⟨b, off, spot⟩ := x
    have hc := hcell 0 (by omega)
    have hspot : spot = none := by simpa [Addr.add] using World.cell?_spot hc
    subst hspot
    refine .inr ⟨b, off, rfl, fun i hi => ?_⟩
    have hi' : i < len := by simp at hi; omega
    have h1 := hcell i (by omega)
    have h2 : w.cell? ⟨b, off + i, none⟩ = some (.int .u8 (zs.getD i 0)) := by rw [← Addr.add_lit]; exact h1
    rw [h2]
    have hi2 : i < zs.length := by omega
    have hb := bounds_u8 (hwz zs[i] (List.getElem_mem hi2))
    have e : zs.getD i 0 = zs[i] := by simp [hi2]
    have e2 : (((zs.take len).map fun z => UInt8.ofNat z.toNat).getD i 0) = UInt8.ofNat zs[i].toNat := by
      simp [List.getD_eq_getElem?_getD, hi', hi2]
    rw [e, e2]
    have e3 : (UInt8.ofNat zs[i].toNat).toNat = zs[i].toNat % 256 := by simp
    rw [e3]
    congr 2
    omega

end Go.Proofs.YtbgadfaiehkanaaGreatDoor

namespace Go.Proofs.YtbgadfaiehkanaaGreatDoor.M
set_option linter.unusedVariables false

section
variable {α β : Type}

/-- A list by names. -/
abbrev KL (α : Type) := List (List UInt8 × α)
def KRise (l : KL α) : Prop := l.Pairwise fun p q => bytesBefore p.1 q.1 = true
def kget (l : KL α) (k : List UInt8) : Option α := (l.find? fun p => p.1 == k).map (·.2)
def kdel (l : KL α) (k : List UInt8) : KL α := l.filter fun p => !(p.1 == k)
def kins (k : List UInt8) (v : α) : KL α → KL α
  | [] => [(k, v)]
  | q :: r => if bytesBefore k q.1 = true then (k, v) :: q :: r else q :: kins k v r
def kput (l : KL α) (k : List UInt8) (v : α) : KL α := kins k v (kdel l k)

theorem kget_cons (p : List UInt8 × α) (l : KL α) (k : List UInt8) : kget (p :: l) k = if p.1 = k then some p.2 else kget l k := by
  rw [kget, List.find?_cons]
  by_cases h : p.1 = k
  · simp [h]
  · have : (p.1 == k) = false := by simpa using h
    rw [this, if_neg h]
    rfl

theorem kget_nil (k : List UInt8) : kget ([] : KL α) k = none := rfl

theorem kget_mem {l : KL α} {k : List UInt8} {v : α} (h : kget l k = some v) : (k, v) ∈ l := by
  rw [kget, Option.map_eq_some_iff] at h
  obtain ⟨p, hp, e⟩ := h
  have h1 := List.mem_of_find?_eq_some hp
  have h2 := List.find?_some hp
  have h3 : p.1 = k := by simpa using h2
  rw [← h3, ← e]
  exact h1

theorem kget_none {l : KL α} {k : List UInt8} (h : kget l k = none) : ∀ p ∈ l, p.1 ≠ k := by
  rw [kget, Option.map_eq_none_iff, List.find?_eq_none] at h
  intro p hp e
  exact h p hp (by simpa using e)

theorem kget_of_mem : ∀ {l : KL α}, KRise l → ∀ {p : List UInt8 × α}, p ∈ l → kget l p.1 = some p.2
  | x :: r, h, p, hp => by
    obtain ⟨h1, h2⟩ := List.pairwise_cons.1 h
    rw [kget_cons]
    rcases List.mem_cons.1 hp with rfl | hp
    · rw [if_pos rfl]
    · rw [if_neg, kget_of_mem h2 hp]
      intro e
      have := h1 p hp
      rw [e, WideAt.bytes_irrefl] at this
      cases this

theorem kget_is_none {l : KL α} {k : List UInt8} (h : ∀ p ∈ l, p.1 ≠ k) : kget l k = none := by
  cases e : kget l k with
  | none => rfl
  | some v => exact absurd rfl (h _ (kget_mem e))

theorem mem_kins (k : List UInt8) (v : α) (q : List UInt8 × α) : ∀ l : KL α, q ∈ kins k v l ↔ q = (k, v) ∨ q ∈ l
  | [] => by simp [kins]
  | x :: r => by
    rw [kins]
    split
    · simp
    · rw [List.mem_cons, mem_kins k v q r, List.mem_cons]
      constructor
      · rintro (h | h | h)
        · exact .inr (.inl h)
        · exact .inl h
        · exact .inr (.inr h)
      · rintro (h | h | h)
        · exact .inr (.inl h)
        · exact .inl h
        · exact .inr (.inr h)

theorem mem_kdel (l : KL α) (k : List UInt8) (q : List UInt8 × α) : q ∈ kdel l k ↔ q ∈ l ∧ q.1 ≠ k := by
  rw [kdel, List.mem_filter]
  simp

theorem mem_kput (l : KL α) (k : List UInt8) (v : α) (q : List UInt8 × α) : q ∈ kput l k v ↔ q = (k, v) ∨ (q ∈ l ∧ q.1 ≠ k) := by rw [kput, mem_kins, mem_kdel]

theorem rise_nil : KRise ([] : KL α) := List.Pairwise.nil

theorem rise_kdel {l : KL α} (h : KRise l) (k : List UInt8) : KRise (kdel l k) := List.Pairwise.filter _ h

theorem rise_kins {k : List UInt8} {v : α} : ∀ {l : KL α}, KRise l → (∀ q ∈ l, q.1 ≠ k) → KRise (kins k v l)
  | [], _, _ => by simp [kins, KRise]
  | x :: r, h, hn => by
    obtain ⟨h1, h2⟩ := List.pairwise_cons.1 h
    rw [kins]
    split
    · rename_i hb
      refine List.pairwise_cons.2 ⟨fun q hq => ?_, h⟩
      rcases List.mem_cons.1 hq with rfl | hq
      · exact hb
      · exact WideShapes.bytes_trans _ _ _ hb (h1 q hq)
    · rename_i hb
      have hx : bytesBefore x.1 k = true := by
        rcases WideAt.bytes_total k x.1 (hn x (List.mem_cons_self ..)).symm with h | h
        · exact absurd h hb
        · exact h
      refine List.pairwise_cons.2 ⟨fun q hq => ?_, rise_kins h2 fun q hq => hn q (List.mem_cons_of_mem _ hq)⟩
      rcases (mem_kins k v q r).1 hq with rfl | hq
      · exact hx
      · exact h1 q hq

theorem rise_kput {l : KL α} (h : KRise l) (k : List UInt8) (v : α) : KRise (kput l k v) := rise_kins (rise_kdel h _) fun q hq => ((mem_kdel l k q).1 hq).2

theorem kget_iff {l : KL α} (h : KRise l) (k : List UInt8) (v : α) : kget l k = some v ↔ (k, v) ∈ l := ⟨kget_mem, fun hp => kget_of_mem h hp⟩

theorem kget_kput {l : KL α} (h : KRise l) (k : List UInt8) (v : α) (k' : List UInt8) : kget (kput l k v) k' = if k' = k then some v else kget l k' := by
  by_cases e : k' = k
  · rw [if_pos e, e]
    exact (kget_iff (rise_kput h k v) k v).2 ((mem_kput l k v _).2 (.inl rfl))
  · rw [if_neg e]
    cases hg : kget l k' with
    | some x => exact (kget_iff (rise_kput h k v) k' x).2 ((mem_kput l k v _).2 (.inr ⟨kget_mem hg, e⟩))
    | none =>
      refine kget_is_none fun p hp hk => ?_
      rcases (mem_kput l k v p).1 hp with rfl | ⟨hp, _⟩
      · exact e hk.symm
      · exact kget_none hg p hp hk

theorem kget_kdel {l : KL α} (h : KRise l) (k k' : List UInt8) : kget (kdel l k) k' = if k' = k then none else kget l k' := by
  by_cases e : k' = k
  · rw [if_pos e]
    exact kget_is_none fun p hp hk => ((mem_kdel l k p).1 hp).2 (hk.trans e)
  · rw [if_neg e]
    cases hg : kget l k' with
    | some x => exact (kget_iff (rise_kdel h k) k' x).2 ((mem_kdel l k _).2 ⟨kget_mem hg, e⟩)
    | none => exact kget_is_none fun p hp hk => kget_none hg p ((mem_kdel l k p).1 hp).1 hk

theorem mem_ext_rise {γ : Type} (f : γ → List UInt8) : ∀ {l m : List γ}, l.Pairwise (fun p q => bytesBefore (f p) (f q) = true) → m.Pairwise (fun p q => bytesBefore (f p) (f q) = true) → (∀ p, p ∈ l ↔ p ∈ m) → l = m
  | [], [], _, _, _ => rfl
  | [], b :: s, _, _, h => by have := (h b).2 (by simp); simp at this
  | a :: r, [], _, _, h => by have := (h a).1 (by simp); simp at this
  | a :: r, b :: s, h1, h2, h => by
    obtain ⟨a1, a2⟩ := List.pairwise_cons.1 h1
    obtain ⟨b1, b2⟩ := List.pairwise_cons.1 h2
    have hab : a = b := by
      rcases List.mem_cons.1 ((h a).1 (by simp)) with e | ha
      · exact e
      · rcases List.mem_cons.1 ((h b).2 (by simp)) with e | hb
        · exact e.symm
        · have := WideShapes.bytes_trans _ _ _ (a1 b hb) (b1 a ha)
          rw [WideAt.bytes_irrefl] at this
          cases this
    subst hab
    rw [mem_ext_rise f a2 b2 (fun p => ⟨fun hp => by
      rcases List.mem_cons.1 ((h p).1 (by simp [hp])) with e | hp'
      · have := a1 p hp
        rw [e, WideAt.bytes_irrefl] at this
        cases this
      · exact hp', fun hp => by
      rcases List.mem_cons.1 ((h p).2 (by simp [hp])) with e | hp'
      · have := b1 p hp
        rw [e, WideAt.bytes_irrefl] at this
        cases this
      · exact hp'⟩)]

theorem kext {l m : KL α} (hl : KRise l) (hm : KRise m) (h : ∀ k, kget l k = kget m k) : l = m :=
  mem_ext_rise (fun p : List UInt8 × α => p.1) hl hm fun p => by rw [← kget_iff hl p.1 p.2, ← kget_iff hm p.1 p.2, h]

/-- Two lists by the same names, what stands there being of a kind. -/
def KRel (Q : List UInt8 → α → β → Prop) : KL α → KL β → Prop
  | [], [] => True
  | p :: l, q :: m => (p.1 = q.1 ∧ Q q.1 p.2 q.2) ∧ KRel Q l m
  | _, _ => False

theorem KRel.mono {Q Q' : List UInt8 → α → β → Prop} (hq : ∀ k x y, Q k x y → Q' k x y) : ∀ {l : KL α} {m : KL β}, KRel Q l m → KRel Q' l m
  | [], [], _ => trivial
  | p :: l, q :: m, h => ⟨⟨h.1.1, hq _ _ _ h.1.2⟩, KRel.mono hq h.2⟩

theorem KRel.keys {Q : List UInt8 → α → β → Prop} : ∀ {l : KL α} {m : KL β}, KRel Q l m → l.map (·.1) = m.map (·.1)
  | [], [], _ => rfl
  | p :: l, q :: m, h => by rw [List.map_cons, List.map_cons, h.1.1, KRel.keys h.2]

theorem KRel.len {Q : List UInt8 → α → β → Prop} {l : KL α} {m : KL β} (h : KRel Q l m) : l.length = m.length := by
  have := congrArg List.length h.keys
  rwa [List.length_map, List.length_map] at this

theorem KRel.get {Q : List UInt8 → α → β → Prop} (k : List UInt8) : ∀ {l : KL α} {m : KL β}, KRel Q l m → (kget l k = none ∧ kget m k = none) ∨ ∃ x y, kget l k = some x ∧ kget m k = some y ∧ Q k x y
  | [], [], _ => .inl ⟨rfl, rfl⟩
  | p :: l, q :: m, h => by
    rw [kget_cons, kget_cons, h.1.1]
    by_cases e : q.1 = k
    · rw [if_pos e, if_pos e]
      exact .inr ⟨_, _, rfl, rfl, e ▸ h.1.2⟩
    · rw [if_neg e, if_neg e]
      exact KRel.get k h.2

theorem KRel.del {Q : List UInt8 → α → β → Prop} (k : List UInt8) : ∀ {l : KL α} {m : KL β}, KRel Q l m → KRel Q (kdel l k) (kdel m k)
  | [], [], _ => trivial
  | p :: l, q :: m, h => by
    have ih := KRel.del k h.2
    by_cases e : q.1 = k
    · have e1 : kdel (p :: l) k = kdel l k := by rw [kdel, List.filter_cons_of_neg (by simp [h.1.1, e])]; rfl
      have e2 : kdel (q :: m) k = kdel m k := by rw [kdel, List.filter_cons_of_neg (by simp [e])]; rfl
      rw [e1, e2]; exact ih
    · have e1 : kdel (p :: l) k = p :: kdel l k := by rw [kdel, List.filter_cons_of_pos (by simp [h.1.1, e])]; rfl
      have e2 : kdel (q :: m) k = q :: kdel m k := by rw [kdel, List.filter_cons_of_pos (by simp [e])]; rfl
      rw [e1, e2]; exact ⟨h.1, ih⟩

theorem KRel.ins {Q : List UInt8 → α → β → Prop} (k : List UInt8) (x : α) (y : β) (hq : Q k x y) : ∀ {l : KL α} {m : KL β}, KRel Q l m → KRel Q (kins k x l) (kins k y m)
  | [], [], _ => ⟨⟨rfl, hq⟩, trivial⟩
  | p :: l, q :: m, h => by
    rw [kins, kins, h.1.1]
    by_cases e : bytesBefore k q.1 = true
    · rw [if_pos e, if_pos e]; exact ⟨⟨rfl, hq⟩, h⟩
    · rw [if_neg e, if_neg e]; exact ⟨h.1, KRel.ins k x y hq h.2⟩

theorem KRel.put {Q : List UInt8 → α → β → Prop} {l : KL α} {m : KL β} (h : KRel Q l m) (k : List UInt8) (x : α) (y : β) (hq : Q k x y) : KRel Q (kput l k x) (kput m k y) := KRel.ins k x y hq (h.del k)

theorem kput_le (l : KL α) (k : List UInt8) (v : α) : (kput l k v).length ≤ l.length + 1 := by
  have h1 : ∀ l : KL α, (kins k v l).length = l.length + 1 := by
    intro l
    induction l with
    | nil => rfl
    | cons x r ih =>
      rw [kins]
      split
      · rfl
      · rw [List.length_cons, ih, List.length_cons]
  rw [kput, h1]
  have : (kdel l k).length ≤ l.length := List.length_filter_le _ _
  omega

theorem kdel_idx : ∀ (t : KL α) (k : List UInt8), KRise t → kdel t k = t.take (t.findIdx fun p => p.1 == k) ++ t.drop ((t.findIdx fun p => p.1 == k) + 1)
  | [], k, _ => rfl
  | p :: r, k, h => by
    obtain ⟨h1, h2⟩ := List.pairwise_cons.1 h
    rw [List.findIdx_cons]
    by_cases e : p.1 = k
    · have hb : (p.1 == k) = true := by simpa using e
      have e2 : kdel (p :: r) k = r := by
        rw [kdel, List.filter_cons, if_neg (by rw [hb]; decide)]
        refine List.filter_eq_self.2 fun q hq => ?_
        have : q.1 ≠ k := by
          intro hqk
          have := h1 q hq
          rw [hqk, e, WideAt.bytes_irrefl] at this
          cases this
        simpa using this
      rw [e2, hb]
      rfl
    · have hb : (p.1 == k) = false := by simpa using e
      have e2 : kdel (p :: r) k = p :: kdel r k := by
        rw [kdel, List.filter_cons, if_pos (by rw [hb]; decide)]
        rfl
      rw [e2, kdel_idx r k h2, hb]
      rfl

theorem kins_idx (k : List UInt8) (v : α) : ∀ t : KL α, (∀ q ∈ t, q.1 ≠ k) → kins k v t = t.take (t.findIdx fun q => !bytesBefore q.1 k) ++ (k, v) :: t.drop (t.findIdx fun q => !bytesBefore q.1 k)
  | [], _ => rfl
  | x :: r, h => by
    rw [List.findIdx_cons, kins]
    by_cases hb : bytesBefore k x.1 = true
    · have hx : bytesBefore x.1 k = false := by
        cases hh : bytesBefore x.1 k with
        | false => rfl
        | true =>
          have := WideShapes.bytes_trans _ _ _ hb hh
          rw [WideAt.bytes_irrefl] at this
          cases this
      rw [if_pos hb, hx]
      rfl
    · have hx : bytesBefore x.1 k = true := by
        rcases WideAt.bytes_total k x.1 (h x (List.mem_cons_self ..)).symm with h | h
        · exact absurd h hb
        · exact h
      rw [if_neg hb, hx, kins_idx k v r fun q hq => h q (List.mem_cons_of_mem _ hq)]
      rfl
end

end Go.Proofs.YtbgadfaiehkanaaGreatDoor.M

namespace Go.Proofs.YtbgadfaiehkanaaGreatDoor
open Go.RowKit Go.Maps
set_option linter.unusedVariables false
set_option maxRecDepth 100000

theorem keyed : Keyed Tryz.prog 9 := string_keyed Tryz.underlying9

/-- A name as a value. -/
theorem key_of (nm : List UInt8) (h : nm.length ≤ maxLen) : keyOf Tryz.prog 9 (.string ⟨nm.toArray⟩) = some (.string nm) := WideMaps.keyOf_string_mk Tryz.underlying9 (s := ⟨nm.toArray⟩) h

/-- A value reads as it is. -/
def asR (v : Value) : Option (DataW Value × List MemPlace) := some (.held v, [])
def mpL (es : M.KL Value) : List (Lit × DataW Value) := es.map fun p => (Lit.string p.1, DataW.held p.2)

/-- Block b is a map by names of the values es. -/
def IsMp (w : World) (b : Nat) (es : M.KL Value) : Prop := w.ownsMap Tryz.prog 9 asR b es.length (.map (mpL es))

theorem asR_inv {v : Value} {y : DataW Value × List MemPlace} (h : asR v = some y) : y = (.held v, []) := by
  injection h with h
  exact h.symm

theorem at_mp (k : List UInt8) (z : DataW Value) : ∀ es : M.KL Value, (DataW.map (mpL es)).atKey (.string k) z = match M.kget es k with | some v => .held v | none => z
  | [] => rfl
  | p :: r => by
    have ih := at_mp k z r
    rw [DataW.atKey] at ih ⊢
    rw [M.kget_cons, mpL, List.map_cons, List.find?_cons]
    by_cases e : p.1 = k
    · simp [Lit.sameKey, e]
    · rw [show (Lit.string p.1).sameKey (Lit.string k) = false by simpa [Lit.sameKey] using e, if_neg e]
      exact ih

theorem has_mp (k : List UInt8) : ∀ es : M.KL Value, Maps.has (.map (mpL es)) (.string k) = (M.kget es k).isSome
  | [] => rfl
  | p :: r => by
    have ih := has_mp k r
    rw [Maps.has_eq] at ih ⊢
    rw [M.kget_cons, mpL, List.map_cons, List.any_cons]
    by_cases e : p.1 = k
    · simp [Lit.sameKey, e]
    · rw [show (Lit.string p.1).sameKey (Lit.string k) = false by simpa [Lit.sameKey] using e, if_neg e, Bool.false_or]
      exact ih

theorem tightR {w : World} {b n : Nat} {D : DataW Value} (h : w.ownsMap Tryz.prog 9 asR b n D) : w.ownsMap Tryz.prog 9 asR b (Maps.size D) D := by
  obtain ⟨es, clock, hb, F, hs, hD⟩ := h
  refine ⟨es, clock, hb, F, ?_, hD⟩
  rw [hD, Maps.size, length_sorted]
  simp

theorem mpL_length (es : M.KL Value) : (mpL es).length = es.length := List.length_map _

theorem IsMp.lt {w : World} {b : Nat} {es : M.KL Value} (h : IsMp w b es) : b < w.heap.size := World.ownsMap.lt h

theorem IsMp.rise {w : World} {b : Nat} {es : M.KL Value} (h : IsMp w b es) : M.KRise es := by
  obtain ⟨es', he, hp, _⟩ := World.ownsMap.canon h keyed
  injection he with he
  rw [← he, mpL, List.pairwise_map] at hp
  exact hp

theorem IsMp.chg {F : Nat → Prop} {w w' : World} {b : Nat} {es : M.KL Value} (h : IsMp w b es) (k : Chg F w w') (hb : ¬ F b) : IsMp w' b es := by
  have hl := h.lt
  obtain ⟨es', clock, hg, F', hs, hD⟩ := h
  exact ⟨es', clock, (k.block b hl hb).trans hg, F', hs, hD⟩

theorem IsMp.below {w w' : World} {b : Nat} {es : M.KL Value} (h : IsMp w b es) (k : Below w.heap.size w w') : IsMp w' b es := h.chg (Chg.of_below (F := fun _ => False) k) fun h => h

theorem IsMp.alloc {w : World} {b : Nat} {es : M.KL Value} (h : IsMp w b es) (o : Obj) : IsMp (w.alloc o) b es := World.ownsMap.alloc h o

theorem IsMp.isMap {w : World} {b : Nat} {es : M.KL Value} (h : IsMp w b es) : ∃ es' clock, w.heap[b]? = some (.map es' clock) := by
  obtain ⟨es', clock, hb, _⟩ := h
  exact ⟨es', clock, hb⟩

theorem mpL_ins (k : List UInt8) (v : Value) : ∀ es : M.KL Value, DataW.insert (Lit.string k, DataW.held v) (mpL es) = mpL (M.kins k v es)
  | [] => rfl
  | x :: r => by
    have ih := mpL_ins k v r
    show DataW.insert _ ((Lit.string x.1, DataW.held x.2) :: mpL r) = _
    rw [DataW.insert, M.kins]
    by_cases hb : bytesBefore k x.1 = true
    · rw [if_pos hb, if_pos (by exact hb)]
      rfl
    · rw [if_neg hb, if_neg (by exact hb), ih]
      rfl

theorem mpL_del (k : List UInt8) : ∀ es : M.KL Value, (mpL es).filter (ChangeMaps.notKey (Lit.string k)) = mpL (M.kdel es k)
  | [] => rfl
  | x :: r => by
    have ih := mpL_del k r
    show ((Lit.string x.1, DataW.held x.2) :: mpL r).filter _ = _
    by_cases hb : x.1 = k
    · rw [List.filter_cons_of_neg (by simp [ChangeMaps.notKey, Lit.sameKey, hb]), ih, M.kdel, M.kdel, List.filter_cons_of_neg (by simp [hb])]
    · rw [List.filter_cons_of_pos (by simp [ChangeMaps.notKey, Lit.sameKey, hb]), ih, M.kdel, M.kdel, List.filter_cons_of_pos (by simp [hb])]
      rfl

theorem mpL_put (k : List UInt8) (v : Value) (es : M.KL Value) : (DataW.map (mpL es)).put (.string k) (.held v) = .map (mpL (M.kput es k v)) := by
  rw [DataW.put_eq, ChangeMaps.putKey, mpL_del, mpL_ins]
  rfl

/-- 'm[k] = v'. -/
theorem IsMp.store {w : World} {b : Nat} {es : M.KL Value} (h : IsMp w b es) {t e : TypeId} (ht : Tryz.prog.underlying t = some (.map 9 e)) (k : List UInt8) (v : Value) (hk : k.length ≤ maxLen) (hfew : es.length < 1000000) :
    ∃ w', (Instr.mapUpdate t (.map (some b)) (.string ⟨k.toArray⟩) v).run Tryz.prog w = .ok () w' ∧ IsMp w' b (M.kput es k v) ∧ w.grownBy w' (some b) ∧ w'.heap.size = w.heap.size := by
  obtain ⟨w', hrun, ho, hm⟩ := World.ownsMap.store h keyed ht (by unfold maxLen; omega) (key_of k hk) (show asR v = some (.held v, []) from rfl)
  rw [mpL_put] at ho
  have ho2 := tightR ho
  rw [Maps.size_eq, mpL_length] at ho2
  refine ⟨w', hrun, ho2, hm.grown, ?_⟩
  obtain ⟨es, clock, es', clock', hb, rfl⟩ := hm
  simp [ChangeMaps.setBlock]

/-- 'm[k]'. -/
theorem IsMp.look {w : World} {b : Nat} {es : M.KL Value} (h : IsMp w b es) {t e : TypeId} (ht : Tryz.prog.underlying t = some (.map 9 e)) {z : Value} (hz : (zeroValue e).run Tryz.prog w = .ok z w) (k : List UInt8) (hk : k.length ≤ maxLen) :
    (Instr.lookup t (.map (some b)) (.string ⟨k.toArray⟩) false).run Tryz.prog w = .ok ((M.kget es k).getD z) w := by
  obtain ⟨v, ps, hrun, hv⟩ := World.ownsMap.lookup h keyed ht hz (show asR z = some (.held z, []) from rfl) (key_of k hk)
  have e := asR_inv hv
  injection e with e _
  rw [at_mp] at e
  rw [hrun]
  cases hg : M.kget es k with
  | none => rw [hg] at e; injection e with e; rw [← e]; rfl
  | some x => rw [hg] at e; injection e with e; rw [← e]; rfl

/-- 'v, ok := m[k]'. -/
theorem IsMp.look_ok {w : World} {b : Nat} {es : M.KL Value} (h : IsMp w b es) {t e : TypeId} (ht : Tryz.prog.underlying t = some (.map 9 e)) {z : Value} (hz : (zeroValue e).run Tryz.prog w = .ok z w) (k : List UInt8) (hk : k.length ≤ maxLen) :
    (Instr.lookup t (.map (some b)) (.string ⟨k.toArray⟩) true).run Tryz.prog w = .ok (.tuple #[(M.kget es k).getD z, .bool (M.kget es k).isSome]) w := by
  obtain ⟨v, ps, hrun, hv⟩ := World.ownsMap.look_ok h keyed ht hz (show asR z = some (.held z, []) from rfl) (key_of k hk)
  have e := asR_inv hv
  injection e with e _
  rw [at_mp] at e
  rw [hrun, has_mp]
  cases hg : M.kget es k with
  | none => rw [hg] at e; injection e with e; rw [← e]; rfl
  | some x => rw [hg] at e; injection e with e; rw [← e]; rfl

/-- 'len(m)'. -/
theorem IsMp.lenM {w : World} {b : Nat} {es : M.KL Value} (h : IsMp w b es) {t e : TypeId} (ht : Tryz.prog.underlying t = some (.map 9 e)) (ty : TypeId) : (Builtin.len_ #[t] ty #[.map (some b)]).run Tryz.prog w = .ok (.int .i64 (es.length : Int)) w := by
  have := World.ownsMap.len h (t := t) ht ty
  rwa [Maps.size_eq, mpL_length] at this

/-- 'make(map)'. -/
theorem mp_made (w : World) : IsMp (w.alloc (.map #[] 0)) w.heap.size [] := World.ownsMap_made _ _ _ _

end Go.Proofs.YtbgadfaiehkanaaGreatDoor
