/-
  PLAIN MATHEMATICS OF MAPS BY NAMES (lists by rising names), AND OF FILES AS SUCH. Nothing of the program. Conditions: none.
  THE LIBRARY'S CONTRACTS OF maps.Keys AND maps.Clone AT A MAP OF FILES' CHANGES, AT THIS TRANSLATION'S NUMBERS: tables of numbers, each field a fact of the translation's own or the kernel's comparison. Conditions: none.
  MAPS BY NAMES AS THEY LIE, WHATEVER THEIR VALUES (IsMp): what a look-up finds, a store, how many there are, all names in their order. Conditions: none.
  CRYPTS AS cas ASKS THEM: what a crypt digests (M.Cr: the real one, or a book of the texts that were digested), and the contracts of the two Sums. Conditions: the tables of package sha lie as laid.
  PACKAGE cas: Name, asideName, strings.CutPrefix of one letter; '[]byte(s)' in a plain region; rows of rows that grow by what lies elsewhere. Conditions: as each says.
  PLAIN MATHEMATICS OF BLOBS: which files have names of a mark and a digest; what a Fsck and a Sweep make of files. Nothing of the program. Conditions: none.
-/
import Derived.Test.YtphcbpfpelonaaaGreatDoorPf27
import Derived.Test.YtphcbpfpelonaaaGreatDoorPf5
import Derived.Test.YtphcbpfpelonaaaGreatDoorPf13
import Derived.Test.YtphcbpfpelonaaaGreatDoorPf20
import Derived.Test.YtphcbpfpelonaaaGreatDoorPf19
import Derived.Lib.SlBytesConst
import Derived.Test.YtphcbpfpelonaaaGreatDoorPf12
import Derived.Lib.Strings

namespace Go.Proofs.YtphcbpfpelonaaaGreatDoor.M
set_option linter.unusedVariables false

section
variable {α β : Type}

/-- A list by names. -/
abbrev KL (α : Type) := List (List UInt8 × α)
def KRise (l : KL α) : Prop := l.Pairwise fun p q => bytesBefore p.1 q.1 = true
def kget (l : KL α) (k : List UInt8) : Option α := (l.find? fun p => p.1 == k).map (·.2)
def kdel (l : KL α) (k : List UInt8) : KL α := l.filter fun p => !(p.1 == k)
def kins (k : List UInt8) (v : α) : KL α → KL α
  | [] => [(k, v)]
  | q :: r => if bytesBefore k q.1 = true then (k, v) :: q :: r else q :: kins k v r
def kput (l : KL α) (k : List UInt8) (v : α) : KL α := kins k v (kdel l k)

theorem kget_cons (p : List UInt8 × α) (l : KL α) (k : List UInt8) : kget (p :: l) k = if p.1 = k then some p.2 else kget l k := by
  rw [kget, List.find?_cons]
  by_cases h : p.1 = k
  · simp [h]
  · have : (p.1 == k) = false := by simpa using h
    rw [this, if_neg h]
    rfl

theorem kget_nil (k : List UInt8) : kget ([] : KL α) k = none := rfl

theorem kget_mem {l : KL α} {k : List UInt8} {v : α} (h : kget l k = some v) : (k, v) ∈ l := by
  rw [kget, Option.map_eq_some_iff] at h
  obtain ⟨p, hp, e⟩ := h
  have h1 := List.mem_of_find?_eq_some hp
  have h2 := List.find?_some hp
  have h3 : p.1 = k := by simpa using h2
  rw [← h3, ← e]
  exact h1

theorem kget_none {l : KL α} {k : List UInt8} (h : kget l k = none) : ∀ p ∈ l, p.1 ≠ k := by
  rw [kget, Option.map_eq_none_iff, List.find?_eq_none] at h
  intro p hp e
  exact h p hp (by simpa using e)

theorem kget_of_mem : ∀ {l : KL α}, KRise l → ∀ {p : List UInt8 × α}, p ∈ l → kget l p.1 = some p.2
  | x :: r, h, p, hp => by
    obtain ⟨h1, h2⟩ := List.pairwise_cons.1 h
    rw [kget_cons]
    rcases List.mem_cons.1 hp with rfl | hp
    · rw [if_pos rfl]
    · rw [if_neg, kget_of_mem h2 hp]
      intro e
      have := h1 p hp
      rw [e, WideAt.bytes_irrefl] at this
      cases this

theorem kget_is_none {l : KL α} {k : List UInt8} (h : ∀ p ∈ l, p.1 ≠ k) : kget l k = none := by
  cases e : kget l k with
  | none => rfl
  | some v => exact absurd rfl (h _ (kget_mem e))

theorem mem_kins (k : List UInt8) (v : α) (q : List UInt8 × α) : ∀ l : KL α, q ∈ kins k v l ↔ q = (k, v) ∨ q ∈ l
  | [] => by simp [kins]
  | x :: r => by
    rw [kins]
    split
    · simp
    · rw [List.mem_cons, mem_kins k v q r, List.mem_cons]
      constructor
      · rintro (h | h | h)
        · exact .inr (.inl h)
        · exact .inl h
        · exact .inr (.inr h)
      · rintro (h | h | h)
        · exact .inr (.inl h)
        · exact .inl h
        · exact .inr (.inr h)

theorem mem_kdel (l : KL α) (k : List UInt8) (q : List UInt8 × α) : q ∈ kdel l k ↔ q ∈ l ∧ q.1 ≠ k := by
  rw [kdel, List.mem_filter]
  simp

theorem mem_kput (l : KL α) (k : List UInt8) (v : α) (q : List UInt8 × α) : q ∈ kput l k v ↔ q = (k, v) ∨ (q ∈ l ∧ q.1 ≠ k) := by rw [kput, mem_kins, mem_kdel]

theorem rise_nil : KRise ([] : KL α) := List.Pairwise.nil

theorem rise_kdel {l : KL α} (h : KRise l) (k : List UInt8) : KRise (kdel l k) := List.Pairwise.filter _ h

theorem rise_kins {k : List UInt8} {v : α} : ∀ {l : KL α}, KRise l → (∀ q ∈ l, q.1 ≠ k) → KRise (kins k v l)
  | [], _, _ => by simp [kins, KRise]
  | x :: r, h, hn => by
    obtain ⟨h1, h2⟩ := List.pairwise_cons.1 h
    rw [kins]
    split
    · rename_i hb
      refine List.pairwise_cons.2 ⟨fun q hq => ?_, h⟩
      rcases List.mem_cons.1 hq with rfl | hq
      · exact hb
      · exact WideShapes.bytes_trans _ _ _ hb (h1 q hq)
    · rename_i hb
      have hx : bytesBefore x.1 k = true := by
        rcases WideAt.bytes_total k x.1 (hn x (List.mem_cons_self ..)).symm with h | h
        · exact absurd h hb
        · exact h
      refine List.pairwise_cons.2 ⟨fun q hq => ?_, rise_kins h2 fun q hq => hn q (List.mem_cons_of_mem _ hq)⟩
      rcases (mem_kins k v q r).1 hq with rfl | hq
      · exact hx
      · exact h1 q hq

theorem rise_kput {l : KL α} (h : KRise l) (k : List UInt8) (v : α) : KRise (kput l k v) := rise_kins (rise_kdel h _) fun q hq => ((mem_kdel l k q).1 hq).2

theorem kget_iff {l : KL α} (h : KRise l) (k : List UInt8) (v : α) : kget l k = some v ↔ (k, v) ∈ l := ⟨kget_mem, fun hp => kget_of_mem h hp⟩

theorem kget_kput {l : KL α} (h : KRise l) (k : List UInt8) (v : α) (k' : List UInt8) : kget (kput l k v) k' = if k' = k then some v else kget l k' := by
  by_cases e : k' = k
  · rw [if_pos e, e]
    exact (kget_iff (rise_kput h k v) k v).2 ((mem_kput l k v _).2 (.inl rfl))
  · rw [if_neg e]
    cases hg : kget l k' with
    | some x => exact (kget_iff (rise_kput h k v) k' x).2 ((mem_kput l k v _).2 (.inr ⟨kget_mem hg, e⟩))
    | none =>
      refine kget_is_none fun p hp hk => ?_
      rcases (mem_kput l k v p).1 hp with rfl | ⟨hp, _⟩
      · exact e hk.symm
      · exact kget_none hg p hp hk

theorem kget_kdel {l : KL α} (h : KRise l) (k k' : List UInt8) : kget (kdel l k) k' = if k' = k then none else kget l k' := by
  by_cases e : k' = k
  · rw [if_pos e]
    exact kget_is_none fun p hp hk => ((mem_kdel l k p).1 hp).2 (hk.trans e)
  · rw [if_neg e]
    cases hg : kget l k' with
    | some x => exact (kget_iff (rise_kdel h k) k' x).2 ((mem_kdel l k _).2 ⟨kget_mem hg, e⟩)
    | none => exact kget_is_none fun p hp hk => kget_none hg p ((mem_kdel l k p).1 hp).1 hk

theorem mem_ext_rise {γ : Type} (f : γ → List UInt8) : ∀ {l m : List γ}, l.Pairwise (fun p q => bytesBefore (f p) (f q) = true) → m.Pairwise (fun p q => bytesBefore (f p) (f q) = true) → (∀ p, p ∈ l ↔ p ∈ m) → l = m
  | [], [], _, _, _ => rfl
  | [], b :: s, _, _, h => by have := (h b).2 (by simp); simp at this
  | a :: r, [], _, _, h => by have := (h a).1 (by simp); simp at this
  | a :: r, b :: s, h1, h2, h => by
    obtain ⟨a1, a2⟩ := List.pairwise_cons.1 h1
    obtain ⟨b1, b2⟩ := List.pairwise_cons.1 h2
    have hab : a = b := by
      rcases List.mem_cons.1 ((h a).1 (by simp)) with e | ha
      · exact e
      · rcases List.mem_cons.1 ((h b).2 (by simp)) with e | hb
        · exact e.symm
        · have := WideShapes.bytes_trans _ _ _ (a1 b hb) (b1 a ha)
          rw [WideAt.bytes_irrefl] at this
          cases this
    subst hab
    rw [mem_ext_rise f a2 b2 (fun p => ⟨fun hp => by
      rcases List.mem_cons.1 ((h p).1 (by simp [hp])) with e | hp'
      · have := a1 p hp
        rw [e, WideAt.bytes_irrefl] at this
        cases this
      · exact hp', fun hp => by
      rcases List.mem_cons.1 ((h p).2 (by simp [hp])) with e | hp'
      · have := b1 p hp
        rw [e, WideAt.bytes_irrefl] at this
        cases this
      · exact hp'⟩)]

theorem kext {l m : KL α} (hl : KRise l) (hm : KRise m) (h : ∀ k, kget l k = kget m k) : l = m :=
  mem_ext_rise (fun p : List UInt8 × α => p.1) hl hm fun p => by rw [← kget_iff hl p.1 p.2, ← kget_iff hm p.1 p.2, h]

/-- Two lists by the same names, what stands there being of a kind. -/
def KRel (Q : List UInt8 → α → β → Prop) : KL α → KL β → Prop
  | [], [] => True
  | p :: l, q :: m => (p.1 = q.1 ∧ Q q.1 p.2 q.2) ∧ KRel Q l m
  | _, _ => False

theorem KRel.mono {Q Q' : List UInt8 → α → β → Prop} (hq : ∀ k x y, Q k x y → Q' k x y) : ∀ {l : KL α} {m : KL β}, KRel Q l m → KRel Q' l m
  | [], [], _ => trivial
  | p :: l, q :: m, h => ⟨⟨h.1.1, hq _ _ _ h.1.2⟩, KRel.mono hq h.2⟩

theorem KRel.keys {Q : List UInt8 → α → β → Prop} : ∀ {l : KL α} {m : KL β}, KRel Q l m → l.map (·.1) = m.map (·.1)
  | [], [], _ => rfl
  | p :: l, q :: m, h => by rw [List.map_cons, List.map_cons, h.1.1, KRel.keys h.2]

theorem KRel.len {Q : List UInt8 → α → β → Prop} {l : KL α} {m : KL β} (h : KRel Q l m) : l.length = m.length := by
  have := congrArg List.length h.keys
  rwa [List.length_map, List.length_map] at this

theorem KRel.get {Q : List UInt8 → α → β → Prop} (k : List UInt8) : ∀ {l : KL α} {m : KL β}, KRel Q l m → (kget l k = none ∧ kget m k = none) ∨ ∃ x y, kget l k = some x ∧ kget m k = some y ∧ Q k x y
  | [], [], _ => .inl ⟨rfl, rfl⟩
  | p :: l, q :: m, h => by
    rw [kget_cons, kget_cons, h.1.1]
    by_cases e : q.1 = k
    · rw [if_pos e, if_pos e]
      exact .inr ⟨_, _, rfl, rfl, e ▸ h.1.2⟩
    · rw [if_neg e, if_neg e]
      exact KRel.get k h.2

theorem KRel.del {Q : List UInt8 → α → β → Prop} (k : List UInt8) : ∀ {l : KL α} {m : KL β}, KRel Q l m → KRel Q (kdel l k) (kdel m k)
  | [], [], _ => trivial
  | p :: l, q :: m, h => by
    have ih := KRel.del k h.2
    by_cases e : q.1 = k
    · have e1 : kdel (p :: l) k = kdel l k := by rw [kdel, List.filter_cons_of_neg (by simp [h.1.1, e])]; rfl
      have e2 : kdel (q :: m) k = kdel m k := by rw [kdel, List.filter_cons_of_neg (by simp [e])]; rfl
      rw [e1, e2]; exact ih
    · have e1 : kdel (p :: l) k = p :: kdel l k := by rw [kdel, List.filter_cons_of_pos (by simp [h.1.1, e])]; rfl
      have e2 : kdel (q :: m) k = q :: kdel m k := by rw [kdel, List.filter_cons_of_pos (by simp [e])]; rfl
      rw [e1, e2]; exact ⟨h.1, ih⟩

theorem KRel.ins {Q : List UInt8 → α → β → Prop} (k : List UInt8) (x : α) (y : β) (hq : Q k x y) : ∀ {l : KL α} {m : KL β}, KRel Q l m → KRel Q (kins k x l) (kins k y m)
  | [], [], _ => ⟨⟨rfl, hq⟩, trivial⟩
  | p :: l, q :: m, h => by
    rw [kins, kins, h.1.1]
    by_cases e : bytesBefore k q.1 = true
    · rw [if_pos e, if_pos e]; exact ⟨⟨rfl, hq⟩, h⟩
    · rw [if_neg e, if_neg e]; exact ⟨h.1, KRel.ins k x y hq h.2⟩

theorem KRel.put {Q : List UInt8 → α → β → Prop} {l : KL α} {m : KL β} (h : KRel Q l m) (k : List UInt8) (x : α) (y : β) (hq : Q k x y) : KRel Q (kput l k x) (kput m k y) := KRel.ins k x y hq (h.del k)

theorem kput_le (l : KL α) (k : List UInt8) (v : α) : (kput l k v).length ≤ l.length + 1 := by
  have h1 : ∀ l : KL α, (kins k v l).length = l.length + 1 := by
    intro l
    induction l with
    | nil => rfl
    | cons x r ih =>
      rw [kins]
      split
      · rfl
      · rw [List.length_cons, ih, List.length_cons]
  rw [kput, h1]
  have : (kdel l k).length ≤ l.length := List.length_filter_le _ _
  omega

theorem kdel_idx : ∀ (t : KL α) (k : List UInt8), KRise t → kdel t k = t.take (t.findIdx fun p => p.1 == k) ++ t.drop ((t.findIdx fun p => p.1 == k) + 1)
  | [], k, _ => rfl
  | p :: r, k, h => by
    obtain ⟨h1, h2⟩ := List.pairwise_cons.1 h
    rw [List.findIdx_cons]
    by_cases e : p.1 = k
    · have hb : (p.1 == k) = true := by simpa using e
      have e2 : kdel (p :: r) k = r := by
        rw [kdel, List.filter_cons, if_neg (by rw [hb]; decide)]
        refine List.filter_eq_self.2 fun q hq => ?_
        have : q.1 ≠ k := by
          intro hqk
          have := h1 q hq
          rw [hqk, e, WideAt.bytes_irrefl] at this
          cases this
        simpa using this
      rw [e2, hb]
      rfl
    · have hb : (p.1 == k) = false := by simpa using e
      have e2 : kdel (p :: r) k = p :: kdel r k := by
        rw [kdel, List.filter_cons, if_pos (by rw [hb]; decide)]
        rfl
      rw [e2, kdel_idx r k h2, hb]
      rfl

theorem kins_idx (k : List UInt8) (v : α) : ∀ t : KL α, (∀ q ∈ t, q.1 ≠ k) → kins k v t = t.take (t.findIdx fun q => !bytesBefore q.1 k) ++ (k, v) :: t.drop (t.findIdx fun q => !bytesBefore q.1 k)
  | [], _ => rfl
  | x :: r, h => by
    rw [List.findIdx_cons, kins]
    by_cases hb : bytesBefore k x.1 = true
    · have hx : bytesBefore x.1 k = false := by
        cases hh : bytesBefore x.1 k with
        | false => rfl
        | true =>
          have := WideShapes.bytes_trans _ _ _ hb hh
          rw [WideAt.bytes_irrefl] at this
          cases this
      rw [if_pos hb, hx]
      rfl
    · have hx : bytesBefore x.1 k = true := by
        rcases WideAt.bytes_total k x.1 (h x (List.mem_cons_self ..)).symm with h | h
        · exact absurd h hb
        · exact h
      rw [if_neg hb, hx, kins_idx k v r fun q hq => h q (List.mem_cons_of_mem _ hq)]
      rfl
end

/-! Files as a list by names. -/

def fk (F : Fs) : KL (List UInt8) := F.map fun q => (q.nm, q.data)
def RiseF (F : Fs) : Prop := F.Pairwise fun p q => bytesBefore p.nm q.nm = true
def look (F : Fs) (k : List UInt8) : Option (List UInt8) := kget (fk F) k

theorem fk_rise {F : Fs} (h : RiseF F) : KRise (fk F) := List.pairwise_map.2 h
theorem rise_fk {F : Fs} (h : KRise (fk F)) : RiseF F := List.pairwise_map.1 h

theorem fk_inj {F G : Fs} (h : fk F = fk G) : F = G := by
  have : (fk F).map (fun p => (⟨p.1, p.2⟩ : Fil)) = (fk G).map (fun p => (⟨p.1, p.2⟩ : Fil)) := by rw [h]
  rw [fk, fk, List.map_map, List.map_map] at this
  have e : ((fun p : List UInt8 × List UInt8 => (⟨p.1, p.2⟩ : Fil)) ∘ fun q : Fil => (q.nm, q.data)) = id := rfl
  rw [e, List.map_id, List.map_id] at this
  exact this

theorem look_cons (p : Fil) (F : Fs) (k : List UInt8) : look (p :: F) k = if p.nm = k then some p.data else look F k := kget_cons _ _ _

theorem hasF_look (F : Fs) (k : List UInt8) : hasF F k = (look F k).isSome := by
  induction F with
  | nil => rfl
  | cons p r ih =>
    rw [look_cons, hasF, List.any_cons]
    by_cases e : p.nm = k
    · simp [e]
    · have : (p.nm == k) = false := by simpa using e
      rw [if_neg e, this, Bool.false_or]
      exact ih

theorem dataF_look {F : Fs} {k d : List UInt8} (h : look F k = some d) : (F.getD (atF F k) default).data = d := by
  induction F with
  | nil => cases h
  | cons p r ih =>
    rw [look_cons] at h
    rw [atF, List.findIdx_cons]
    by_cases e : p.nm = k
    · rw [if_pos e] at h
      injection h with h
      simp [e, h]
    · have : (p.nm == k) = false := by simpa using e
      rw [if_neg e] at h
      rw [this]
      have ih' := ih h
      rw [atF] at ih'
      simpa using ih'

theorem fk_drop {F : Fs} (h : RiseF F) (k : List UInt8) : fk (fdrop F k) = kdel (fk F) k := by
  have e : atF F k = (fk F).findIdx fun p => p.1 == k := by rw [atF, fk, List.findIdx_map]; rfl
  rw [kdel_idx _ _ (fk_rise h), fdrop, ← e, fk, List.map_append, List.map_take, List.map_drop]
  rfl

theorem fk_put {F : Fs} (h : RiseF F) (k b : List UInt8) : fk (fput F k b) = kput (fk F) k b := by
  have e : lessF (fdrop F k) k = (fk (fdrop F k)).findIdx fun q => !bytesBefore q.1 k := by rw [lessF, fk, List.findIdx_map]; rfl
  rw [kput, ← fk_drop h, kins_idx k b _ fun q hq => ?_, ← e]
  · rw [fput]
    generalize fdrop F k = G
    rw [fk, List.map_append, List.map_cons, List.map_take, List.map_drop]
    rfl
  · rw [fk_drop h] at hq
    exact ((mem_kdel _ _ _).1 hq).2

def kstep (l : KL (List UInt8)) (c : FC) : KL (List UInt8) := if c.gone = true then kdel l c.nm else kput l c.nm c.data

theorem fk_step {F : Fs} (h : RiseF F) (c : FC) : fk (fstep F c) = kstep (fk F) c := by
  rw [fstep, kstep]
  split
  · exact fk_drop h _
  · exact fk_put h _ _

theorem rise_kstep {l : KL (List UInt8)} (h : KRise l) (c : FC) : KRise (kstep l c) := by
  rw [kstep]
  split
  · exact rise_kdel h _
  · exact rise_kput h _ _

theorem rise_step {F : Fs} (h : RiseF F) (c : FC) : RiseF (fstep F c) := rise_fk (by rw [fk_step h]; exact rise_kstep (fk_rise h) c)

theorem rise_apply : ∀ (l : FL) {F : Fs}, RiseF F → RiseF (fapply F l)
  | [], _, h => h
  | c :: r, _, h => rise_apply r (rise_step h c)

theorem look_step {F : Fs} (h : RiseF F) (c : FC) (k : List UInt8) : look (fstep F c) k = if k = c.nm then (if c.gone = true then none else some c.data) else look F k := by
  rw [look, fk_step h, kstep]
  by_cases hg : c.gone = true
  · rw [if_pos hg, if_pos hg, kget_kdel (fk_rise h)]; rfl
  · rw [if_neg hg, if_neg hg, kget_kput (fk_rise h)]; rfl

/-- What is looked up behind changes of names, each in one alone. -/
theorem look_apply : ∀ (l : FL) {F : Fs}, RiseF F → (l.map FC.nm).Nodup → ∀ k, (∀ c ∈ l, c.nm ≠ k) → look (fapply F l) k = look F k
  | [], _, _, _, _, _ => rfl
  | c :: r, F, h, hn, k, hk => by
    rw [List.map_cons, List.nodup_cons] at hn
    have := look_apply r (rise_step h c) hn.2 k fun x hx => hk x (List.mem_cons_of_mem _ hx)
    rw [fapply, List.foldl_cons]
    rw [fapply] at this
    rw [this, look_step h, if_neg fun e => hk c (List.mem_cons_self ..) e.symm]

theorem look_apply_mem : ∀ (l : FL) {F : Fs}, RiseF F → (l.map FC.nm).Nodup → ∀ c ∈ l, look (fapply F l) c.nm = if c.gone = true then none else some c.data
  | c :: r, F, h, hn, x, hx => by
    rw [List.map_cons, List.nodup_cons] at hn
    rw [fapply, List.foldl_cons]
    rcases List.mem_cons.1 hx with rfl | hx
    · have := look_apply r (rise_step h x) hn.2 x.nm fun y hy e => hn.1 (by rw [← e]; exact List.mem_map_of_mem hy)
      rw [fapply] at this
      rw [this, look_step h, if_pos rfl]
    · have := look_apply_mem r (rise_step h c) hn.2 x hx
      rwa [fapply] at this

theorem gone_le : ∀ (l : FL) (F : Fs), (∀ c ∈ l, c.gone = true) → (fapply F l).length ≤ F.length
  | [], F, _ => Nat.le_refl _
  | c :: r, F, h => by
    have h1 := gone_le r (fstep F c) fun x hx => h x (List.mem_cons_of_mem _ hx)
    have h2 : (fstep F c).length ≤ F.length := by
      rw [fstep, if_pos (h c (List.mem_cons_self ..)), fdrop, List.length_append, List.length_take, List.length_drop]
      omega
    rw [fapply, List.foldl_cons]
    rw [fapply] at h1
    omega

theorem gone_blk (l : FL) (h : ∀ c ∈ l, c.gone = true) : blkN l = 0 := by
  have : ∀ (l : FL) (a : Nat), (∀ c ∈ l, c.gone = true) → l.foldl blkS a = a := by
    intro l
    induction l with
    | nil => intro a _; rfl
    | cons c r ih =>
      intro a h
      rw [List.foldl_cons, blkS, if_pos (h c (List.mem_cons_self ..))]
      exact ih a fun x hx => h x (List.mem_cons_of_mem _ hx)
  exact this l 0 h

/-! Changes that wait. -/

/-- A change of a file: its new bytes, and whether it is gone. -/
abbrev Chs := KL (List UInt8 × Bool)

def chStep (F : Fs) (acc : Chs) (p : List UInt8 × List UInt8) : Chs := if look F p.1 = some p.2 then acc else kput acc p.1 (p.2, false)
/-- What is to be done of each name. -/
def changes (F : Fs) (B : KL (List UInt8)) (L : Chs) : Chs := B.foldl (chStep F) L
def toFC (p : List UInt8 × List UInt8 × Bool) : FC := ⟨p.1, p.2.1, p.2.2⟩
def does (F : Fs) (p : List UInt8 × List UInt8 × Bool) : Bool := (look F p.1).isSome || !p.2.2
/-- What a batch commits. -/
def todo (F : Fs) (B : KL (List UInt8)) (L : Chs) : FL := ((changes F B L).filter (does F)).map toFC

theorem rise_chStep {F : Fs} {acc : Chs} (h : KRise acc) (p : List UInt8 × List UInt8) : KRise (chStep F acc p) := by
  rw [chStep]
  split
  · exact h
  · exact rise_kput h _ _

theorem rise_changes {F : Fs} : ∀ (B : KL (List UInt8)) {L : Chs}, KRise L → KRise (changes F B L)
  | [], _, h => h
  | p :: r, _, h => rise_changes r (rise_chStep h p)

/-- What a name's change is, as soon as its blob has come up (gone: which have). -/
def chAt (F : Fs) (B : KL (List UInt8)) (L : Chs) (k : List UInt8) : Option (List UInt8 × Bool) :=
  match kget B k with
  | some d => if look F k = some d then kget L k else some (d, false)
  | none => kget L k

theorem get_changes {F : Fs} : ∀ (B : KL (List UInt8)) {L : Chs}, KRise B → KRise L → ∀ k, kget (changes F B L) k = chAt F B L k
  | [], L, _, _, k => rfl
  | p :: r, L, hB, hL, k => by
    obtain ⟨h1, h2⟩ := List.pairwise_cons.1 hB
    have ih := get_changes (F := F) r h2 (rise_chStep (F := F) hL p) k
    rw [changes, List.foldl_cons]
    rw [changes] at ih
    rw [ih, chAt, chAt, kget_cons]
    by_cases e : p.1 = k
    · rw [if_pos e]
      have hn : kget r k = none := kget_is_none fun q hq hk => by
        have := h1 q hq
        rw [e, hk, WideAt.bytes_irrefl] at this
        cases this
      rw [hn, chStep, e]
      by_cases hl : look F k = some p.2
      · simp only [hl, if_pos]
      · simp only [hl, if_false, kget_kput hL, if_pos]
    · rw [if_neg e]
      have : kget (chStep F L p) k = kget L k := by
        rw [chStep]
        split
        · rfl
        · rw [kget_kput hL, if_neg fun h => e h.symm]
      cases kget r k with
      | none => exact this
      | some d => simp only [this]

theorem nodup_rise {γ : Type} {f : γ → List UInt8} : ∀ {l : List γ}, l.Pairwise (fun p q => bytesBefore (f p) (f q) = true) → (l.map f).Nodup
  | [], _ => List.nodup_nil
  | p :: r, h => by
    obtain ⟨h1, h2⟩ := List.pairwise_cons.1 h
    rw [List.map_cons, List.nodup_cons]
    refine ⟨fun hm => ?_, nodup_rise h2⟩
    obtain ⟨q, hq, e⟩ := List.mem_map.1 hm
    have := h1 q hq
    rw [e, WideAt.bytes_irrefl] at this
    cases this

theorem todo_nodup {F : Fs} {B : KL (List UInt8)} {L : Chs} (hL : KRise L) : ((todo F B L).map FC.nm).Nodup := by
  have h := List.Pairwise.filter (does F) (rise_changes (F := F) B hL)
  have e : (todo F B L).map FC.nm = ((changes F B L).filter (does F)).map (·.1) := by rw [todo, List.map_map]; rfl
  rw [e]
  exact nodup_rise h

theorem mem_todo {F : Fs} {B : KL (List UInt8)} {L : Chs} (hB : KRise B) (hL : KRise L) (c : FC) : c ∈ todo F B L ↔ chAt F B L c.nm = some (c.data, c.gone) ∧ ((look F c.nm).isSome || !c.gone) = true := by
  rw [todo, List.mem_map]
  constructor
  · rintro ⟨p, hp, rfl⟩
    obtain ⟨h1, h2⟩ := List.mem_filter.1 hp
    refine ⟨?_, h2⟩
    rw [← get_changes B hB hL]
    exact kget_of_mem (rise_changes B hL) h1
  · rintro ⟨h1, h2⟩
    rw [← get_changes B hB hL] at h1
    exact ⟨(c.nm, c.data, c.gone), List.mem_filter.2 ⟨kget_mem h1, h2⟩, rfl⟩

theorem todo_there {F : Fs} {B : KL (List UInt8)} {L : Chs} (hB : KRise B) (hL : KRise L) : AllF F (todo F B L) := by
  intro i hi
  have hm : (todo F B L).getD i default ∈ todo F B L := by rw [List.getD_eq_getElem?_getD, List.getElem?_eq_getElem hi]; exact List.getElem_mem _
  have := ((mem_todo hB hL _).1 hm).2
  rw [badF, hasF_look]
  cases h1 : (look F ((todo F B L).getD i default).nm).isSome <;> cases h2 : ((todo F B L).getD i default).gone <;> simp_all

/-- What is looked up behind the commit of a batch. -/
theorem look_todo {F : Fs} {B : KL (List UInt8)} {L : Chs} (hF : RiseF F) (hB : KRise B) (hL : KRise L) (k : List UInt8) :
    look (fapply F (todo F B L)) k = match chAt F B L k with | some (d, g) => (if g = true then none else some d) | none => look F k := by
  have hn := todo_nodup (F := F) (B := B) hL
  cases hc : chAt F B L k with
  | none =>
    refine look_apply _ hF hn k fun c hcm e => ?_
    have := ((mem_todo hB hL c).1 hcm).1
    rw [e, hc] at this
    cases this
  | some p =>
    obtain ⟨d, g⟩ := p
    by_cases hd : ((look F k).isSome || !g) = true
    · exact look_apply_mem _ hF hn ⟨k, d, g⟩ ((mem_todo hB hL _).2 ⟨hc, hd⟩)
    · have hg : g = true := by cases g <;> simp_all
      have hl : look F k = none := by cases h : look F k <;> simp_all
      subst hg
      refine (look_apply _ hF hn k fun c hcm e => ?_).trans (by rw [hl]; rfl)
      have h := (mem_todo hB hL c).1 hcm
      rw [e, hc] at h
      have h1 := h.1
      injection h1 with h1
      injection h1 with h1 h2
      rw [hl, ← h2] at h
      exact absurd h.2 (by decide)

end Go.Proofs.YtphcbpfpelonaaaGreatDoor.M

namespace Go.Proofs.YtphcbpfpelonaaaGreatDoor
open Go.Shelf Go.Proofs

def lay_keysB_ren : Go.Shelf.Ren := ⟨fun | 7 => 44 | 10 => 70 | n => n, fun | 23 => 88 | 26 => 9 | 3 => 58 | 28 => 94 | 0 => 0 | 27 => 93 | 33 => 103 | 4 => 4 | n => n, fun | n => n⟩

theorem lay_keysB : Go.Proofs.SlLaysZ.n7 Tryz.prog lay_keysB_ren := {
  mixed := by kernel_rfl
  f7 := ⟨Tryz.f44.name, by decide, Tryz.func44.trans (congrArg some (by kernel_rfl))⟩
  f10 := ⟨Tryz.f70.name, by decide, Tryz.func70.trans (congrArg some (by kernel_rfl))⟩
  t0 := Tryz.underlying0
  a0 := Tryz.isAgg0
  z0 := Tryz.sizeOf0
  v0 := Tryz.zeroValue0
  t4 := Tryz.underlying4
  a4 := Tryz.isAgg4
  z4 := Tryz.sizeOf4
  v4 := Tryz.zeroValue4
  t23 := Tryz.underlying88
  a23 := Tryz.isAgg88
  z23 := Tryz.sizeOf88
  v23 := Tryz.zeroValue88
  t26 := Tryz.underlying9
  a26 := Tryz.isAgg9
  z26 := Tryz.sizeOf9
  v26 := Tryz.zeroValue9
  t27 := Tryz.underlying93
  a27 := Tryz.isAgg93
  z27 := Tryz.sizeOf93
  v27 := Tryz.zeroValue93
  t28 := Tryz.underlying94
  a28 := Tryz.isAgg94
  z28 := Tryz.sizeOf94
  v28 := Tryz.zeroValue94
  t33 := Tryz.underlying103
  a33 := Tryz.isAgg103
  z33 := Tryz.sizeOf103
  v33 := Tryz.zeroValue103 }

def lay_mcloneB_ren : Go.Shelf.Ren := ⟨fun | 5 => 67 | 7 => 83 | n => n, fun | 23 => 88 | 25 => 9 | 3 => 58 | 4 => 4 | 20 => 20 | n => n, fun | n => n⟩

theorem lay_mcloneB : Go.Proofs.SlLaysW.n5 Tryz.prog lay_mcloneB_ren := {
  mixed := by kernel_rfl
  f5 := ⟨Tryz.f67.name, by decide, Tryz.func67.trans (congrArg some (by kernel_rfl))⟩
  f7 := Tryz.func83.trans (congrArg some (by kernel_rfl))
  t4 := Tryz.underlying4
  a4 := Tryz.isAgg4
  z4 := Tryz.sizeOf4
  v4 := Tryz.zeroValue4
  t20 := Tryz.underlying20
  a20 := Tryz.isAgg20
  z20 := Tryz.sizeOf20
  v20 := Tryz.zeroValue20
  t23 := Tryz.underlying88
  a23 := Tryz.isAgg88
  z23 := Tryz.sizeOf88
  v23 := Tryz.zeroValue88 }

end Go.Proofs.YtphcbpfpelonaaaGreatDoor

namespace Go.Proofs.YtphcbpfpelonaaaGreatDoor
open Go.RowKit Go.Maps
set_option linter.unusedVariables false
set_option maxRecDepth 100000

/-- A value reads as it is. -/
def asR (v : Value) : Option (DataW Value × List MemPlace) := some (.held v, [])
def mpL (es : M.KL Value) : List (Lit × DataW Value) := es.map fun p => (Lit.string p.1, DataW.held p.2)

/-- Block b is a map by names of the values es. -/
def IsMp (w : World) (b : Nat) (es : M.KL Value) : Prop := w.ownsMap Tryz.prog 9 asR b es.length (.map (mpL es))

theorem asR_inv {v : Value} {y : DataW Value × List MemPlace} (h : asR v = some y) : y = (.held v, []) := by
  injection h with h
  exact h.symm

theorem at_mp (k : List UInt8) (z : DataW Value) : ∀ es : M.KL Value, (DataW.map (mpL es)).atKey (.string k) z = match M.kget es k with | some v => .held v | none => z
  | [] => rfl
  | p :: r => by
    have ih := at_mp k z r
    rw [DataW.atKey] at ih ⊢
    rw [M.kget_cons, mpL, List.map_cons, List.find?_cons]
    by_cases e : p.1 = k
    · simp [Lit.sameKey, e]
    · rw [show (Lit.string p.1).sameKey (Lit.string k) = false by simpa [Lit.sameKey] using e, if_neg e]
      exact ih

theorem has_mp (k : List UInt8) : ∀ es : M.KL Value, Maps.has (.map (mpL es)) (.string k) = (M.kget es k).isSome
  | [] => rfl
  | p :: r => by
    have ih := has_mp k r
    rw [Maps.has_eq] at ih ⊢
    rw [M.kget_cons, mpL, List.map_cons, List.any_cons]
    by_cases e : p.1 = k
    · simp [Lit.sameKey, e]
    · rw [show (Lit.string p.1).sameKey (Lit.string k) = false by simpa [Lit.sameKey] using e, if_neg e, Bool.false_or]
      exact ih

theorem tightR {w : World} {b n : Nat} {D : DataW Value} (h : w.ownsMap Tryz.prog 9 asR b n D) : w.ownsMap Tryz.prog 9 asR b (Maps.size D) D := by
  obtain ⟨es, clock, hb, F, hs, hD⟩ := h
  refine ⟨es, clock, hb, F, ?_, hD⟩
  rw [hD, Maps.size, length_sorted]
  simp

theorem mpL_length (es : M.KL Value) : (mpL es).length = es.length := List.length_map _

theorem IsMp.lt {w : World} {b : Nat} {es : M.KL Value} (h : IsMp w b es) : b < w.heap.size := World.ownsMap.lt h

theorem IsMp.rise {w : World} {b : Nat} {es : M.KL Value} (h : IsMp w b es) : M.KRise es := by
  obtain ⟨es', he, hp, _⟩ := World.ownsMap.canon h keyed
  injection he with he
  rw [← he, mpL, List.pairwise_map] at hp
  exact hp

theorem IsMp.chg {F : Nat → Prop} {w w' : World} {b : Nat} {es : M.KL Value} (h : IsMp w b es) (k : Chg F w w') (hb : ¬ F b) : IsMp w' b es := by
  have hl := h.lt
  obtain ⟨es', clock, hg, F', hs, hD⟩ := h
  exact ⟨es', clock, (k.block b hl hb).trans hg, F', hs, hD⟩

theorem IsMp.below {w w' : World} {b : Nat} {es : M.KL Value} (h : IsMp w b es) (k : Below w.heap.size w w') : IsMp w' b es := h.chg (Chg.of_below (F := fun _ => False) k) fun h => h

theorem IsMp.alloc {w : World} {b : Nat} {es : M.KL Value} (h : IsMp w b es) (o : Obj) : IsMp (w.alloc o) b es := World.ownsMap.alloc h o

theorem IsMp.isMap {w : World} {b : Nat} {es : M.KL Value} (h : IsMp w b es) : ∃ es' clock, w.heap[b]? = some (.map es' clock) := by
  obtain ⟨es', clock, hb, _⟩ := h
  exact ⟨es', clock, hb⟩

theorem mpL_ins (k : List UInt8) (v : Value) : ∀ es : M.KL Value, DataW.insert (Lit.string k, DataW.held v) (mpL es) = mpL (M.kins k v es)
  | [] => rfl
  | x :: r => by
    have ih := mpL_ins k v r
    show DataW.insert _ ((Lit.string x.1, DataW.held x.2) :: mpL r) = _
    rw [DataW.insert, M.kins]
    by_cases hb : bytesBefore k x.1 = true
    · rw [if_pos hb, if_pos (by exact hb)]
      rfl
    · rw [if_neg hb, if_neg (by exact hb), ih]
      rfl

theorem mpL_del (k : List UInt8) : ∀ es : M.KL Value, (mpL es).filter (ChangeMaps.notKey (Lit.string k)) = mpL (M.kdel es k)
  | [] => rfl
  | x :: r => by
    have ih := mpL_del k r
    show ((Lit.string x.1, DataW.held x.2) :: mpL r).filter _ = _
    by_cases hb : x.1 = k
    · rw [List.filter_cons_of_neg (by simp [ChangeMaps.notKey, Lit.sameKey, hb]), ih, M.kdel, M.kdel, List.filter_cons_of_neg (by simp [hb])]
    · rw [List.filter_cons_of_pos (by simp [ChangeMaps.notKey, Lit.sameKey, hb]), ih, M.kdel, M.kdel, List.filter_cons_of_pos (by simp [hb])]
      rfl

theorem mpL_put (k : List UInt8) (v : Value) (es : M.KL Value) : (DataW.map (mpL es)).put (.string k) (.held v) = .map (mpL (M.kput es k v)) := by
  rw [DataW.put_eq, ChangeMaps.putKey, mpL_del, mpL_ins]
  rfl

/-- 'm[k] = v'. -/
theorem IsMp.store {w : World} {b : Nat} {es : M.KL Value} (h : IsMp w b es) {t e : TypeId} (ht : Tryz.prog.underlying t = some (.map 9 e)) (k : List UInt8) (v : Value) (hk : k.length ≤ maxLen) (hfew : es.length < 1000000) :
    ∃ w', (Instr.mapUpdate t (.map (some b)) (.string ⟨k.toArray⟩) v).run Tryz.prog w = .ok () w' ∧ IsMp w' b (M.kput es k v) ∧ w.grownBy w' (some b) ∧ w'.heap.size = w.heap.size := by
  obtain ⟨w', hrun, ho, hm⟩ := World.ownsMap.store h keyed ht (by unfold maxLen; omega) (key_of k hk) (show asR v = some (.held v, []) from rfl)
  rw [mpL_put] at ho
  have ho2 := tightR ho
  rw [Maps.size_eq, mpL_length] at ho2
  refine ⟨w', hrun, ho2, hm.grown, ?_⟩
  obtain ⟨es, clock, es', clock', hb, rfl⟩ := hm
  simp [ChangeMaps.setBlock]

/-- 'm[k]'. -/
theorem IsMp.look {w : World} {b : Nat} {es : M.KL Value} (h : IsMp w b es) {t e : TypeId} (ht : Tryz.prog.underlying t = some (.map 9 e)) {z : Value} (hz : (zeroValue e).run Tryz.prog w = .ok z w) (k : List UInt8) (hk : k.length ≤ maxLen) :
    (Instr.lookup t (.map (some b)) (.string ⟨k.toArray⟩) false).run Tryz.prog w = .ok ((M.kget es k).getD z) w := by
  obtain ⟨v, ps, hrun, hv⟩ := World.ownsMap.lookup h keyed ht hz (show asR z = some (.held z, []) from rfl) (key_of k hk)
  have e := asR_inv hv
  injection e with e _
  rw [at_mp] at e
  rw [hrun]
  cases hg : M.kget es k with
  | none => rw [hg] at e; injection e with e; rw [← e]; rfl
  | some x => rw [hg] at e; injection e with e; rw [← e]; rfl

/-- 'v, ok := m[k]'. -/
theorem IsMp.look_ok {w : World} {b : Nat} {es : M.KL Value} (h : IsMp w b es) {t e : TypeId} (ht : Tryz.prog.underlying t = some (.map 9 e)) {z : Value} (hz : (zeroValue e).run Tryz.prog w = .ok z w) (k : List UInt8) (hk : k.length ≤ maxLen) :
    (Instr.lookup t (.map (some b)) (.string ⟨k.toArray⟩) true).run Tryz.prog w = .ok (.tuple #[(M.kget es k).getD z, .bool (M.kget es k).isSome]) w := by
  obtain ⟨v, ps, hrun, hv⟩ := World.ownsMap.look_ok h keyed ht hz (show asR z = some (.held z, []) from rfl) (key_of k hk)
  have e := asR_inv hv
  injection e with e _
  rw [at_mp] at e
  rw [hrun, has_mp]
  cases hg : M.kget es k with
  | none => rw [hg] at e; injection e with e; rw [← e]; rfl
  | some x => rw [hg] at e; injection e with e; rw [← e]; rfl

/-- 'len(m)'. -/
theorem IsMp.lenM {w : World} {b : Nat} {es : M.KL Value} (h : IsMp w b es) {t e : TypeId} (ht : Tryz.prog.underlying t = some (.map 9 e)) (ty : TypeId) : (Builtin.len_ #[t] ty #[.map (some b)]).run Tryz.prog w = .ok (.int .i64 (es.length : Int)) w := by
  have := World.ownsMap.len h (t := t) ht ty
  rwa [Maps.size_eq, mpL_length] at this

/-- 'make(map)'. -/
theorem mp_made (w : World) : IsMp (w.alloc (.map #[] 0)) w.heap.size [] := World.ownsMap_made _ _ _ _

theorem strKeys_mp : ∀ es : M.KL Value, strKeys (.map (mpL es)) = es.map (·.1)
  | [] => rfl
  | p :: r => by
    have ih := strKeys_mp r
    rw [strKeys] at ih ⊢
    rw [mpL] at ih ⊢
    rw [List.map_cons, List.map_cons, List.map_cons, ih]
    rfl

/-- What stands at a key that has come up. -/
theorem mp_who {es : M.KL Value} {k : List UInt8} {y : DataW Value × List MemPlace} {v : Value} (hat : ∀ z, (DataW.map (mpL es)).atKey (.string k) z = y.1) (hv : asR v = some y) : M.kget es k = some v := by
  have e := asR_inv hv
  have h := hat .nil
  rw [e, at_mp] at h
  cases hg : M.kget es k with
  | none => rw [hg] at h; cases h
  | some x => rw [hg] at h; injection h with h; rw [h]

/-- Sorted again rising names are as they were. -/
theorem M.sort_keys {l ss : List (List UInt8)} (h : l.Pairwise fun a b => bytesBefore a b = true) (hp : ss.Perm l) : ss.mergeSort leB = l := by
  have e : l = (l.map fun k => (⟨k, 0, []⟩ : M.Pl)).map M.Pl.nm := by rw [List.map_map]; simp [Function.comp_def]
  have hr : M.Rising (l.map fun k => (⟨k, 0, []⟩ : M.Pl)) := List.pairwise_map.2 h
  rw [e] at hp ⊢
  exact M.sort_names hr hp

/-- maps.Keys of a map of changes. -/
theorem chKeys_any (mb : Option Nat) (W : World) : Calls Tryz.prog 44 #[.map mb] W fun e w' => e = .returned (.func (.func 70) #[] #[.pointer (some ⟨W.heap.size, 0, none⟩)]) ∧ w' = W.alloc (.cells #[.map mb] 88) :=
  (callsIn_wide (n := 5)).1 (AnyZ.keys_in lay_keysB Fence.wide 5 trivial rfl mb W)

/-- slices.Sorted of it: all names, rising. -/
theorem chSorted_any {w : World} {b : Nat} {es : M.KL Value} (h : IsMp w b es) (h64 : es.length ≤ 100000) :
    Calls Tryz.prog 43 #[.func (.func 70) #[] #[.pointer (some ⟨w.heap.size, 0, none⟩)]] (w.alloc (.cells #[.map (some b)] 88)) fun e w' => ∃ v, e = .returned v ∧ OwnS w' w.heap.size v (es.map (·.1)) ∧ Below w.heap.size w w' := by
  have hr := h.rise
  have hk := strKeys_mp es
  have hs : Maps.size (.map (mpL es)) = es.length := by rw [Maps.size_eq, mpL_length]
  have hown := h
  have hbl := hown.lt
  have hmax : Maps.size (.map (mpL es)) ≤ maxLen := by rw [hs]; unfold maxLen; omega
  have hbytes : Maps.size (.map (mpL es)) * 16 ≤ 140737488355328 := by rw [hs]; omega
  have hseq : SeqGives Fence.wide 2 Tryz.prog 70 #[.pointer (some ⟨w.heap.size, 0, none⟩)] encStr (fun ss => ss.Perm (strKeys (.map (mpL es)))) (Maps.size (.map (mpL es))) (w.alloc (.cells #[.map (some b)] 88)) :=
    AnyZ.keys_gives (ρ := lay_keysB_ren) { lay_keysB with } Fence.wide _ trivial rfl (by omega) w.heap.size b es.length (.map (mpL es)) _ (by simp) (by simp) (by
      obtain ⟨es', clock, hb, Ft, hs, hD⟩ := hown
      exact ⟨es', clock, (Below.heap_alloc _ _ b hbl).trans hb, Ft, hs, hD⟩)
  have cS := AnyZ.sorted_in lay_sortedA Fence.wide 5 trivial trivial trivial trivial rfl (by omega) (sortsA _) (enters_of Tryz.func69 (by kernel_rfl) rfl) 70 #[.pointer (some ⟨w.heap.size, 0, none⟩)] trivial (enters_of Tryz.func70 (by kernel_rfl) rfl) _ _ hmax hbytes _ hseq
  change CallsIn _ _ Tryz.prog 43 _ _ _ at cS
  refine ((callsIn_wide (n := 5)).1 cS).mono ?_
  rintro e w' ⟨v, ss, rfl, hS, hrow, hnil, hb⟩
  rw [hk] at hS
  have hr2 : (es.map (·.1)).Pairwise (fun a b => bytesBefore a b = true) := List.pairwise_map.2 hr
  exact ⟨v, rfl, by
    have e1 := M.sort_keys hr2 hS
    have e2 : ss.length = (es.map (·.1)).length := hS.length_eq
    have hrow' := ownsRow_base_a (base' := w.heap.size) hrow (by simp)
    rw [OwnS, ← e2, ← e1]
    exact hrow', ((Below.refl _ w).alloc (Nat.le_refl _) _).trans (hb.mono (by simp))⟩

end Go.Proofs.YtphcbpfpelonaaaGreatDoor

namespace Go.Proofs.YtphcbpfpelonaaaGreatDoor
open Go.RowKit Go.Maps
set_option linter.unusedVariables false
set_option maxRecDepth 100000

/-- 'string(b)'. -/
theorem str_any {w : World} {v : Value} {bs : List UInt8} (h : IsB w v bs) : (convert 38 9 v).run Tryz.prog w = .ok (.string ⟨bs.toArray⟩) w := by
  by_cases hn : bs = []
  · subst hn
    obtain ⟨ao, cap, rfl, h1, h2, h3⟩ := h
    rw [run_convert_bytes_string w 38 9 5 ao _ cap Tryz.underlying38 Tryz.underlying5 Tryz.underlying9]
    cases ao <;> simp [Conv.bytesToString, loadCells] <;> rfl
  · exact str_run h hn

set_option maxHeartbeats 2000000 in
theorem bytesEqual_all (v1 v2 : Value) (xs ys : List UInt8) (w : World) (h1 : IsB w v1 xs) (h2 : IsB w v2 ys) : Calls Tryz.prog 39 #[v1, v2] w fun e w' => e = .returned (.bool (decide (xs = ys))) ∧ w' = w := by
  have r1 := str_any h1
  have r2 := str_any h2
  obtain ⟨a1, c1, rfl⟩ := h1.shape
  obtain ⟨a2, c2, rfl⟩ := h2.shape
  clear h1 h2
  go_enter Tryz.func39, Tryz.ntmps39
  have e1 : (xs == ys) = decide (xs = ys) := by
    by_cases h : xs = ys
    · rw [decide_eq_true h, h]; simp
    · rw [decide_eq_false h]; simpa using h
  have E1 := Lib.hid e1
  clear e1
  go_wp2
  go_ret
  exact ⟨by rw [← E1.out]; rfl, rfl⟩

namespace M
/-- A crypt: the real one, or a book of the texts that were digested. -/
inductive Cr where
  | real
  | book (l : List (List UInt8))

/-- A text's number. -/
def numOf (l : List (List UInt8)) (b : List UInt8) : Nat := l.findIdx fun x => x == b
def bookDg (n : Nat) : List UInt8 := [83, 85, 77, 33] ++ List.replicate 20 0 ++ (le n 8).reverse
def csum : Cr → List UInt8 → List UInt8
  | .real, b => sha b
  | .book l, b => bookDg (numOf l b)
def cnext : Cr → List UInt8 → Cr
  | .real, _ => .real
  | .book l, b => if b ∈ l then .book l else .book (l ++ [b])

theorem numOf_le (l : List (List UInt8)) (b : List UInt8) : numOf l b ≤ l.length := List.findIdx_le_length

theorem numOf_new {l : List (List UInt8)} {b : List UInt8} (h : b ∉ l) : numOf l b = l.length := by
  rw [numOf, List.findIdx_eq_length]
  intro x hx
  have : x ≠ b := fun e => h (e ▸ hx)
  simpa using this

theorem numOf_snoc (l : List (List UInt8)) (b k : List UInt8) : numOf (l ++ [b]) k = if k ∈ l then numOf l k else if k = b then l.length else l.length + 1 := by
  rw [numOf, List.findIdx_append]
  by_cases h : k ∈ l
  · rw [if_pos h]
    have h1 : numOf l k < l.length := List.findIdx_lt_length.2 ⟨k, h, by simp⟩
    rw [numOf] at h1
    rw [if_pos h1]
    rfl
  · rw [if_neg h]
    have h1 := numOf_new h
    rw [numOf] at h1
    rw [h1, if_neg (Nat.lt_irrefl _)]
    by_cases e : k = b
    · subst e; simp
    · have : (b == k) = false := by simpa using fun h : b = k => e h.symm
      rw [if_neg e, List.findIdx_cons, this]
      simp [Nat.add_comm]
end M

/-- The map of a book's numbers. -/
def IsBook (w : World) (b : Nat) (l : List (List UInt8)) : Prop := ∃ es, IsMp w b es ∧ es.length = l.length ∧ ∀ k, M.kget es k = if k ∈ l then some (.int .u64 ((M.numOf l k : Nat) : Int)) else none

/-- cv is the crypt c, in the blocks T. -/
def CrIs (T : Nat → Prop) (w : World) (cv : Value) : M.Cr → Prop
  | .real => cv = .iface 74 (.agg #[])
  | .book l => ∃ gb m1 m2, cv = .iface 82 (.pointer (some ⟨gb, 0, none⟩)) ∧ Blk w gb 86 [.map (some m1), m2] ∧ IsBook w m1 l ∧ gb ≠ m1 ∧ T gb ∧ T m1

theorem CrIs.chg {F T : Nat → Prop} {w w' : World} {cv : Value} {c : M.Cr} (h : CrIs T w cv c) (k : Chg F w w') (hF : ∀ j, T j → ¬ F j) : CrIs T w' cv c := by
  cases c with
  | real => exact h
  | book l =>
    obtain ⟨gb, m1, m2, e, b, ⟨es, hm, h1, h2⟩, hne, t1, t2⟩ := h
    exact ⟨gb, m1, m2, e, b.chg k (hF _ t1), ⟨es, hm.chg k (hF _ t2), h1, h2⟩, hne, t1, t2⟩

set_option maxHeartbeats 2000000 in
/-- The real crypt's Sum. -/
theorem realSum_any (bv : Value) (bs : List UInt8) (w : World) (hL : Laid w) (hb : IsB w bv bs) (hlen : bs.length ≤ 562949953421312) :
    Calls Tryz.prog 164 #[.agg #[], bv] w (Makes w (M.sha bs)) := by
  obtain ⟨W, hW⟩ : ∃ x, Hid (x = w.alloc (.cells #[] 74)) := ⟨_, rfl⟩
  have KW : Below w.heap.size w W := by rw [hW.out]; exact (Below.refl _ _).alloc (Nat.le_refl _) _
  have h2 : 2 ≤ w.heap.size := by
    have := hL.size
    omega
  have C := Lib.hid (of_any bv bs W (hL.below KW h2) (hb.below KW) hlen)
  have K := Lib.hid KW
  clear hL hb KW hlen h2
  go_enter Tryz.func164, Tryz.ntmps164
  go_wp2_with (first | (go_at_call 104; rw [← hW.out]; go_must (refine C.out.mono ?_)))
  rintro e w' ⟨r, rfl, o, k⟩
  have O := Lib.hid o
  have K2 := Lib.hid k
  clear C o k
  go_wp2
  go_ret
  exact ⟨r, rfl, O.out.mono K.out.size, K.out.trans (K2.out.mono K.out.size)⟩

end Go.Proofs.YtphcbpfpelonaaaGreatDoor

namespace Go.Proofs.YtphcbpfpelonaaaGreatDoor
open Go.RowKit Go.Maps
set_option linter.unusedVariables false
set_option maxRecDepth 100000

/-- '[]byte(s)'. -/
theorem conv_bytes (w : World) (bs : List UInt8) (h : bs.length ≤ maxLen) : ∃ v w', (convert 9 38 (.string ⟨bs.toArray⟩)).run Tryz.prog w = .ok v w' ∧ IsB w' v bs ∧ Lies (fun k => w.heap.size ≤ k ∧ k < w'.heap.size) v ∧ (∀ n c, v = .slice none n c → c = 0) ∧ Below w.heap.size w w' := by
  have hs : ByteArray.size ⟨bs.toArray⟩ = bs.length := by show bs.toArray.size = _; simp
  refine ⟨_, _, run_bytes_of_string w _ _ 5 ⟨bs.toArray⟩ Tryz.underlying9 Tryz.underlying38 Tryz.underlying5, ?_, ?_, ?_, ?_⟩
  · have hge := grownCap_ge w (ByteArray.size ⟨bs.toArray⟩) 0 5
    have hle := grownCap_le_maxLen w (ByteArray.size ⟨bs.toArray⟩) 0 5 (by rw [hs]; exact h)
    rw [hs] at hge hle ⊢
    refine ⟨_, _, rfl, hge, hle, .inr ⟨w.heap.size, 0, rfl, fun i hi => ?_⟩⟩
    have hh : ∀ (C : Array Value) (fr : Nat × Nat), (w.drew.alloc (.cells C 5 fr)).heap[w.heap.size]? = some (.cells C 5 fr) := fun C fr => heap_alloc_new w.drew _
    unfold World.cell?
    rw [hh]
    show ((bytesRow _ _)[0 + i]?) = _
    rw [Nat.zero_add, bytesRow, Array.getElem?_append_left (by simpa using hi)]
    simp [List.getD_eq_getElem?_getD, hi]
  · intro ad n c e
    injection e with e
    injection e with e
    subst e
    exact ⟨Nat.le_refl _, by simp⟩
  · intro n c e
    cases e
  · exact (Below.refl _ w).drew.alloc (Nat.le_refl _) _

/-- '[]byte(s)' in a plain region. -/
theorem wpList_bytes (w : World) {ops : Array Oper} {rest : List Oper} {o : Oper} {a : Act} {Q : Exit → Act → World → Prop} (hg : o.guard = none) (s : Operand) (hop : o.op = .convert 9 38 s) (bs : List UInt8) (hs : a.eval s = .string ⟨bs.toArray⟩) (hl : bs.length ≤ maxLen)
    (h : ∀ v w', IsB w' v bs → Lies (fun k => w.heap.size ≤ k ∧ k < w'.heap.size) v → (∀ n c, v = .slice none n c → c = 0) → Below w.heap.size w w' → wpList Tryz.prog ops Q rest (a.put o.dst v) w') : wpList Tryz.prog ops Q (o :: rest) a w := by
  obtain ⟨v, w', hr, h1, h2, h3, h4⟩ := conv_bytes w bs hl
  refine wpList_plain hg fun K' hK' => ?_
  unfold Oper.wp
  simp [execOp, hop, hs, hr, Result.andThen]
  exact hK' _ _ (h v w' h1 h2 h3 h4)

/-- A row more, whose bytes lie in what is new. -/
theorem OwnLL.addI {w w2 w4 : World} {B : Nat} {v v' rv : Value} {L : List (List UInt8)} {rows : List Value} {bs : List UInt8} (h : OwnLL w B v L rows) (k : Below w.heap.size w w2) (hB : B ≤ w.heap.size) (d : IsB w2 rv bs) (ld : Lies (fun b => w.heap.size ≤ b ∧ b < w2.heap.size) rv) (d0 : ∀ n c, rv = .slice none n c → c = 0)
    (o : w4.ownsRow B 38 1 v' (L.length + 1) (rows ++ [rv])) (g : w2.grownBy w4 v.ownBlock) (a : v'.ownBlock = v.ownBlock ∨ ∃ j, v'.ownBlock = some j ∧ w2.heap.size ≤ j) : OwnLL w4 B v' (L ++ [bs]) (rows ++ [rv]) where
  row := by rw [List.length_append]; exact o
  each := by
    intro i hi
    have hi' : i < L.length + 1 := by simpa using hi
    have hl := h.len
    have hk := k.size
    have c4 : Chg (fun b => v.ownBlock = some b) w2 w4 := Chg.of_grown g fun k hk => hk
    have hv : ∀ b, v.ownBlock = some b → b < w.heap.size := fun b hb => (h.row.lt b hb).2
    have hne : ∀ b, b < w2.heap.size → v.ownBlock ≠ some b → v'.ownBlock ≠ some b := fun b h1 h2 e => by
      rcases a with a | ⟨j, a, hj⟩
      · exact h2 (a ▸ e)
      · rw [a] at e
        injection e with e
        omega
    have g4 := c4.size
    rw [getD_snoc _ _ _ _ (by rw [hl]; exact hi'), getD_snoc _ _ _ _ hi', hl]
    by_cases hlt : i < L.length
    · rw [if_pos hlt, if_pos hlt]
      obtain ⟨h1, h2, h3⟩ := h.each i hlt
      exact ⟨(h1.below k).chg c4 (h3.mono fun b hb => hb.2.2), h2, h3.mono fun b hb => ⟨hb.1, by omega, hne b (by omega) hb.2.2⟩⟩
    · rw [if_neg hlt, if_neg hlt]
      exact ⟨d.chg c4 (ld.mono fun b hb e => by have := hv b e; omega), d0, ld.mono fun b hb => ⟨by omega, by omega, hne b hb.2 fun e => by have := hv b e; omega⟩⟩

theorem str_append (c : UInt8) (d : List UInt8) : (⟨#[c]⟩ : ByteArray) ++ (⟨d.toArray⟩ : ByteArray) = ⟨(c :: d).toArray⟩ := by
  apply ByteArray.ext
  rw [ByteArray.data_append]
  simp

set_option maxHeartbeats 1000000 in
/-- Name. -/
theorem name_any (dv : Value) (d : List UInt8) (w : World) (h : IsB w dv d) (hl : d.length ≤ 100000) :
    Calls Tryz.prog 34 #[dv] w fun e w' => e = .returned (.string ⟨(98 :: d).toArray⟩) ∧ w' = w := by
  have r1 := str_any h
  obtain ⟨a1, c1, rfl⟩ := h.shape
  have E := Lib.hid (str_append 98 d)
  clear h
  go_enter Tryz.func34, Tryz.ntmps34
  go_wp2
  go_ret
  exact ⟨by rw [← E.out]; rfl, rfl⟩

set_option maxHeartbeats 1000000 in
/-- asideName. -/
theorem asideName_any (dv : Value) (d : List UInt8) (w : World) (h : IsB w dv d) (hl : d.length ≤ 100000) :
    Calls Tryz.prog 36 #[dv] w fun e w' => e = .returned (.string ⟨(113 :: d).toArray⟩) ∧ w' = w := by
  have r1 := str_any h
  obtain ⟨a1, c1, rfl⟩ := h.shape
  have E := Lib.hid (str_append 113 d)
  clear h
  go_enter Tryz.func36, Tryz.ntmps36
  go_wp2
  go_ret
  exact ⟨by rw [← E.out]; rfl, rfl⟩

/-- Whether a text begins with a letter. -/
def M.begins (c : UInt8) (n : List UInt8) : Bool := n.head? == some c

set_option maxHeartbeats 2000000 in
theorem hasPrefix_any (n : List UInt8) (c : UInt8) (w : World) (hl : n.length ≤ 100000) :
    Calls Tryz.prog 108 #[.string ⟨n.toArray⟩, .string ⟨#[c]⟩] w fun e w' => e = .returned (.bool (M.begins c n)) ∧ w' = w := by
  match n, hl with
  | [], _ =>
    go_enter Tryz.func108, Tryz.ntmps108
    go_wp2
    go_ret
    exact ⟨rfl, rfl⟩
  | x :: r, hl =>
    have hz : (ByteArray.size ⟨(x :: r).toArray⟩ : Int) = ((r.length + 1 : Nat) : Int) := by show (((x :: r).toArray.size : Nat) : Int) = _; simp
    obtain ⟨s, hs⟩ : ∃ s : ByteArray, s = ⟨(x :: r).toArray⟩ := ⟨_, rfl⟩
    have hz2 : s.size = r.length + 1 := by rw [hs]; show (x :: r).toArray.size = _; simp
    rw [← hs]
    have HS := Lib.hid hs
    obtain ⟨p, hp⟩ : ∃ p : ByteArray, p = ⟨#[c]⟩ := ⟨_, rfl⟩
    have hpz : p.size = 1 := by rw [hp]; rfl
    rw [← hp]
    have HP := Lib.hid hp
    obtain ⟨q, hq⟩ : ∃ q, q = r.length + 1 := ⟨_, rfl⟩
    rw [← hq] at hz2
    have hq1 : (1 : Int) ≤ (q : Int) := by omega
    have hq2 : 1 ≤ q := by omega
    clear hz hs hp hq hl
    go_enter Tryz.func108, Tryz.ntmps108
    go_wp2
    go_ret
    refine ⟨?_, rfl⟩
    rw [HS.out, HP.out]
    show Ending.returned (Value.bool (((⟨(x :: r).toArray⟩ : ByteArray).extract 0 1).toList == (⟨#[c]⟩ : ByteArray).toList)) = _
    rw [Lib.extract_toList, Lib.toList_data]
    show Ending.returned (Value.bool ([x] == [c])) = Ending.returned (Value.bool (M.begins c (x :: r)))
    rw [M.begins, List.head?_cons]
    by_cases e : x = c
    · subst e; simp
    · have h1 : ([x] == [c]) = false := by simpa using e
      have h2 : (some x == some c) = false := by simpa using e
      rw [h1, h2]

/-- What is behind a letter, if a text begins with it. -/
def M.behind1 (c : UInt8) (n : List UInt8) : List UInt8 := if M.begins c n = true then n.drop 1 else n

set_option maxHeartbeats 2000000 in
theorem cutPrefix_any (n : List UInt8) (c : UInt8) (w : World) (hl : n.length ≤ 100000) :
    Calls Tryz.prog 64 #[.string ⟨n.toArray⟩, .string ⟨#[c]⟩] w fun e w' => e = .returned (.tuple #[.string ⟨(M.behind1 c n).toArray⟩, .bool (M.begins c n)]) ∧ w' = w := by
  have C1 : Hid (Calls Tryz.prog 92 #[.string ⟨n.toArray⟩, .string ⟨#[c]⟩] w fun e w' => e = .returned (.tuple #[.string ⟨(M.behind1 c n).toArray⟩, .bool (M.begins c n)]) ∧ w' = w) := by
    have C := Lib.hid (hasPrefix_any n c w hl)
    obtain ⟨b, hb⟩ : ∃ b, b = M.begins c n := ⟨_, rfl⟩
    rw [M.behind1, ← hb]
    rw [← hb] at C
    cases b with
    | false =>
      clear hb
      obtain ⟨s, hs⟩ : ∃ s : ByteArray, s = ⟨n.toArray⟩ := ⟨_, rfl⟩
      rw [← hs] at C ⊢
      have HS := Lib.hid hs
      clear hs
      go_enter Tryz.func92, Tryz.ntmps92
      go_wp2_with fail
      refine C.out.mono ?_
      rintro e w' ⟨rfl, rfl⟩
      go_wp2
      go_ret2
      refine ⟨?_, rfl⟩
      try rw [if_neg (by decide)]
      rw [← HS.out]
      rfl
    | true =>
      focus
        obtain ⟨x, r, rfl⟩ : ∃ x r, n = x :: r := by
          cases n with
          | nil => simp [M.begins] at hb
          | cons x r => exact ⟨x, r, rfl⟩
        clear hb
        obtain ⟨s, hs⟩ : ∃ s : ByteArray, s = ⟨(x :: r).toArray⟩ := ⟨_, rfl⟩
        have hz2 : s.size = r.length + 1 := by rw [hs]; show (x :: r).toArray.size = _; simp
        have HE : Hid (s.extract 1 (r.length + 1) = ⟨r.toArray⟩) := by
          have h1 : (s.extract 1 (r.length + 1)).data.toList = r := by
            rw [← Lib.toList_data, Lib.extract_toList, hs]
            show (((x :: r).drop 1).take (r.length + 1 - 1)) = r
            simp
          show s.extract 1 (r.length + 1) = ⟨r.toArray⟩
          have h2 : (s.extract 1 (r.length + 1)).data = r.toArray := by
            generalize (s.extract 1 (r.length + 1)).data = z at h1 ⊢
            rw [← h1]
          rw [← h2]
        rw [← hs] at C ⊢
        obtain ⟨p, hp⟩ : ∃ p : ByteArray, p = ⟨#[c]⟩ := ⟨_, rfl⟩
        have hpz : p.size = 1 := by rw [hp]; rfl
        rw [← hp] at C ⊢
        obtain ⟨q, hq⟩ : ∃ q, q = r.length + 1 := ⟨_, rfl⟩
        rw [← hq] at hz2 HE
        have hq1 : (1 : Int) ≤ (q : Int) := by omega
        have hq2 : 1 ≤ q := by omega
        clear hs hp hq hl
        go_enter Tryz.func92, Tryz.ntmps92
        go_wp2_with fail
        refine C.out.mono ?_
        rintro e w' ⟨rfl, rfl⟩
        go_wp2
        go_ret2
        refine ⟨?_, rfl⟩
        try rw [if_pos rfl]
        show Ending.returned (.tuple #[.string (s.extract 1 q), .bool true]) = _
        rw [HE.out]
  obtain ⟨s, hs⟩ : ∃ s : ByteArray, s = ⟨n.toArray⟩ := ⟨_, rfl⟩
  obtain ⟨p, hp⟩ : ∃ p : ByteArray, p = ⟨#[c]⟩ := ⟨_, rfl⟩
  rw [← hs, ← hp] at C1 ⊢
  clear hs hp
  go_enter Tryz.func64, Tryz.ntmps64
  go_wp2_with fail
  refine C1.out.mono ?_
  rintro e w' ⟨rfl, rfl⟩
  go_wp2
  go_ret2
  exact ⟨rfl, rfl⟩

end Go.Proofs.YtphcbpfpelonaaaGreatDoor

namespace Go.Proofs.YtphcbpfpelonaaaGreatDoor.M
set_option linter.unusedVariables false

def markB (c : UInt8) (n : List UInt8) : Bool := n.head? == some c && n.length == 33
def markN (c : UInt8) (ns : List (List UInt8)) : List (List UInt8) := (ns.filter (markB c)).map (·.drop 1)
/-- The digests of all files of a mark. -/
def marked (c : UInt8) (F : Fs) : List (List UInt8) := markN c (F.map Fil.nm)

theorem markN_snoc (c : UInt8) (ns : List (List UInt8)) (n : List UInt8) : markN c (ns ++ [n]) = if markB c n = true then markN c ns ++ [n.drop 1] else markN c ns := by
  rw [markN, List.filter_append, List.map_append]
  by_cases h : markB c n = true
  · rw [if_pos h, List.filter_cons_of_pos h]
    rfl
  · rw [if_neg h, List.filter_cons_of_neg h]
    simp [markN]

theorem markB_iff (c : UInt8) (n : List UInt8) : markB c n = true ↔ ∃ d, n = c :: d ∧ d.length = 32 := by
  cases n with
  | nil => simp [markB]
  | cons x r =>
    rw [markB]
    simp only [List.head?_cons, List.length_cons, Bool.and_eq_true, beq_iff_eq, Option.some.injEq]
    constructor
    · rintro ⟨rfl, h⟩
      exact ⟨r, rfl, by omega⟩
    · rintro ⟨d, e, h⟩
      injection e with e1 e2
      subst e1 e2
      exact ⟨rfl, by omega⟩

theorem mem_markN (c : UInt8) (ns : List (List UInt8)) (d : List UInt8) : d ∈ markN c ns ↔ d.length = 32 ∧ c :: d ∈ ns := by
  rw [markN, List.mem_map]
  constructor
  · rintro ⟨n, hn, rfl⟩
    obtain ⟨h1, h2⟩ := List.mem_filter.1 hn
    obtain ⟨d, rfl, hd⟩ := (markB_iff c n).1 h2
    exact ⟨hd, h1⟩
  · rintro ⟨hd, h⟩
    exact ⟨c :: d, List.mem_filter.2 ⟨h, (markB_iff c _).2 ⟨d, rfl, hd⟩⟩, rfl⟩

theorem mem_fk (F : Fs) (k : List UInt8) : k ∈ F.map Fil.nm ↔ (look F k).isSome = true := by
  induction F with
  | nil => simp [look, fk, kget]
  | cons p r ih =>
    rw [List.map_cons, List.mem_cons, look_cons]
    by_cases e : p.nm = k
    · rw [if_pos e]; simp [e]
    · rw [if_neg e, ← ih]
      constructor
      · rintro (h | h)
        · exact absurd h.symm e
        · exact h
      · exact .inr

theorem mem_marked (c : UInt8) (F : Fs) (d : List UInt8) : d ∈ marked c F ↔ d.length = 32 ∧ (look F (c :: d)).isSome = true := by
  rw [marked, mem_markN, mem_fk]

def RiseL (l : List (List UInt8)) : Prop := l.Pairwise fun a b => bytesBefore a b = true

theorem before_cons (c : UInt8) (a b : List UInt8) : bytesBefore (c :: a) (c :: b) = bytesBefore a b := by
  rw [bytesBefore]
  simp

theorem marked_rise (c : UInt8) {F : Fs} (h : RiseF F) : RiseL (marked c F) := by
  have h1 : (F.map Fil.nm).Pairwise fun a b => bytesBefore a b = true := List.pairwise_map.2 h
  have h2 := List.Pairwise.filter (markB c) h1
  have h3 : ((F.map Fil.nm).filter (markB c)).Pairwise fun a b => markB c a = true → markB c b = true → bytesBefore (a.drop 1) (b.drop 1) = true := by
    refine h2.imp fun {a b} hab ha hb => ?_
    obtain ⟨x, rfl, _⟩ := (markB_iff c a).1 ha
    obtain ⟨y, rfl, _⟩ := (markB_iff c b).1 hb
    rw [before_cons] at hab
    exact hab
  rw [RiseL, marked, markN, List.pairwise_map]
  refine List.Pairwise.imp_of_mem (fun {a b} ha hb hab => hab (List.mem_filter.1 ha).2 (List.mem_filter.1 hb).2) h3

theorem rise_ext {l m : List (List UInt8)} (hl : RiseL l) (hm : RiseL m) (h : ∀ d, d ∈ l ↔ d ∈ m) : l = m := mem_ext_rise (fun d => d) hl hm h

theorem riseL_nodup {l : List (List UInt8)} (h : RiseL l) : l.Nodup := by
  have := nodup_rise (f := fun d : List UInt8 => d) h
  rwa [List.map_id'] at this

theorem riseL_filter {l : List (List UInt8)} (h : RiseL l) (p : List UInt8 → Bool) : RiseL (l.filter p) := List.Pairwise.filter p h

/-- A file's bytes. -/
def dat (F : Fs) (k : List UInt8) : List UInt8 := (look F k).getD []
/-- Whether a blob is spoilt. -/
def spB (F : Fs) (d : List UInt8) : Bool := !decide (sha (dat F (98 :: d)) = d)

/-! A Fsck with the real crypt. -/

def fsckS (F : Fs) (L : Chs) (d : List UInt8) : Chs := if spB F d = true then kput (kput L (98 :: d) ([], true)) (113 :: d) (dat F (98 :: d), false) else L
def fsckL (F : Fs) (ds : List (List UInt8)) : Chs := ds.foldl (fsckS F) []

theorem fsckL_snoc (F : Fs) (ds : List (List UInt8)) (d : List UInt8) : fsckL F (ds ++ [d]) = fsckS F (fsckL F ds) d := by rw [fsckL, List.foldl_append]; rfl

theorem rise_fsckS {F : Fs} {L : Chs} (h : KRise L) (d : List UInt8) : KRise (fsckS F L d) := by
  rw [fsckS]
  split
  · exact rise_kput (rise_kput h _ _) _ _
  · exact h

theorem rise_fold (F : Fs) : ∀ (ds : List (List UInt8)) {L : Chs}, KRise L → KRise (ds.foldl (fsckS F) L)
  | [], _, h => h
  | d :: r, _, h => rise_fold F r (rise_fsckS h d)

theorem rise_fsckL (F : Fs) (ds : List (List UInt8)) : KRise (fsckL F ds) := rise_fold F ds rise_nil

theorem fsck_get (F : Fs) (k : List UInt8) : ∀ (ds : List (List UInt8)) {L : Chs}, KRise L →
    kget (ds.foldl (fsckS F) L) k = if ∃ d ∈ ds, spB F d = true ∧ k = 113 :: d then some (dat F (98 :: k.drop 1), false) else if ∃ d ∈ ds, spB F d = true ∧ k = 98 :: d then some ([], true) else kget L k
  | [], L, _ => by simp
  | d :: r, L, h => by
    rw [List.foldl_cons, fsck_get F k r (rise_fsckS h d)]
    by_cases h1 : ∃ d ∈ r, spB F d = true ∧ k = 113 :: d
    · obtain ⟨x, hx, hs, e⟩ := h1
      rw [if_pos ⟨x, hx, hs, e⟩, if_pos ⟨x, List.mem_cons_of_mem _ hx, hs, e⟩]
    · rw [if_neg h1]
      by_cases h2 : ∃ d ∈ r, spB F d = true ∧ k = 98 :: d
      · obtain ⟨x, hx, hs, e⟩ := h2
        rw [if_pos ⟨x, hx, hs, e⟩, if_neg, if_pos ⟨x, List.mem_cons_of_mem _ hx, hs, e⟩]
        rintro ⟨y, _, _, e'⟩
        rw [e] at e'
        injection e' with e'
        exact absurd e' (by decide)
      · rw [if_neg h2, fsckS]
        by_cases hs : spB F d = true
        · rw [if_pos hs, kget_kput (rise_kput h _ _), kget_kput h]
          by_cases e1 : k = 113 :: d
          · rw [if_pos e1, if_pos ⟨d, List.mem_cons_self .., hs, e1⟩, e1]
            rfl
          · rw [if_neg e1]
            by_cases e2 : k = 98 :: d
            · rw [if_pos e2, if_neg, if_pos ⟨d, List.mem_cons_self .., hs, e2⟩]
              rintro ⟨y, _, _, e'⟩
              rw [e2] at e'
              injection e' with e'
              exact absurd e' (by decide)
            · rw [if_neg e2, if_neg, if_neg]
              · rintro ⟨y, hy, hsy, e'⟩
                rcases List.mem_cons.1 hy with rfl | hy
                · exact e2 e'
                · exact h2 ⟨y, hy, hsy, e'⟩
              · rintro ⟨y, hy, hsy, e'⟩
                rcases List.mem_cons.1 hy with rfl | hy
                · exact e1 e'
                · exact h1 ⟨y, hy, hsy, e'⟩
        · rw [if_neg hs, if_neg, if_neg]
          · rintro ⟨y, hy, hsy, e'⟩
            rcases List.mem_cons.1 hy with rfl | hy
            · exact hs hsy
            · exact h2 ⟨y, hy, hsy, e'⟩
          · rintro ⟨y, hy, hsy, e'⟩
            rcases List.mem_cons.1 hy with rfl | hy
            · exact hs hsy
            · exact h1 ⟨y, hy, hsy, e'⟩

/-- What is to be done, without blobs that wait. -/
theorem chAt_nil (F : Fs) (L : Chs) (k : List UInt8) : chAt F [] L k = kget L k := rfl

/-- All names that a Fsck changes are a mark and a digest. -/
theorem fsck_names {F : Fs} {ds : List (List UInt8)} (h32 : ∀ d ∈ ds, d.length = 32) : NamesOk (todo F [] (fsckL F ds)) := by
  refine ⟨fun c hc => ?_, todo_nodup (rise_fsckL F ds)⟩
  have := ((mem_todo rise_nil (rise_fsckL F ds) c).1 hc).1
  rw [chAt_nil, fsckL, fsck_get F c.nm ds rise_nil] at this
  have hn : c.nm.length = 33 := by
    split at this
    · rename_i h
      obtain ⟨d, hd, _, e⟩ := h
      rw [e, List.length_cons, h32 d hd]
    · split at this
      · rename_i h
        obtain ⟨d, hd, _, e⟩ := h
        rw [e, List.length_cons, h32 d hd]
      · cases this
  omega

theorem fcode_two {n : Int} {F : Fs} {l : FL} (h1 : NamesOk l) (h2 : AllF F l) : fcode n F l = 0 ∨ fcode n F l = 2 ∨ fcode n F l = 3 := by
  rw [fcode, if_neg (not_not_intro h1), if_neg (not_not_intro h2)]
  split
  · exact .inr (.inr rfl)
  · split
    · exact .inr (.inl rfl)
    · exact .inl rfl

/-- The files behind a Fsck. -/
def fscked (F : Fs) : Fs := fapply F (todo F [] (fsckL F (marked 98 F)))

theorem look_fscked {F : Fs} (h : RiseF F) (d : List UInt8) (hd : d.length = 32) : look (fscked F) (98 :: d) = if spB F d = true then none else look F (98 :: d) := by
  rw [fscked, look_todo h rise_nil (rise_fsckL _ _), chAt_nil, fsckL, fsck_get F _ _ rise_nil]
  rw [if_neg (by rintro ⟨y, _, _, e⟩; injection e with e; exact absurd e (by decide))]
  by_cases hs : spB F d = true
  · rw [if_pos hs]
    by_cases hm : d ∈ marked 98 F
    · rw [if_pos ⟨d, hm, hs, rfl⟩]
      rfl
    · have : look F (98 :: d) = none := by
        cases hl : look F (98 :: d) with
        | none => rfl
        | some x => exact absurd ((mem_marked 98 F d).2 ⟨hd, by rw [hl]; rfl⟩) hm
      split
      · rename_i heq
        split at heq
        · rename_i hx
          obtain ⟨y, hy, _, e⟩ := hx
          injection e with _ e
          exact absurd (e ▸ hy) hm
        · cases heq
      · exact this
  · rw [if_neg hs, if_neg]
    · rfl
    · rintro ⟨y, _, hsy, e⟩
      injection e with _ e
      exact hs (e ▸ hsy)

theorem marked_fscked {F : Fs} (h : RiseF F) : marked 98 (fscked F) = (marked 98 F).filter fun d => !spB F d := by
  refine rise_ext (marked_rise 98 (rise_apply _ h)) (riseL_filter (marked_rise 98 h) _) fun d => ?_
  rw [List.mem_filter, mem_marked, mem_marked]
  constructor
  · rintro ⟨hd, hl⟩
    rw [look_fscked h d hd] at hl
    by_cases hs : spB F d = true
    · rw [if_pos hs] at hl; cases hl
    · rw [if_neg hs] at hl
      exact ⟨⟨hd, hl⟩, by simpa using hs⟩
  · rintro ⟨⟨hd, hl⟩, hs⟩
    refine ⟨hd, ?_⟩
    rw [look_fscked h d hd, if_neg (by simpa using hs)]
    exact hl

/-- Behind a Fsck none is spoilt. -/
theorem fscked_fine {F : Fs} (h : RiseF F) {d : List UInt8} (hm : d ∈ marked 98 (fscked F)) : spB (fscked F) d = false := by
  rw [marked_fscked h, List.mem_filter, mem_marked] at hm
  obtain ⟨⟨hd, _⟩, hs⟩ := hm
  have hs' : spB F d = false := by simpa using hs
  rw [spB, dat, look_fscked h d hd, if_neg (by rw [hs']; decide)]
  rw [spB, dat] at hs'
  exact hs'

/-! A Sweep. -/

def swB (live : List (List UInt8)) (L : Chs) (d : List UInt8) : Chs := if d ∈ live then L else kput L (98 :: d) ([], true)
def swQ (L : Chs) (d : List UInt8) : Chs := kput L (113 :: d) ([], true)
def swL (live ds qs : List (List UInt8)) : Chs := qs.foldl swQ (ds.foldl (swB live) [])
def swN (live ds : List (List UInt8)) : List (List UInt8) := ds.filter fun d => !decide (d ∈ live)

theorem rise_swB (live : List (List UInt8)) : ∀ (ds : List (List UInt8)) {L : Chs}, KRise L → KRise (ds.foldl (swB live) L)
  | [], _, h => h
  | d :: r, L, h => by
    refine rise_swB live r (L := swB live L d) ?_
    rw [swB]
    split
    · exact h
    · exact rise_kput h _ _

theorem rise_swQ : ∀ (qs : List (List UInt8)) {L : Chs}, KRise L → KRise (qs.foldl swQ L)
  | [], _, h => h
  | d :: r, _, h => rise_swQ r (rise_kput h _ _)

theorem rise_swL (live ds qs : List (List UInt8)) : KRise (swL live ds qs) := rise_swQ qs (rise_swB live ds rise_nil)

theorem swQ_get (k : List UInt8) : ∀ (qs : List (List UInt8)) {L : Chs}, KRise L → kget (qs.foldl swQ L) k = if ∃ d ∈ qs, k = 113 :: d then some ([], true) else kget L k
  | [], L, _ => by simp
  | d :: r, L, h => by
    rw [List.foldl_cons, swQ_get k r (L := swQ L d) (rise_kput h _ _)]
    by_cases h1 : ∃ d ∈ r, k = 113 :: d
    · obtain ⟨x, hx, e⟩ := h1
      rw [if_pos ⟨x, hx, e⟩, if_pos ⟨x, List.mem_cons_of_mem _ hx, e⟩]
    · rw [if_neg h1, swQ, kget_kput h]
      by_cases e1 : k = 113 :: d
      · rw [if_pos e1, if_pos ⟨d, List.mem_cons_self .., e1⟩]
      · rw [if_neg e1, if_neg]
        rintro ⟨y, hy, e⟩
        rcases List.mem_cons.1 hy with rfl | hy
        · exact e1 e
        · exact h1 ⟨y, hy, e⟩

theorem swB_get (live : List (List UInt8)) (k : List UInt8) : ∀ (ds : List (List UInt8)) {L : Chs}, KRise L → kget (ds.foldl (swB live) L) k = if ∃ d ∈ ds, d ∉ live ∧ k = 98 :: d then some ([], true) else kget L k
  | [], L, _ => by simp
  | d :: r, L, h => by
    have hr : KRise (swB live L d) := by
      rw [swB]
      split
      · exact h
      · exact rise_kput h _ _
    rw [List.foldl_cons, swB_get live k r hr]
    by_cases h1 : ∃ d ∈ r, d ∉ live ∧ k = 98 :: d
    · obtain ⟨x, hx, hn, e⟩ := h1
      rw [if_pos ⟨x, hx, hn, e⟩, if_pos ⟨x, List.mem_cons_of_mem _ hx, hn, e⟩]
    · rw [if_neg h1, swB]
      by_cases hm : d ∈ live
      · rw [if_pos hm, if_neg]
        rintro ⟨y, hy, hn, e⟩
        rcases List.mem_cons.1 hy with rfl | hy
        · exact hn hm
        · exact h1 ⟨y, hy, hn, e⟩
      · rw [if_neg hm, kget_kput h]
        by_cases e1 : k = 98 :: d
        · rw [if_pos e1, if_pos ⟨d, List.mem_cons_self .., hm, e1⟩]
        · rw [if_neg e1, if_neg]
          rintro ⟨y, hy, hn, e⟩
          rcases List.mem_cons.1 hy with rfl | hy
          · exact e1 e
          · exact h1 ⟨y, hy, hn, e⟩

theorem sw_get (live ds qs : List (List UInt8)) (k : List UInt8) : kget (swL live ds qs) k = if ∃ d ∈ qs, k = 113 :: d then some ([], true) else if ∃ d ∈ ds, d ∉ live ∧ k = 98 :: d then some ([], true) else none := by
  rw [swL, swQ_get k qs (rise_swB live ds rise_nil), swB_get live k ds rise_nil]
  rfl

theorem sw_gone {F : Fs} {live ds qs : List (List UInt8)} (h1 : ∀ d ∈ ds, d.length = 32) (h2 : ∀ d ∈ qs, d.length = 32) : ∀ c ∈ todo F [] (swL live ds qs), c.gone = true ∧ c.nm.length = 33 := by
  intro c hc
  have := ((mem_todo rise_nil (rise_swL live ds qs) c).1 hc).1
  rw [chAt_nil, sw_get] at this
  split at this
  · rename_i h
    obtain ⟨d, hd, e⟩ := h
    injection this with this
    injection this with _ this
    exact ⟨this.symm, by rw [e, List.length_cons, h2 d hd]⟩
  · split at this
    · rename_i h
      obtain ⟨d, hd, _, e⟩ := h
      injection this with this
      injection this with _ this
      exact ⟨this.symm, by rw [e, List.length_cons, h1 d hd]⟩
    · cases this

/-- The files behind a Sweep. -/
def swept (live : List (List UInt8)) (F : Fs) : Fs := fapply F (todo F [] (swL live (marked 98 F) (marked 113 F)))

theorem swept_code {n : Int} {F : Fs} (live : List (List UInt8)) (h64 : F.length ≤ 64) (hf : 0 ≤ freeF n F) : fcode n F (todo F [] (swL live (marked 98 F) (marked 113 F))) = 0 := by
  have hg := sw_gone (F := F) (live := live) (ds := marked 98 F) (qs := marked 113 F) (fun d hd => ((mem_marked 98 F d).1 hd).1) (fun d hd => ((mem_marked 113 F d).1 hd).1)
  have h1 : NamesOk (todo F [] (swL live (marked 98 F) (marked 113 F))) := ⟨fun c hc => by have := (hg c hc).2; omega, todo_nodup (rise_swL _ _ _)⟩
  have h2 := todo_there (F := F) (B := []) (L := swL live (marked 98 F) (marked 113 F)) rise_nil (rise_swL _ _ _)
  have h3 := gone_le _ F fun c hc => (hg c hc).1
  have h4 := gone_blk _ fun c hc => (hg c hc).1
  rw [fcode, if_neg (not_not_intro h1), if_neg (not_not_intro h2), if_neg (by omega), if_neg (by rw [h4]; omega)]

theorem marked_swept {F : Fs} (live : List (List UInt8)) (h : RiseF F) : marked 98 (swept live F) = (marked 98 F).filter fun d => decide (d ∈ live) := by
  refine rise_ext (marked_rise 98 (rise_apply _ h)) (riseL_filter (marked_rise 98 h) _) fun d => ?_
  rw [List.mem_filter, mem_marked, swept, look_todo h rise_nil (rise_swL _ _ _), chAt_nil, sw_get, if_neg (by rintro ⟨y, _, e⟩; injection e with e; exact absurd e (by decide))]
  constructor
  · rintro ⟨hd, hl⟩
    by_cases hx : ∃ y ∈ marked 98 F, y ∉ live ∧ 98 :: d = 98 :: y
    · rw [if_pos hx] at hl; cases hl
    · rw [if_neg hx] at hl
      have hm : d ∈ marked 98 F := (mem_marked 98 F d).2 ⟨hd, hl⟩
      refine ⟨hm, ?_⟩
      by_cases hv : d ∈ live
      · simpa using hv
      · exact absurd ⟨d, hm, hv, rfl⟩ hx
  · rintro ⟨hm, hv⟩
    have hv' : d ∈ live := by simpa using hv
    obtain ⟨hd, hl⟩ := (mem_marked 98 F d).1 hm
    refine ⟨hd, ?_⟩
    rw [if_neg]
    · exact hl
    · rintro ⟨y, _, hn, e⟩
      injection e with _ e
      exact hn (e ▸ hv')

theorem aside_swept {F : Fs} (live : List (List UInt8)) (h : RiseF F) : marked 113 (swept live F) = [] := by
  rw [List.eq_nil_iff_forall_not_mem]
  intro d hd
  obtain ⟨h32, hl⟩ := (mem_marked 113 _ d).1 hd
  rw [swept, look_todo h rise_nil (rise_swL _ _ _), chAt_nil, sw_get] at hl
  by_cases hm : d ∈ marked 113 F
  · rw [if_pos ⟨d, hm, rfl⟩] at hl
    cases hl
  · rw [if_neg (by rintro ⟨y, hy, e⟩; injection e with _ e; exact hm (e ▸ hy)), if_neg (by rintro ⟨y, _, _, e⟩; injection e with e; exact absurd e (by decide))] at hl
    exact hm ((mem_marked 113 F d).2 ⟨h32, hl⟩)

end Go.Proofs.YtphcbpfpelonaaaGreatDoor.M
