/-
  PLAIN MATHEMATICS OF MAPS BY NAMES (lists by rising names). Nothing of the program. Conditions: none.
-/
import Derived.Test.YtdojalhaklkegaaBase
import Derived.WideAt
import Derived.Maps.OwnSet
import Derived.Maps.Ext
namespace Go.Proofs.Ytdojalhaklkegaa.M
set_option linter.unusedVariables false

section
variable {α β : Type}

/-- A list by names. -/
abbrev KL (α : Type) := List (List UInt8 × α)
def KRise (l : KL α) : Prop := l.Pairwise fun p q => bytesBefore p.1 q.1 = true
def kget (l : KL α) (k : List UInt8) : Option α := (l.find? fun p => p.1 == k).map (·.2)
def kdel (l : KL α) (k : List UInt8) : KL α := l.filter fun p => !(p.1 == k)
def kins (k : List UInt8) (v : α) : KL α → KL α
  | [] => [(k, v)]
  | q :: r => if bytesBefore k q.1 = true then (k, v) :: q :: r else q :: kins k v r
def kput (l : KL α) (k : List UInt8) (v : α) : KL α := kins k v (kdel l k)

theorem kget_cons (p : List UInt8 × α) (l : KL α) (k : List UInt8) : kget (p :: l) k = if p.1 = k then some p.2 else kget l k := by
  rw [kget, List.find?_cons]
  by_cases h : p.1 = k
  · simp [h]
  · have : (p.1 == k) = false := by simpa using h
    rw [this, if_neg h]
    rfl

theorem kget_nil (k : List UInt8) : kget ([] : KL α) k = none := rfl

theorem kget_mem {l : KL α} {k : List UInt8} {v : α} (h : kget l k = some v) : (k, v) ∈ l := by
  rw [kget, Option.map_eq_some_iff] at h
  obtain ⟨p, hp, e⟩ := h
  have h1 := List.mem_of_find?_eq_some hp
  have h2 := List.find?_some hp
  have h3 : p.1 = k := by simpa using h2
  rw [← h3, ← e]
  exact h1

theorem kget_none {l : KL α} {k : List UInt8} (h : kget l k = none) : ∀ p ∈ l, p.1 ≠ k := by
  rw [kget, Option.map_eq_none_iff, List.find?_eq_none] at h
  intro p hp e
  exact h p hp (by simpa using e)

theorem kget_of_mem : ∀ {l : KL α}, KRise l → ∀ {p : List UInt8 × α}, p ∈ l → kget l p.1 = some p.2
  | x :: r, h, p, hp => by
    obtain ⟨h1, h2⟩ := List.pairwise_cons.1 h
    rw [kget_cons]
    rcases List.mem_cons.1 hp with rfl | hp
    · rw [if_pos rfl]
    · rw [if_neg, kget_of_mem h2 hp]
      intro e
      have := h1 p hp
      rw [e, WideAt.bytes_irrefl] at this
      cases this

theorem kget_is_none {l : KL α} {k : List UInt8} (h : ∀ p ∈ l, p.1 ≠ k) : kget l k = none := by
  cases e : kget l k with
  | none => rfl
  | some v => exact absurd rfl (h _ (kget_mem e))

theorem mem_kins (k : List UInt8) (v : α) (q : List UInt8 × α) : ∀ l : KL α, q ∈ kins k v l ↔ q = (k, v) ∨ q ∈ l
  | [] => by simp [kins]
  | x :: r => by
    rw [kins]
    split
    · simp
    · rw [List.mem_cons, mem_kins k v q r, List.mem_cons]
      constructor
      · rintro (h | h | h)
        · exact .inr (.inl h)
        · exact .inl h
        · exact .inr (.inr h)
      · rintro (h | h | h)
        · exact .inr (.inl h)
        · exact .inl h
        · exact .inr (.inr h)

theorem mem_kdel (l : KL α) (k : List UInt8) (q : List UInt8 × α) : q ∈ kdel l k ↔ q ∈ l ∧ q.1 ≠ k := by
  rw [kdel, List.mem_filter]
  simp

theorem mem_kput (l : KL α) (k : List UInt8) (v : α) (q : List UInt8 × α) : q ∈ kput l k v ↔ q = (k, v) ∨ (q ∈ l ∧ q.1 ≠ k) := by rw [kput, mem_kins, mem_kdel]

theorem rise_nil : KRise ([] : KL α) := List.Pairwise.nil

theorem rise_kdel {l : KL α} (h : KRise l) (k : List UInt8) : KRise (kdel l k) := List.Pairwise.filter _ h

theorem rise_kins {k : List UInt8} {v : α} : ∀ {l : KL α}, KRise l → (∀ q ∈ l, q.1 ≠ k) → KRise (kins k v l)
  | [], _, _ => by simp [kins, KRise]
  | x :: r, h, hn => by
    obtain ⟨h1, h2⟩ := List.pairwise_cons.1 h
    rw [kins]
    split
    · rename_i hb
      refine List.pairwise_cons.2 ⟨fun q hq => ?_, h⟩
      rcases List.mem_cons.1 hq with rfl | hq
      · exact hb
      · exact WideShapes.bytes_trans _ _ _ hb (h1 q hq)
    · rename_i hb
      have hx : bytesBefore x.1 k = true := by
        rcases WideAt.bytes_total k x.1 (hn x (List.mem_cons_self ..)).symm with h | h
        · exact absurd h hb
        · exact h
      refine List.pairwise_cons.2 ⟨fun q hq => ?_, rise_kins h2 fun q hq => hn q (List.mem_cons_of_mem _ hq)⟩
      rcases (mem_kins k v q r).1 hq with rfl | hq
      · exact hx
      · exact h1 q hq

theorem rise_kput {l : KL α} (h : KRise l) (k : List UInt8) (v : α) : KRise (kput l k v) := rise_kins (rise_kdel h _) fun q hq => ((mem_kdel l k q).1 hq).2

theorem kget_iff {l : KL α} (h : KRise l) (k : List UInt8) (v : α) : kget l k = some v ↔ (k, v) ∈ l := ⟨kget_mem, fun hp => kget_of_mem h hp⟩

theorem kget_kput {l : KL α} (h : KRise l) (k : List UInt8) (v : α) (k' : List UInt8) : kget (kput l k v) k' = if k' = k then some v else kget l k' := by
  by_cases e : k' = k
  · rw [if_pos e, e]
    exact (kget_iff (rise_kput h k v) k v).2 ((mem_kput l k v _).2 (.inl rfl))
  · rw [if_neg e]
    cases hg : kget l k' with
    | some x => exact (kget_iff (rise_kput h k v) k' x).2 ((mem_kput l k v _).2 (.inr ⟨kget_mem hg, e⟩))
    | none =>
      refine kget_is_none fun p hp hk => ?_
      rcases (mem_kput l k v p).1 hp with rfl | ⟨hp, _⟩
      · exact e hk.symm
      · exact kget_none hg p hp hk

theorem kget_kdel {l : KL α} (h : KRise l) (k k' : List UInt8) : kget (kdel l k) k' = if k' = k then none else kget l k' := by
  by_cases e : k' = k
  · rw [if_pos e]
    exact kget_is_none fun p hp hk => ((mem_kdel l k p).1 hp).2 (hk.trans e)
  · rw [if_neg e]
    cases hg : kget l k' with
    | some x => exact (kget_iff (rise_kdel h k) k' x).2 ((mem_kdel l k _).2 ⟨kget_mem hg, e⟩)
    | none => exact kget_is_none fun p hp hk => kget_none hg p ((mem_kdel l k p).1 hp).1 hk

theorem mem_ext_rise {γ : Type} (f : γ → List UInt8) : ∀ {l m : List γ}, l.Pairwise (fun p q => bytesBefore (f p) (f q) = true) → m.Pairwise (fun p q => bytesBefore (f p) (f q) = true) → (∀ p, p ∈ l ↔ p ∈ m) → l = m
  | [], [], _, _, _ => rfl
  | [], b :: s, _, _, h => by have := (h b).2 (by simp); simp at this
  | a :: r, [], _, _, h => by have := (h a).1 (by simp); simp at this
  | a :: r, b :: s, h1, h2, h => by
    obtain ⟨a1, a2⟩ := List.pairwise_cons.1 h1
    obtain ⟨b1, b2⟩ := List.pairwise_cons.1 h2
    have hab : a = b := by
      rcases List.mem_cons.1 ((h a).1 (by simp)) with e | ha
      · exact e
      · rcases List.mem_cons.1 ((h b).2 (by simp)) with e | hb
        · exact e.symm
        · have := WideShapes.bytes_trans _ _ _ (a1 b hb) (b1 a ha)
          rw [WideAt.bytes_irrefl] at this
          cases this
    subst hab
    rw [mem_ext_rise f a2 b2 (fun p => ⟨fun hp => by
      rcases List.mem_cons.1 ((h p).1 (by simp [hp])) with e | hp'
      · have := a1 p hp
        rw [e, WideAt.bytes_irrefl] at this
        cases this
      · exact hp', fun hp => by
      rcases List.mem_cons.1 ((h p).2 (by simp [hp])) with e | hp'
      · have := b1 p hp
        rw [e, WideAt.bytes_irrefl] at this
        cases this
      · exact hp'⟩)]

theorem kext {l m : KL α} (hl : KRise l) (hm : KRise m) (h : ∀ k, kget l k = kget m k) : l = m :=
  mem_ext_rise (fun p : List UInt8 × α => p.1) hl hm fun p => by rw [← kget_iff hl p.1 p.2, ← kget_iff hm p.1 p.2, h]

/-- Two lists by the same names, what stands there being of a kind. -/
def KRel (Q : List UInt8 → α → β → Prop) : KL α → KL β → Prop
  | [], [] => True
  | p :: l, q :: m => (p.1 = q.1 ∧ Q q.1 p.2 q.2) ∧ KRel Q l m
  | _, _ => False

theorem KRel.mono {Q Q' : List UInt8 → α → β → Prop} (hq : ∀ k x y, Q k x y → Q' k x y) : ∀ {l : KL α} {m : KL β}, KRel Q l m → KRel Q' l m
  | [], [], _ => trivial
  | p :: l, q :: m, h => ⟨⟨h.1.1, hq _ _ _ h.1.2⟩, KRel.mono hq h.2⟩

theorem KRel.keys {Q : List UInt8 → α → β → Prop} : ∀ {l : KL α} {m : KL β}, KRel Q l m → l.map (·.1) = m.map (·.1)
  | [], [], _ => rfl
  | p :: l, q :: m, h => by rw [List.map_cons, List.map_cons, h.1.1, KRel.keys h.2]

theorem KRel.len {Q : List UInt8 → α → β → Prop} {l : KL α} {m : KL β} (h : KRel Q l m) : l.length = m.length := by
  have := congrArg List.length h.keys
  rwa [List.length_map, List.length_map] at this

theorem KRel.get {Q : List UInt8 → α → β → Prop} (k : List UInt8) : ∀ {l : KL α} {m : KL β}, KRel Q l m → (kget l k = none ∧ kget m k = none) ∨ ∃ x y, kget l k = some x ∧ kget m k = some y ∧ Q k x y
  | [], [], _ => .inl ⟨rfl, rfl⟩
  | p :: l, q :: m, h => by
    rw [kget_cons, kget_cons, h.1.1]
    by_cases e : q.1 = k
    · rw [if_pos e, if_pos e]
      exact .inr ⟨_, _, rfl, rfl, e ▸ h.1.2⟩
    · rw [if_neg e, if_neg e]
      exact KRel.get k h.2

theorem KRel.del {Q : List UInt8 → α → β → Prop} (k : List UInt8) : ∀ {l : KL α} {m : KL β}, KRel Q l m → KRel Q (kdel l k) (kdel m k)
  | [], [], _ => trivial
  | p :: l, q :: m, h => by
    have ih := KRel.del k h.2
    by_cases e : q.1 = k
    · have e1 : kdel (p :: l) k = kdel l k := by rw [kdel, List.filter_cons_of_neg (by simp [h.1.1, e])]; rfl
      have e2 : kdel (q :: m) k = kdel m k := by rw [kdel, List.filter_cons_of_neg (by simp [e])]; rfl
      rw [e1, e2]; exact ih
    · have e1 : kdel (p :: l) k = p :: kdel l k := by rw [kdel, List.filter_cons_of_pos (by simp [h.1.1, e])]; rfl
      have e2 : kdel (q :: m) k = q :: kdel m k := by rw [kdel, List.filter_cons_of_pos (by simp [e])]; rfl
      rw [e1, e2]; exact ⟨h.1, ih⟩

theorem KRel.ins {Q : List UInt8 → α → β → Prop} (k : List UInt8) (x : α) (y : β) (hq : Q k x y) : ∀ {l : KL α} {m : KL β}, KRel Q l m → KRel Q (kins k x l) (kins k y m)
  | [], [], _ => ⟨⟨rfl, hq⟩, trivial⟩
  | p :: l, q :: m, h => by
    rw [kins, kins, h.1.1]
    by_cases e : bytesBefore k q.1 = true
    · rw [if_pos e, if_pos e]; exact ⟨⟨rfl, hq⟩, h⟩
    · rw [if_neg e, if_neg e]; exact ⟨h.1, KRel.ins k x y hq h.2⟩

theorem KRel.put {Q : List UInt8 → α → β → Prop} {l : KL α} {m : KL β} (h : KRel Q l m) (k : List UInt8) (x : α) (y : β) (hq : Q k x y) : KRel Q (kput l k x) (kput m k y) := KRel.ins k x y hq (h.del k)

theorem kput_le (l : KL α) (k : List UInt8) (v : α) : (kput l k v).length ≤ l.length + 1 := by
  have h1 : ∀ l : KL α, (kins k v l).length = l.length + 1 := by
    intro l
    induction l with
    | nil => rfl
    | cons x r ih =>
      rw [kins]
      split
      · rfl
      · rw [List.length_cons, ih, List.length_cons]
  rw [kput, h1]
  have : (kdel l k).length ≤ l.length := List.length_filter_le _ _
  omega

theorem kdel_idx : ∀ (t : KL α) (k : List UInt8), KRise t → kdel t k = t.take (t.findIdx fun p => p.1 == k) ++ t.drop ((t.findIdx fun p => p.1 == k) + 1)
  | [], k, _ => rfl
  | p :: r, k, h => by
    obtain ⟨h1, h2⟩ := List.pairwise_cons.1 h
    rw [List.findIdx_cons]
    by_cases e : p.1 = k
    · have hb : (p.1 == k) = true := by simpa using e
      have e2 : kdel (p :: r) k = r := by
        rw [kdel, List.filter_cons, if_neg (by rw [hb]; decide)]
        refine List.filter_eq_self.2 fun q hq => ?_
        have : q.1 ≠ k := by
          intro hqk
          have := h1 q hq
          rw [hqk, e, WideAt.bytes_irrefl] at this
          cases this
        simpa using this
      rw [e2, hb]
      rfl
    · have hb : (p.1 == k) = false := by simpa using e
      have e2 : kdel (p :: r) k = p :: kdel r k := by
        rw [kdel, List.filter_cons, if_pos (by rw [hb]; decide)]
        rfl
      rw [e2, kdel_idx r k h2, hb]
      rfl

theorem kins_idx (k : List UInt8) (v : α) : ∀ t : KL α, (∀ q ∈ t, q.1 ≠ k) → kins k v t = t.take (t.findIdx fun q => !bytesBefore q.1 k) ++ (k, v) :: t.drop (t.findIdx fun q => !bytesBefore q.1 k)
  | [], _ => rfl
  | x :: r, h => by
    rw [List.findIdx_cons, kins]
    by_cases hb : bytesBefore k x.1 = true
    · have hx : bytesBefore x.1 k = false := by
        cases hh : bytesBefore x.1 k with
        | false => rfl
        | true =>
          have := WideShapes.bytes_trans _ _ _ hb hh
          rw [WideAt.bytes_irrefl] at this
          cases this
      rw [if_pos hb, hx]
      rfl
    · have hx : bytesBefore x.1 k = true := by
        rcases WideAt.bytes_total k x.1 (h x (List.mem_cons_self ..)).symm with h | h
        · exact absurd h hb
        · exact h
      rw [if_neg hb, hx, kins_idx k v r fun q hq => h q (List.mem_cons_of_mem _ hq)]
      rfl
end

end Go.Proofs.Ytdojalhaklkegaa.M
