/-
  PLAIN MATHEMATICS OF WHAT TELLS OF FILES: its bytes (tbytes), and what stands where in them. Nothing of the program. Conditions: none.
  PLAIN MATHEMATICS OF WHAT IS READ OF WHAT TELLS OF FILES: rows, marks; bytes tell of a table just if it makes them. Nothing of the program. Conditions: none.
-/
import Derived.Test.YtphcbpfpelonaaaGreatDoorPf13
import Derived.Test.YtphcbpfpelonaaaGreatDoorPf2
import Derived.Test.YtphcbpfpelonaaaGreatDoorPw2

namespace Go.Proofs.YtphcbpfpelonaaaGreatDoor.M
set_option linter.unusedVariables false

/-- A piece laid into a row of bytes. -/
def lay11 (l : List UInt8) (o : Nat) (xs : List UInt8) : List UInt8 := l.take o ++ xs ++ l.drop (o + xs.length)

theorem lay11_length {l : List UInt8} {o : Nat} {xs : List UInt8} (h : o + xs.length ≤ l.length) : (lay11 l o xs).length = l.length := by
  rw [lay11, List.length_append, List.length_append, List.length_take, List.length_drop]
  omega

theorem lay11_get {l : List UInt8} {o : Nat} {xs : List UInt8} (h : o + xs.length ≤ l.length) (i : Nat) : (lay11 l o xs).getD i 0 = if o ≤ i ∧ i < o + xs.length then xs.getD (i - o) 0 else l.getD i 0 := by
  have l1 : (l.take o).length = o := by rw [List.length_take]; omega
  rw [lay11, List.getD_eq_getElem?_getD, List.append_assoc]
  by_cases h1 : i < o
  · rw [if_neg (by omega), List.getElem?_append_left (by omega), List.getElem?_take, if_pos h1, List.getD_eq_getElem?_getD]
  · by_cases h2 : i < o + xs.length
    · rw [if_pos ⟨by omega, h2⟩, List.getElem?_append_right (by omega), l1, List.getElem?_append_left (by omega), List.getD_eq_getElem?_getD]
    · rw [if_neg (by omega), List.getElem?_append_right (by omega), l1, List.getElem?_append_right (by omega), List.getElem?_drop, List.getD_eq_getElem?_getD]
      congr 2
      omega

def rowAt (i : Nat) : Nat := 32 + 45 * i

def marks (i : Nat) (bs : List Nat) (l : List UInt8) : List UInt8 := bs.foldl (fun l b => l.set (2912 + b) (UInt8.ofNat (i + 1))) l

theorem marks_length (i : Nat) : ∀ (bs : List Nat) (l : List UInt8), (marks i bs l).length = l.length
  | [], l => rfl
  | b :: r, l => by
    show (marks i r _).length = _
    rw [marks_length i r, List.length_set]

theorem marks_get (i : Nat) : ∀ (bs : List Nat) (l : List UInt8) (j : Nat), j < l.length → (marks i bs l).getD j 0 = if 2912 ≤ j ∧ j - 2912 ∈ bs then UInt8.ofNat (i + 1) else l.getD j 0
  | [], l, j, _ => by simp [marks]
  | b :: r, l, j, h => by
    show (marks i r (l.set (2912 + b) (UInt8.ofNat (i + 1)))).getD j 0 = _
    rw [marks_get i r _ j (by rw [List.length_set]; exact h)]
    by_cases h1 : 2912 ≤ j ∧ j - 2912 ∈ r
    · rw [if_pos h1, if_pos ⟨h1.1, List.mem_cons_of_mem _ h1.2⟩]
    · rw [if_neg h1]
      by_cases h2 : j = 2912 + b
      · rw [if_pos ⟨by omega, by rw [show j - 2912 = b by omega]; exact List.mem_cons_self ..⟩, h2, List.getD_eq_getElem?_getD, List.getElem?_set_self (by omega)]
        rfl
      · rw [if_neg (fun h3 => by
          rcases List.mem_cons.1 h3.2 with h4 | h4
          · omega
          · exact h1 ⟨h3.1, h4⟩), List.getD_eq_getElem?_getD, List.getElem?_set_ne (by omega), ← List.getD_eq_getElem?_getD]

/-- A file's row, and its marks. -/
def row11 (i : Nat) (p : Pl) (l : List UInt8) : List UInt8 := marks i p.bs (lay11 (lay11 (l.set (rowAt i) (UInt8.ofNat p.nm.length)) (rowAt i + 1) p.nm) (rowAt i + 41) (le p.sz 4))

def rows11 : Tab → Nat → List UInt8 → List UInt8
  | [], _, l => l
  | p :: r, i, l => rows11 r (i + 1) (row11 i p l)

def zeroMeta : List UInt8 := List.replicate 8192 0

def tbytes (t : Tab) : List UInt8 := if t = [] then zeroMeta else lay11 (rows11 t 0 zeroMeta) 0 (sha ((rows11 t 0 zeroMeta).drop 32))

theorem zeroMeta_length : zeroMeta.length = 8192 := List.length_replicate

theorem zeroMeta_get (i : Nat) : zeroMeta.getD i 0 = 0 := by
  rw [zeroMeta, List.getD_eq_getElem?_getD, List.getElem?_replicate]
  split <;> rfl

theorem row11_length {i : Nat} {p : Pl} {l : List UInt8} (hl : l.length = 8192) (hi : i < 64) (hn : p.nm.length ≤ 40) : (row11 i p l).length = 8192 := by
  have h1 : (l.set (rowAt i) (UInt8.ofNat p.nm.length)).length = 8192 := by rw [List.length_set, hl]
  have h2 : rowAt i + 1 + p.nm.length ≤ (l.set (rowAt i) (UInt8.ofNat p.nm.length)).length := by rw [h1, rowAt]; omega
  rw [row11, marks_length, lay11_length (by rw [lay11_length h2, h1, le_length, rowAt]; omega), lay11_length h2, h1]

/-- What stands where in a file's row: at j < 2912 outside of the row, as it was. -/
theorem row11_get {i : Nat} {p : Pl} {l : List UInt8} (hl : l.length = 8192) (hi : i < 64) (hn : p.nm.length ≤ 40) (j : Nat) (hj : j < 8192) :
    (row11 i p l).getD j 0 = if 2912 ≤ j then (if j - 2912 ∈ p.bs then UInt8.ofNat (i + 1) else l.getD j 0)
      else if j = rowAt i then UInt8.ofNat p.nm.length
      else if rowAt i + 1 ≤ j ∧ j < rowAt i + 1 + p.nm.length then p.nm.getD (j - (rowAt i + 1)) 0
      else if rowAt i + 41 ≤ j ∧ j < rowAt i + 45 then (le p.sz 4).getD (j - (rowAt i + 41)) 0
      else l.getD j 0 := by
  have h1 : (l.set (rowAt i) (UInt8.ofNat p.nm.length)).length = 8192 := by rw [List.length_set, hl]
  have h2 : rowAt i + 1 + p.nm.length ≤ (l.set (rowAt i) (UInt8.ofNat p.nm.length)).length := by rw [h1, rowAt]; omega
  have h3 : rowAt i + 41 + (le p.sz 4).length ≤ (lay11 (l.set (rowAt i) (UInt8.ofNat p.nm.length)) (rowAt i + 1) p.nm).length := by rw [lay11_length h2, h1, le_length, rowAt]; omega
  have hr : rowAt i + 45 ≤ 2912 := by rw [rowAt]; omega
  rw [row11, marks_get _ _ _ _ (by rw [lay11_length h3, lay11_length h2, h1]; exact hj), lay11_get h3, lay11_get h2, le_length]
  have hset : j ≠ rowAt i → (l.set (rowAt i) (UInt8.ofNat p.nm.length)).getD j 0 = l.getD j 0 := fun hne => by
    rw [List.getD_eq_getElem?_getD, List.getElem?_set_ne (by omega), ← List.getD_eq_getElem?_getD]
  by_cases hb : 2912 ≤ j
  · rw [if_pos hb]
    by_cases hm : j - 2912 ∈ p.bs
    · rw [if_pos ⟨hb, hm⟩, if_pos hm]
    · rw [if_neg (fun h => hm h.2), if_neg hm, if_neg (by omega), if_neg (by omega), hset (by omega)]
  · rw [if_neg (fun h => hb h.1), if_neg hb]
    by_cases he : j = rowAt i
    · rw [if_pos he, if_neg (by omega), if_neg (by omega), he, List.getD_eq_getElem?_getD, List.getElem?_set_self (by rw [hl, rowAt]; omega)]
      rfl
    · rw [if_neg he, hset he]
      by_cases h4 : rowAt i + 1 ≤ j ∧ j < rowAt i + 1 + p.nm.length
      · rw [if_pos h4, if_pos h4, if_neg (by omega)]
      · rw [if_neg h4, if_neg h4]

theorem rows11_length : ∀ (t : Tab) (i : Nat) (l : List UInt8), l.length = 8192 → i + t.length ≤ 64 → (∀ p ∈ t, p.nm.length ≤ 40) → (rows11 t i l).length = 8192
  | [], i, l, hl, _, _ => hl
  | p :: r, i, l, hl, hi, hn => by
    rw [List.length_cons] at hi
    rw [rows11]
    exact rows11_length r (i + 1) _ (row11_length hl (by omega) (hn p (List.mem_cons_self ..))) (by omega) fun q hq => hn q (List.mem_cons_of_mem _ hq)

/-- Rows ahead stay. -/
theorem rows11_ahead : ∀ (t : Tab) (i : Nat) (l : List UInt8), l.length = 8192 → i + t.length ≤ 64 → (∀ p ∈ t, p.nm.length ≤ 40) → ∀ j, j < rowAt i → (rows11 t i l).getD j 0 = l.getD j 0
  | [], i, l, _, _, _, j, _ => rfl
  | p :: r, i, l, hl, hi, hn, j, hj => by
    have hn0 := hn p (List.mem_cons_self ..)
    rw [List.length_cons] at hi
    have hr : rowAt i + 45 ≤ 2912 := by rw [rowAt]; omega
    rw [rows11, rows11_ahead r (i + 1) _ (row11_length hl (by omega) hn0) (by omega) (fun q hq => hn q (List.mem_cons_of_mem _ hq)) j (by rw [rowAt] at hj ⊢; omega), row11_get hl (by omega) hn0 j (by omega), if_neg (by omega), if_neg (by omega), if_neg (by omega), if_neg (by omega)]

/-- Rows behind the last one stay. -/
theorem rows11_behind : ∀ (t : Tab) (i : Nat) (l : List UInt8), l.length = 8192 → i + t.length ≤ 64 → (∀ p ∈ t, p.nm.length ≤ 40) → ∀ j, rowAt (i + t.length) ≤ j → j < 2912 → (rows11 t i l).getD j 0 = l.getD j 0
  | [], i, l, _, _, _, j, _, _ => rfl
  | p :: r, i, l, hl, hi, hn, j, hj, hj2 => by
    have hn0 := hn p (List.mem_cons_self ..)
    rw [List.length_cons] at hi hj
    have hr : rowAt i + 45 ≤ j := by rw [rowAt] at hj ⊢; omega
    rw [rows11, rows11_behind r (i + 1) _ (row11_length hl (by omega) hn0) (by omega) (fun q hq => hn q (List.mem_cons_of_mem _ hq)) j (by rw [show i + 1 + r.length = i + (r.length + 1) by omega]; exact hj) hj2, row11_get hl (by omega) hn0 j (by omega), if_neg (by omega), if_neg (by omega), if_neg (by omega), if_neg (by omega)]

/-- What stands in row k. -/
theorem rows11_row : ∀ (t : Tab) (i : Nat) (l : List UInt8), l.length = 8192 → i + t.length ≤ 64 → (∀ p ∈ t, p.nm.length ≤ 40) → ∀ k, k < t.length → ∀ j, rowAt (i + k) ≤ j → j < rowAt (i + k) + 45 →
    (rows11 t i l).getD j 0 = if j = rowAt (i + k) then UInt8.ofNat (t.getD k default).nm.length
      else if j < rowAt (i + k) + 1 + (t.getD k default).nm.length then (t.getD k default).nm.getD (j - (rowAt (i + k) + 1)) 0
      else if rowAt (i + k) + 41 ≤ j then (le (t.getD k default).sz 4).getD (j - (rowAt (i + k) + 41)) 0
      else l.getD j 0
  | p :: r, i, l, hl, hi, hn, 0, _, j, h1, h2 => by
    have hn0 := hn p (List.mem_cons_self ..)
    rw [List.length_cons] at hi
    have hr : rowAt i + 45 ≤ 2912 := by rw [rowAt]; omega
    simp only [Nat.add_zero] at h1 h2 ⊢
    rw [rows11, rows11_ahead r (i + 1) _ (row11_length hl (by omega) hn0) (by omega) (fun q hq => hn q (List.mem_cons_of_mem _ hq)) j (by rw [rowAt] at h2 ⊢; omega), row11_get hl (by omega) hn0 j (by omega), if_neg (by omega)]
    show (if j = rowAt i then _ else _) = if j = rowAt i then UInt8.ofNat p.nm.length else if j < rowAt i + 1 + p.nm.length then p.nm.getD (j - (rowAt i + 1)) 0 else if rowAt i + 41 ≤ j then (le p.sz 4).getD (j - (rowAt i + 41)) 0 else l.getD j 0
    by_cases he : j = rowAt i
    · rw [if_pos he, if_pos he]
    · rw [if_neg he, if_neg he]
      by_cases h3 : j < rowAt i + 1 + p.nm.length
      · rw [if_pos ⟨by omega, h3⟩, if_pos h3]
      · rw [if_neg (fun h => h3 h.2), if_neg h3]
        by_cases h4 : rowAt i + 41 ≤ j
        · rw [if_pos ⟨h4, h2⟩, if_pos h4]
        · rw [if_neg (fun h => h4 h.1), if_neg h4]
  | p :: r, i, l, hl, hi, hn, k + 1, hk, j, h1, h2 => by
    have hn0 := hn p (List.mem_cons_self ..)
    rw [List.length_cons] at hi hk
    have e : i + (k + 1) = i + 1 + k := by omega
    rw [e] at h1 h2 ⊢
    have hr : rowAt i + 45 ≤ j := by rw [rowAt] at h1 ⊢; omega
    have hr2 : j < 2912 := by rw [rowAt] at h2; omega
    have e2 : (row11 i p l).getD j 0 = l.getD j 0 := by
      rw [row11_get hl (by omega) hn0 j (by omega), if_neg (by omega), if_neg (by omega), if_neg (by omega), if_neg (by omega)]
    rw [rows11, rows11_row r (i + 1) _ (row11_length hl (by omega) hn0) (by omega) (fun q hq => hn q (List.mem_cons_of_mem _ hq)) k (by omega) j h1 h2, e2]
    rfl

/-- The marks: the last file that has the block, or as it was. -/
theorem rows11_mark : ∀ (t : Tab) (i : Nat) (l : List UInt8), l.length = 8192 → i + t.length ≤ 64 → (∀ p ∈ t, p.nm.length ≤ 40) → (t.Pairwise fun p q => ∀ b ∈ p.bs, b ∉ q.bs) → ∀ b, b < 5280 →
    (∀ k, k < t.length → b ∈ (t.getD k default).bs → (rows11 t i l).getD (2912 + b) 0 = UInt8.ofNat (i + k + 1)) ∧ ((∀ p ∈ t, b ∉ p.bs) → (rows11 t i l).getD (2912 + b) 0 = l.getD (2912 + b) 0)
  | [], i, l, _, _, _, _, b, _ => ⟨fun k hk => absurd hk (Nat.not_lt_zero _), fun _ => rfl⟩
  | p :: r, i, l, hl, hi, hn, hp, b, hb => by
    have hn0 := hn p (List.mem_cons_self ..)
    obtain ⟨hp1, hp2⟩ := List.pairwise_cons.1 hp
    rw [List.length_cons] at hi
    have hrl := row11_length (p := p) hl (show i < 64 by omega) hn0
    have ih := rows11_mark r (i + 1) (row11 i p l) hrl (by omega) (fun q hq => hn q (List.mem_cons_of_mem _ hq)) hp2 b hb
    have hg := row11_get (p := p) hl (show i < 64 by omega) hn0 (2912 + b) (by omega)
    rw [if_pos (by omega), show 2912 + b - 2912 = b by omega] at hg
    rw [rows11]
    refine ⟨fun k hk hbk => ?_, fun hno => ?_⟩
    · match k with
      | 0 =>
        have hbp : b ∈ p.bs := hbk
        rw [ih.2 fun q hq hbq => hp1 q hq b hbp hbq, hg, if_pos hbp]
      | k + 1 =>
        rw [ih.1 k (by simpa using hk) hbk, show i + 1 + k + 1 = i + (k + 1) + 1 by omega]
    · rw [ih.2 fun q hq => hno q (List.mem_cons_of_mem _ hq), hg, if_neg (hno p (List.mem_cons_self ..))]

end Go.Proofs.YtphcbpfpelonaaaGreatDoor.M

namespace Go.Proofs.YtphcbpfpelonaaaGreatDoor.M
set_option linter.unusedVariables false

def rdN (m : List UInt8) (i : Nat) : Nat := (m.getD (rowAt i) 0).toNat
def rdNm (m : List UInt8) (i : Nat) : List UInt8 := (m.drop (rowAt i + 1)).take (rdN m i)
def rdSz (m : List UInt8) (i : Nat) : Nat := gl (m.drop (rowAt i + 41)) 4
def mark (m : List UInt8) (b : Nat) : Nat := (m.getD (2912 + b) 0).toNat

/-- The blocks below n that file i has. -/
def lst (n : Nat) (m : List UInt8) (i : Nat) : List Nat := (List.range n).filter fun b => mark m b == i + 1
def pls (n : Nat) (m : List UInt8) (c : Nat) : Tab := (List.range c).map fun i => ⟨rdNm m i, rdSz m i, lst n m i⟩

/-- So many rows ahead of the first one with no name. -/
structure IsCnt (m : List UInt8) (c : Nat) : Prop where
  le : c ≤ 64
  some : ∀ i, i < c → rdN m i ≠ 0
  none : c = 64 ∨ rdN m c = 0

structure Tells (n : Nat) (m : List UInt8) (c : Nat) : Prop where
  marks : ∀ b, b < n → mark m b ≤ c
  each : ∀ i, i < c → (rdNm m i).length ≤ 40 ∧ (lst n m i).length = need (rdSz m i)

theorem pls_length (n : Nat) (m : List UInt8) (c : Nat) : (pls n m c).length = c := by rw [pls, List.length_map, List.length_range]

theorem pls_get (n : Nat) (m : List UInt8) (c i : Nat) (hi : i < c) : (pls n m c).getD i default = ⟨rdNm m i, rdSz m i, lst n m i⟩ := by
  rw [pls, List.getD_eq_getElem?_getD, List.getElem?_map, List.getElem?_range hi]
  rfl

theorem mem_pls {n : Nat} {m : List UInt8} {c : Nat} {p : Pl} (h : p ∈ pls n m c) : ∃ i, i < c ∧ p = ⟨rdNm m i, rdSz m i, lst n m i⟩ := by
  rw [pls, List.mem_map] at h
  obtain ⟨i, hi, rfl⟩ := h
  exact ⟨i, List.mem_range.1 hi, rfl⟩

theorem mem_lst {n : Nat} {m : List UInt8} {i b : Nat} : b ∈ lst n m i ↔ b < n ∧ mark m b = i + 1 := by
  rw [lst, List.mem_filter, List.mem_range]
  simp

theorem lst_up (n : Nat) (m : List UInt8) (i : Nat) : (lst n m i).Pairwise (· < ·) := List.Pairwise.filter _ List.pairwise_lt_range

theorem puts_mem : ∀ (l s : Tab) (q : Pl), q ∈ l.foldl tput s → q ∈ s ∨ q ∈ l
  | [], s, q, h => .inl h
  | p :: r, s, q, h => by
    rcases puts_mem r (tput s p) q h with h | h
    · rcases (mem_tput s p q).1 h with rfl | h
      · exact .inr (List.mem_cons_self ..)
      · exact .inl h.1
    · exact .inr (List.mem_cons_of_mem _ h)

theorem puts_rise : ∀ (l s : Tab), Rising s → Rising (l.foldl tput s)
  | [], s, h => h
  | p :: r, s, h => puts_rise r (tput s p) (rising_tput h p)

theorem puts_few : ∀ (l s : Tab), (l.foldl tput s).length ≤ s.length + l.length
  | [], s => Nat.le_refl _
  | p :: r, s => by
    have h1 := puts_few r (tput s p)
    have h2 := tput_le s p
    rw [List.foldl_cons, List.length_cons]
    omega

/-- What is told is as it must be. -/
theorem told_ok {n c : Nat} {m : List UInt8} (hm : m.length = 8192) (hc : IsCnt m c) (ht : Tells n m c) (hn : n ≤ 2048) : TabOk n ((pls n m c).foldl tput []) := by
  have hmem : ∀ p ∈ (pls n m c).foldl tput [], ∃ i, i < c ∧ p = ⟨rdNm m i, rdSz m i, lst n m i⟩ := fun p hp => by
    rcases puts_mem _ _ _ hp with h | h
    · cases h
    · exact mem_pls h
  have hr : Rising ((pls n m c).foldl tput []) := puts_rise _ _ List.Pairwise.nil
  refine ⟨hr, ?_, fun p hp => ?_, fun p hp => ?_, fun p hp b hb => ?_, fun p hp => ?_, ?_, hn⟩
  · have := puts_few (pls n m c) []
    rw [pls_length] at this
    have := hc.le
    simp at *
    omega
  · obtain ⟨i, hi, rfl⟩ := hmem p hp
    refine ⟨?_, (ht.each i hi).1⟩
    have h0 := hc.some i hi
    have := hc.le
    rw [show (Pl.mk (rdNm m i) (rdSz m i) (lst n m i)).nm = rdNm m i from rfl, rdNm, List.length_take, List.length_drop, hm, rowAt]
    omega
  · obtain ⟨i, hi, rfl⟩ := hmem p hp
    exact (ht.each i hi).2
  · obtain ⟨i, hi, rfl⟩ := hmem p hp
    exact (mem_lst.1 hb).1
  · obtain ⟨i, hi, rfl⟩ := hmem p hp
    exact lst_up n m i
  · refine List.Pairwise.imp_of_mem ?_ hr
    intro p q hp hq hpq b hb hb2
    obtain ⟨i, hi, rfl⟩ := hmem p hp
    obtain ⟨j, hj, rfl⟩ := hmem q hq
    have h1 := (mem_lst.1 hb).2
    have h2 := (mem_lst.1 hb2).2
    have e : i = j := by omega
    subst e
    rw [WideAt.bytes_irrefl] at hpq
    cases hpq

theorem up_ext : ∀ {l k : List Nat}, l.Pairwise (· < ·) → k.Pairwise (· < ·) → (∀ b, b ∈ l ↔ b ∈ k) → l = k
  | [], [], _, _, _ => rfl
  | [], x :: k, _, _, h => absurd ((h x).2 (List.mem_cons_self ..)) (by simp)
  | x :: l, [], _, _, h => absurd ((h x).1 (List.mem_cons_self ..)) (by simp)
  | x :: l, y :: k, hl, hk, h => by
    obtain ⟨l1, l2⟩ := List.pairwise_cons.1 hl
    obtain ⟨k1, k2⟩ := List.pairwise_cons.1 hk
    have e : x = y := by
      rcases List.mem_cons.1 ((h x).1 (List.mem_cons_self ..)) with e | h1
      · exact e
      · rcases List.mem_cons.1 ((h y).2 (List.mem_cons_self ..)) with e | h2
        · exact e.symm
        · have := k1 x h1
          have := l1 y h2
          omega
    subst e
    rw [up_ext l2 k2 fun b => ⟨fun hb => ?_, fun hb => ?_⟩]
    · rcases List.mem_cons.1 ((h b).1 (List.mem_cons_of_mem _ hb)) with e | h1
      · have := l1 b hb
        omega
      · exact h1
    · rcases List.mem_cons.1 ((h b).2 (List.mem_cons_of_mem _ hb)) with e | h1
      · have := k1 b hb
        omega
      · exact h1

theorem TabOk.size {n : Nat} {t : Tab} (h : TabOk n t) : ∀ p ∈ t, p.sz < 4294967296 := fun p hp => by
  have h1 := h.len p hp
  have h2 := up_le (h.up p hp) (h.lt p hp)
  have h3 := h.n
  rw [need] at h1
  omega

theorem tbytes_get {n : Nat} {t : Tab} (h : TabOk n t) (j : Nat) (hj : 32 ≤ j) : (tbytes t).getD j 0 = (rows11 t 0 zeroMeta).getD j 0 := by
  rw [tbytes]
  split
  · rename_i e
    subst e
    rfl
  · have l1 := rows11_length t 0 zeroMeta zeroMeta_length (by have := h.few; omega) fun p hp => (h.nm p hp).2
    rw [lay11_get (by rw [sha_length, l1]; omega), if_neg (by rw [sha_length]; omega)]

theorem u8_small (n : Nat) (h : n < 256) : (UInt8.ofNat n).toNat = n := by
  rw [UInt8.toNat_ofNat']
  exact Nat.mod_eq_of_lt h

theorem getD_mem {t : Tab} {i : Nat} (hi : i < t.length) : t.getD i default ∈ t := by
  rw [List.getD_eq_getElem?_getD, List.getElem?_eq_getElem hi]
  exact List.getElem_mem _

theorem list_ext {a b : List UInt8} (hl : a.length = b.length) (h : ∀ i, i < a.length → a.getD i 0 = b.getD i 0) : a = b := by
  refine List.ext_getElem hl fun i h1 h2 => ?_
  have := h i h1
  rwa [List.getD_eq_getElem?_getD, List.getD_eq_getElem?_getD, List.getElem?_eq_getElem h1, List.getElem?_eq_getElem h2] at this

theorem tbytes_len {n : Nat} {t : Tab} (h : TabOk n t) : (tbytes t).length = 8192 := by
  rw [tbytes]
  split
  · exact zeroMeta_length
  · have l1 := rows11_length t 0 zeroMeta zeroMeta_length (by have := h.few; omega) fun p hp => (h.nm p hp).2
    rw [lay11_length (by rw [sha_length, l1]; omega), l1]

/-- The row of a file, read. -/
theorem told_row {n : Nat} {t : Tab} (h : TabOk n t) (i : Nat) (hi : i < t.length) : rdN (tbytes t) i = (t.getD i default).nm.length ∧ rdNm (tbytes t) i = (t.getD i default).nm ∧ rdSz (tbytes t) i = (t.getD i default).sz := by
  have hm := getD_mem hi
  have hn : ∀ p ∈ t, p.nm.length ≤ 40 := fun p hp => (h.nm p hp).2
  have hi64 : i < 64 := Nat.lt_of_lt_of_le hi h.few
  have h40 := hn _ hm
  have hrow := rows11_row t 0 zeroMeta zeroMeta_length (by have := h.few; omega) hn i hi
  rw [Nat.zero_add] at hrow
  have hg : ∀ j, rowAt i ≤ j → j < rowAt i + 45 → (tbytes t).getD j 0 = _ := fun j h1 h2 => (tbytes_get h j (by rw [rowAt] at h1; omega)).trans (hrow j h1 h2)
  have e1 : rdN (tbytes t) i = (t.getD i default).nm.length := by
    rw [rdN, hg (rowAt i) (Nat.le_refl _) (by omega), if_pos rfl, u8_small _ (by omega)]
  have hl := tbytes_len h
  refine ⟨e1, ?_, ?_⟩
  · have hlen : ((tbytes t).drop (rowAt i + 1)).length ≥ 40 := by rw [List.length_drop, hl, rowAt]; omega
    refine list_ext (by rw [rdNm, List.length_take, e1]; omega) fun k hk => ?_
    have hk2 : k < (t.getD i default).nm.length := by rw [rdNm, List.length_take, e1] at hk; omega
    rw [rdNm, List.getD_eq_getElem?_getD, List.getElem?_take, if_pos (by rw [e1]; exact hk2), List.getElem?_drop, ← List.getD_eq_getElem?_getD, hg (rowAt i + 1 + k) (by omega) (by omega), if_neg (by omega), if_pos (by omega), show rowAt i + 1 + k - (rowAt i + 1) = k by omega]
  · refine (gl_same _ (le (t.getD i default).sz 4) 4 fun k hk => ?_).trans (gl_of_le _ 4 (by have := h.size _ hm; rw [show (256 : Nat) ^ 4 = 4294967296 from rfl]; exact this))
    rw [List.getD_eq_getElem?_getD, List.getElem?_drop, ← List.getD_eq_getElem?_getD, hg (rowAt i + 41 + k) (by omega) (by omega), if_neg (by omega), if_neg (by omega), if_pos (by omega), show rowAt i + 41 + k - (rowAt i + 41) = k by omega]

theorem told_cnt {n c : Nat} {t : Tab} (h : TabOk n t) (hc : IsCnt (tbytes t) c) : c = t.length := by
  have h64 := h.few
  by_cases h1 : c < t.length
  · have h2 := (told_row h c h1).1
    have h3 := (h.nm _ (getD_mem h1)).1
    rcases hc.none with h4 | h4
    · omega
    · omega
  · by_cases h5 : t.length < c
    · have h6 := hc.some t.length h5
      have h7 := hc.le
      refine absurd ?_ h6
      rw [rdN, tbytes_get h _ (by rw [rowAt]; omega), rows11_behind t 0 zeroMeta zeroMeta_length (by omega) (fun p hp => (h.nm p hp).2) _ (by rw [Nat.zero_add]; exact Nat.le_refl _) (by rw [rowAt]; omega), zeroMeta_get]
      rfl
    · omega

theorem told_mark {n : Nat} {t : Tab} (h : TabOk n t) (b : Nat) (hb : b < n) : (∀ k, k < t.length → b ∈ (t.getD k default).bs → mark (tbytes t) b = k + 1) ∧ ((∀ p ∈ t, b ∉ p.bs) → mark (tbytes t) b = 0) := by
  have hn := h.n
  have h64 := h.few
  have hmk := rows11_mark t 0 zeroMeta zeroMeta_length (by omega) (fun p hp => (h.nm p hp).2) h.apart b (by omega)
  refine ⟨fun k hk hbk => ?_, fun hno => ?_⟩
  · rw [mark, tbytes_get h _ (by omega), hmk.1 k hk hbk, Nat.zero_add, u8_small _ (by omega)]
  · rw [mark, tbytes_get h _ (by omega), hmk.2 hno, zeroMeta_get]
    rfl

/-- What a table makes is read as that table. -/
theorem told_back {n c : Nat} {t : Tab} (h : TabOk n t) (hc : IsCnt (tbytes t) c) : Tells n (tbytes t) c ∧ pls n (tbytes t) c = t := by
  have e := told_cnt h hc
  subst e
  have hmk : ∀ b, b < n → ∀ i, mark (tbytes t) b = i + 1 ↔ ∃ hi : i < t.length, b ∈ (t.getD i default).bs := fun b hb i => by
    have hm := told_mark h b hb
    constructor
    · intro e
      by_cases hex : ∃ k, ∃ hk : k < t.length, b ∈ (t.getD k default).bs
      · obtain ⟨k, hk, hbk⟩ := hex
        have := hm.1 k hk hbk
        have e2 : k = i := by omega
        subst e2
        exact ⟨hk, hbk⟩
      · have := hm.2 fun p hp hbp => by
          obtain ⟨k, hk, rfl⟩ := List.getElem_of_mem hp
          refine hex ⟨k, hk, ?_⟩
          rw [List.getD_eq_getElem?_getD, List.getElem?_eq_getElem hk]
          exact hbp
        omega
    · rintro ⟨hi, hb2⟩
      exact hm.1 i hi hb2
  have hlst : ∀ i, i < t.length → lst n (tbytes t) i = (t.getD i default).bs := fun i hi => by
    refine up_ext (lst_up _ _ _) (h.up _ (getD_mem hi)) fun b => ?_
    rw [mem_lst]
    constructor
    · rintro ⟨h1, h2⟩
      exact ((hmk b h1 i).1 h2).2
    · intro hb
      have h1 := h.lt _ (getD_mem hi) b hb
      exact ⟨h1, (hmk b h1 i).2 ⟨hi, hb⟩⟩
  refine ⟨⟨fun b hb => ?_, fun i hi => ?_⟩, ?_⟩
  · cases hv : mark (tbytes t) b with
    | zero => omega
    | succ i =>
      obtain ⟨hi, _⟩ := (hmk b hb i).1 hv
      omega
  · have hm := getD_mem hi
    rw [(told_row h i hi).2.1, hlst i hi, (told_row h i hi).2.2]
    exact ⟨(h.nm _ hm).2, h.len _ hm⟩
  · refine List.ext_getElem (pls_length _ _ _) fun i h1 h2 => ?_
    have e1 := pls_get n (tbytes t) t.length i h2
    rw [List.getD_eq_getElem?_getD, List.getElem?_eq_getElem h1, (told_row h i h2).2.1, (told_row h i h2).2.2, hlst i h2] at e1
    rw [List.getD_eq_getElem?_getD, List.getElem?_eq_getElem h2] at e1
    exact e1

/-- A table that makes the bytes: they tell of it. -/
theorem told_iff {n c : Nat} {m : List UInt8} (hm : m.length = 8192) (hc : IsCnt m c) (hn : n ≤ 2048) (t : Tab) (h : TabOk n t) (e : tbytes t = m) : Tells n m c ∧ t = (pls n m c).foldl tput [] := by
  subst e
  obtain ⟨h1, h2⟩ := told_back h hc
  refine ⟨h1, ?_⟩
  rw [h2, puts_rising t [] (by simpa using h.rise)]
  rfl

end Go.Proofs.YtphcbpfpelonaaaGreatDoor.M
