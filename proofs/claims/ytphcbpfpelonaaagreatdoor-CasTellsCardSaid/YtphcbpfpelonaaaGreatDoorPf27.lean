/-
  PLAIN MATHEMATICS OF A COMMIT THAT MAY BE DONE: the table behind it is as it must be. Nothing of the program. Conditions: none.
  PLAIN MATHEMATICS OF A COMMIT THAT MAY BE DONE: what put and the journal ask of the table behind it. Nothing of the program. Conditions: none.
  PLAIN MATHEMATICS OF THE DOCUMENT'S FILES: a list of files by rising names, and what changes make of it; tables of where files lie say the same. Nothing of the program. Conditions: none.
-/
import Derived.Test.YtphcbpfpelonaaaGreatDoorFileV

namespace Go.Proofs.YtphcbpfpelonaaaGreatDoor.M
set_option linter.unusedVariables false

theorem has_iff (t : Tab) (k : List UInt8) : has t k = true ↔ ∃ p ∈ t, p.nm = k := by
  rw [has, List.any_eq_true]
  simp

theorem has_tdel (t : Tab) (k x : List UInt8) (h : x ≠ k) : has (tdel t k) x = has t x := by
  rw [Bool.eq_iff_iff, has_iff, has_iff]
  constructor
  · rintro ⟨p, hp, e⟩
    exact ⟨p, ((mem_tdel t k p).1 hp).1, e⟩
  · rintro ⟨p, hp, e⟩
    exact ⟨p, (mem_tdel t k p).2 ⟨hp, by rw [e]; exact h⟩, e⟩

theorem has_tput (t : Tab) (q : Pl) (x : List UInt8) (h : x ≠ q.nm) : has (tput t q) x = has t x := by
  rw [Bool.eq_iff_iff, has_iff, has_iff]
  constructor
  · rintro ⟨p, hp, e⟩
    rcases (mem_tput t q p).1 hp with rfl | hp
    · exact absurd e.symm h
    · exact ⟨p, hp.1, e⟩
  · rintro ⟨p, hp, e⟩
    exact ⟨p, (mem_tput t q p).2 (.inr ⟨hp, by rw [e]; exact h⟩), e⟩

theorem tdel_none (t : Tab) (k : List UInt8) (h : has t k = false) : tdel t k = t := List.filter_eq_self.2 fun q hq => by
  have : q.nm ≠ k := fun e => by
    have := (has_iff t k).2 ⟨q, hq, e⟩
    rw [h] at this
    cases this
  simpa using this

theorem tdel_len : ∀ (t : Tab) (k : List UInt8), Rising t → has t k = true → (tdel t k).length + 1 = t.length
  | [], k, _, h => by simp [has] at h
  | p :: r, k, hr, h => by
    obtain ⟨h1, h2⟩ := List.pairwise_cons.1 hr
    by_cases e : p.nm = k
    · have hn : has r k = false := by
        rw [← Bool.not_eq_true, has_iff]
        rintro ⟨q, hq, e2⟩
        have := h1 q hq
        rw [e, e2, WideAt.bytes_irrefl] at this
        cases this
      have e2 : tdel (p :: r) k = tdel r k := by rw [tdel, List.filter_cons_of_neg (by simp [e])]; rfl
      rw [e2, tdel_none r k hn, List.length_cons]
    · have e2 : tdel (p :: r) k = p :: tdel r k := by rw [tdel, List.filter_cons_of_pos (by simp [e])]; rfl
      have h3 : has r k = true := by
        rw [has_iff] at h ⊢
        obtain ⟨q, hq, e3⟩ := h
        rcases List.mem_cons.1 hq with rfl | hq
        · exact absurd e3 e
        · exact ⟨q, hq, e3⟩
      have := tdel_len r k h2 h3
      rw [e2, List.length_cons, List.length_cons]
      omega

theorem chgN_rise (fr : List Nat) {t : Tab} (ht : Rising t) (l : FL) : ∀ k, k ≤ l.length → Rising (chgN fr t (l.take k)).1
  | 0, _ => ht
  | k + 1, h => by
    have ih := chgN_rise fr ht l k (by omega)
    rw [chgN_next fr t l k (by omega), chgS]
    split
    · exact rising_tdel ih _
    · exact rising_tput ih _

/-- The place of a file that change i brings. -/
def newPl (fr : List Nat) (l : FL) (i : Nat) : Pl := ⟨(l.getD i default).nm, (l.getD i default).data.length, (fr.drop (blkN (l.take i))).take (need (l.getD i default).data.length)⟩

/-- What is there behind k changes. -/
theorem chgN_mem (fr : List Nat) (t : Tab) (l : FL) : ∀ k, k ≤ l.length → ∀ p ∈ (chgN fr t (l.take k)).1, p ∈ t ∨ ∃ i, i < k ∧ (l.getD i default).gone = false ∧ p = newPl fr l i
  | 0, _, p, hp => .inl hp
  | k + 1, h, p, hp => by
    have ih := chgN_mem fr t l k (by omega)
    rw [chgN_next fr t l k (by omega), chgS] at hp
    have old : p ∈ (chgN fr t (l.take k)).1 → p ∈ t ∨ ∃ i, i < k + 1 ∧ (l.getD i default).gone = false ∧ p = newPl fr l i := fun hp => by
      rcases ih p hp with h1 | ⟨i, h1, h2⟩
      · exact .inl h1
      · exact .inr ⟨i, by omega, h2⟩
    split at hp
    · exact old ((mem_tdel _ _ p).1 hp).1
    · rename_i hg
      rcases (mem_tput _ _ p).1 hp with e | hp
      · rw [chgN_blk fr t l k (by omega)] at e
        exact .inr ⟨k, by omega, by simpa using hg, e⟩
      · exact old hp.1

theorem chgN_has (fr : List Nat) (t : Tab) (l : FL) (x : List UInt8) : ∀ k, k ≤ l.length → (∀ i, i < k → (l.getD i default).nm ≠ x) → has (chgN fr t (l.take k)).1 x = has t x
  | 0, _, _ => rfl
  | k + 1, h, hx => by
    have ih := chgN_has fr t l x k (by omega) fun i hi => hx i (by omega)
    have hk := hx k (by omega)
    rw [chgN_next fr t l k (by omega), chgS]
    split
    · rw [has_tdel _ _ _ (Ne.symm hk), ih]
    · rw [has_tput _ _ _ (Ne.symm hk), ih]

theorem names_ne {l : FL} (h : NamesOk l) {i k : Nat} (hk : k < l.length) (hi : i < k) : (l.getD i default).nm ≠ (l.getD k default).nm := by
  have h2 := h.2
  rw [List.Nodup, List.pairwise_map, List.pairwise_iff_getElem] at h2
  have := h2 i k (by omega) hk hi
  simpa [List.getD_eq_getElem?_getD, hk, show i < l.length by omega] using this

/-- may counts right. -/
theorem chgN_cnt (fr : List Nat) {t : Tab} (ht : Rising t) {l : FL} (hn : NamesOk l) (ha : AllThere t l) : ∀ k, k ≤ l.length → (((chgN fr t (l.take k)).1.length : Nat) : Int) = cntN t (l.take k)
  | 0, _ => rfl
  | k + 1, h => by
    have ih := chgN_cnt fr ht hn ha k (by omega)
    have hr := chgN_rise fr ht l k (by omega)
    have hh := chgN_has fr t l (l.getD k default).nm k (by omega) fun i hi => names_ne hn (by omega) hi
    have hb := ha k (by omega)
    rw [chgN_next fr t l k (by omega), cntN_next t l k (by omega), chgS, cntS]
    by_cases hg : (l.getD k default).gone = true
    · rw [if_pos hg, if_pos hg]
      rw [bad, hg, Bool.true_and] at hb
      have h1 : has t (l.getD k default).nm = true := by simpa using hb
      have := tdel_len _ _ hr (hh.trans h1)
      show (((tdel (chgN fr t (l.take k)).1 (l.getD k default).nm).length : Nat) : Int) = _
      omega
    · rw [if_neg hg, if_neg hg]
      show (((tput (chgN fr t (l.take k)).1 _).length : Nat) : Int) = _
      rw [tput, length_ins]
      by_cases h1 : has t (l.getD k default).nm = true
      · have := tdel_len _ _ hr (hh.trans h1)
        rw [if_pos h1]
        show (((tdel (chgN fr t (l.take k)).1 (l.getD k default).nm).length + 1 : Nat) : Int) = _
        omega
      · have h2 : has t (l.getD k default).nm = false := by simpa using h1
        have := tdel_none _ _ (hh.trans h2)
        rw [if_neg h1]
        show (((tdel (chgN fr t (l.take k)).1 (l.getD k default).nm).length + 1 : Nat) : Int) = _
        rw [this]
        omega

theorem mem_seg {fr : List Nat} {d m b : Nat} (h : b ∈ (fr.drop d).take m) : ∃ x, d ≤ x ∧ x < d + m ∧ fr[x]? = some b := by
  obtain ⟨x, hx, e⟩ := List.getElem_of_mem h
  rw [List.getElem_take, List.getElem_drop] at e
  rw [List.length_take, List.length_drop] at hx
  exact ⟨d + x, by omega, by omega, by rw [List.getElem?_eq_getElem (by omega), e]⟩

theorem up_at {fr : List Nat} (h : fr.Pairwise (· < ·)) {x y b : Nat} (hx : fr[x]? = some b) (hy : fr[y]? = some b) : x = y := by
  rw [List.pairwise_iff_getElem] at h
  obtain ⟨x1, x2⟩ := List.getElem?_eq_some_iff.1 hx
  obtain ⟨y1, y2⟩ := List.getElem?_eq_some_iff.1 hy
  rcases Nat.lt_trichotomy x y with e | e | e
  · have := h x y x1 y1 e
    omega
  · exact e
  · have := h y x y1 x1 e
    omega

theorem blkN_le_of (l : FL) {a b : Nat} (h : a ≤ b) : blkN (l.take a) ≤ blkN (l.take b) := by
  have := blkN_take (l.take b) a
  rwa [List.take_take, Nat.min_eq_left h] at this

theorem fmay_zero {n : Nat} {t : Tab} {l : FL} (h : fmay n t l = 0) : NamesOk l ∧ AllThere t l ∧ cntN t l ≤ 64 ∧ blkN l ≤ (free n t).length := by
  rw [fmay] at h
  by_cases h1 : NamesOk l
  · rw [if_neg (by simpa using h1)] at h
    by_cases h2 : AllThere t l
    · rw [if_neg (by simpa using h2)] at h
      by_cases h3 : 64 < cntN t l
      · rw [if_pos h3] at h; cases h
      · rw [if_neg h3] at h
        by_cases h4 : (free n t).length < blkN l
        · rw [if_pos h4] at h; cases h
        · exact ⟨h1, h2, by omega, by omega⟩
    · rw [if_pos h2] at h; cases h
  · rw [if_pos h1] at h; cases h

theorem seg_len {n : Nat} {t : Tab} {l : FL} (hb : blkN l ≤ (free n t).length) {i : Nat} (hi : i < l.length) (hg : (l.getD i default).gone = false) : blkN (l.take i) + need (l.getD i default).data.length = blkN (l.take (i + 1)) ∧ blkN (l.take (i + 1)) ≤ (free n t).length := by
  refine ⟨?_, Nat.le_trans (blkN_take l (i + 1)) hb⟩
  rw [blkN_next l i hi, blkS, hg]
  simp

theorem apart_of {n : Nat} {t : Tab} (h : TabOk n t) {p q : Pl} (hp : p ∈ t) (hq : q ∈ t) (hne : p.nm ≠ q.nm) : ∀ b ∈ p.bs, b ∉ q.bs := by
  have ha := h.apart
  rw [List.pairwise_iff_getElem] at ha
  obtain ⟨i, hi, rfl⟩ := List.getElem_of_mem hp
  obtain ⟨j, hj, rfl⟩ := List.getElem_of_mem hq
  intro b hb hb2
  rcases Nat.lt_trichotomy i j with e | e | e
  · exact ha i j hi hj e b hb hb2
  · subst e
    exact hne rfl
  · exact ha j i hj hi e b hb2 hb

/-- Behind changes that may be done the table is as it must be. -/
theorem chg_ok {n : Nat} {t : Tab} {l : FL} (ok : TabOk n t) (h : fmay n t l = 0) : TabOk n (chgN (free n t) t l).1 := by
  obtain ⟨hn, ha, hc, hb⟩ := fmay_zero h
  have e : l.take l.length = l := List.take_length
  have hmem := chgN_mem (free n t) t l l.length (Nat.le_refl _)
  have hr := chgN_rise (free n t) ok.rise l l.length (Nat.le_refl _)
  have hcnt := chgN_cnt (free n t) ok.rise hn ha l.length (Nat.le_refl _)
  rw [e] at hmem hr hcnt
  have hfree : ∀ {i b : Nat}, b ∈ (newPl (free n t) l i).bs → b ∈ free n t := fun hb => List.mem_of_mem_drop (List.mem_of_mem_take hb)
  have hgl : ∀ {i : Nat}, i < l.length → l.getD i default ∈ l := fun hi => by rw [List.getD_eq_getElem?_getD, List.getElem?_eq_getElem hi]; exact List.getElem_mem _
  have hold : ∀ {p : Pl} {i : Nat}, p ∈ t → ∀ b ∈ p.bs, b ∉ (newPl (free n t) l i).bs := fun {p i} hp b hb1 hb2 => by
    have h1 := (free_lt (hfree hb2)).2
    have h2 : takes t b = true := List.any_eq_true.2 ⟨p, hp, List.contains_iff_mem.2 hb1⟩
    rw [h1] at h2
    cases h2
  have hsegs : ∀ {i j : Nat}, i < j → j < l.length → (l.getD i default).gone = false → ∀ b ∈ (newPl (free n t) l i).bs, b ∉ (newPl (free n t) l j).bs := fun {i j} hij hj hgi b h1 h2 => by
    obtain ⟨x, x1, x2, x3⟩ := mem_seg h1
    obtain ⟨y, y1, y2, y3⟩ := mem_seg h2
    have h3 := up_at (free_up n t) x3 y3
    have h4 := (seg_len hb (show i < l.length by omega) hgi).1
    have h5 := blkN_le_of l (show i + 1 ≤ j by omega)
    omega
  refine ⟨hr, by omega, fun p hp => ?_, fun p hp => ?_, fun p hp b hbp => ?_, fun p hp => ?_, ?_, ok.n⟩
  · rcases hmem p hp with h1 | ⟨i, hi, hg, rfl⟩
    · exact ok.nm p h1
    · exact hn.1 _ (hgl hi)
  · rcases hmem p hp with h1 | ⟨i, hi, hg, rfl⟩
    · exact ok.len p h1
    · have h2 := seg_len hb hi hg
      show ((free n t).drop _ |>.take _).length = need (l.getD i default).data.length
      rw [List.length_take, List.length_drop]
      omega
  · rcases hmem p hp with h1 | ⟨i, hi, hg, rfl⟩
    · exact ok.lt p h1 b hbp
    · exact (free_lt (hfree hbp)).1
  · rcases hmem p hp with h1 | ⟨i, hi, hg, rfl⟩
    · exact ok.up p h1
    · exact (free_up n t).sublist ((List.take_sublist _ _).trans (List.drop_sublist _ _))
  · refine List.Pairwise.imp_of_mem ?_ hr
    intro p q hp hq hpq
    have hne : p.nm ≠ q.nm := fun e => by
      rw [e, WideAt.bytes_irrefl] at hpq
      cases hpq
    rcases hmem p hp with h1 | ⟨i, hi, hg, rfl⟩
    · rcases hmem q hq with h2 | ⟨j, hj, hg2, rfl⟩
      · exact apart_of ok h1 h2 hne
      · exact hold h1
    · rcases hmem q hq with h2 | ⟨j, hj, hg2, rfl⟩
      · exact fun b hb1 hb2 => hold h2 b hb2 hb1
      · rcases Nat.lt_trichotomy i j with e | e | e
        · exact hsegs e hj hg
        · subst e
          exact absurd rfl hne
        · exact fun b hb1 hb2 => hsegs e hi hg2 b hb2 hb1

end Go.Proofs.YtphcbpfpelonaaaGreatDoor.M

namespace Go.Proofs.YtphcbpfpelonaaaGreatDoor
set_option linter.unusedVariables false

namespace M
theorem new_in (fr : List Nat) (t : Tab) {l : FL} (hn : NamesOk l) {i : Nat} (hi : i < l.length) (hg : (l.getD i default).gone = false) : ∀ k, i < k → k ≤ l.length → newPl fr l i ∈ (chgN fr t (l.take k)).1
  | k + 1, hik, h => by
    rw [chgN_next fr t l k (by omega), chgS]
    by_cases e : i = k
    · subst e
      rw [if_neg (by rw [hg]; decide), chgN_blk fr t l i (by omega)]
      exact (mem_tput _ _ _).2 (.inl rfl)
    · have ih := new_in fr t hn hi hg k (by omega) (by omega)
      have hne := names_ne hn (show k < l.length by omega) (show i < k by omega)
      split
      · exact (mem_tdel _ _ _).2 ⟨ih, hne⟩
      · exact (mem_tput _ _ _).2 (.inr ⟨ih, hne⟩)

theorem bsOf_at {t : Tab} (hr : Rising t) {p : Pl} (hp : p ∈ t) : bsOf t p.nm = p.bs := by
  rw [bsOf]
  cases hf : t.find? fun q => q.nm == p.nm with
  | none =>
    have := List.find?_eq_none.1 hf p hp
    simp at this
  | some q =>
    have h1 := List.mem_of_find?_eq_some hf
    have h2 : q.nm = p.nm := by have := List.find?_some hf; simpa using this
    have h3 := rising_ne hr
    rw [List.pairwise_map, List.pairwise_iff_getElem] at h3
    obtain ⟨i, hi, rfl⟩ := List.getElem_of_mem hp
    obtain ⟨j, hj, rfl⟩ := List.getElem_of_mem h1
    have e : i = j := by
      rcases Nat.lt_trichotomy i j with e | e | e
      · exact absurd h2.symm (h3 i j hi hj e)
      · exact e
      · exact absurd h2 (h3 j i hj hi e)
    subst e
    rfl

/-- What put asks. -/
theorem put_fits {n N : Nat} {t : Tab} {l : FL} (ok : TabOk n t) (h : fmay n t l = 0) (hN : n + 74 ≤ N) : PutFits N (chgN (free n t) t l).1 l := by
  obtain ⟨hn, ha, hc, hb⟩ := fmay_zero h
  have hok := chg_ok ok h
  have e : l.take l.length = l := List.take_length
  intro c hcl hg
  obtain ⟨i, hi, rfl⟩ := List.getElem_of_mem hcl
  have ei : l.getD i default = l[i] := by rw [List.getD_eq_getElem?_getD, List.getElem?_eq_getElem hi]; rfl
  rw [← ei] at hg ⊢
  have hin := new_in (free n t) t hn hi hg l.length hi (Nat.le_refl _)
  rw [e] at hin
  obtain ⟨j, hj, ej⟩ := List.getElem_of_mem hin
  have ej2 : (chgN (free n t) t l).1.getD j default = newPl (free n t) l i := by rw [List.getD_eq_getElem?_getD, List.getElem?_eq_getElem hj]; exact ej
  refine ⟨j, hj, by rw [ej2]; rfl, ?_, ?_, fun b hbb => ?_⟩
  · rw [ej2]
    exact bsOf_at hok.rise hin
  · rw [ej2]
    exact hok.len _ hin
  · rw [ej2] at hbb
    have := hok.lt _ hin b hbb
    omega

theorem chkB_length {bs : List UInt8} (h : bs.length = 8192) {c : Nat} (hc : c < 32) : (chkB bs c).length = 256 := by
  rw [chkB, List.length_take, List.length_drop, h]
  omega

/-- What the journal asks. -/
theorem meta_may {n N : Nat} {t : Tab} (ok : TabOk n t) (hN : 74 < N) : May (N - 42) (metaCL t) := by
  rw [may_iff]
  refine ⟨by rw [metaCL, cls_length, List.length_range]; omega, fun i hi => ?_⟩
  rw [metaCL, cls_length, List.length_range] at hi
  rw [metaCL, cls_get _ _ _ (by rw [List.length_range]; exact hi), Fits]
  have e2 : (List.range 32).getD i 0 = i := by rw [List.getD_eq_getElem?_getD, List.getElem?_range hi]; rfl
  rw [e2]
  refine ⟨?_, ?_, chkB_length (tbytes_len ok) hi⟩
  · show (0 : Int) ≤ (i : Int)
    omega
  · show (i : Int) < ((N - 42 : Nat) : Int)
    omega
end M

end Go.Proofs.YtphcbpfpelonaaaGreatDoor

namespace Go.Proofs.YtphcbpfpelonaaaGreatDoor.M
set_option linter.unusedVariables false

/-- A file. -/
structure Fil where
  nm : List UInt8
  data : List UInt8
abbrev Fs := List Fil
instance : Inhabited Fil := ⟨⟨[], []⟩⟩

/-- Where a file stands; behind all: nowhere. -/
def atF (F : Fs) (k : List UInt8) : Nat := F.findIdx fun q => q.nm == k
def hasF (F : Fs) (k : List UInt8) : Bool := F.any fun q => q.nm == k
def fdrop (F : Fs) (k : List UInt8) : Fs := F.take (atF F k) ++ F.drop (atF F k + 1)
def lessF (F : Fs) (k : List UInt8) : Nat := F.findIdx fun q => !bytesBefore q.nm k
def fput (F : Fs) (k b : List UInt8) : Fs := (fdrop F k).take (lessF (fdrop F k) k) ++ ⟨k, b⟩ :: (fdrop F k).drop (lessF (fdrop F k) k)
def fstep (F : Fs) (c : FC) : Fs := if c.gone = true then fdrop F c.nm else fput F c.nm c.data
def fapply (F : Fs) (l : FL) : Fs := l.foldl fstep F
def freeF (n : Int) (F : Fs) : Int := F.foldl (fun a q => a - ((need q.data.length : Nat) : Int)) n
def badF (F : Fs) (c : FC) : Bool := c.gone && !hasF F c.nm
def AllF (F : Fs) (l : FL) : Prop := ∀ i, i < l.length → badF F (l.getD i default) = false
noncomputable instance (F : Fs) (l : FL) : Decidable (AllF F l) := Classical.propDecidable _

/-- What the document's Commit answers. -/
noncomputable def fcode (n : Int) (F : Fs) (l : FL) : Int :=
  if ¬ NamesOk l then 1 else if ¬ AllF F l then 4 else if 64 < (fapply F l).length then 3 else if freeF n F < ((blkN l : Nat) : Int) then 2 else 0

theorem fapply_next (F : Fs) (l : FL) (k : Nat) (hk : k < l.length) : fapply F (l.take (k + 1)) = fstep (fapply F (l.take k)) (l.getD k default) := by
  rw [fapply, List.take_add_one, List.getElem?_eq_getElem hk, List.foldl_append, List.getD_eq_getElem?_getD, List.getElem?_eq_getElem hk]
  rfl

/-- A table's files, D telling the bytes. -/
def img (D : Pl → List UInt8) (p : Pl) : Fil := ⟨p.nm, D p⟩

theorem hasF_img (D : Pl → List UInt8) (t : Tab) (k : List UInt8) : hasF (t.map (img D)) k = has t k := by
  rw [hasF, has, List.any_map]
  rfl

theorem atF_img (D : Pl → List UInt8) (t : Tab) (k : List UInt8) : atF (t.map (img D)) k = t.findIdx fun p => p.nm == k := by
  rw [atF, List.findIdx_map]
  rfl

theorem tdel_idx : ∀ (t : Tab) (k : List UInt8), Rising t → tdel t k = t.take (t.findIdx fun p => p.nm == k) ++ t.drop ((t.findIdx fun p => p.nm == k) + 1)
  | [], k, _ => rfl
  | p :: r, k, h => by
    obtain ⟨h1, h2⟩ := List.pairwise_cons.1 h
    rw [List.findIdx_cons]
    by_cases e : p.nm = k
    · have hb : (p.nm == k) = true := by simpa using e
      have hn : has r k = false := by
        cases hh : has r k with
        | false => rfl
        | true =>
          obtain ⟨q, hq, hqk⟩ := (has_iff r k).1 hh
          have := h1 q hq
          rw [hqk, e, WideAt.bytes_irrefl] at this
          cases this
      have e2 : tdel (p :: r) k = tdel r k := by
        rw [tdel, List.filter_cons, if_neg (by rw [hb]; decide)]
        rfl
      rw [e2, tdel_none r k hn, hb]
      rfl
    · have hb : (p.nm == k) = false := by simpa using e
      have e2 : tdel (p :: r) k = p :: tdel r k := by
        rw [tdel, List.filter_cons, if_pos (by rw [hb]; decide)]
        rfl
      rw [e2, tdel_idx r k h2, hb]
      rfl

theorem tdel_img (D : Pl → List UInt8) {t : Tab} (h : Rising t) (k : List UInt8) : (tdel t k).map (img D) = fdrop (t.map (img D)) k := by
  rw [tdel_idx t k h, fdrop, atF_img, List.map_append, List.map_take, List.map_drop]

theorem ins_idx (p : Pl) : ∀ t : Tab, (∀ q ∈ t, q.nm ≠ p.nm) → ins p t = t.take (t.findIdx fun q => !bytesBefore q.nm p.nm) ++ p :: t.drop (t.findIdx fun q => !bytesBefore q.nm p.nm)
  | [], _ => rfl
  | x :: r, h => by
    rw [List.findIdx_cons, ins]
    by_cases hb : bytesBefore p.nm x.nm = true
    · have hx : bytesBefore x.nm p.nm = false := by
        cases hh : bytesBefore x.nm p.nm with
        | false => rfl
        | true =>
          have := WideShapes.bytes_trans _ _ _ hb hh
          rw [WideAt.bytes_irrefl] at this
          cases this
      rw [if_pos hb, hx]
      rfl
    · have hx : bytesBefore x.nm p.nm = true := by
        rcases WideAt.bytes_total p.nm x.nm (h x (List.mem_cons_self ..)).symm with h | h
        · exact absurd h hb
        · exact h
      rw [if_neg hb, hx, ins_idx p r fun q hq => h q (List.mem_cons_of_mem _ hq)]
      rfl

theorem lessF_img (D : Pl → List UInt8) (t : Tab) (k : List UInt8) : lessF (t.map (img D)) k = t.findIdx fun q => !bytesBefore q.nm k := by
  rw [lessF, List.findIdx_map]
  rfl

theorem tput_img (D : Pl → List UInt8) {t : Tab} (h : Rising t) (p : Pl) : (tput t p).map (img D) = fput (t.map (img D)) p.nm (D p) := by
  rw [tput, ins_idx p _ fun q hq => ((mem_tdel t p.nm q).1 hq).2, fput, ← tdel_img D h, lessF_img, List.map_append, List.map_cons, List.map_take, List.map_drop]
  rfl

/-- The files behind changes, where D tells of the new ones what they are to have. -/
theorem fapply_img (fr : List Nat) (D : Pl → List UInt8) {t : Tab} (h : Rising t) (l : FL) (hD : ∀ i, i < l.length → (l.getD i default).gone = false → D (newPl fr l i) = (l.getD i default).data) :
    ∀ k, k ≤ l.length → (chgN fr t (l.take k)).1.map (img D) = fapply (t.map (img D)) (l.take k)
  | 0, _ => rfl
  | k + 1, hk => by
    have ih := fapply_img fr D h l hD k (by omega)
    have hr := chgN_rise fr h l k (by omega)
    rw [chgN_next fr t l k (by omega), fapply_next _ l k (by omega), ← ih, chgS, fstep]
    by_cases hg : (l.getD k default).gone = true
    · rw [if_pos hg, if_pos hg]
      exact tdel_img D hr _
    · rw [if_neg hg, if_neg hg]
      have hn := hD k (by omega) (by simpa using hg)
      have e := tput_img D hr (newPl fr l k)
      rw [hn] at e
      rw [chgN_blk fr t l k (by omega)]
      exact e

/-- Names alone. -/
def dropN (ns : List (List UInt8)) (k : List UInt8) : List (List UInt8) := ns.take (ns.findIdx fun q => q == k) ++ ns.drop ((ns.findIdx fun q => q == k) + 1)
def putN (ns : List (List UInt8)) (k : List UInt8) : List (List UInt8) := (dropN ns k).take ((dropN ns k).findIdx fun q => !bytesBefore q k) ++ k :: (dropN ns k).drop ((dropN ns k).findIdx fun q => !bytesBefore q k)

theorem fdrop_nm (F : Fs) (k : List UInt8) : (fdrop F k).map Fil.nm = dropN (F.map Fil.nm) k := by
  rw [fdrop, dropN, List.findIdx_map, List.map_append, List.map_take, List.map_drop]
  rfl

theorem fput_nm (F : Fs) (k b : List UInt8) : (fput F k b).map Fil.nm = putN (F.map Fil.nm) k := by
  rw [fput, putN, ← fdrop_nm, List.findIdx_map, List.map_append, List.map_cons, List.map_take, List.map_drop]
  rfl

theorem img_nm (D : Pl → List UInt8) (t : Tab) : (t.map (img D)).map Fil.nm = t.map Pl.nm := by
  rw [List.map_map]
  rfl

theorem tdel_nm {t : Tab} (h : Rising t) (k : List UInt8) : (tdel t k).map Pl.nm = dropN (t.map Pl.nm) k := by
  rw [← img_nm (fun _ => []), tdel_img _ h, fdrop_nm, img_nm]

theorem tput_nm {t : Tab} (h : Rising t) (p : Pl) : (tput t p).map Pl.nm = putN (t.map Pl.nm) p.nm := by
  rw [← img_nm (fun _ => []), tput_img _ h, fput_nm, img_nm]

theorem fapply_nm (fr : List Nat) {t : Tab} (h : Rising t) {F : Fs} (hF : F.map Fil.nm = t.map Pl.nm) (l : FL) : ∀ k, k ≤ l.length → (fapply F (l.take k)).map Fil.nm = (chgN fr t (l.take k)).1.map Pl.nm
  | 0, _ => hF
  | k + 1, hk => by
    have ih := fapply_nm fr h hF l k (by omega)
    have hr := chgN_rise fr h l k (by omega)
    rw [chgN_next fr t l k (by omega), fapply_next _ l k (by omega), chgS, fstep]
    by_cases hg : (l.getD k default).gone = true
    · rw [if_pos hg, if_pos hg, fdrop_nm, ih, tdel_nm hr]
    · rw [if_neg hg, if_neg hg, fput_nm, ih, tput_nm hr]

theorem filter_both (p : Nat → Bool) : ∀ l : List Nat, (l.filter fun b => !p b).length + (l.filter p).length = l.length
  | [] => rfl
  | b :: r => by
    have ih := filter_both p r
    rw [List.filter_cons, List.filter_cons]
    cases p b with
    | true => simp only [Bool.not_true, if_neg Bool.false_ne_true, if_pos, List.length_cons]; omega
    | false => simp only [Bool.not_false, if_neg Bool.false_ne_true, if_pos, List.length_cons]; omega

/-- A row that rises, less some of its members. -/
theorem less_len {l s : List Nat} (hl : l.Pairwise (· < ·)) (hs : s.Pairwise (· < ·)) (hi : ∀ b ∈ s, b ∈ l) : (l.filter fun b => !s.contains b).length + s.length = l.length := by
  have e : l.filter (fun b => s.contains b) = s := up_ext (List.Pairwise.filter _ hl) hs fun b => by
    rw [List.mem_filter]
    constructor
    · rintro ⟨_, h⟩
      simpa using h
    · intro h
      exact ⟨hi b h, by simpa using h⟩
  have h2 := filter_both (fun b => s.contains b) l
  rw [e] at h2
  exact h2

theorem free_cons (n : Nat) (p : Pl) (r : Tab) : free n (p :: r) = (free n r).filter fun b => !p.bs.contains b := by
  rw [free, free, List.filter_filter]
  refine List.filter_congr fun b _ => ?_
  rw [takes, List.any_cons, Bool.not_or, takes]

theorem free_sum (n : Nat) : ∀ t : Tab, (∀ p ∈ t, ∀ b ∈ p.bs, b < n) → (∀ p ∈ t, p.bs.Pairwise (· < ·)) → (t.Pairwise fun p q => ∀ b ∈ p.bs, b ∉ q.bs) → (free n t).length + (t.map fun p => p.bs.length).sum = n
  | [], _, _, _ => by
    have e : free n [] = List.range n := List.filter_eq_self.2 fun b _ => rfl
    rw [e, List.length_range]
    rfl
  | p :: r, h1, h2, h3 => by
    obtain ⟨h4, h5⟩ := List.pairwise_cons.1 h3
    have ih := free_sum n r (fun q hq => h1 q (List.mem_cons_of_mem _ hq)) (fun q hq => h2 q (List.mem_cons_of_mem _ hq)) h5
    have hl := less_len (l := free n r) (s := p.bs) (free_up n r) (h2 p (List.mem_cons_self ..)) fun b hb => by
      rw [free, List.mem_filter, List.mem_range]
      refine ⟨h1 p (List.mem_cons_self ..) b hb, ?_⟩
      have : takes r b = false := by
        cases hh : takes r b with
        | false => rfl
        | true =>
          rw [takes, List.any_eq_true] at hh
          obtain ⟨q, hq, hqb⟩ := hh
          exact absurd (by simpa using hqb) (h4 q hq b hb)
      rw [this]
      rfl
    rw [free_cons, List.map_cons, List.sum_cons]
    omega

theorem freeF_sum : ∀ (F : Fs) (n : Int), freeF n F = n - (((F.map fun q => need q.data.length).sum : Nat) : Int)
  | [], n => by simp [freeF]
  | q :: F, n => by
    have ih := freeF_sum F (n - ((need q.data.length : Nat) : Int))
    have e : freeF n (q :: F) = freeF (n - ((need q.data.length : Nat) : Int)) F := rfl
    rw [e, ih, List.map_cons, List.sum_cons]
    omega

theorem freeF_img {n : Nat} {t : Tab} (ok : TabOk n t) (D : Pl → List UInt8) (hD : ∀ p ∈ t, (D p).length = p.sz) : freeF n (t.map (img D)) = (((free n t).length : Nat) : Int) := by
  have h := free_sum n t ok.lt ok.up ok.apart
  have e : ((t.map (img D)).map fun q => need q.data.length) = t.map fun p => p.bs.length := by
    rw [List.map_map]
    refine List.map_congr_left fun p hp => ?_
    show need (D p).length = _
    rw [hD p hp, ok.len p hp]
  rw [freeF_sum, e]
  omega

/-- What Commit answers is what the document's answers. -/
theorem fmay_code {n : Nat} {t : Tab} (ok : TabOk n t) (D : Pl → List UInt8) (hD : ∀ p ∈ t, (D p).length = p.sz) (l : FL) : fmay n t l = fcode n (t.map (img D)) l := by
  have hA : AllThere t l ↔ AllF (t.map (img D)) l := by
    refine forall_congr' fun i => forall_congr' fun hi => ?_
    rw [bad, badF, hasF_img]
  rw [fmay, fcode]
  by_cases h1 : NamesOk l
  · rw [if_neg (not_not_intro h1), if_neg (not_not_intro h1)]
    by_cases h2 : AllThere t l
    · rw [if_neg (not_not_intro h2), if_neg (not_not_intro (hA.1 h2))]
      have hc := chgN_cnt (free n t) ok.rise h1 h2 l.length (Nat.le_refl _)
      have hn := fapply_nm (free n t) ok.rise (img_nm D t) l l.length (Nat.le_refl _)
      rw [List.take_length] at hc hn
      have hl : (fapply (t.map (img D)) l).length = (chgN (free n t) t l).1.length := by
        have := congrArg List.length hn
        rwa [List.length_map, List.length_map] at this
      rw [← hc, ← hl, freeF_img ok D hD]
      by_cases h3 : 64 < (fapply (t.map (img D)) l).length
      · rw [if_pos (by omega), if_pos h3]
      · rw [if_neg (by omega), if_neg h3]
        by_cases h4 : (free n t).length < blkN l
        · rw [if_pos h4, if_pos (by omega)]
        · rw [if_neg h4, if_neg (by omega)]
    · rw [if_pos h2, if_pos fun h => h2 (hA.2 h)]
  · rw [if_pos h1, if_pos h1]

end Go.Proofs.YtphcbpfpelonaaaGreatDoor.M
