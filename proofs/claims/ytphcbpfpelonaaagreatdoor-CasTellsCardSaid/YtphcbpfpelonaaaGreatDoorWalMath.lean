/-
  PLAIN MATHEMATICS OF A JOURNAL: what survives a loss of power in each of a commit's and an opening's acts; a journal whose head is written when the new bytes are safe keeps all or nothing (settle, commit; WalMath). Nothing of the program. Conditions: Journal (what a head tells).
-/
import Derived.Test.YtphcbpfpelonaaaGreatDoorPw1
namespace Go.Proofs.YtphcbpfpelonaaaGreatDoor.M
set_option linter.unusedVariables false

/-- Writes, one behind another, up to the first that doesn't answer OK. -/
def writes : List (Nat × List UInt8) → Dsk → Dsk × Int
  | [], m => (m, 0)
  | c :: r, m => if (m.doWrite (c.1 : Int) c.2).2 = 0 then writes r (m.doWrite (c.1 : Int) c.2).1 else m.doWrite (c.1 : Int) c.2

def Valid (s : List (List UInt8)) (ws : List (Nat × List UInt8)) : Prop := ∀ x ∈ ws, x.1 < s.length ∧ x.2.length = 256

/-- Where changes lie, once laid. -/
def places (l : CL) : List (Nat × List UInt8) := l.map fun c => (42 + c.1.toNat, c.2)

theorem lays_writes : ∀ (l : CL), (∀ c ∈ l, 0 ≤ c.1) → ∀ m, lays l m = writes (places l) m
  | [], _, m => rfl
  | c :: r, h, m => by
    have e : (((42 + c.1.toNat : Nat)) : Int) = 42 + c.1 := by have := h c (List.mem_cons_self ..); omega
    have ih := lays_writes r (fun d hd => h d (List.mem_cons_of_mem _ hd))
    show lays (c :: r) m = writes ((42 + c.1.toNat, c.2) :: places r) m
    rw [lays, writes]
    simp only [e, ih]

/-- Blocks that no write is of stay, whatever is kept. -/
theorem kept_other (s : List (List UInt8)) (ws : List (Nat × List UInt8)) (kp : List Bool) (i : Nat) (h : ∀ x ∈ ws, x.1 ≠ i) : ∀ j, j ≤ ws.length → (kept s ws kp j).getD i [] = s.getD i []
  | 0, _ => rfl
  | j + 1, hj => by
    rw [kept]
    split
    · have hm : ws.getD j (0, []) ∈ ws := by rw [List.getD_eq_getElem?_getD, List.getElem?_eq_getElem (by omega)]; exact List.getElem_mem _
      rw [List.getD_eq_getElem?_getD, List.getElem?_set_ne (h _ hm), ← List.getD_eq_getElem?_getD]
      exact kept_other s ws kp i h j (by omega)
    · exact kept_other s ws kp i h j (by omega)

theorem kept_len (s : List (List UInt8)) (ws : List (Nat × List UInt8)) (kp : List Bool) : ∀ j, (kept s ws kp j).length = s.length
  | 0 => rfl
  | j + 1 => by
    rw [kept]
    split
    · rw [List.length_set, kept_len s ws kp j]
    · exact kept_len s ws kp j

theorem seen_other (i : Nat) : ∀ (ws : List (Nat × List UInt8)) (b : List UInt8), (∀ x ∈ ws, x.1 ≠ i) → seen i b ws = b
  | [], _, _ => rfl
  | x :: ws, b, h => by rw [seen, if_neg (h x (List.mem_cons_self ..))]; exact seen_other i ws b fun y hy => h y (List.mem_cons_of_mem _ hy)

theorem seen_some (i : Nat) : ∀ (ws : List (Nat × List UInt8)) (b b' : List UInt8), (∃ x ∈ ws, x.1 = i) → seen i b ws = seen i b' ws
  | [], _, _, h => by obtain ⟨x, hx, _⟩ := h; cases hx
  | x :: ws, b, b', h => by
    rw [seen, seen]
    by_cases hx : x.1 = i
    · rw [if_pos hx, if_pos hx]
    · rw [if_neg hx, if_neg hx]
      obtain ⟨y, hy, e⟩ := h
      rcases List.mem_cons.1 hy with rfl | hy
      · exact absurd e hx
      · exact seen_some i ws b b' ⟨y, hy, e⟩

theorem rows_ext {s t : List (List UInt8)} (hl : s.length = t.length) (h : ∀ i, i < s.length → s.getD i [] = t.getD i []) : s = t := by
  apply List.ext_getElem hl
  intro i h1 h2
  have := h i h1
  rwa [List.getD_eq_getElem?_getD, List.getD_eq_getElem?_getD, List.getElem?_eq_getElem h1, List.getElem?_eq_getElem h2] at this

/-- Laid on whatever of it is there already it is as laid. -/
theorem laid_kept (s : List (List UInt8)) (ws : List (Nat × List UInt8)) (kp : List Bool) : laid (kept s ws kp ws.length) ws = laid s ws := by
  refine rows_ext (by rw [laid_len, laid_len, kept_len]) fun i hi => ?_
  have hi' : i < s.length := by rwa [laid_len, kept_len] at hi
  rw [laid_get i ws _ (by rw [kept_len]; exact hi'), laid_get i ws s hi']
  by_cases h : ∃ x ∈ ws, x.1 = i
  · exact seen_some i ws _ _ h
  · rw [kept_other s ws kp i (fun x hx e => h ⟨x, hx, e⟩) _ (Nat.le_refl _)]

theorem laid_drop (l : CL) : ∀ (s : List (List UInt8)), (laid s (places l)).drop 42 = done (s.drop 42) l := by
  induction l with
  | nil => intro s; rfl
  | cons c r ih =>
    intro s
    show (laid (s.set (42 + c.1.toNat) c.2) (places r)).drop 42 = done ((s.drop 42).set c.1.toNat c.2) r
    rw [ih]
    congr 1
    have := laid_add s [] c.1.toNat c.2
    exact this

/-- What is kept of the first ones is kept of all. -/
theorem kept_front (s : List (List UInt8)) (a b : List (Nat × List UInt8)) (kp : List Bool) : ∀ j, j ≤ a.length → kept s (a ++ b) (kp.take a.length) j = kept s a kp j
  | 0, _ => rfl
  | j + 1, hj => by
    rw [kept, kept, kept_front s a b kp j (by omega)]
    have e1 : (kp.take a.length).getD j false = kp.getD j false := by
      rw [List.getD_eq_getElem?_getD, List.getElem?_take, if_pos (by omega), ← List.getD_eq_getElem?_getD]
    have e2 : (a ++ b).getD j (0, []) = a.getD j (0, []) := by
      rw [List.getD_eq_getElem?_getD, List.getElem?_append_left (by omega), ← List.getD_eq_getElem?_getD]
    rw [e1, e2]

theorem kept_behind (s : List (List UInt8)) (ws : List (Nat × List UInt8)) (kp : List Bool) (n : Nat) (hk : kp.length ≤ n) : ∀ j, n ≤ j → kept s ws kp j = kept s ws kp n
  | 0, hj => by rw [show n = 0 by omega]
  | j + 1, hj => by
    by_cases h : n = j + 1
    · rw [h]
    · rw [kept, if_neg (by rw [List.getD_eq_getElem?_getD, List.getElem?_eq_none (by omega)]; decide)]
      exact kept_behind s ws kp n hk j (by omega)

theorem kept_prefix (s : List (List UInt8)) (a b : List (Nat × List UInt8)) (kp : List Bool) : kept s (a ++ b) (kp.take a.length) (a ++ b).length = kept s a kp a.length := by
  rw [kept_behind s (a ++ b) _ a.length (by rw [List.length_take]; omega) _ (by rw [List.length_append]; omega)]
  exact kept_front s a b kp _ (Nat.le_refl _)

/-- From a disk of s with c waiting, p goes to one of s' with c' waiting, or the power goes, and all that may survive has P. -/
def Goes (p : Dsk → Dsk × Int) (s : List (List UInt8)) (c : List (Nat × List UInt8)) (k : Nat) (s' : List (List UInt8)) (c' : List (Nat × List UInt8)) (P : List (List UInt8) → Prop) : Prop :=
  (∃ k', p ⟨s, c, k, false⟩ = (⟨s', c', k', false⟩, 0) ∧ k' ≤ k) ∨
  (∃ m, p ⟨s, c, k, false⟩ = (m, 11) ∧ k ≠ 0 ∧ m.down = true ∧ m.safe.length = s.length ∧ m.wait.length ≤ 1000 ∧ ∀ kp, P (m.crash kp).safe)

theorem goes_then {p : Dsk → Dsk × Int} {ps : List (Dsk → Dsk × Int)} {s s1 s2 : List (List UInt8)} {c c1 c2 : List (Nat × List UInt8)} {k : Nat} {P : List (List UInt8) → Prop} (h1 : Goes p s c k s1 c1 P) (hl : s1.length = s.length)
    (h2 : ∀ k', k' ≤ k → Goes (phases ps) s1 c1 k' s2 c2 P) : Goes (phases (p :: ps)) s c k s2 c2 P := by
  rcases h1 with ⟨k1, e, hk⟩ | ⟨m, e, h0, h3, h4, h5, h6⟩
  · rcases h2 k1 hk with ⟨k2, e2, hk2⟩ | ⟨m, e2, h0, h3, h4, h5, h6⟩
    · exact .inl ⟨k2, by rw [phases, e, if_pos rfl]; exact e2, Nat.le_trans hk2 hk⟩
    · exact .inr ⟨m, by rw [phases, e, if_pos rfl]; exact e2, by omega, h3, h4.trans hl, h5, h6⟩
  · exact .inr ⟨m, by rw [phases, e, if_neg (show ¬ (11 : Int) = 0 by decide)], h0, h3, h4, h5, h6⟩

theorem goes_nil (s : List (List UInt8)) (c : List (Nat × List UInt8)) (k : Nat) (P : List (List UInt8) → Prop) : Goes (phases []) s c k s c P := .inl ⟨k, rfl, Nat.le_refl _⟩

theorem goes_sync {s : List (List UInt8)} {c : List (Nat × List UInt8)} {k : Nat} {P : List (List UInt8) → Prop} (hc : c.length ≤ 1000) (h : ∀ kp, P (kept s c kp c.length)) : Goes Dsk.doSync s c k (laid s c) [] P := by
  match k with
  | 0 => exact .inl ⟨0, rfl, Nat.le_refl _⟩
  | 1 => exact .inr ⟨⟨s, c, 0, true⟩, rfl, by decide, rfl, rfl, hc, h⟩
  | k + 2 => exact .inl ⟨k + 1, rfl, by omega⟩

theorem doWrite_valid (s : List (List UInt8)) (c : List (Nat × List UInt8)) (k i : Nat) (b : List UInt8) (hi : i < s.length) (hb : b.length = 256) :
    (⟨s, c, k, false⟩ : Dsk).doWrite (i : Int) b = match k with
      | 0 => (⟨s, c ++ [(i, b)], 0, false⟩, 0)
      | 1 => (⟨s, c ++ [(i, b)], 0, true⟩, 11)
      | k + 2 => (⟨s, c ++ [(i, b)], k + 1, false⟩, 0) := by
  have hok : 0 ≤ (i : Int) ∧ (i : Int) < ((⟨s, c, k, false⟩ : Dsk).safe.length : Int) ∧ b.length = 256 := by
    refine ⟨by omega, ?_, hb⟩
    show (i : Int) < (s.length : Int)
    omega
  rw [Dsk.doWrite, if_pos hok, if_neg (show ¬ (⟨s, c, k, false⟩ : Dsk).down = true from Bool.false_ne_true), Int.toNat_natCast]
  match k with
  | 0 => rfl
  | 1 => rfl
  | k + 2 => rfl

theorem goes_writes {s : List (List UInt8)} {P : List (List UInt8) → Prop} : ∀ (ws c : List (Nat × List UInt8)) (k : Nat), Valid s ws → (c ++ ws).length ≤ 1000 → (∀ kp, P (kept s (c ++ ws) kp (c ++ ws).length)) → Goes (writes ws) s c k s (c ++ ws) P
  | [], c, k, _, _, _ => by rw [List.append_nil]; exact .inl ⟨k, rfl, Nat.le_refl _⟩
  | x :: ws, c, k, hv, hn, hP => by
    have hx := hv x (List.mem_cons_self ..)
    have hd := doWrite_valid s c k x.1 x.2 hx.1 hx.2
    have ea : c ++ [x] ++ ws = c ++ x :: ws := by rw [List.append_assoc]; rfl
    have ih := fun k' => goes_writes (s := s) (P := P) ws (c ++ [x]) k' (fun y hy => hv y (List.mem_cons_of_mem _ hy)) (by rw [ea]; exact hn) (by rw [ea]; exact hP)
    rw [ea] at ih
    match k, hd with
    | 0, hd =>
      rcases ih 0 with ⟨k2, e2, hk2⟩ | ⟨m, e2, h0, h⟩
      · exact .inl ⟨k2, by rw [writes, hd, if_pos rfl]; exact e2, hk2⟩
      · exact absurd rfl h0
    | 1, hd =>
      refine .inr ⟨⟨s, c ++ [x], 0, true⟩, by rw [writes, hd, if_neg (show ¬ (11 : Int) = 0 by decide)], by decide, rfl, rfl, ?_, fun kp => ?_⟩
      · show (c ++ [x]).length ≤ 1000
        simp only [List.length_append, List.length_cons, List.length_nil] at hn ⊢
        omega
      · have := hP (kp.take (c ++ [x]).length)
        rw [← ea, kept_prefix] at this
        exact this
    | k + 2, hd =>
      rcases ih (k + 1) with ⟨k2, e2, hk2⟩ | ⟨m, e2, h0, h⟩
      · exact .inl ⟨k2, by rw [writes, hd, if_pos rfl]; exact e2, by omega⟩
      · exact .inr ⟨m, by rw [writes, hd, if_pos rfl]; exact e2, by omega, h⟩

/-- Writes, and a Sync. -/
theorem goes_both {s : List (List UInt8)} {ws : List (Nat × List UInt8)} {ps : List (Dsk → Dsk × Int)} {k : Nat} {s2 : List (List UInt8)} {c2 : List (Nat × List UInt8)} {P : List (List UInt8) → Prop} {q : Dsk → Dsk × Int} (hq : ∀ m, q m = writes ws m) (hv : Valid s ws) (hn : ws.length ≤ 1000) (hP : ∀ kp, P (kept s ws kp ws.length))
    (h2 : ∀ k', k' ≤ k → Goes (phases ps) (laid s ws) [] k' s2 c2 P) : Goes (phases (q :: Dsk.doSync :: ps)) s [] k s2 c2 P := by
  have e : q = writes ws := funext hq
  rw [e]
  refine goes_then (goes_writes ws [] k hv hn hP) rfl fun k1 h1 => ?_
  exact goes_then (goes_sync hn hP) (laid_len ws s) fun k2 h3 => h2 k2 (Nat.le_trans h3 h1)

/-- Where the new bytes wait in the journal. -/
def bytesAt : CL → Nat → List (Nat × List UInt8)
  | [], _ => []
  | c :: r, k => (k, c.2) :: bytesAt r (k + 1)

theorem bytesAt_len : ∀ (l : CL) (k : Nat), (bytesAt l k).length = l.length
  | [], _ => rfl
  | c :: r, k => by rw [bytesAt, List.length_cons, bytesAt_len r, List.length_cons]

theorem bytesAt_mem : ∀ (l : CL) (k : Nat) (x : Nat × List UInt8), x ∈ bytesAt l k → k ≤ x.1 ∧ x.1 < k + l.length ∧ ∃ c ∈ l, x.2 = c.2
  | [], _, x, h => by cases h
  | c :: r, k, x, h => by
    rw [bytesAt] at h
    rcases List.mem_cons.1 h with rfl | h
    · exact ⟨Nat.le_refl _, by rw [List.length_cons]; omega, c, List.mem_cons_self .., rfl⟩
    · obtain ⟨h1, h2, d, hd, e⟩ := bytesAt_mem r (k + 1) x h
      exact ⟨by omega, by rw [List.length_cons]; omega, d, List.mem_cons_of_mem _ hd, e⟩

theorem bytesAt_seen : ∀ (l : CL) (k i : Nat) (b : List UInt8), i < l.length → seen (k + i) b (bytesAt l k) = (l.getD i (0, [])).2
  | c :: r, k, 0, b, _ => by
    rw [bytesAt, seen, Nat.add_zero, if_pos rfl]
    exact seen_other k _ _ fun x hx e => by have := (bytesAt_mem r (k + 1) x hx).1; omega
  | c :: r, k, i + 1, b, h => by
    rw [bytesAt, seen, if_neg (show ¬ k = k + (i + 1) by omega), show k + (i + 1) = k + 1 + i by omega, bytesAt_seen r (k + 1) i b (by simpa using h)]
    rfl

/-- What a journal's head tells (dec), and the head that tells of changes (hd). -/
structure Journal (dec : List (List UInt8) → Option CL) (hd : CL → List UInt8) : Prop where
  zero : ∀ s, s.getD 0 [] = zero256 → dec s = none
  front : ∀ s s', s.length = s'.length → (∀ i, i < 42 → s.getD i [] = s'.getD i []) → dec s = dec s'
  told : ∀ s l, 42 < s.length → dec s = some l → May (s.length - 42) l
  whole : ∀ s l, 42 < s.length → s.length ≤ 2176 → May (s.length - 42) l → l ≠ [] → s.getD 0 [] = hd l → (∀ i, i < l.length → s.getD (1 + i) [] = (l.getD i (0, [])).2) → dec s = some l
  len : ∀ l, (hd l).length = 256

section
variable {dec : List (List UInt8) → Option CL} {hd : CL → List UInt8}

/-- What an opening makes of safe blocks. -/
def recs (dec : List (List UInt8) → Option CL) (s : List (List UInt8)) : List (List UInt8) := match dec s with
  | some l => done (s.drop 42) l
  | none => s.drop 42

def forgets (m : Dsk) : Dsk × Int := m.doWrite 0 zero256

/-- The journal is settled: what is whole in it is laid, and forgotten. -/
def settle (dec : List (List UInt8) → Option CL) (m : Dsk) : Dsk × Int :=
  if m.doSync.2 = 0 then
    if m.doSync.1.read 0 = zero256 then (m.doSync.1, 0)
    else phases [lays ((dec m.doSync.1.safe).getD []), Dsk.doSync, forgets, Dsk.doSync] m.doSync.1
  else m.doSync

/-- A commit: the new bytes, then the head, then the places. -/
def commit (dec : List (List UInt8) → Option CL) (hd : CL → List UInt8) (m : Dsk) (l : CL) : Dsk × Int :=
  if l = [] then m.doSync
  else phases [settle dec, writes (bytesAt l 1), Dsk.doSync, writes [(0, hd l)], Dsk.doSync, lays l, Dsk.doSync, forgets, Dsk.doSync] m

theorem zero_len : zero256.length = 256 := List.length_replicate

theorem forgets_writes (m : Dsk) : forgets m = writes [(0, zero256)] m := by
  show m.doWrite ((0 : Nat) : Int) zero256 = _
  rw [writes]
  split
  · rename_i h
    rw [writes]
    exact Prod.ext rfl h
  · rfl

theorem kept_one (s : List (List UInt8)) (i : Nat) (b : List UInt8) (kp : List Bool) : kept s [(i, b)] kp 1 = s ∨ kept s [(i, b)] kp 1 = s.set i b := by
  rw [kept, kept]
  split
  · exact .inr rfl
  · exact .inl rfl

theorem set_drop (s : List (List UInt8)) (i : Nat) (b : List UInt8) (h : i < 42) : (s.set i b).drop 42 = s.drop 42 := by
  apply List.ext_getElem?
  intro j
  rw [List.getElem?_drop, List.getElem?_drop, List.getElem?_set_ne (by omega)]

theorem getD_set_self (s : List (List UInt8)) (i : Nat) (b : List UInt8) (h : i < s.length) : (s.set i b).getD i [] = b := by
  rw [List.getD_eq_getElem?_getD, List.getElem?_set_self h]
  rfl

theorem getD_set_ne (s : List (List UInt8)) (i j : Nat) (b : List UInt8) (h : i ≠ j) : (s.set i b).getD j [] = s.getD j [] := by
  rw [List.getD_eq_getElem?_getD, List.getElem?_set_ne h, ← List.getD_eq_getElem?_getD]

theorem drop_same {s t : List (List UInt8)} (hl : s.length = t.length) (h : ∀ i, 42 ≤ i → s.getD i [] = t.getD i []) : s.drop 42 = t.drop 42 := by
  refine rows_ext (by rw [List.length_drop, List.length_drop, hl]) fun i _ => ?_
  have := h (42 + i) (by omega)
  rw [List.getD_eq_getElem?_getD, List.getD_eq_getElem?_getD] at this
  rw [List.getD_eq_getElem?_getD, List.getD_eq_getElem?_getD, List.getElem?_drop, List.getElem?_drop]
  exact this

theorem places_mem {l : CL} {x : Nat × List UInt8} (h : x ∈ places l) : 42 ≤ x.1 ∧ ∃ c ∈ l, x = (42 + c.1.toNat, c.2) := by
  obtain ⟨c, hc, rfl⟩ := List.mem_map.1 h
  exact ⟨Nat.le_add_right _ _, c, hc, rfl⟩

theorem places_valid {s : List (List UInt8)} {l : CL} (h42 : 42 < s.length) (h : May (s.length - 42) l) : Valid s (places l) := fun x hx => by
  obtain ⟨_, c, hc, rfl⟩ := places_mem hx
  have := h.2 c hc
  exact ⟨by show 42 + c.1.toNat < s.length; omega, this.2.2⟩

theorem places_len (l : CL) : (places l).length = l.length := List.length_map _

/-- Blocks with changes laid, and forgotten. -/
def ended (s : List (List UInt8)) (l : CL) : List (List UInt8) := (laid s (places l)).set 0 zero256

/-- The changes laid, and forgotten: from blocks whose journal tells l. -/
theorem goes_end (J : Journal dec hd) {s : List (List UInt8)} {k : Nat} {l : CL} {P : List (List UInt8) → Prop} (h42 : 42 < s.length) (hm : May (s.length - 42) l) (hdec : ∀ t, t.length = s.length → (∀ i, i < 42 → t.getD i [] = s.getD i []) → recs dec t = done (t.drop 42) l)
    (hP : ∀ t, recs dec t = done (s.drop 42) l → P t) :
    Goes (phases [lays l, Dsk.doSync, forgets, Dsk.doSync]) s [] k (ended s l) [] P ∧ (ended s l).length = s.length ∧ (ended s l).drop 42 = done (s.drop 42) l ∧ (ended s l).getD 0 [] = zero256 := by
  have hln : l.length ≤ 40 := hm.1
  have hv := places_valid h42 hm
  have hfront : ∀ (t : List (List UInt8)) (n : Nat) (kp : List Bool), n ≤ (places l).length → ∀ i, i < 42 → (kept t (places l) kp n).getD i [] = t.getD i [] := fun t n kp hn i hi => kept_other t _ kp i (fun x hx e => by have := (places_mem hx).1; omega) n hn
  have hlaid : ∀ i, i < 42 → (laid s (places l)).getD i [] = s.getD i [] := fun i hi => by
    rw [laid_get i _ s (by omega), seen_other i _ _ fun x hx e => by have := (places_mem hx).1; omega]
  have hd1 : (laid s (places l)).drop 42 = done (s.drop 42) l := laid_drop l s
  refine ⟨?_, by rw [ended, List.length_set, laid_len], by rw [ended, set_drop _ _ _ (by decide), hd1], getD_set_self _ _ _ (by rw [laid_len]; omega)⟩
  refine goes_both (ws := places l) (fun m => lays_writes l (fun c hc => (hm.2 c hc).1) m) hv (by rw [places_len]; omega) (fun kp => hP _ ?_) fun k1 h1 => ?_
  · rw [hdec _ (kept_len _ _ _ _) (hfront s _ kp (Nat.le_refl _))]
    have e1 : (laid (kept s (places l) kp (places l).length) (places l)).drop 42 = done ((kept s (places l) kp (places l).length).drop 42) l := laid_drop l _
    rw [← e1, laid_kept, hd1]
  · have hrec : recs dec (laid s (places l)) = done (s.drop 42) l := by
      rw [hdec _ (laid_len _ _) hlaid, hd1, done_twice]
    refine goes_both (ws := [(0, zero256)]) forgets_writes ?_ (by decide) (fun kp => hP _ ?_) fun k2 h2 => ?_
    · intro x hx
      rcases List.mem_cons.1 hx with rfl | hx
      · exact ⟨by show 0 < (laid s (places l)).length; rw [laid_len]; omega, zero_len⟩
      · cases hx
    · rcases kept_one (laid s (places l)) 0 zero256 kp with e | e
      · rw [show ([(0, zero256)] : List (Nat × List UInt8)).length = 1 from rfl, e]; exact hrec
      · rw [show ([(0, zero256)] : List (Nat × List UInt8)).length = 1 from rfl, e, recs, J.zero _ (getD_set_self _ _ _ (by rw [laid_len]; omega))]
        show ((laid s (places l)).set 0 zero256).drop 42 = _
        rw [set_drop _ _ _ (by decide), hd1]
    · exact goes_nil _ _ _ _

theorem read_lit (s : List (List UInt8)) (k i : Nat) : (⟨s, [], k, false⟩ : Dsk).read i = s.getD i [] := rfl

theorem recs_getD (s : List (List UInt8)) : recs dec s = done (s.drop 42) ((dec s).getD []) := by
  rw [recs]
  cases dec s <;> rfl

/-- What is left of blocks once their journal is settled. -/
def settled (dec : List (List UInt8) → Option CL) (s : List (List UInt8)) : List (List UInt8) := if s.getD 0 [] = zero256 then s else ended s ((dec s).getD [])

/-- The journal settled, from blocks nothing waits on. -/
theorem goes_settle (J : Journal dec hd) {s : List (List UInt8)} {k : Nat} (h42 : 42 < s.length) {P : List (List UInt8) → Prop} (hP : ∀ t, recs dec t = recs dec s → P t) :
    Goes (settle dec) s [] k (settled dec s) [] P ∧ (settled dec s).length = s.length ∧ (settled dec s).drop 42 = recs dec s ∧ (settled dec s).getD 0 [] = zero256 := by
  have key : (∀ k', k' ≤ k → Goes (fun m => if m.read 0 = zero256 then (m, 0) else phases [lays ((dec m.safe).getD []), Dsk.doSync, forgets, Dsk.doSync] m) s [] k' (settled dec s) [] P) → Goes (settle dec) s [] k (settled dec s) [] P := by
    intro h
    rcases goes_sync (s := s) (c := []) (k := k) (P := P) (by decide) (fun kp => hP _ rfl) with ⟨k1, e, hk⟩ | ⟨m, e, h0, h3, h4, h5, h6⟩
    · have e' : (⟨s, [], k, false⟩ : Dsk).doSync = (⟨s, [], k1, false⟩, 0) := e
      rcases h k1 hk with ⟨k2, e2, hk2⟩ | ⟨m, e2, h0, hh⟩
      · exact .inl ⟨k2, by rw [settle, e', if_pos rfl]; exact e2, by omega⟩
      · exact .inr ⟨m, by rw [settle, e', if_pos rfl]; exact e2, by omega, hh⟩
    · exact .inr ⟨m, by rw [settle, e, if_neg (show ¬ (11 : Int) = 0 by decide)], h0, h3, h4, h5, h6⟩
  by_cases hz : s.getD 0 [] = zero256
  · have es : settled dec s = s := if_pos hz
    rw [es] at key ⊢
    refine ⟨key fun k' hk => .inl ⟨k', ?_, Nat.le_refl _⟩, rfl, by rw [recs, J.zero s hz], hz⟩
    show (if s.getD 0 [] = zero256 then _ else _) = _
    rw [if_pos hz]
  · have es : settled dec s = ended s ((dec s).getD []) := if_neg hz
    have hmay : May (s.length - 42) ((dec s).getD []) := by
      cases hd : dec s with
      | none => exact ⟨by decide, fun c hc => by cases hc⟩
      | some l => exact J.told s l h42 hd
    have hfr : ∀ t, t.length = s.length → (∀ i, i < 42 → t.getD i [] = s.getD i []) → recs dec t = done (t.drop 42) ((dec s).getD []) := fun t hl hf => by rw [recs_getD, J.front t s hl hf]
    have hend := fun k' => goes_end (k := k') (P := P) J h42 hmay hfr (fun t ht => hP t (by rw [ht, ← recs_getD]))
    rw [es] at key ⊢
    refine ⟨key fun k' hk => ?_, (hend k).2.1, by rw [(hend k).2.2.1, ← recs_getD], (hend k).2.2.2⟩
    rcases (hend k').1 with ⟨k2, e2, hk2⟩ | ⟨m, e2, hh⟩
    · refine .inl ⟨k2, ?_, hk2⟩
      show (if s.getD 0 [] = zero256 then _ else _) = _
      rw [if_neg hz]
      exact e2
    · refine .inr ⟨m, ?_, hh⟩
      show (if s.getD 0 [] = zero256 then _ else _) = _
      rw [if_neg hz]
      exact e2

/-- A commit, from blocks whose journal is empty. -/
theorem goes_commit (J : Journal dec hd) {s : List (List UInt8)} {k : Nat} {l : CL} (h42 : 42 < s.length) (hfew : s.length ≤ 2176) (hz : s.getD 0 [] = zero256) (hm : May (s.length - 42) l) :
    ∃ s', Goes (fun m => commit dec hd m l) s [] k s' [] (fun t => recs dec t = s.drop 42 ∨ recs dec t = done (s.drop 42) l) ∧ s'.length = s.length ∧ s'.drop 42 = done (s.drop 42) l ∧ s'.getD 0 [] = zero256 := by
  have hrs : recs dec s = s.drop 42 := by rw [recs, J.zero s hz]
  by_cases hl : l = []
  · subst hl
    refine ⟨s, ?_, rfl, rfl, hz⟩
    have g := goes_sync (s := s) (c := []) (k := k) (P := fun t => recs dec t = s.drop 42 ∨ recs dec t = done (s.drop 42) []) (by decide) (fun kp => .inl hrs)
    rcases g with ⟨k1, e, hk⟩ | ⟨m, e, hh⟩
    · exact .inl ⟨k1, by show (if ([] : CL) = [] then _ else _) = _; rw [if_pos rfl]; exact e, hk⟩
    · exact .inr ⟨m, by show (if ([] : CL) = [] then _ else _) = _; rw [if_pos rfl]; exact e, hh⟩
  · have ec : (fun m => commit dec hd m l) = phases [settle dec, writes (bytesAt l 1), Dsk.doSync, writes [(0, hd l)], Dsk.doSync, lays l, Dsk.doSync, forgets, Dsk.doSync] := funext fun m => if_neg hl
    rw [ec]
    obtain ⟨L, hL⟩ : ∃ L, L = s.drop 42 := ⟨_, rfl⟩
    rw [← hL] at hrs ⊢
    obtain ⟨s1, hs1⟩ : ∃ t, t = settled dec s := ⟨_, rfl⟩
    have hset := fun k => goes_settle (k := k) (P := fun t => recs dec t = L ∨ recs dec t = done L l) J h42 (fun t ht => .inl (by rw [ht, hrs]))
    rw [← hs1] at hset
    have a1 : s1.length = s.length := (hset k).2.1
    have a2 : s1.drop 42 = L := (hset k).2.2.1.trans hrs
    have a3 : s1.getD 0 [] = zero256 := (hset k).2.2.2
    have hln : l.length ≤ 40 := hm.1
    -- the new bytes
    obtain ⟨s2, hs2⟩ : ∃ t, t = laid s1 (bytesAt l 1) := ⟨_, rfl⟩
    have b1 : s2.length = s.length := by rw [hs2, laid_len, a1]
    have pos : ∀ x ∈ bytesAt l 1, 1 ≤ x.1 ∧ x.1 < 42 ∧ x.2.length = 256 := fun x hx => by
      obtain ⟨h1, h2, c, hc, e⟩ := bytesAt_mem l 1 x hx
      exact ⟨h1, by omega, by rw [e]; exact (hm.2 c hc).2.2⟩
    have same : ∀ (t : List (List UInt8)), t.length = s1.length → (∀ i, (i = 0 ∨ 42 ≤ i) → t.getD i [] = s1.getD i []) → t.getD 0 [] = zero256 ∧ t.drop 42 = L := fun t hl ht =>
      ⟨(ht 0 (.inl rfl)).trans a3, (drop_same hl fun i hi => ht i (.inr hi)).trans a2⟩
    have hk2 : ∀ kp, (kept s1 (bytesAt l 1) kp (bytesAt l 1).length).getD 0 [] = zero256 ∧ (kept s1 (bytesAt l 1) kp (bytesAt l 1).length).drop 42 = L := fun kp =>
      same _ (kept_len _ _ _ _) fun i hi => kept_other _ _ _ i (fun x hx e => by have := pos x hx; omega) _ (Nat.le_refl _)
    have hb2 : s2.getD 0 [] = zero256 ∧ s2.drop 42 = L := by
      rw [hs2]
      refine same _ (laid_len _ _) fun i hi => ?_
      by_cases hi' : i < s1.length
      · rw [laid_get i _ s1 hi', seen_other i _ _ fun x hx e => by have := pos x hx; omega]
      · rw [List.getD_eq_getElem?_getD, List.getD_eq_getElem?_getD, List.getElem?_eq_none (by rw [laid_len]; omega), List.getElem?_eq_none (by omega)]
    have hby : ∀ i, i < l.length → s2.getD (1 + i) [] = (l.getD i (0, [])).2 := fun i hi => by rw [hs2, laid_get (1 + i) _ s1 (by omega), bytesAt_seen l 1 i _ hi]
    -- the head
    obtain ⟨s3, hs3⟩ : ∃ t, t = s2.set 0 (hd l) := ⟨_, rfl⟩
    have c1 : s3.length = s.length := by rw [hs3, List.length_set, b1]
    have c2 : s3.drop 42 = L := by rw [hs3, set_drop _ _ _ (by decide), hb2.2]
    have c3 : dec s3 = some l := J.whole s3 l (by omega) (by omega) (by rw [c1]; exact hm) hl (by rw [hs3, getD_set_self _ _ _ (by omega)]) (fun i hi => by rw [hs3, getD_set_ne _ _ _ _ (by omega), hby i hi])
    have rec2 : recs dec s2 = L := by rw [recs, J.zero s2 hb2.1, ← hb2.2]
    have rec3 : recs dec s3 = done L l := by rw [recs, c3, ← c2]
    have hend := fun k => goes_end (s := s3) (k := k) (l := l) (P := fun t => recs dec t = L ∨ recs dec t = done L l) J (by omega) (by rw [c1]; exact hm) (fun t hl hf => by rw [recs, J.front t s3 hl hf, c3]) (fun t ht => .inr (by rw [ht, c2]))
    refine ⟨ended s3 l, ?_, (hend k).2.1.trans c1, by rw [(hend k).2.2.1, c2], (hend k).2.2.2⟩
    refine goes_then (hset k).1 a1 fun k1 h1 => ?_
    refine goes_both (ws := bytesAt l 1) (fun m => rfl) (fun x hx => ⟨by have := pos x hx; omega, (pos x hx).2.2⟩) (by rw [bytesAt_len]; omega) (fun kp => .inl (by rw [recs, J.zero _ (hk2 kp).1, ← (hk2 kp).2])) fun k2 h2 => ?_
    rw [← hs2]
    refine goes_both (ws := [(0, hd l)]) (fun m => rfl) (fun x hx => ?_) (by show 1 ≤ 1000; decide) (fun kp => ?_) fun k3 h3 => ?_
    · rcases List.mem_cons.1 hx with rfl | hx
      · exact ⟨by show 0 < s2.length; omega, J.len l⟩
      · cases hx
    · rcases kept_one s2 0 (hd l) kp with e | e
      · rw [show ([(0, hd l)] : List (Nat × List UInt8)).length = 1 from rfl, e]; exact .inl rec2
      · rw [show ([(0, hd l)] : List (Nat × List UInt8)).length = 1 from rfl, e, ← hs3]; exact .inr rec3
    · show Goes _ (s2.set 0 (hd l)) [] k3 _ [] _
      rw [← hs3]
      exact (hend k3).1

end

end Go.Proofs.YtphcbpfpelonaaaGreatDoor.M

namespace Go.Proofs.YtphcbpfpelonaaaGreatDoor
open Go.RowKit

/-- What the journal's face asks of disks. -/
theorem journal_math {dec : List (List UInt8) → Option M.CL} {hd : M.CL → List UInt8} (J : M.Journal dec hd) : WalMath (M.settle dec) (M.commit dec hd) (fun s => s.getD 0 [] = M.zero256) (M.recs dec) where
  opens := fun s c hok h42 => by
    have e : M.settle dec ⟨s, c, 0, false⟩ = M.settle dec ⟨M.laid s c, [], 0, false⟩ := rfl
    obtain ⟨g, h1, h2, h3⟩ := M.goes_settle (k := 0) (P := fun _ => True) J (s := M.laid s c) (by rw [M.laid_len]; exact h42) (fun _ _ => trivial)
    rcases g with ⟨k', e2, hk⟩ | ⟨m, _, h0, _⟩
    · obtain rfl : k' = 0 := by omega
      exact ⟨_, e.trans e2, by rw [h1, M.laid_len], h2, h3⟩
    · exact absurd rfl h0
  recs := fun s hs => by rw [M.recs, J.zero s hs]
  falls := fun s k hok h42 => by
    obtain ⟨g, h1, h2, h3⟩ := M.goes_settle (k := k) (P := fun t => M.recs dec t = M.recs dec s) J h42 (fun _ h => h)
    have e0 : M.lit s k = ⟨s, [], k, false⟩ := rfl
    rw [e0]
    rcases g with ⟨k', e2, hk⟩ | ⟨m, e2, h0, hd', hl, hw, hr⟩
    · rw [e2]
      refine ⟨.inl rfl, h1, Nat.zero_le _, fun kp => ?_⟩
      show M.recs dec (M.settled dec s) = M.recs dec s
      rw [← h2, M.recs, J.zero _ h3]
    · rw [e2]
      exact ⟨.inr rfl, hl, hw, hr⟩
  none := fun m => if_pos rfl
  commits := fun s k l hok h42 hc hm => by
    obtain ⟨s', g, h1, h2, h3⟩ := M.goes_commit (k := k) J h42 hok.few hc hm
    have e0 : M.lit s k = ⟨s, [], k, false⟩ := rfl
    rw [e0]
    rcases g with ⟨k', e2, hk⟩ | ⟨m, e2, h0, hd', hl, hw, hr⟩
    · have e3 : M.commit dec hd ⟨s, [], k, false⟩ l = (⟨s', [], k', false⟩, 0) := e2
      rw [e3]
      exact .inl ⟨rfl, s', k', rfl, hk, h1, h2, h3⟩
    · have e3 : M.commit dec hd ⟨s, [], k, false⟩ l = (m, 11) := e2
      rw [e3]
      exact .inr ⟨rfl, h0, hd', hl, hw, hr⟩

end Go.Proofs.YtphcbpfpelonaaaGreatDoor
