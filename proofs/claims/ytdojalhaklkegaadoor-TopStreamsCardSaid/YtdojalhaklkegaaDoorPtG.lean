/-
  A LAYER SEALED IN CHUNKS, WITH A BOOK, IN PLAIN MATHEMATICS: pieces, heads, nonces, a book's boxes, what is sealed, what is opened; whatever is opened is one of the two that were sealed. Conditions: none.
  PLAIN MATHEMATICS OF MAPS BY NAMES (lists by rising names). Nothing of the program. Conditions: none.
-/
import Derived.Test.YtdojalhaklkegaaDoorPtN
import Derived.WideAt
import Derived.Maps.OwnSet
import Derived.Maps.Ext

namespace Go.Proofs.YtdojalhaklkegaaDoor
set_option linter.unusedVariables false
set_option maxRecDepth 100000

namespace M
/-- A number's bytes, the greatest first. -/
def bg4 (n : Nat) : List UInt8 := (le n 4).reverse
def bg8 (n : Nat) : List UInt8 := (le n 8).reverse
theorem bg4_len (n : Nat) : (bg4 n).length = 4 := by unfold bg4; rw [List.length_reverse, le_length]
theorem bg8_len (n : Nat) : (bg8 n).length = 8 := by unfold bg8; rw [List.length_reverse, le_length]
theorem bg4_gb (n : Nat) (h : n < 4294967296) : gb (bg4 n) 4 = n := gb_of_back n 4 (by show n < 4294967296; exact h)
theorem bg8_gb (n : Nat) (h : n < 18446744073709551616) : gb (bg8 n) 8 = n := gb_of_back n 8 (by show n < 18446744073709551616; exact h)
theorem bg4_inj {a b : Nat} (ha : a < 4294967296) (hb : b < 4294967296) (h : bg4 a = bg4 b) : a = b := by rw [← bg4_gb a ha, ← bg4_gb b hb, h]
theorem gb_congr (a b : List UInt8) : ∀ k, (∀ j, j < k → a.getD j 0 = b.getD j 0) → gb a k = gb b k
  | 0, _ => rfl
  | k + 1, h => by rw [gb, gb, gb_congr a b k (fun j hj => h j (by omega)), h k (by omega)]

/-- A book's box: a number's bytes, again and again. -/
def bbox (n len : Nat) : List UInt8 := (List.range len).map fun i => (bg8 n).getD (i % 8) 0
theorem bbox_len (n len : Nat) : (bbox n len).length = len := by unfold bbox; rw [List.length_map, List.length_range]
theorem bbox_num (n len : Nat) (hn : n < 18446744073709551616) (h8 : 8 ≤ len) : gb (bbox n len) 8 = n := by
  rw [← bg8_gb n hn]
  apply gb_congr
  intro j hj
  rw [bg8_gb n hn, List.getD_eq_getElem?_getD, bbox, List.getElem?_map, List.getElem?_range (by omega)]
  simp only [Option.map_some, Option.getD_some]
  rw [Nat.mod_eq_of_lt hj]

/-- What a box was sealed with: the key, the nonce, what is said beside, the box. -/
abbrev Sl := List UInt8 × List UInt8 × List UInt8 × List UInt8
/-- A book's boxes, the newest first. -/
abbrev Bk := List (Sl × List UInt8)
def bget : Bk → Sl → Option (List UInt8)
  | [], _ => none
  | e :: L, s => if e.1 = s then some e.2 else bget L s
/-- The number of an entry. -/
def bnum (e : Sl × List UInt8) : Nat := gb e.1.2.2.2 8
/-- Numbers fall. -/
def BOk : Bk → Prop
  | [] => True
  | e :: L => bnum e = L.length ∧ BOk L
theorem bnum_lt : ∀ {L : Bk}, BOk L → ∀ e ∈ L, bnum e < L.length
  | [], _, e, he => by cases he
  | f :: L, h, e, he => by
    rcases List.mem_cons.1 he with rfl | he
    · rw [h.1]; exact Nat.lt_succ_self _
    · have := bnum_lt h.2 e he
      rw [List.length_cons]; omega
theorem bget_new {L : Bk} (h : ∀ e ∈ L, gb e.1.2.2.2 8 < L.length) (s : Sl) (hs : gb s.2.2.2 8 = L.length) : bget L s = none := by
  have go : ∀ L' : Bk, (∀ e ∈ L', gb e.1.2.2.2 8 < L.length) → bget L' s = none := by
    intro L'
    induction L' with
    | nil => intro _; rfl
    | cons e r ih =>
      intro h'
      rw [bget, if_neg, ih fun e he => h' e (List.mem_cons_of_mem _ he)]
      intro e2
      have := h' e (List.mem_cons_self ..)
      rw [e2, hs] at this
      omega
  exact go L h
theorem bget_mem : ∀ {L : Bk} {s : Sl} {t : List UInt8}, bget L s = some t → (s, t) ∈ L
  | [], s, t, h => by cases h
  | e :: L, s, t, h => by
    rw [bget] at h
    split at h
    · rename_i e1
      injection h with h
      rw [← e1, ← h]
      exact List.mem_cons_self ..
    · exact List.mem_cons_of_mem _ (bget_mem h)
theorem bget_of {L : Bk} (h : BOk L) {e : Sl × List UInt8} (he : e ∈ L) : bget L e.1 = some e.2 := by
  induction L with
  | nil => cases he
  | cons f L ih =>
    rcases List.mem_cons.1 he with rfl | he
    · rw [bget, if_pos rfl]
    · rw [bget, if_neg, ih h.2 he]
      intro e1
      have h1 := bnum_lt h.2 e he
      have h2 := h.1
      unfold bnum at h1 h2
      rw [e1] at h2
      omega

/-- Pieces. -/
def np (len size : Nat) : Nat := max ((len + size - 1) / size) 1
def pc (b : List UInt8) (size i : Nat) : List UInt8 := (b.drop (i * size)).take size
theorem np_pos (len size : Nat) : 1 ≤ np len size := Nat.le_max_right _ _
theorem np_end (len size : Nat) (h : 1 ≤ size) : len ≤ np len size * size := by
  have h1 : (len + size - 1) / size ≤ np len size := Nat.le_max_left _ _
  have h2 := Nat.div_add_mod (len + size - 1) size
  have h3 := Nat.mod_lt (len + size - 1) (show 0 < size by omega)
  have h4 := Nat.mul_le_mul_right size h1
  rw [Nat.mul_comm] at h2
  omega
theorem np_in {len size i : Nat} (h : 1 ≤ size) (hi : i < np len size) : i = 0 ∨ i * size < len := by
  unfold np at hi
  by_cases h0 : i = 0
  · exact .inl h0
  · refine .inr ?_
    have h1 : i < (len + size - 1) / size := by omega
    have h2 : (i + 1) * size ≤ len + size - 1 := (Nat.le_div_iff_mul_le (by omega)).1 h1
    rw [Nat.add_mul] at h2
    omega
theorem np_in_le {len size i : Nat} (h : 1 ≤ size) (hi : i < np len size) : i * size ≤ len := by
  rcases np_in h hi with rfl | h
  · omega
  · omega
theorem np_le (len size : Nat) (h : 1 ≤ size) : np len size ≤ len + 1 := by
  unfold np
  have h1 : (len + size - 1) / size ≤ len := by
    rw [Nat.div_le_iff_le_mul_add_pred (by omega)]
    have := Nat.le_mul_of_pos_left len h
    omega
  omega
theorem pc_len (b : List UInt8) (size i : Nat) : (pc b size i).length = min size (b.length - i * size) := by
  unfold pc; rw [List.length_take, List.length_drop]
theorem pc_take (b : List UInt8) (size : Nat) : ∀ i, (List.range i).flatMap (pc b size) = b.take (i * size)
  | 0 => by simp
  | i + 1 => by
    rw [List.range_succ, List.flatMap_append, pc_take b size i, Nat.succ_mul, List.take_add]
    simp [pc]
theorem pc_flat (b : List UInt8) (size : Nat) (h : 1 ≤ size) : (List.range (np b.length size)).flatMap (pc b size) = b := by
  rw [pc_take, List.take_of_length_le (np_end _ _ h)]

/-- A head; a chunk's nonce. -/
def hd (pre : List UInt8) (size : Nat) : List UInt8 := 1 :: (pre ++ bg4 size)
def nonce (pre : List UInt8) (i : Nat) (last : Bool) : List UInt8 := pre ++ bg4 i ++ [if last then 1 else 0]
theorem hd_len {pre : List UInt8} (h : pre.length = 7) (size : Nat) : (hd pre size).length = 12 := by
  unfold hd; rw [List.length_cons, List.length_append, h, bg4_len]
theorem nonce_len {pre : List UInt8} (h : pre.length = 7) (i : Nat) (l : Bool) : (nonce pre i l).length = 12 := by
  unfold nonce; rw [List.length_append, List.length_append, h, bg4_len]; rfl
theorem hd_pre {pre : List UInt8} (h : pre.length = 7) (size : Nat) : ((hd pre size).drop 1).take 7 = pre := by
  unfold hd
  rw [List.drop_succ_cons, List.drop_zero, List.take_append_of_le_length (by omega), List.take_of_length_le (by omega)]
theorem hd_size {pre : List UInt8} (h : pre.length = 7) (size : Nat) (hs : size < 4294967296) : gb ((hd pre size).drop 8) 4 = size := by
  unfold hd
  rw [List.drop_succ_cons, List.drop_append_of_le_length (by omega), List.drop_of_length_le (by omega), List.nil_append, bg4_gb size hs]
theorem nonce_inj {p q : List UInt8} {i j : Nat} {l m : Bool} (hp : p.length = 7) (hq : q.length = 7) (hi : i < 4294967296) (hj : j < 4294967296) (h : nonce p i l = nonce q j m) : p = q ∧ i = j ∧ l = m := by
  unfold nonce at h
  have h1 := List.append_inj h (by rw [List.length_append, List.length_append, hp, hq, bg4_len, bg4_len])
  have h2 := List.append_inj h1.1 (by rw [hp, hq])
  refine ⟨h2.1, bg4_inj hi hj h2.2, ?_⟩
  have h3 := h1.2
  cases l <;> cases m <;> simp_all

/-- What a book holds of chunk i. -/
def ent (n0 : Nat) (key pre ctx layer : List UInt8) (size i : Nat) : Sl × List UInt8 :=
  ((key, nonce pre i (decide (i + 1 = np layer.length size)), hd pre size ++ ctx, bbox (n0 + i) ((pc layer size i).length + 16)), pc layer size i)
def sbk (L : Bk) (key pre ctx layer : List UInt8) (size : Nat) : Nat → Bk
  | 0 => L
  | i + 1 => ent L.length key pre ctx layer size i :: sbk L key pre ctx layer size i
def sbx (n0 : Nat) (layer : List UInt8) (size i : Nat) : List UInt8 := (List.range i).flatMap fun j => bbox (n0 + j) ((pc layer size j).length + 16)
/-- What is sealed, and the book behind it. -/
def sealB (n0 : Nat) (pre layer : List UInt8) (size : Nat) : List UInt8 := hd pre size ++ sbx n0 layer size (np layer.length size)
def bookB (L : Bk) (key pre ctx layer : List UInt8) (size : Nat) : Bk := sbk L key pre ctx layer size (np layer.length size)

theorem sbk_len (L : Bk) (key pre ctx layer : List UInt8) (size : Nat) : ∀ i, (sbk L key pre ctx layer size i).length = L.length + i
  | 0 => rfl
  | i + 1 => by rw [sbk, List.length_cons, sbk_len L key pre ctx layer size i]; rfl
theorem sbk_ok (L : Bk) (key pre ctx layer : List UInt8) (size : Nat) (h : BOk L) : ∀ i, L.length + i < 18446744073709551616 → BOk (sbk L key pre ctx layer size i)
  | 0, _ => h
  | i + 1, hi => by
    refine ⟨?_, sbk_ok L key pre ctx layer size h i (by omega)⟩
    rw [sbk_len]
    exact bbox_num _ _ (by omega) (by omega)
theorem sbk_mem {L : Bk} {key pre ctx layer : List UInt8} {size : Nat} {e : Sl × List UInt8} : ∀ {i}, e ∈ sbk L key pre ctx layer size i ↔ e ∈ L ∨ ∃ j, j < i ∧ e = ent L.length key pre ctx layer size j
  | 0 => by
    rw [sbk]
    exact ⟨.inl, fun h => h.elim id fun ⟨j, hj, _⟩ => absurd hj (Nat.not_lt_zero j)⟩
  | i + 1 => by
    rw [sbk, List.mem_cons, sbk_mem]
    constructor
    · rintro (rfl | h | ⟨j, hj, rfl⟩)
      · exact .inr ⟨i, by omega, rfl⟩
      · exact .inl h
      · exact .inr ⟨j, by omega, rfl⟩
    · rintro (h | ⟨j, hj, rfl⟩)
      · exact .inr (.inl h)
      · by_cases e : j = i
        · subst e; exact .inl rfl
        · exact .inr (.inr ⟨j, by omega, rfl⟩)
theorem sbx_succ (n0 : Nat) (layer : List UInt8) (size i : Nat) : sbx n0 layer size (i + 1) = sbx n0 layer size i ++ bbox (n0 + i) ((pc layer size i).length + 16) := by
  unfold sbx; rw [List.range_succ, List.flatMap_append]; simp
theorem sbx_len (n0 : Nat) (layer : List UInt8) (size : Nat) : ∀ i, (sbx n0 layer size i).length = ((List.range i).flatMap (pc layer size)).length + i * 16
  | 0 => by simp [sbx]
  | i + 1 => by
    rw [sbx_succ, List.length_append, sbx_len n0 layer size i, bbox_len, List.range_succ, List.flatMap_append, List.length_append]
    simp
    omega

/-- What is opened. -/
def osz (s : List UInt8) : Nat := gb (s.drop 8) 4
def onp (s : List UInt8) : Nat := np (s.length - 12) (osz s + 16)
def opc (s : List UInt8) (i : Nat) : List UInt8 := pc (s.drop 12) (osz s + 16) i
/-- Can it be cut? -/
def oOk (s : List UInt8) : Prop := 12 ≤ s.length ∧ s.getD 0 0 = 1 ∧ 1 ≤ osz s ∧ osz s ≤ 65536 ∧ ((onp s - 1) * (osz s + 16) + 16 < s.length - 12 ∨ ((onp s - 1) * (osz s + 16) + 16 = s.length - 12 ∧ (onp s - 1) * (osz s + 16) = 0))
def okey (key ctx s : List UInt8) (i : Nat) : Sl := (key, nonce ((s.drop 1).take 7) i (decide (i + 1 = onp s)), s.take 12 ++ ctx, opc s i)
def orun (L : Bk) (key ctx s : List UInt8) : Nat → Option (List UInt8)
  | 0 => some []
  | i + 1 => (orun L key ctx s i).bind fun t => (bget L (okey key ctx s i)).map (t ++ ·)

theorem orun_all {L : Bk} {key ctx s : List UInt8} : ∀ {i : Nat} {z : List UInt8}, orun L key ctx s i = some z → ∀ j, j < i → ∃ t, bget L (okey key ctx s j) = some t
  | 0, z, h, j, hj => absurd hj (Nat.not_lt_zero j)
  | i + 1, z, h, j, hj => by
    rw [orun] at h
    cases h1 : orun L key ctx s i with
    | none => rw [h1] at h; cases h
    | some t =>
      rw [h1] at h
      cases h2 : bget L (okey key ctx s i) with
      | none => rw [h2] at h; cases h
      | some u =>
        by_cases e : j = i
        · subst e; exact ⟨u, h2⟩
        · exact orun_all h1 j (by omega)
theorem orun_none {L : Bk} {key ctx s : List UInt8} {i : Nat} (h : bget L (okey key ctx s i) = none) : ∀ {m : Nat}, i < m → orun L key ctx s m = none := by
  intro m hm
  cases e : orun L key ctx s m with
  | none => rfl
  | some z =>
    obtain ⟨t, ht⟩ := orun_all e i hm
    rw [h] at ht
    cases ht

/-- The head of what was sealed. -/
theorem sealB_take {pre : List UInt8} (hp : pre.length = 7) (n0 : Nat) (layer : List UInt8) (size : Nat) : (sealB n0 pre layer size).take 12 = hd pre size := by
  unfold sealB
  rw [List.take_append_of_le_length (by rw [hd_len hp]; exact Nat.le_refl _), List.take_of_length_le (by rw [hd_len hp]; exact Nat.le_refl _)]
theorem sealB_drop {pre : List UInt8} (hp : pre.length = 7) (n0 : Nat) (layer : List UInt8) (size : Nat) : (sealB n0 pre layer size).drop 12 = sbx n0 layer size (np layer.length size) := by
  unfold sealB
  rw [List.drop_append_of_le_length (by rw [hd_len hp]; exact Nat.le_refl _), List.drop_of_length_le (by rw [hd_len hp]; exact Nat.le_refl _), List.nil_append]
theorem sealB_len {pre : List UInt8} (hp : pre.length = 7) (n0 : Nat) (layer : List UInt8) (size : Nat) (h : 1 ≤ size) : (sealB n0 pre layer size).length = 12 + layer.length + np layer.length size * 16 := by
  unfold sealB
  rw [List.length_append, hd_len hp, sbx_len, pc_flat _ _ h]
  omega
theorem head_of {s pre : List UInt8} {size : Nat} (hp : pre.length = 7) (hs : size < 4294967296) (h : s.take 12 = hd pre size) : 12 ≤ s.length ∧ (s.drop 1).take 7 = pre ∧ osz s = size := by
  have hl : 12 ≤ s.length := by
    have := congrArg List.length h
    rw [hd_len hp, List.length_take] at this
    omega
  have e : s = hd pre size ++ s.drop 12 := by rw [← h, List.take_append_drop]
  refine ⟨hl, ?_, ?_⟩
  · rw [e]
    have hh := hd_len hp size
    rw [List.drop_append_of_le_length (by omega), List.take_append_of_le_length (by rw [List.length_drop]; omega), hd_pre hp]
  · unfold osz
    rw [e]
    have hh := hd_len hp size
    rw [List.drop_append_of_le_length (by omega)]
    refine Eq.trans ?_ (hd_size hp size hs)
    apply gb_congr
    intro j hj
    rw [List.getD_eq_getElem?_getD, List.getD_eq_getElem?_getD, List.getElem?_append_left (by rw [List.length_drop]; omega)]

/-- Whatever is opened, with a book of two layers that were sealed with one key and context and other prefixes, is one of the two. -/
theorem opened {key ctx layer p q : List UInt8} {size n0 : Nat} {key' ctx' s : List UInt8} {L : Bk}
    (hp : p.length = 7) (hq : q.length = 7) (hpq : p ≠ q) (hsz : 1 ≤ size) (hsz2 : size ≤ 65536) (hl : layer.length < 4294967295) (hs : s.length < 4294967295)
    (hL : ∀ sl t, bget L sl = some t → (∃ j, j < np layer.length size ∧ sl = (ent 0 key p ctx layer size j).1) ∨ (∃ j, j < np layer.length size ∧ sl = (ent n0 key q ctx layer size j).1))
    (h12 : 12 ≤ s.length) {z : List UInt8} (hz : orun L key' ctx' s (onp s) = some z) : key' = key ∧ ctx' = ctx ∧ (s = sealB 0 p layer size ∨ s = sealB n0 q layer size) := by
  have hall := orun_all hz
  have hm : 1 ≤ onp s := np_pos _ _
  have hml : onp s ≤ s.length - 12 + 1 := np_le _ _ (by omega)
  have hkl : np layer.length size ≤ layer.length + 1 := np_le _ _ hsz
  have ht12 : (s.take 12).length = 12 := by rw [List.length_take]; omega
  have one : ∀ (r : List UInt8) (m0 : Nat), r.length = 7 → s.take 12 = hd r size → (∀ j, j < onp s → ∃ i, i < np layer.length size ∧ okey key' ctx' s j = (ent m0 key r ctx layer size i).1) → key' = key ∧ ctx' = ctx ∧ s = sealB m0 r layer size := by
    intro r m0 hr hh hj
    obtain ⟨_, hpre, hosz⟩ := head_of hr (by omega) hh
    have each : ∀ j, j < onp s → j < np layer.length size ∧ (decide (j + 1 = onp s) = decide (j + 1 = np layer.length size)) ∧ opc s j = bbox (m0 + j) ((pc layer size j).length + 16) ∧ key' = key ∧ ctx' = ctx := by
      intro j hjm
      obtain ⟨i, hi, e⟩ := hj j hjm
      unfold okey ent at e
      simp only [Prod.mk.injEq] at e
      obtain ⟨e1, e2, e3, e4⟩ := e
      rw [hpre] at e2
      obtain ⟨_, rfl, e5⟩ := nonce_inj hr hr (by omega) (by omega) e2
      have e6 := List.append_inj e3 (by rw [ht12, hd_len hr])
      exact ⟨hi, e5, e4, e1, e6.2⟩
    have hk : onp s = np layer.length size := by
      obtain ⟨h1, h2, _⟩ := each (onp s - 1) (by omega)
      rw [decide_eq_true (by omega)] at h2
      have := of_decide_eq_true h2.symm
      omega
    obtain ⟨_, _, _, ek, ec⟩ := each 0 (by omega)
    refine ⟨ek, ec, ?_⟩
    rw [← List.take_append_drop 12 s, hh]
    unfold sealB
    congr 1
    have hf := pc_flat (s.drop 12) (osz s + 16) (by omega)
    rw [List.length_drop] at hf
    rw [← hf]
    change (List.range (onp s)).flatMap _ = _
    unfold sbx
    rw [← hk]
    have : ∀ (n : Nat), n ≤ onp s → (List.range n).flatMap (pc (s.drop 12) (osz s + 16)) = (List.range n).flatMap fun j => bbox (m0 + j) ((pc layer size j).length + 16) := by
      intro n
      induction n with
      | zero => intro _; rfl
      | succ n ih =>
        intro hn
        rw [List.range_succ, List.flatMap_append, List.flatMap_append, ih (by omega)]
        have := (each n (by omega)).2.2.1
        unfold opc at this
        simp [this]
    exact this _ (Nat.le_refl _)
  have fam : ∀ j, j < onp s → (∃ i, i < np layer.length size ∧ okey key' ctx' s j = (ent 0 key p ctx layer size i).1) ∨ (∃ i, i < np layer.length size ∧ okey key' ctx' s j = (ent n0 key q ctx layer size i).1) := by
    intro j hj
    obtain ⟨t, ht⟩ := hall j hj
    rcases hL _ _ ht with h | h
    · exact .inl h
    · exact .inr h
  have hdOf : ∀ (r : List UInt8) (m0 i j : Nat), r.length = 7 → okey key' ctx' s j = (ent m0 key r ctx layer size i).1 → s.take 12 = hd r size := by
    intro r m0 i j hr e
    unfold okey ent at e
    simp only [Prod.mk.injEq] at e
    exact (List.append_inj e.2.2.1 (by rw [ht12, hd_len hr])).1
  have hne : hd p size ≠ hd q size := by
    intro e
    apply hpq
    rw [← hd_pre hp size, ← hd_pre hq size, e]
  rcases fam 0 (by omega) with ⟨i, hi, e⟩ | ⟨i, hi, e⟩
  · have hh := hdOf p 0 i 0 hp e
    have := one p 0 hp hh fun j hj => (fam j hj).elim id fun ⟨i2, hi2, e2⟩ => absurd (hh.symm.trans (hdOf q n0 i2 j hq e2)) hne
    exact ⟨this.1, this.2.1, .inl this.2.2⟩
  · have hh := hdOf q n0 i 0 hq e
    have := one q n0 hq hh fun j hj => (fam j hj).elim (fun ⟨i2, hi2, e2⟩ => absurd ((hdOf p 0 i2 j hp e2).symm.trans hh) hne) id
    exact ⟨this.1, this.2.1, .inr this.2.2⟩

/-- What was sealed is opened. -/
theorem sealed_cut {pre layer : List UInt8} {size : Nat} (n0 : Nat) (hp : pre.length = 7) (hsz : 1 ≤ size) (hsz2 : size ≤ 65536) :
    osz (sealB n0 pre layer size) = size ∧ onp (sealB n0 pre layer size) = np layer.length size ∧ oOk (sealB n0 pre layer size) ∧ ∀ i, i < np layer.length size → opc (sealB n0 pre layer size) i = bbox (n0 + i) ((pc layer size i).length + 16) := by
  obtain ⟨h12, hpre, hosz⟩ := head_of hp (show size < 4294967296 by omega) (sealB_take hp n0 layer size)
  have hlen := sealB_len hp n0 layer size hsz
  obtain ⟨k, hk⟩ : ∃ k, k = np layer.length size := ⟨_, rfl⟩
  have hk1 : 1 ≤ k := by rw [hk]; exact np_pos _ _
  have hend := np_end layer.length size hsz
  have hin : k - 1 = 0 ∨ (k - 1) * size < layer.length := np_in hsz (by rw [← hk]; omega)
  rw [← hk] at hend hlen
  have hmul : k * size = (k - 1) * size + size := by
    obtain ⟨c, rfl⟩ : ∃ c, k = c + 1 := ⟨k - 1, by omega⟩
    rw [Nat.add_sub_cancel, Nat.succ_mul]
  have hmul2 : (k - 1) * (size + 16) = (k - 1) * size + (k - 1) * 16 := Nat.mul_add _ _ _
  have hl : (sealB n0 pre layer size).length - 12 = layer.length + k * 16 := by omega
  have hnp : np (layer.length + k * 16) (size + 16) = k := by
    unfold np
    have hdiv : (layer.length + k * 16 + (size + 16) - 1) / (size + 16) = k := by
      rw [Nat.div_eq_iff (by omega)]
      have e1 : k * (size + 16) = k * size + k * 16 := Nat.mul_add _ _ _
      constructor
      · rw [e1]
        rcases hin with h | h
        · have : k = 1 := by omega
          subst this
          omega
        · omega
      · rw [e1]
        omega
    rw [hdiv]
    omega
  have honp : onp (sealB n0 pre layer size) = k := by unfold onp; rw [hosz, hl, hnp]
  refine ⟨hosz, by rw [honp, hk], ⟨h12, ?_, by omega, by omega, ?_⟩, ?_⟩
  · unfold sealB hd; rfl
  · rw [honp, hosz, hl, hmul2]
    rcases hin with h | h
    · rw [h]
      have : k = 1 := by omega
      subst this
      by_cases e : layer.length = 0
      · right; omega
      · left; omega
    · left; omega
  · intro i hi
    rw [← hk] at hi
    unfold opc
    rw [hosz, sealB_drop hp]
    rw [← hk]
    -- the boxes are cut where they were joined
    have full : ∀ j, j + 1 < k → (pc layer size j).length = size := by
      intro j hj
      rw [pc_len]
      have h1 : (j + 1) * size ≤ (k - 1) * size := Nat.mul_le_mul_right _ (by omega)
      rw [Nat.succ_mul] at h1
      have : (k - 1) * size < layer.length := by
        rcases hin with h | h
        · omega
        · exact h
      omega
    have front : ∀ j, j < k → (sbx n0 layer size j).length = j * (size + 16) := by
      intro j
      induction j with
      | zero => intro _; simp [sbx]
      | succ j ih =>
        intro hj
        rw [sbx_succ, List.length_append, ih (by omega), bbox_len, full j (by omega), Nat.succ_mul]
    have split : ∀ m, i < m → m ≤ k → ∃ r, sbx n0 layer size m = sbx n0 layer size i ++ (bbox (n0 + i) ((pc layer size i).length + 16) ++ r) ∧ (i + 1 = m → r = []) := by
      intro m
      induction m with
      | zero => intro h; exact absurd h (Nat.not_lt_zero i)
      | succ m ih =>
        intro h1 h2
        by_cases e : i = m
        · subst e
          exact ⟨[], by rw [sbx_succ, List.append_nil], fun _ => rfl⟩
        · obtain ⟨r, hr, _⟩ := ih (by omega) (by omega)
          exact ⟨r ++ bbox (n0 + m) ((pc layer size m).length + 16), by rw [sbx_succ, hr]; simp only [List.append_assoc], fun h => by omega⟩
    obtain ⟨r, hr, hrn⟩ := split k hi (Nat.le_refl _)
    rw [show pc (sbx n0 layer size k) (size + 16) i = ((sbx n0 layer size k).drop (i * (size + 16))).take (size + 16) from rfl]
    rw [hr, List.drop_append_of_le_length (by rw [front i hi]; exact Nat.le_refl _), List.drop_of_length_le (by rw [front i hi]; exact Nat.le_refl _), List.nil_append]
    by_cases e : i + 1 = k
    · rw [hrn e, List.append_nil, List.take_of_length_le]
      · rw [bbox_len]
        have := pc_len layer size i
        omega
    · have h1 := full i (by omega)
      have h2 : (bbox (n0 + i) ((pc layer size i).length + 16)).length = size + 16 := by rw [bbox_len, h1]
      rw [List.take_append_of_le_length (by rw [h2]; exact Nat.le_refl _), List.take_of_length_le (by rw [h2]; exact Nat.le_refl _)]

theorem sealed_opens {key pre ctx layer : List UInt8} {size : Nat} {L : Bk} (n0 : Nat) (hp : pre.length = 7) (hsz : 1 ≤ size) (hsz2 : size ≤ 65536) (hL : BOk L)
    (hin : ∀ i, i < np layer.length size → ent n0 key pre ctx layer size i ∈ L) : orun L key ctx (sealB n0 pre layer size) (onp (sealB n0 pre layer size)) = some layer := by
  obtain ⟨hosz, honp, hok, hpc⟩ := sealed_cut n0 (layer := layer) hp hsz hsz2
  obtain ⟨_, hpre, _⟩ := head_of hp (show size < 4294967296 by omega) (sealB_take hp n0 layer size)
  have go : ∀ i, i ≤ np layer.length size → orun L key ctx (sealB n0 pre layer size) i = some ((List.range i).flatMap (pc layer size)) := by
    intro i
    induction i with
    | zero => intro _; rfl
    | succ i ih =>
      intro hi
      rw [orun, ih (by omega)]
      have hk : okey key ctx (sealB n0 pre layer size) i = (ent n0 key pre ctx layer size i).1 := by
        unfold okey ent
        rw [hpre, honp, sealB_take hp, hpc i (by omega)]
      have := bget_of hL (hin i (by omega))
      rw [hk, this, List.range_succ, List.flatMap_append]
      simp [ent]
  rw [honp, go _ (Nat.le_refl _), pc_flat _ _ hsz]

end M
end Go.Proofs.YtdojalhaklkegaaDoor

namespace Go.Proofs.YtdojalhaklkegaaDoor.M
set_option linter.unusedVariables false

section
variable {α β : Type}

/-- A list by names. -/
abbrev KL (α : Type) := List (List UInt8 × α)
def KRise (l : KL α) : Prop := l.Pairwise fun p q => bytesBefore p.1 q.1 = true
def kget (l : KL α) (k : List UInt8) : Option α := (l.find? fun p => p.1 == k).map (·.2)
def kdel (l : KL α) (k : List UInt8) : KL α := l.filter fun p => !(p.1 == k)
def kins (k : List UInt8) (v : α) : KL α → KL α
  | [] => [(k, v)]
  | q :: r => if bytesBefore k q.1 = true then (k, v) :: q :: r else q :: kins k v r
def kput (l : KL α) (k : List UInt8) (v : α) : KL α := kins k v (kdel l k)

theorem kget_cons (p : List UInt8 × α) (l : KL α) (k : List UInt8) : kget (p :: l) k = if p.1 = k then some p.2 else kget l k := by
  rw [kget, List.find?_cons]
  by_cases h : p.1 = k
  · simp [h]
  · have : (p.1 == k) = false := by simpa using h
    rw [this, if_neg h]
    rfl

theorem kget_nil (k : List UInt8) : kget ([] : KL α) k = none := rfl

theorem kget_mem {l : KL α} {k : List UInt8} {v : α} (h : kget l k = some v) : (k, v) ∈ l := by
  rw [kget, Option.map_eq_some_iff] at h
  obtain ⟨p, hp, e⟩ := h
  have h1 := List.mem_of_find?_eq_some hp
  have h2 := List.find?_some hp
  have h3 : p.1 = k := by simpa using h2
  rw [← h3, ← e]
  exact h1

theorem kget_none {l : KL α} {k : List UInt8} (h : kget l k = none) : ∀ p ∈ l, p.1 ≠ k := by
  rw [kget, Option.map_eq_none_iff, List.find?_eq_none] at h
  intro p hp e
  exact h p hp (by simpa using e)

theorem kget_of_mem : ∀ {l : KL α}, KRise l → ∀ {p : List UInt8 × α}, p ∈ l → kget l p.1 = some p.2
  | x :: r, h, p, hp => by
    obtain ⟨h1, h2⟩ := List.pairwise_cons.1 h
    rw [kget_cons]
    rcases List.mem_cons.1 hp with rfl | hp
    · rw [if_pos rfl]
    · rw [if_neg, kget_of_mem h2 hp]
      intro e
      have := h1 p hp
      rw [e, WideAt.bytes_irrefl] at this
      cases this

theorem kget_is_none {l : KL α} {k : List UInt8} (h : ∀ p ∈ l, p.1 ≠ k) : kget l k = none := by
  cases e : kget l k with
  | none => rfl
  | some v => exact absurd rfl (h _ (kget_mem e))

theorem mem_kins (k : List UInt8) (v : α) (q : List UInt8 × α) : ∀ l : KL α, q ∈ kins k v l ↔ q = (k, v) ∨ q ∈ l
  | [] => by simp [kins]
  | x :: r => by
    rw [kins]
    split
    · simp
    · rw [List.mem_cons, mem_kins k v q r, List.mem_cons]
      constructor
      · rintro (h | h | h)
        · exact .inr (.inl h)
        · exact .inl h
        · exact .inr (.inr h)
      · rintro (h | h | h)
        · exact .inr (.inl h)
        · exact .inl h
        · exact .inr (.inr h)

theorem mem_kdel (l : KL α) (k : List UInt8) (q : List UInt8 × α) : q ∈ kdel l k ↔ q ∈ l ∧ q.1 ≠ k := by
  rw [kdel, List.mem_filter]
  simp

theorem mem_kput (l : KL α) (k : List UInt8) (v : α) (q : List UInt8 × α) : q ∈ kput l k v ↔ q = (k, v) ∨ (q ∈ l ∧ q.1 ≠ k) := by rw [kput, mem_kins, mem_kdel]

theorem rise_nil : KRise ([] : KL α) := List.Pairwise.nil

theorem rise_kdel {l : KL α} (h : KRise l) (k : List UInt8) : KRise (kdel l k) := List.Pairwise.filter _ h

theorem rise_kins {k : List UInt8} {v : α} : ∀ {l : KL α}, KRise l → (∀ q ∈ l, q.1 ≠ k) → KRise (kins k v l)
  | [], _, _ => by simp [kins, KRise]
  | x :: r, h, hn => by
    obtain ⟨h1, h2⟩ := List.pairwise_cons.1 h
    rw [kins]
    split
    · rename_i hb
      refine List.pairwise_cons.2 ⟨fun q hq => ?_, h⟩
      rcases List.mem_cons.1 hq with rfl | hq
      · exact hb
      · exact WideShapes.bytes_trans _ _ _ hb (h1 q hq)
    · rename_i hb
      have hx : bytesBefore x.1 k = true := by
        rcases WideAt.bytes_total k x.1 (hn x (List.mem_cons_self ..)).symm with h | h
        · exact absurd h hb
        · exact h
      refine List.pairwise_cons.2 ⟨fun q hq => ?_, rise_kins h2 fun q hq => hn q (List.mem_cons_of_mem _ hq)⟩
      rcases (mem_kins k v q r).1 hq with rfl | hq
      · exact hx
      · exact h1 q hq

theorem rise_kput {l : KL α} (h : KRise l) (k : List UInt8) (v : α) : KRise (kput l k v) := rise_kins (rise_kdel h _) fun q hq => ((mem_kdel l k q).1 hq).2

theorem kget_iff {l : KL α} (h : KRise l) (k : List UInt8) (v : α) : kget l k = some v ↔ (k, v) ∈ l := ⟨kget_mem, fun hp => kget_of_mem h hp⟩

theorem kget_kput {l : KL α} (h : KRise l) (k : List UInt8) (v : α) (k' : List UInt8) : kget (kput l k v) k' = if k' = k then some v else kget l k' := by
  by_cases e : k' = k
  · rw [if_pos e, e]
    exact (kget_iff (rise_kput h k v) k v).2 ((mem_kput l k v _).2 (.inl rfl))
  · rw [if_neg e]
    cases hg : kget l k' with
    | some x => exact (kget_iff (rise_kput h k v) k' x).2 ((mem_kput l k v _).2 (.inr ⟨kget_mem hg, e⟩))
    | none =>
      refine kget_is_none fun p hp hk => ?_
      rcases (mem_kput l k v p).1 hp with rfl | ⟨hp, _⟩
      · exact e hk.symm
      · exact kget_none hg p hp hk

theorem kget_kdel {l : KL α} (h : KRise l) (k k' : List UInt8) : kget (kdel l k) k' = if k' = k then none else kget l k' := by
  by_cases e : k' = k
  · rw [if_pos e]
    exact kget_is_none fun p hp hk => ((mem_kdel l k p).1 hp).2 (hk.trans e)
  · rw [if_neg e]
    cases hg : kget l k' with
    | some x => exact (kget_iff (rise_kdel h k) k' x).2 ((mem_kdel l k _).2 ⟨kget_mem hg, e⟩)
    | none => exact kget_is_none fun p hp hk => kget_none hg p ((mem_kdel l k p).1 hp).1 hk

theorem mem_ext_rise {γ : Type} (f : γ → List UInt8) : ∀ {l m : List γ}, l.Pairwise (fun p q => bytesBefore (f p) (f q) = true) → m.Pairwise (fun p q => bytesBefore (f p) (f q) = true) → (∀ p, p ∈ l ↔ p ∈ m) → l = m
  | [], [], _, _, _ => rfl
  | [], b :: s, _, _, h => by have := (h b).2 (by simp); simp at this
  | a :: r, [], _, _, h => by have := (h a).1 (by simp); simp at this
  | a :: r, b :: s, h1, h2, h => by
    obtain ⟨a1, a2⟩ := List.pairwise_cons.1 h1
    obtain ⟨b1, b2⟩ := List.pairwise_cons.1 h2
    have hab : a = b := by
      rcases List.mem_cons.1 ((h a).1 (by simp)) with e | ha
      · exact e
      · rcases List.mem_cons.1 ((h b).2 (by simp)) with e | hb
        · exact e.symm
        · have := WideShapes.bytes_trans _ _ _ (a1 b hb) (b1 a ha)
          rw [WideAt.bytes_irrefl] at this
          cases this
    subst hab
    rw [mem_ext_rise f a2 b2 (fun p => ⟨fun hp => by
      rcases List.mem_cons.1 ((h p).1 (by simp [hp])) with e | hp'
      · have := a1 p hp
        rw [e, WideAt.bytes_irrefl] at this
        cases this
      · exact hp', fun hp => by
      rcases List.mem_cons.1 ((h p).2 (by simp [hp])) with e | hp'
      · have := b1 p hp
        rw [e, WideAt.bytes_irrefl] at this
        cases this
      · exact hp'⟩)]

theorem kext {l m : KL α} (hl : KRise l) (hm : KRise m) (h : ∀ k, kget l k = kget m k) : l = m :=
  mem_ext_rise (fun p : List UInt8 × α => p.1) hl hm fun p => by rw [← kget_iff hl p.1 p.2, ← kget_iff hm p.1 p.2, h]

/-- Two lists by the same names, what stands there being of a kind. -/
def KRel (Q : List UInt8 → α → β → Prop) : KL α → KL β → Prop
  | [], [] => True
  | p :: l, q :: m => (p.1 = q.1 ∧ Q q.1 p.2 q.2) ∧ KRel Q l m
  | _, _ => False

theorem KRel.mono {Q Q' : List UInt8 → α → β → Prop} (hq : ∀ k x y, Q k x y → Q' k x y) : ∀ {l : KL α} {m : KL β}, KRel Q l m → KRel Q' l m
  | [], [], _ => trivial
  | p :: l, q :: m, h => ⟨⟨h.1.1, hq _ _ _ h.1.2⟩, KRel.mono hq h.2⟩

theorem KRel.keys {Q : List UInt8 → α → β → Prop} : ∀ {l : KL α} {m : KL β}, KRel Q l m → l.map (·.1) = m.map (·.1)
  | [], [], _ => rfl
  | p :: l, q :: m, h => by rw [List.map_cons, List.map_cons, h.1.1, KRel.keys h.2]

theorem KRel.len {Q : List UInt8 → α → β → Prop} {l : KL α} {m : KL β} (h : KRel Q l m) : l.length = m.length := by
  have := congrArg List.length h.keys
  rwa [List.length_map, List.length_map] at this

theorem KRel.get {Q : List UInt8 → α → β → Prop} (k : List UInt8) : ∀ {l : KL α} {m : KL β}, KRel Q l m → (kget l k = none ∧ kget m k = none) ∨ ∃ x y, kget l k = some x ∧ kget m k = some y ∧ Q k x y
  | [], [], _ => .inl ⟨rfl, rfl⟩
  | p :: l, q :: m, h => by
    rw [kget_cons, kget_cons, h.1.1]
    by_cases e : q.1 = k
    · rw [if_pos e, if_pos e]
      exact .inr ⟨_, _, rfl, rfl, e ▸ h.1.2⟩
    · rw [if_neg e, if_neg e]
      exact KRel.get k h.2

theorem KRel.del {Q : List UInt8 → α → β → Prop} (k : List UInt8) : ∀ {l : KL α} {m : KL β}, KRel Q l m → KRel Q (kdel l k) (kdel m k)
  | [], [], _ => trivial
  | p :: l, q :: m, h => by
    have ih := KRel.del k h.2
    by_cases e : q.1 = k
    · have e1 : kdel (p :: l) k = kdel l k := by rw [kdel, List.filter_cons_of_neg (by simp [h.1.1, e])]; rfl
      have e2 : kdel (q :: m) k = kdel m k := by rw [kdel, List.filter_cons_of_neg (by simp [e])]; rfl
      rw [e1, e2]; exact ih
    · have e1 : kdel (p :: l) k = p :: kdel l k := by rw [kdel, List.filter_cons_of_pos (by simp [h.1.1, e])]; rfl
      have e2 : kdel (q :: m) k = q :: kdel m k := by rw [kdel, List.filter_cons_of_pos (by simp [e])]; rfl
      rw [e1, e2]; exact ⟨h.1, ih⟩

theorem KRel.ins {Q : List UInt8 → α → β → Prop} (k : List UInt8) (x : α) (y : β) (hq : Q k x y) : ∀ {l : KL α} {m : KL β}, KRel Q l m → KRel Q (kins k x l) (kins k y m)
  | [], [], _ => ⟨⟨rfl, hq⟩, trivial⟩
  | p :: l, q :: m, h => by
    rw [kins, kins, h.1.1]
    by_cases e : bytesBefore k q.1 = true
    · rw [if_pos e, if_pos e]; exact ⟨⟨rfl, hq⟩, h⟩
    · rw [if_neg e, if_neg e]; exact ⟨h.1, KRel.ins k x y hq h.2⟩

theorem KRel.put {Q : List UInt8 → α → β → Prop} {l : KL α} {m : KL β} (h : KRel Q l m) (k : List UInt8) (x : α) (y : β) (hq : Q k x y) : KRel Q (kput l k x) (kput m k y) := KRel.ins k x y hq (h.del k)

theorem kput_le (l : KL α) (k : List UInt8) (v : α) : (kput l k v).length ≤ l.length + 1 := by
  have h1 : ∀ l : KL α, (kins k v l).length = l.length + 1 := by
    intro l
    induction l with
    | nil => rfl
    | cons x r ih =>
      rw [kins]
      split
      · rfl
      · rw [List.length_cons, ih, List.length_cons]
  rw [kput, h1]
  have : (kdel l k).length ≤ l.length := List.length_filter_le _ _
  omega

theorem kdel_idx : ∀ (t : KL α) (k : List UInt8), KRise t → kdel t k = t.take (t.findIdx fun p => p.1 == k) ++ t.drop ((t.findIdx fun p => p.1 == k) + 1)
  | [], k, _ => rfl
  | p :: r, k, h => by
    obtain ⟨h1, h2⟩ := List.pairwise_cons.1 h
    rw [List.findIdx_cons]
    by_cases e : p.1 = k
    · have hb : (p.1 == k) = true := by simpa using e
      have e2 : kdel (p :: r) k = r := by
        rw [kdel, List.filter_cons, if_neg (by rw [hb]; decide)]
        refine List.filter_eq_self.2 fun q hq => ?_
        have : q.1 ≠ k := by
          intro hqk
          have := h1 q hq
          rw [hqk, e, WideAt.bytes_irrefl] at this
          cases this
        simpa using this
      rw [e2, hb]
      rfl
    · have hb : (p.1 == k) = false := by simpa using e
      have e2 : kdel (p :: r) k = p :: kdel r k := by
        rw [kdel, List.filter_cons, if_pos (by rw [hb]; decide)]
        rfl
      rw [e2, kdel_idx r k h2, hb]
      rfl

theorem kins_idx (k : List UInt8) (v : α) : ∀ t : KL α, (∀ q ∈ t, q.1 ≠ k) → kins k v t = t.take (t.findIdx fun q => !bytesBefore q.1 k) ++ (k, v) :: t.drop (t.findIdx fun q => !bytesBefore q.1 k)
  | [], _ => rfl
  | x :: r, h => by
    rw [List.findIdx_cons, kins]
    by_cases hb : bytesBefore k x.1 = true
    · have hx : bytesBefore x.1 k = false := by
        cases hh : bytesBefore x.1 k with
        | false => rfl
        | true =>
          have := WideShapes.bytes_trans _ _ _ hb hh
          rw [WideAt.bytes_irrefl] at this
          cases this
      rw [if_pos hb, hx]
      rfl
    · have hx : bytesBefore x.1 k = true := by
        rcases WideAt.bytes_total k x.1 (h x (List.mem_cons_self ..)).symm with h | h
        · exact absurd h hb
        · exact h
      rw [if_neg hb, hx, kins_idx k v r fun q hq => h q (List.mem_cons_of_mem _ hq)]
      rfl
end

end Go.Proofs.YtdojalhaklkegaaDoor.M
