/-
  PLAIN MATHEMATICS OF FILES ON A DISK: what its blocks tell of files (On, filesB), that writes to free blocks leave them alone (same_on), and what a commit's writes and its table make of them (commit_on). Nothing of the program. Conditions: none.
  FILES AS THEY LIE (IsFs: a slice of api.File; RefIn: the document's files), and how they last. Conditions: none.
-/
import Derived.Test.YtphcbpfpelonaaaGreatDoorPf27
import Derived.Test.YtphcbpfpelonaaaGreatDoorPf24
import Derived.Test.YtphcbpfpelonaaaGreatDoorFileV
import Derived.Test.YtphcbpfpelonaaaGreatDoorPf28
import Derived.Test.YtphcbpfpelonaaaGreatDoorPf12

namespace Go.Proofs.YtphcbpfpelonaaaGreatDoor.M
set_option linter.unusedVariables false

def metaB (s : List (List UInt8)) : List UInt8 := ((List.range 32).map fun i => s.getD (42 + i) []).flatten
def datB (s : List (List UInt8)) (p : Pl) : List UInt8 := ((p.bs.map fun b => s.getD (74 + b) []).flatten).take p.sz
def filesB (s : List (List UInt8)) (t : Tab) : Fs := t.map (img (datB s))
def nbS (s : List (List UInt8)) : Nat := min (s.length - 74) 2048

/-- The blocks tell of the files of a table. -/
structure On (s : List (List UInt8)) (t : Tab) : Prop where
  few : s.length ≤ 2176
  full : ∀ b ∈ s, b.length = 256
  big : 74 < s.length
  ok : TabOk (nbS s) t
  told : tbytes t = metaB s

theorem full_at {s : List (List UInt8)} (h : ∀ b ∈ s, b.length = 256) {i : Nat} (hi : i < s.length) : (s.getD i []).length = 256 := by
  rw [List.getD_eq_getElem?_getD, List.getElem?_eq_getElem hi]
  exact h _ (List.getElem_mem hi)

theorem flat_get : ∀ (L : List (List UInt8)), (∀ b ∈ L, b.length = 256) → ∀ j r, r < 256 → j < L.length → L.flatten.getD (256 * j + r) 0 = (L.getD j []).getD r 0
  | L, hf, j, r, hr, hj => by
    have h := flat_mid L j hf hj
    rw [← h, List.getD_eq_getElem?_getD, List.getD_eq_getElem?_getD, List.getElem?_take, if_pos hr, List.getElem?_drop]

theorem flat_len {L : List (List UInt8)} (hf : ∀ b ∈ L, b.length = 256) : L.flatten.length = 256 * L.length := flat_length L hf

/-- Rows of 256 that are a text's pieces are it. -/
theorem flat_ext {L : List (List UInt8)} (hf : ∀ b ∈ L, b.length = 256) {d : List UInt8} (hd : d.length ≤ 256 * L.length) (h : ∀ j r, r < 256 → 256 * j + r < d.length → (L.getD j []).getD r 0 = d.getD (256 * j + r) 0) : L.flatten.take d.length = d := by
  have hl := flat_len hf
  refine list_ext (by rw [List.length_take, hl]; omega) fun i hi => ?_
  rw [List.length_take, hl] at hi
  have e : 256 * (i / 256) + i % 256 = i := Nat.div_add_mod i 256
  have hm : i % 256 < 256 := Nat.mod_lt _ (by decide)
  rw [List.getD_eq_getElem?_getD, List.getElem?_take, if_pos (by omega), ← List.getD_eq_getElem?_getD]
  have h1 := flat_get L hf (i / 256) (i % 256) hm (by omega)
  rw [e] at h1
  rw [h1, h (i / 256) (i % 256) hm (by omega), e]

theorem rows_len {α : Type} {f : α → List UInt8} {l : List α} (h : ∀ x ∈ l, (f x).length = 256) : ∀ b ∈ l.map f, b.length = 256 := fun b hb => by
  obtain ⟨x, hx, rfl⟩ := List.mem_map.1 hb
  exact h x hx

theorem datB_len {s : List (List UInt8)} {t : Tab} (on : On s t) {p : Pl} (hp : p ∈ t) : (datB s p).length = p.sz := by
  have h1 : ∀ b ∈ p.bs, (s.getD (74 + b) []).length = 256 := fun b hb => full_at on.full (by have h1 := on.ok.lt p hp b hb; have h2 := on.big; unfold nbS at h1; omega)
  have h2 := flat_len (rows_len h1)
  have h3 := on.ok.len p hp
  rw [datB, List.length_take, h2, List.length_map, h3, need]
  omega

theorem pairs_range {L : List Nat} {f g : Nat → List UInt8} (h : ∀ b ∈ L, f b = g b) : L.map f = L.map g := List.map_congr_left h

/-- Blocks alike where the files are told of and where they lie tell the same. -/
theorem same_on {s y : List (List UInt8)} {t : Tab} (on : On s t) (hl : y.length = s.length) (hf : ∀ b ∈ y, b.length = 256) (h1 : ∀ i, i < 32 → y.getD (42 + i) [] = s.getD (42 + i) []) (h2 : ∀ p ∈ t, ∀ b ∈ p.bs, y.getD (74 + b) [] = s.getD (74 + b) []) :
    On y t ∧ filesB y t = filesB s t := by
  have hm : metaB y = metaB s := by
    rw [metaB, metaB, pairs_range fun i hi => h1 i (List.mem_range.1 hi)]
  have hn : nbS y = nbS s := by rw [nbS, nbS, hl]
  refine ⟨⟨by rw [hl]; exact on.few, hf, by rw [hl]; exact on.big, by rw [hn]; exact on.ok, by rw [hm]; exact on.told⟩, ?_⟩
  refine List.map_congr_left fun p hp => ?_
  rw [img, img, datB, datB, pairs_range fun b hb => h2 p hp b hb]

theorem drop_get {s y : List (List UInt8)} (h : y.drop 42 = s.drop 42) (i : Nat) : y.getD (42 + i) [] = s.getD (42 + i) [] := by
  have e : (y.drop 42)[i]? = (s.drop 42)[i]? := by rw [h]
  rw [List.getElem?_drop, List.getElem?_drop] at e
  rw [List.getD_eq_getElem?_getD, List.getD_eq_getElem?_getD, e]

theorem drop_on {s y : List (List UInt8)} {t : Tab} (on : On s t) (hl : y.length = s.length) (hf : ∀ b ∈ y, b.length = 256) (h : y.drop 42 = s.drop 42) : On y t ∧ filesB y t = filesB s t :=
  same_on on hl hf (fun i _ => drop_get h i) fun p _ b _ => by
    have := drop_get h (32 + b)
    rwa [show 42 + (32 + b) = 74 + b by omega] at this

/-- A table is told once. -/
theorem cnt_exists (m : List UInt8) : ∃ c, IsCnt m c := by
  have key : ∀ k, k ≤ 64 → (∃ c, IsCnt m c) ∨ ∀ i, i < k → rdN m i ≠ 0 := by
    intro k
    induction k with
    | zero => exact fun _ => .inr fun i hi => by omega
    | succ k ih =>
      intro hk
      rcases ih (by omega) with h | h
      · exact .inl h
      · by_cases h0 : rdN m k = 0
        · exact .inl ⟨k, ⟨by omega, h, .inr h0⟩⟩
        · refine .inr fun i hi => ?_
          by_cases e : i = k
          · rw [e]; exact h0
          · exact h i (by omega)
  rcases key 64 (Nat.le_refl _) with h | h
  · exact h
  · exact ⟨64, ⟨Nat.le_refl _, h, .inl rfl⟩⟩

theorem told_inj {n : Nat} {t u : Tab} (ht : TabOk n t) (hu : TabOk n u) (e : tbytes t = tbytes u) : t = u := by
  obtain ⟨c, hc⟩ := cnt_exists (tbytes t)
  have h1 := (told_back ht hc).2
  have hc' : IsCnt (tbytes u) c := e ▸ hc
  have h2 := (told_back hu hc').2
  rw [← h1, ← h2, e]

theorem fileWs_fst (d : List UInt8) : ∀ (bs : List Nat) (i : Nat), (fileWs d bs i).map Prod.fst = bs.map (74 + ·)
  | [], _ => rfl
  | b :: r, i => by rw [fileWs, List.map_cons, List.map_cons, fileWs_fst d r]

theorem fileWs_mem (d : List UInt8) : ∀ (bs : List Nat) (i j : Nat), j < bs.length → (74 + bs.getD j 0, blkB d (i + j)) ∈ fileWs d bs i
  | b :: r, i, 0, _ => List.mem_cons_self ..
  | b :: r, i, j + 1, h => by
    have := fileWs_mem d r (i + 1) j (by simpa using h)
    rw [fileWs]
    refine List.mem_cons_of_mem _ ?_
    rw [show i + (j + 1) = i + 1 + j by omega]
    exact this

theorem fileWs_len (d : List UInt8) : ∀ (bs : List Nat) (i : Nat), ∀ x ∈ fileWs d bs i, x.2.length = 256
  | [], _, x, h => by cases h
  | b :: r, i, x, h => by
    rw [fileWs] at h
    rcases List.mem_cons.1 h with rfl | h
    · exact blkB_length d i
    · exact fileWs_len d r (i + 1) x h

theorem putWs_len (t : Tab) : ∀ (l : FL), ∀ x ∈ putWs t l, x.2.length = 256
  | [], x, h => by cases h
  | c :: r, x, h => by
    rw [putWs] at h
    rcases List.mem_append.1 h with h | h
    · split at h
      · cases h
      · exact fileWs_len _ _ _ x h
    · exact putWs_len t r x h

theorem putWs_mem (t : Tab) : ∀ (l : FL) (c : FC), c ∈ l → c.gone = false → ∀ x ∈ fileWs c.data (bsOf t c.nm) 0, x ∈ putWs t l
  | d :: r, c, hc, hg, x, hx => by
    rw [putWs]
    rcases List.mem_cons.1 hc with rfl | hc
    · rw [if_neg (by rw [hg]; decide)]
      exact List.mem_append_left _ hx
    · exact List.mem_append_right _ (putWs_mem t r c hc hg x hx)

theorem take_cut {α : Type} (fr : List α) (a m N : Nat) (h : a + m ≤ N) : (fr.take N).drop a = (fr.drop a).take m ++ (fr.take N).drop (a + m) := by
  have e : (fr.take N).drop a = (fr.drop a).take (N - a) := by rw [List.drop_take]
  have e2 : (fr.take N).drop (a + m) = (fr.drop (a + m)).take (N - (a + m)) := by rw [List.drop_take]
  rw [e, e2, ← List.drop_drop, show N - a = m + (N - (a + m)) by omega, List.take_add]

theorem blk_getD {l : FL} {i : Nat} (hi : i < l.length) : l.getD i default ∈ l := by
  rw [List.getD_eq_getElem?_getD, List.getElem?_eq_getElem hi]
  exact List.getElem_mem _

section
variable {n : Nat} {t : Tab} {l : FL}

theorem new_bs (ok : TabOk n t) (h0 : fmay n t l = 0) {i : Nat} (hi : i < l.length) (hg : (l.getD i default).gone = false) :
    bsOf (chgN (free n t) t l).1 (l.getD i default).nm = ((free n t).drop (blkN (l.take i))).take (need (l.getD i default).data.length) := by
  have hn := (fmay_zero h0).1
  have hm := new_in (free n t) t hn hi hg l.length hi (Nat.le_refl _)
  rw [List.take_length] at hm
  have hr := chgN_rise (free n t) ok.rise l l.length (Nat.le_refl _)
  rw [List.take_length] at hr
  exact bsOf_at hr hm

/-- A commit's writes are of the first free blocks, one behind the other. -/
theorem putWs_fst (ok : TabOk n t) (h0 : fmay n t l = 0) : ∀ d k, k + d = l.length → (putWs (chgN (free n t) t l).1 (l.drop k)).map Prod.fst = (((free n t).take (blkN l)).drop (blkN (l.take k))).map (74 + ·)
  | 0, k, hk => by
    have hb : blkN (l.take k) = blkN l := by rw [List.take_of_length_le (by omega)]
    rw [List.drop_eq_nil_of_le (by omega), hb, List.drop_eq_nil_of_le (by rw [List.length_take]; omega)]
    rfl
  | d + 1, k, hk => by
    have hkl : k < l.length := by omega
    have ih := putWs_fst ok h0 d (k + 1) (by omega)
    have hnx := blkN_next l k hkl
    rw [putWs_drop _ l k hkl, List.map_append, ih]
    by_cases hg : (l.getD k default).gone = true
    · rw [if_pos hg, hnx, blkS, if_pos hg]
      rfl
    · have hg' : (l.getD k default).gone = false := by simpa using hg
      have hle := blkN_le_of l (show k + 1 ≤ l.length by omega)
      rw [List.take_length] at hle
      rw [if_neg hg, fileWs_fst, new_bs ok h0 hkl hg']
      rw [hnx, blkS, if_neg hg] at hle
      rw [hnx, blkS, if_neg hg, take_cut (free n t) (blkN (l.take k)) (need (l.getD k default).data.length) (blkN l) hle, List.map_append]

theorem putWs_places (ok : TabOk n t) (h0 : fmay n t l = 0) : (putWs (chgN (free n t) t l).1 l).map Prod.fst = ((free n t).take (blkN l)).map (74 + ·) := by
  have := putWs_fst ok h0 l.length 0 (by omega)
  rwa [List.drop_zero, List.take_zero, show blkN ([] : FL) = 0 from rfl, List.drop_zero] at this

theorem putWs_count (ok : TabOk n t) (h0 : fmay n t l = 0) : (putWs (chgN (free n t) t l).1 l).length ≤ n := by
  have h := congrArg List.length (putWs_places ok h0)
  rw [List.length_map, List.length_map, List.length_take] at h
  have := free_le n t
  omega

theorem putWs_free (ok : TabOk n t) (h0 : fmay n t l = 0) {x : Nat × List UInt8} (hx : x ∈ putWs (chgN (free n t) t l).1 l) : ∃ b, x.1 = 74 + b ∧ b < n ∧ takes t b = false := by
  have h1 : x.1 ∈ (putWs (chgN (free n t) t l).1 l).map Prod.fst := List.mem_map_of_mem hx
  rw [putWs_places ok h0] at h1
  obtain ⟨b, hb, e⟩ := List.mem_map.1 h1
  have := free_lt (List.mem_of_mem_take hb)
  exact ⟨b, e.symm, this.1, this.2⟩

theorem putWs_nodup (ok : TabOk n t) (h0 : fmay n t l = 0) : ((putWs (chgN (free n t) t l).1 l).map Prod.fst).Nodup := by
  rw [putWs_places ok h0]
  have hp : ((free n t).take (blkN l)).Pairwise (· < ·) := (free_up n t).sublist (List.take_sublist _ _)
  rw [List.Nodup, List.pairwise_map]
  exact hp.imp fun {a b} h => by omega

end

theorem seen_mem (i : Nat) (b : List UInt8) : ∀ (ws : List (Nat × List UInt8)) (x : List UInt8), (ws.map Prod.fst).Nodup → (i, b) ∈ ws → seen i x ws = b
  | c :: r, x, hn, hm => by
    rw [List.map_cons, List.nodup_cons] at hn
    rw [seen]
    rcases List.mem_cons.1 hm with rfl | hm
    · rw [if_pos rfl, seen_other i r b fun y hy e => by
      have h9 : y.1 ∈ r.map Prod.fst := List.mem_map_of_mem hy
      rw [e] at h9
      exact hn.1 h9]
    · exact seen_mem i b r _ hn.2 hm

theorem blkB_get (d : List UInt8) (j r : Nat) (hr : r < 256) (h : 256 * j + r < d.length) : (blkB d j).getD r 0 = d.getD (256 * j + r) 0 := by
  have hl : ((d.drop (256 * j)).take 256).length ≤ 256 := by rw [List.length_take]; omega
  have hl2 : r < ((d.drop (256 * j)).take 256).length := by rw [List.length_take, List.length_drop]; omega
  rw [blkB, lay11_get (by rw [zero_len]; omega), if_pos ⟨Nat.zero_le _, by omega⟩, Nat.sub_zero]
  rw [List.getD_eq_getElem?_getD, List.getD_eq_getElem?_getD, List.getElem?_take, if_pos hr, List.getElem?_drop]

theorem chkB_get (m : List UInt8) (j r : Nat) (hr : r < 256) : (chkB m j).getD r 0 = m.getD (256 * j + r) 0 := by
  rw [chkB, List.getD_eq_getElem?_getD, List.getD_eq_getElem?_getD, List.getElem?_take, if_pos hr, List.getElem?_drop]

theorem metaCL_places (t : Tab) : (places (metaCL t)).map Prod.fst = (List.range 32).map (42 + ·) := by
  have hl : (places (metaCL t)).length = 32 := by rw [places_len, metaCL, cls_length, List.length_range]
  apply List.ext_getElem
  · rw [List.length_map, hl, List.length_map, List.length_range]
  · intro i h1 h2
    rw [List.length_map, hl] at h1
    have hg := cls_get (tbytes t) (List.range 32) i (by rw [List.length_range]; exact h1)
    have hml : i < (metaCL t).length := by rw [metaCL, cls_length, List.length_range]; exact h1
    have hg' : (metaCL t).getD i (0, []) = ((i : Int), chkB (tbytes t) ((List.range 32).getD i 0)) := hg
    have e : (metaCL t)[i] = ((i : Int), chkB (tbytes t) ((List.range 32).getD i 0)) := by
      rw [← hg', List.getD_eq_getElem?_getD, List.getElem?_eq_getElem hml]
      rfl
    simp only [places, List.getElem_map, e, List.getElem_range, Int.toNat_natCast]

theorem metaCL_mem (t : Tab) {i : Nat} (hi : i < 32) : (42 + i, chkB (tbytes t) i) ∈ places (metaCL t) := by
  have hg := cls_get (tbytes t) (List.range 32) i (by rw [List.length_range]; exact hi)
  have hml : i < (metaCL t).length := by rw [metaCL, cls_length, List.length_range]; exact hi
  have hr : (List.range 32).getD i 0 = i := by rw [List.getD_eq_getElem?_getD, List.getElem?_range hi]; rfl
  rw [hr] at hg
  have hg' : (metaCL t).getD i (0, []) = ((i : Int), chkB (tbytes t) i) := hg
  refine List.mem_map.2 ⟨((i : Int), chkB (tbytes t) i), ?_, by rw [Int.toNat_natCast]⟩
  rw [← hg', List.getD_eq_getElem?_getD, List.getElem?_eq_getElem hml]
  exact List.getElem_mem _

theorem metaCL_nodup (t : Tab) : ((places (metaCL t)).map Prod.fst).Nodup := by
  rw [metaCL_places, List.Nodup, List.pairwise_map]
  exact List.pairwise_lt_range.imp fun {a b} h => by omega

theorem metaCL_lt (t : Tab) {x : Nat × List UInt8} (h : x ∈ places (metaCL t)) : x.1 < 74 := by
  have h1 : x.1 ∈ (places (metaCL t)).map Prod.fst := List.mem_map_of_mem h
  rw [metaCL_places] at h1
  obtain ⟨b, hb, e⟩ := List.mem_map.1 h1
  have := List.mem_range.1 hb
  omega

/-- Blocks behind a table's being told. -/
theorem table_get {s1 s2 : List (List UInt8)} {t : Tab} (hl : s2.length = s1.length) (hd : s2.drop 42 = done (s1.drop 42) (metaCL t)) (i : Nat) (hi : 42 + i < s1.length) :
    s2.getD (42 + i) [] = seen (42 + i) (s1.getD (42 + i) []) (places (metaCL t)) := by
  have h : s2.drop 42 = (laid s1 (places (metaCL t))).drop 42 := by rw [laid_drop, hd]
  rw [drop_get h i, laid_get _ _ _ hi]

theorem table_told {s1 s2 : List (List UInt8)} {n : Nat} {t : Tab} (ok : TabOk n t) (big : 74 < s1.length) (hl : s2.length = s1.length) (hd : s2.drop 42 = done (s1.drop 42) (metaCL t)) : metaB s2 = tbytes t := by
  have htl := tbytes_len ok
  have e : ((List.range 32).map fun i => s2.getD (42 + i) []) = (List.range 32).map (chkB (tbytes t)) := pairs_range fun i hi => by
    have hi' := List.mem_range.1 hi
    rw [table_get hl hd i (by omega)]
    exact seen_mem _ _ _ _ (metaCL_nodup t) (metaCL_mem t hi')
  rw [metaB, e]
  have hf := rows_len (l := List.range 32) (f := chkB (tbytes t)) fun x hx => chkB_length htl (List.mem_range.1 hx)
  have h := flat_ext hf (d := tbytes t) (by rw [htl, List.length_map, List.length_range]; omega) fun j r hr hj => by
    rw [htl] at hj
    have hj32 : j < 32 := by omega
    have e9 : ((List.range 32).map (chkB (tbytes t))).getD j [] = chkB (tbytes t) j := by simp [List.getD_eq_getElem?_getD, hj32]
    rw [e9]
    exact chkB_get (tbytes t) j r hr
  have h3 := flat_len hf
  rw [List.length_map, List.length_range] at h3
  rw [List.take_of_length_le (by omega)] at h
  exact h

theorem table_other {s1 s2 : List (List UInt8)} {t : Tab} (hl : s2.length = s1.length) (hd : s2.drop 42 = done (s1.drop 42) (metaCL t)) (b : Nat) (hb : 74 + b < s1.length) : s2.getD (74 + b) [] = s1.getD (74 + b) [] := by
  have := table_get hl hd (32 + b) (by omega)
  rw [show 42 + (32 + b) = 74 + b by omega] at this
  rw [this, seen_other _ _ _ fun x hx e => by have := metaCL_lt t hx; omega]

/-- What a commit makes of the files. -/
theorem commit_on {s s2 : List (List UInt8)} {t : Tab} {l : FL} (on : On s t) (h0 : fmay (nbS s) t l = 0) (hl : s2.length = s.length) (hf : ∀ b ∈ s2, b.length = 256)
    (hd : s2.drop 42 = done ((laid s (putWs (chgN (free (nbS s) t) t l).1 l)).drop 42) (metaCL (chgN (free (nbS s) t) t l).1)) :
    On s2 (chgN (free (nbS s) t) t l).1 ∧ filesB s2 (chgN (free (nbS s) t) t l).1 = fapply (filesB s t) l := by
  have hok' := chg_ok on.ok h0
  have hbig := on.big
  have hl1 : s2.length = (laid s (putWs (chgN (free (nbS s) t) t l).1 l)).length := by rw [laid_len]; exact hl
  have hb74 : ∀ b, b < nbS s → 74 + b < s.length := fun b hb => by unfold nbS at hb; omega
  have hget : ∀ b, b < nbS s → s2.getD (74 + b) [] = seen (74 + b) (s.getD (74 + b) []) (putWs (chgN (free (nbS s) t) t l).1 l) := fun b hb => by
    rw [table_other hl1 hd b (by rw [laid_len]; exact hb74 b hb), laid_get _ _ _ (hb74 b hb)]
  have hnb : nbS s2 = nbS s := by rw [nbS, nbS, hl]
  refine ⟨⟨by rw [hl]; exact on.few, hf, by rw [hl]; exact hbig, by rw [hnb]; exact hok', (table_told hok' (by rw [laid_len]; exact hbig) hl1 hd).symm⟩, ?_⟩
  have hold : filesB s t = t.map (img (datB s2)) := by
    refine List.map_congr_left fun p hp => ?_
    rw [img, img, datB, datB, pairs_range fun b hb => ?_]
    rw [hget b (on.ok.lt p hp b hb), seen_other]
    intro x hx e
    obtain ⟨b', e1, _, e3⟩ := putWs_free on.ok h0 hx
    have : b' = b := by omega
    subst this
    have : takes t b' = true := by rw [takes, List.any_eq_true]; exact ⟨p, hp, by simpa using hb⟩
    rw [this] at e3
    cases e3
  have hD : ∀ i, i < l.length → (l.getD i default).gone = false → datB s2 (newPl (free (nbS s) t) l i) = (l.getD i default).data := fun i hi hg => by
    obtain ⟨c, hc⟩ : ∃ c, c = l.getD i default := ⟨_, rfl⟩
    have hbs := new_bs on.ok h0 hi hg
    have hsg := seg_len (fmay_zero h0).2.2.2 hi hg
    obtain ⟨bs, hbse⟩ : ∃ z, z = ((free (nbS s) t).drop (blkN (l.take i))).take (need (l.getD i default).data.length) := ⟨_, rfl⟩
    rw [← hbse] at hbs
    have hbl : bs.length = need (l.getD i default).data.length := by
      rw [hbse, List.length_take, List.length_drop]
      omega
    have hlt : ∀ b ∈ bs, b < nbS s := fun b hb => (free_lt (List.mem_of_mem_drop (List.mem_of_mem_take (hbse ▸ hb)))).1
    have hn : newPl (free (nbS s) t) l i = ⟨(l.getD i default).nm, (l.getD i default).data.length, bs⟩ := by rw [newPl, hbse]
    rw [hn, datB]
    have hrow : ∀ j, j < bs.length → s2.getD (74 + bs.getD j 0) [] = blkB (l.getD i default).data j := fun j hj => by
      have hm : bs.getD j 0 ∈ bs := by rw [List.getD_eq_getElem?_getD, List.getElem?_eq_getElem hj]; exact List.getElem_mem _
      rw [hget _ (hlt _ hm)]
      refine seen_mem _ _ _ _ (putWs_nodup on.ok h0) (putWs_mem _ l _ (blk_getD hi) hg _ ?_)
      rw [hbs]
      have := fileWs_mem (l.getD i default).data bs 0 j hj
      rwa [Nat.zero_add] at this
    have hf2 : ∀ x ∈ bs.map fun b => s2.getD (74 + b) [], x.length = 256 := rows_len fun b hb => full_at hf (by rw [hl]; exact hb74 b (hlt b hb))
    refine flat_ext hf2 ?_ fun j r hr hj => ?_
    · rw [List.length_map, hbl, need]
      show (l.getD i default).data.length ≤ _
      omega
    · have hjb : j < bs.length := by rw [hbl, need]; omega
      have e : (bs.map fun b => s2.getD (74 + b) []).getD j [] = blkB (l.getD i default).data j := by
        rw [← hrow j hjb, List.getD_eq_getElem?_getD, List.getElem?_map, List.getElem?_eq_getElem hjb, List.getD_eq_getElem?_getD (l := bs), List.getElem?_eq_getElem hjb]
        rfl
      rw [e]
      exact blkB_get _ j r hr hj
  have hfin := fapply_img (free (nbS s) t) (datB s2) on.ok.rise l hD l.length (Nat.le_refl _)
  rw [List.take_length] at hfin
  rw [hold]
  exact hfin

end Go.Proofs.YtphcbpfpelonaaaGreatDoor.M

namespace Go.Proofs.YtphcbpfpelonaaaGreatDoor
open Go.RowKit
set_option linter.unusedVariables false

/-- The cells of files: each one's name, and its bytes' value. -/
def fcs : M.Fs → List Value → List Value
  | f :: F, x :: xs => .string ⟨f.nm.toArray⟩ :: x :: fcs F xs
  | _, _ => []

theorem fcs_len : ∀ {F : M.Fs} {xs : List Value}, xs.length = F.length → (fcs F xs).length = F.length * 2
  | [], [], _ => rfl
  | f :: F, x :: xs, h => by
    have := fcs_len (F := F) (xs := xs) (by simpa using h)
    rw [fcs, List.length_cons, List.length_cons, List.length_cons, this]
    omega

theorem fcs_append : ∀ {F G : M.Fs} {xs ys : List Value}, xs.length = F.length → fcs (F ++ G) (xs ++ ys) = fcs F xs ++ fcs G ys
  | [], G, [], ys, _ => rfl
  | f :: F, G, x :: xs, ys, h => by
    have := fcs_append (F := F) (G := G) (xs := xs) (ys := ys) (by simpa using h)
    rw [List.cons_append, List.cons_append, fcs, this]
    rfl

theorem fcs_take {F : M.Fs} {xs : List Value} (h : xs.length = F.length) (i : Nat) (hi : i ≤ F.length) : fcs (F.take i) (xs.take i) = (fcs F xs).take (i * 2) := by
  have e := fcs_append (F := F.take i) (G := F.drop i) (xs := xs.take i) (ys := xs.drop i) (by rw [List.length_take, List.length_take, h])
  rw [List.take_append_drop, List.take_append_drop] at e
  have l := fcs_len (F := F.take i) (xs := xs.take i) (by rw [List.length_take, List.length_take, h])
  rw [List.length_take, Nat.min_eq_left hi] at l
  rw [e, ← l, List.take_left]

theorem fcs_drop {F : M.Fs} {xs : List Value} (h : xs.length = F.length) (i : Nat) (hi : i ≤ F.length) : fcs (F.drop i) (xs.drop i) = (fcs F xs).drop (i * 2) := by
  have e := fcs_append (F := F.take i) (G := F.drop i) (xs := xs.take i) (ys := xs.drop i) (by rw [List.length_take, List.length_take, h])
  rw [List.take_append_drop, List.take_append_drop] at e
  have l := fcs_len (F := F.take i) (xs := xs.take i) (by rw [List.length_take, List.length_take, h])
  rw [List.length_take, Nat.min_eq_left hi] at l
  rw [e, ← l, List.drop_left]

theorem fcs_at : ∀ {F : M.Fs} {xs : List Value} (i : Nat), xs.length = F.length → i < F.length → (fcs F xs)[i * 2]? = some (.string ⟨(F.getD i default).nm.toArray⟩) ∧ (fcs F xs)[i * 2 + 1]? = some (xs.getD i undef)
  | f :: F, x :: xs, 0, _, _ => ⟨rfl, rfl⟩
  | f :: F, x :: xs, i + 1, h, hi => by
    have ih := fcs_at (F := F) (xs := xs) i (by simpa using h) (by simpa using hi)
    rw [show (i + 1) * 2 = i * 2 + 2 by omega, fcs]
    exact ih

/-- The files' bytes lie so, in blocks of S; where there are none, there is no room. -/
structure FsD (S : Nat → Prop) (w : World) (F : M.Fs) (xs : List Value) : Prop where
  len : xs.length = F.length
  each : ∀ i, i < F.length → IsB w (xs.getD i undef) (F.getD i default).data ∧ (∀ n c, xs.getD i undef = .slice none n c → c = 0) ∧ Lies S (xs.getD i undef) ∧ (F.getD i default).nm.length ≤ maxLen

theorem FsD.chg {S G : Nat → Prop} {w w' : World} {F : M.Fs} {xs : List Value} (h : FsD S w F xs) (c : Chg G w w') (hs : ∀ k, S k → ¬ G k) : FsD S w' F xs :=
  ⟨h.len, fun i hi => ⟨(h.each i hi).1.chg c ((h.each i hi).2.2.1.mono hs), (h.each i hi).2⟩⟩

theorem FsD.below {S : Nat → Prop} {w w' : World} {F : M.Fs} {xs : List Value} (h : FsD S w F xs) (c : Below w.heap.size w w') : FsD S w' F xs :=
  h.chg (Chg.of_below (F := fun _ => False) c) fun _ _ h => h

theorem FsD.mono {S R : Nat → Prop} {w : World} {F : M.Fs} {xs : List Value} (h : FsD S w F xs) (hs : ∀ k, S k → R k) : FsD R w F xs :=
  ⟨h.len, fun i hi => ⟨(h.each i hi).1, (h.each i hi).2.1, (h.each i hi).2.2.1.mono hs, (h.each i hi).2.2.2⟩⟩

theorem FsD.nil (S : Nat → Prop) (w : World) : FsD S w [] [] := ⟨rfl, fun i hi => by cases hi⟩

theorem FsD.append {S : Nat → Prop} {w : World} {F G : M.Fs} {xs ys : List Value} (h : FsD S w F xs) (k : FsD S w G ys) : FsD S w (F ++ G) (xs ++ ys) where
  len := by rw [List.length_append, List.length_append, h.len, k.len]
  each := fun i hi => by
    by_cases hlt : i < F.length
    · have e1 : (xs ++ ys).getD i undef = xs.getD i undef := by rw [List.getD_eq_getElem?_getD, List.getElem?_append_left (by rw [h.len]; exact hlt), ← List.getD_eq_getElem?_getD]
      have e2 : (F ++ G).getD i default = F.getD i default := by rw [List.getD_eq_getElem?_getD, List.getElem?_append_left hlt, ← List.getD_eq_getElem?_getD]
      rw [e1, e2]
      exact h.each i hlt
    · rw [List.length_append] at hi
      have e1 : (xs ++ ys).getD i undef = ys.getD (i - F.length) undef := by rw [List.getD_eq_getElem?_getD, List.getElem?_append_right (by rw [h.len]; omega), h.len, ← List.getD_eq_getElem?_getD]
      have e2 : (F ++ G).getD i default = G.getD (i - F.length) default := by rw [List.getD_eq_getElem?_getD, List.getElem?_append_right (by omega), ← List.getD_eq_getElem?_getD]
      rw [e1, e2]
      exact k.each (i - F.length) (by omega)

theorem FsD.take {S : Nat → Prop} {w : World} {F : M.Fs} {xs : List Value} (h : FsD S w F xs) (n : Nat) : FsD S w (F.take n) (xs.take n) where
  len := by rw [List.length_take, List.length_take, h.len]
  each := fun i hi => by
    rw [List.length_take] at hi
    have e1 : (xs.take n).getD i undef = xs.getD i undef := by rw [List.getD_eq_getElem?_getD, List.getElem?_take, if_pos (by omega), ← List.getD_eq_getElem?_getD]
    have e2 : (F.take n).getD i default = F.getD i default := by rw [List.getD_eq_getElem?_getD, List.getElem?_take, if_pos (by omega), ← List.getD_eq_getElem?_getD]
    rw [e1, e2]
    exact h.each i (by omega)

theorem FsD.drop {S : Nat → Prop} {w : World} {F : M.Fs} {xs : List Value} (h : FsD S w F xs) (n : Nat) : FsD S w (F.drop n) (xs.drop n) where
  len := by rw [List.length_drop, List.length_drop, h.len]
  each := fun i hi => by
    rw [List.length_drop] at hi
    have e1 : (xs.drop n).getD i undef = xs.getD (n + i) undef := by rw [List.getD_eq_getElem?_getD, List.getElem?_drop, ← List.getD_eq_getElem?_getD]
    have e2 : (F.drop n).getD i default = F.getD (n + i) default := by rw [List.getD_eq_getElem?_getD, List.getElem?_drop, ← List.getD_eq_getElem?_getD]
    rw [e1, e2]
    exact h.each (n + i) (by omega)

theorem oneCell_B {w : World} {v : Value} {bs : List UInt8} (h : IsB w v bs) : v.oneCell' = true := by
  obtain ⟨a, c, rfl⟩ := h.shape
  rfl

theorem fcs_one {S : Nat → Prop} {w : World} : ∀ {F : M.Fs} {xs : List Value}, FsD S w F xs → ∀ u ∈ fcs F xs, u.oneCell' = true
  | [], [], _, u, hu => by cases hu
  | [], _ :: _, h, _, _ => by have := h.len; simp at this
  | _ :: _, [], h, _, _ => by have := h.len; simp at this
  | f :: F, x :: xs, h, u, hu => by
    rw [fcs] at hu
    rcases List.mem_cons.1 hu with rfl | hu
    · rfl
    · rcases List.mem_cons.1 hu with rfl | hu
      · exact oneCell_B (h.each 0 (by simp)).1
      · exact fcs_one (h.drop 1) u hu

/-- The value is a slice of files, in blocks of S. -/
def IsFs (S : Nat → Prop) (w : World) (v : Value) (F : M.Fs) (xs : List Value) : Prop := FsD S w F xs ∧ ∃ ao cap, v = .slice ao F.length cap ∧ F.length ≤ cap ∧ cap ≤ maxLen ∧ (ao = none → cap = 0) ∧
  (F = [] ∨ ∃ b off, ao = some ⟨b, off, none⟩ ∧ S b ∧ b < w.heap.size ∧ ∀ j u, (fcs F xs)[j]? = some u → w.cell? ⟨b, off + j, none⟩ = some u)

theorem IsFs.nil (S : Nat → Prop) (w : World) : IsFs S w (.slice none 0 0) [] [] := ⟨FsD.nil S w, none, 0, rfl, Nat.le_refl _, Nat.zero_le _, fun _ => rfl, .inl rfl⟩

theorem IsFs.shape {S : Nat → Prop} {w : World} {v : Value} {F : M.Fs} {xs : List Value} (h : IsFs S w v F xs) : ∃ ao cap, v = .slice ao F.length cap := by
  obtain ⟨_, ao, cap, rfl, _⟩ := h
  exact ⟨ao, cap, rfl⟩

theorem IsFs.chg {S G : Nat → Prop} {w w' : World} {v : Value} {F : M.Fs} {xs : List Value} (h : IsFs S w v F xs) (c : Chg G w w') (hs : ∀ k, S k → ¬ G k) : IsFs S w' v F xs := by
  obtain ⟨d, ao, cap, e, h1, h2, h3, h4⟩ := h
  refine ⟨d.chg c hs, ao, cap, e, h1, h2, h3, h4.imp_right fun ⟨b, off, e, hb, hlt, hc⟩ => ⟨b, off, e, hb, Nat.lt_of_lt_of_le hlt c.size, fun j u hj => ?_⟩⟩
  rw [World.cell?_of_block (c.block b hlt (hs b hb)), hc j u hj]

theorem IsFs.below {S : Nat → Prop} {w w' : World} {v : Value} {F : M.Fs} {xs : List Value} (h : IsFs S w v F xs) (c : Below w.heap.size w w') : IsFs S w' v F xs :=
  h.chg (Chg.of_below (F := fun _ => False) c) fun _ _ h => h

theorem IsFs.mono {S R : Nat → Prop} {w : World} {v : Value} {F : M.Fs} {xs : List Value} (h : IsFs S w v F xs) (hs : ∀ k, S k → R k) : IsFs R w v F xs := by
  obtain ⟨d, ao, cap, e, h1, h2, h3, h4⟩ := h
  exact ⟨d.mono hs, ao, cap, e, h1, h2, h3, h4.imp_right fun ⟨b, off, e, hb, h⟩ => ⟨b, off, e, hs b hb, h⟩⟩

/-- One of them. -/
theorem IsFs.at_ {S : Nat → Prop} {w : World} {ao : Option Addr} {n cap : Nat} {F : M.Fs} {xs : List Value} (h : IsFs S w (.slice ao n cap) F xs) (i : Nat) (hi : i < F.length) :
    ∃ b off, ao = some ⟨b, off, none⟩ ∧ w.cell? ⟨b, off + i * 2, none⟩ = some (.string ⟨(F.getD i default).nm.toArray⟩) ∧ w.cell? ⟨b, off + i * 2 + 1, none⟩ = some (xs.getD i undef) ∧ IsB w (xs.getD i undef) (F.getD i default).data ∧ (F.getD i default).nm.length ≤ maxLen := by
  obtain ⟨d, ao', cap', e, h1, h2, h3, h4⟩ := h
  injection e with e1 e2 e3
  subst e1
  rcases h4 with h4 | ⟨b, off, e, hb, hlt, hc⟩
  · subst h4; cases hi
  · have := fcs_at i d.len hi
    exact ⟨b, off, e, hc _ _ this.1, by rw [Nat.add_assoc]; exact hc _ _ this.2, (d.each i hi).1, (d.each i hi).2.2.2⟩

end Go.Proofs.YtphcbpfpelonaaaGreatDoor
