/-
  THE CONTRACT OF Files.Erase. Conditions: all lies so, and lasts while the disk turns.
  PLAIN MATHEMATICS OF A COMMIT OF FILES, AND OF AN ERASE: done, or cut off, with the files as they were or as they are to be, whatever survives (put_goes, erase_goes); what an opening finds. Nothing of the program. Conditions: none.
-/
import Derived.Test.YtphcbpfpelonaaaGreatDoorPf28
import Derived.Test.YtphcbpfpelonaaaGreatDoorPw3
import Derived.Test.YtphcbpfpelonaaaGreatDoorPf20

namespace Go.Proofs.YtphcbpfpelonaaaGreatDoor
open Go.RowKit Go.Maps
set_option linter.unusedVariables false
set_option maxRecDepth 100000

namespace M
/-- The one change of an Erase. -/
def eraseL (k : List UInt8) : FL := [⟨k, [], true⟩]

theorem erase_may {n : Nat} {t : Tab} (ok : TabOk n t) {k : List UInt8} (h : has t k = true) : fmay n t (eraseL k) = 0 := by
  obtain ⟨p, hp, e⟩ := (has_iff t k).1 h
  have hn := ok.nm p hp
  rw [e] at hn
  have h1 : NamesOk (eraseL k) := ⟨fun c hc => by
    rw [eraseL, List.mem_singleton] at hc
    subst hc
    exact hn, by simp [eraseL]⟩
  have h2 : AllThere t (eraseL k) := fun i hi => by
    have : i = 0 := by simpa [eraseL] using hi
    subst this
    show (true && !has t k) = false
    rw [h]
    rfl
  have h3 : cntN t (eraseL k) = (t.length : Int) - 1 := rfl
  have h4 : blkN (eraseL k) = 0 := rfl
  have := ok.few
  rw [fmay, if_neg (by simpa using h1), if_neg (by simpa using h2), if_neg (by omega), if_neg (by omega)]

theorem erase_tab {fr : List Nat} {t : Tab} {k : List UInt8} : (chgN fr t (eraseL k)).1 = tdel t k := rfl
theorem erase_ws (t : Tab) (k : List UInt8) : putWs t (eraseL k) = [] := rfl
end M

/-- What Erase makes of the disk. -/
noncomputable def M.eraseP (nb : Nat) (t : M.Tab) (bs : List Nat) (k : List UInt8) (m : M.Dsk) : M.Dsk × Int :=
  if (M.wipeP (bs ++ M.free nb t) m).2 = 0 then M.putP (M.tdel t k) (M.eraseL k) (M.wipeP (bs ++ M.free nb t) m).1 else M.wipeP (bs ++ M.free nb t) m

theorem M.wipe_grow (bs : List Nat) (m : M.Dsk) : (M.wipeP bs m).1.wait.length ≤ m.wait.length + bs.length + 1 ∧ (M.wipeP bs m).1.safe.length = m.safe.length := by
  have h := M.grow_writes (M.wipeWs bs) m
  rw [M.wipeWs, List.length_map] at h
  rw [M.wipeP, M.phases]
  split
  · rw [M.phases_one]
    have h2 := M.grow_sync (M.writes (M.wipeWs bs) m).1
    rw [M.wipeWs] at h2 ⊢
    omega
  · rw [M.wipeWs]
    omega

theorem erase_fl {w : World} {b : Nat} {nm : List UInt8} (hnm : nm.length ≤ maxLen) (h : Blk w b 58 [.string ⟨nm.toArray⟩, .slice none 0 0, .bool true]) : IsFL w (.slice (some ⟨b, 0, none⟩) 1 1) (M.eraseL nm) [.slice none 0 0] := by
  refine ⟨_, 1, rfl, Nat.le_refl _, by decide, rfl, fun i hi => ?_, .inr ⟨b, 0, rfl, fun i hi => ?_⟩⟩
  · have : i = 0 := by simpa [M.eraseL] using hi
    subst this
    exact ⟨IsB.nil w, fun n c e => by injection e with _ _ e; exact e.symm, hnm⟩
  · have : i = 0 := by simpa [M.eraseL] using hi
    subst this
    exact ⟨h.cell 0, h.cell 1, h.cell 2⟩

end Go.Proofs.YtphcbpfpelonaaaGreatDoor

namespace Go.Proofs.YtphcbpfpelonaaaGreatDoor.M
set_option linter.unusedVariables false

/-- Blocks as they were, but where a row of writes is. -/
structure Old (s : List (List UInt8)) (ws : List (Nat × List UInt8)) (y : List (List UInt8)) : Prop where
  len : y.length = s.length
  full : ∀ b ∈ y, b.length = 256
  other : ∀ i, (∀ x ∈ ws, x.1 ≠ i) → y.getD i [] = s.getD i []

theorem full_set {s : List (List UInt8)} (h : ∀ b ∈ s, b.length = 256) (i : Nat) {b : List UInt8} (hb : b.length = 256) : ∀ c ∈ s.set i b, c.length = 256 := fun c hc => by
  rcases List.mem_or_eq_of_mem_set hc with hc | rfl
  · exact h c hc
  · exact hb

theorem kept_full {s : List (List UInt8)} {ws : List (Nat × List UInt8)} (hs : ∀ b ∈ s, b.length = 256) (hw : ∀ x ∈ ws, x.2.length = 256) (kp : List Bool) : ∀ j, j ≤ ws.length → ∀ b ∈ kept s ws kp j, b.length = 256
  | 0, _ => hs
  | j + 1, hj => by
    rw [kept]
    split
    · refine full_set (kept_full hs hw kp j (by omega)) _ (hw _ ?_)
      rw [List.getD_eq_getElem?_getD, List.getElem?_eq_getElem (by omega)]
      exact List.getElem_mem _
    · exact kept_full hs hw kp j (by omega)

theorem laid_full : ∀ (ws : List (Nat × List UInt8)) (s : List (List UInt8)), (∀ b ∈ s, b.length = 256) → (∀ x ∈ ws, x.2.length = 256) → ∀ b ∈ laid s ws, b.length = 256
  | [], s, hs, _ => hs
  | c :: r, s, hs, hw => laid_full r _ (full_set hs _ (hw c (List.mem_cons_self ..))) fun x hx => hw x (List.mem_cons_of_mem _ hx)

theorem old_kept {s : List (List UInt8)} {ws : List (Nat × List UInt8)} (hs : ∀ b ∈ s, b.length = 256) (hw : ∀ x ∈ ws, x.2.length = 256) (kp : List Bool) : Old s ws (kept s ws kp ws.length) :=
  ⟨kept_len s ws kp _, kept_full hs hw kp _ (Nat.le_refl _), fun i h => kept_other s ws kp i h _ (Nat.le_refl _)⟩

theorem old_laid {s : List (List UInt8)} {ws : List (Nat × List UInt8)} (hs : ∀ b ∈ s, b.length = 256) (hw : ∀ x ∈ ws, x.2.length = 256) : Old s ws (laid s ws) :=
  ⟨laid_len ws s, laid_full ws s hs hw, fun i h => by
    by_cases hi : i < s.length
    · rw [laid_get i ws s hi, seen_other i ws _ h]
    · have hl := laid_len ws s
      rw [List.getD_eq_getElem?_getD, List.getD_eq_getElem?_getD, List.getElem?_eq_none (by omega), List.getElem?_eq_none (by omega)]⟩

/-- Where a journal is empty, its opening leaves the blocks. -/
theorem recs_zero {x : List (List UInt8)} (h : x.getD 0 [] = zero256) : recs decJ x = x.drop 42 := wal_math.recs x h

/-- What may survive: blocks that are old but where writes are, or the new ones. -/
def May2 (s : List (List UInt8)) (ws : List (Nat × List UInt8)) (t' : Tab) (x : List (List UInt8)) : Prop :=
  (∃ y, Old s ws y ∧ recs decJ x = y.drop 42) ∨ recs decJ x = done ((laid s ws).drop 42) (metaCL t')

theorem lit_okay {s : List (List UInt8)} (h1 : s.length ≤ 2176) (h2 : ∀ b ∈ s, b.length = 256) (k : Nat) : (lit s k).Ok := ⟨h1, h2, fun c hc => by cases hc⟩

/-- The writes of new bytes, a Sync, and the journal's commit of a table. -/
theorem put_goes {s : List (List UInt8)} {k : Nat} {t' : Tab} {l : FL} (h1 : s.length ≤ 2176) (h2 : ∀ b ∈ s, b.length = 256) (h74 : 74 < s.length) (hz : s.getD 0 [] = zero256) {n : Nat} (ok' : TabOk n t')
    (hpl : ∀ x ∈ putWs t' l, 74 ≤ x.1 ∧ x.1 < s.length) (hcnt : (putWs t' l).length ≤ 1000) :
    (∃ s2 k', putP t' l (lit s k) = (lit s2 k', 0) ∧ k' ≤ k ∧ s2.length = s.length ∧ s2.getD 0 [] = zero256 ∧ s2.drop 42 = done ((laid s (putWs t' l)).drop 42) (metaCL t')) ∨
    (∃ m, putP t' l (lit s k) = (m, 11) ∧ k ≠ 0 ∧ m.down = true ∧ m.safe.length = s.length ∧ m.wait.length ≤ 1000 ∧ ∀ kp, May2 s (putWs t' l) t' (m.crash kp).safe) := by
  obtain ⟨ws, hws⟩ : ∃ ws, ws = putWs t' l := ⟨_, rfl⟩
  have hw256 := putWs_len t' l
  rw [← hws] at hpl hcnt hw256 ⊢
  have hne : ∀ i, i < 74 → ∀ x ∈ ws, x.1 ≠ i := fun i hi x hx e => by have := (hpl x hx).1; omega
  have hv : Valid s ws := fun x hx => ⟨(hpl x hx).2, hw256 x hx⟩
  have hold : ∀ y, Old s ws y → recs decJ y = y.drop 42 := fun y ho => recs_zero (by rw [ho.other 0 (hne 0 (by decide))]; exact hz)
  have hP : ∀ kp, May2 s ws t' (kept s ([] ++ ws) kp ([] ++ ws).length) := fun kp => .inl ⟨_, old_kept h2 hw256 kp, hold _ (old_kept h2 hw256 kp)⟩
  have hput : ∀ m, putP t' l m = phases [writes ws, Dsk.doSync, fun m => commit decJ headOf m (metaCL t')] m := fun m => by rw [putP, hws]
  rcases goes_writes (s := s) (P := May2 s ws t') ws [] k hv hcnt hP with ⟨k1, e1, hk1⟩ | ⟨m, e1, h3, h4, h5, h6, h7⟩
  · rcases goes_sync (s := s) (c := ws) (k := k1) (P := May2 s ws t') hcnt hP with ⟨k2, e2, hk2⟩ | ⟨m, e2, h3, h4, h5, h6, h7⟩
    · have hl := laid_len ws s
      have hz1 : (laid s ws).getD 0 [] = zero256 := by rw [(old_laid h2 hw256).other 0 (hne 0 (by decide))]; exact hz
      have hC := wal_math.commits (laid s ws) k2 (metaCL t') (lit_okay (by rw [hl]; exact h1) (laid_full ws s h2 hw256) k2) (by rw [hl]; omega) hz1 (meta_may ok' (by rw [hl]; exact h74))
      have e3 : putP t' l (lit s k) = commit decJ headOf (lit (laid s ws) k2) (metaCL t') := by
        rw [hput, phases]
        have e1' : writes ws (lit s k) = (⟨s, [] ++ ws, k1, false⟩, 0) := e1
        rw [e1', if_pos rfl, phases]
        have e2' : (⟨s, [] ++ ws, k1, false⟩ : Dsk).doSync = (⟨laid s ws, [], k2, false⟩, 0) := e2
        rw [e2', if_pos rfl, phases_one]
        rfl
      rcases hC with ⟨h0, s2, k3, e4, hk3, hl2, hd2, hz2⟩ | ⟨h11, hk0, hdn, hsl, hwt, hkp⟩
      · exact .inl ⟨s2, k3, by rw [e3]; exact Prod.ext e4 h0, by omega, by rw [hl2, hl], hz2, hd2⟩
      · refine .inr ⟨_, by rw [e3]; exact Prod.ext rfl h11, by omega, hdn, by rw [hsl, hl], hwt, fun kp => ?_⟩
        rcases hkp kp with h | h
        · exact .inl ⟨_, old_laid h2 hw256, h⟩
        · exact .inr h
    · refine .inr ⟨m, ?_, by omega, h4, h5, h6, h7⟩
      rw [hput, phases]
      have e1' : writes ws (lit s k) = (⟨s, [] ++ ws, k1, false⟩, 0) := e1
      rw [e1', if_pos rfl, phases]
      have e2' : (⟨s, [] ++ ws, k1, false⟩ : Dsk).doSync = (m, 11) := e2
      rw [e2', if_neg (show ¬ (11 : Int) = 0 by decide)]
  · refine .inr ⟨m, ?_, h3, h4, h5, h6, h7⟩
    rw [hput, phases]
    have e1' : writes ws (lit s k) = (m, 11) := e1
    rw [e1', if_neg (show ¬ (11 : Int) = 0 by decide)]

/-- A commit of files. -/
theorem commit_goes {s : List (List UInt8)} {t : Tab} {l : FL} {k : Nat} (on : On s t) (hz : s.getD 0 [] = zero256) (hn : nbS s ≤ 1000) (h0 : fmay (nbS s) t l = 0) :
    (∃ s2 k', putP (chgN (free (nbS s) t) t l).1 l (lit s k) = (lit s2 k', 0) ∧ k' ≤ k ∧ s2.length = s.length ∧ s2.getD 0 [] = zero256 ∧ ((∀ b ∈ s2, b.length = 256) → On s2 (chgN (free (nbS s) t) t l).1 ∧ filesB s2 (chgN (free (nbS s) t) t l).1 = fapply (filesB s t) l)) ∨
    (∃ m, putP (chgN (free (nbS s) t) t l).1 l (lit s k) = (m, 11) ∧ k ≠ 0 ∧ m.down = true ∧ m.safe.length = s.length ∧ m.wait.length ≤ 1000 ∧
      ∀ kp y, y.length = s.length → (∀ b ∈ y, b.length = 256) → y.drop 42 = recs decJ (m.crash kp).safe → (On y t ∧ filesB y t = filesB s t) ∨ (On y (chgN (free (nbS s) t) t l).1 ∧ filesB y (chgN (free (nbS s) t) t l).1 = fapply (filesB s t) l)) := by
  have hbig := on.big
  have hfr : ∀ x ∈ putWs (chgN (free (nbS s) t) t l).1 l, ∃ b, x.1 = 74 + b ∧ b < nbS s ∧ takes t b = false := fun x hx => putWs_free on.ok h0 hx
  have hpl : ∀ x ∈ putWs (chgN (free (nbS s) t) t l).1 l, 74 ≤ x.1 ∧ x.1 < s.length := fun x hx => by
    obtain ⟨b, e, hb, _⟩ := hfr x hx
    unfold nbS at hb
    omega
  have hcnt := putWs_count on.ok h0
  rcases put_goes (k := k) (l := l) on.few on.full on.big hz (chg_ok on.ok h0) hpl (Nat.le_trans hcnt hn) with ⟨s2, k', e, hk, hl, hz2, hd⟩ | ⟨m, e, h1, h2, h3, h4, h5⟩
  · exact .inl ⟨s2, k', e, hk, hl, hz2, fun hf => commit_on on h0 hl hf hd⟩
  · refine .inr ⟨m, e, h1, h2, h3, h4, fun kp y hl hf hy => ?_⟩
    rcases h5 kp with ⟨z, ho, e2⟩ | e2
    · have hzt := same_on on ho.len ho.full (fun i hi => ho.other _ fun x hx e => by have := (hpl x hx).1; omega) fun p hp b hb => ho.other _ fun x hx e => by
        obtain ⟨b', e1, _, e3⟩ := hfr x hx
        have : b' = b := by omega
        subst this
        have : takes t b' = true := by rw [takes, List.any_eq_true]; exact ⟨p, hp, by simpa using hb⟩
        rw [this] at e3
        cases e3
      have hyz := drop_on hzt.1 (hl.trans ho.len.symm) hf (hy.trans e2)
      exact .inl ⟨hyz.1, hyz.2.trans hzt.2⟩
    · exact .inr (commit_on on h0 hl hf (hy.trans e2))

theorem wipeWs_free {n : Nat} {bs : List Nat} {x : Nat × List UInt8} (h : x ∈ wipeWs bs) : ∃ b ∈ bs, x = (74 + b, zero256) := by
  obtain ⟨b, hb, e⟩ := List.mem_map.1 h
  exact ⟨b, hb, e.symm⟩

/-- An erase, the power being there. -/
theorem erase_goes {s : List (List UInt8)} {t : Tab} (on : On s t) (hz : s.getD 0 [] = zero256) (hn : nbS s ≤ 400) {p : Pl} (hp : p ∈ t) :
    ∃ s2, eraseP (nbS s) t p.bs p.nm (lit s 0) = (lit s2 0, 0) ∧ s2.length = s.length ∧ s2.getD 0 [] = zero256 ∧ ((∀ b ∈ s2, b.length = 256) → On s2 (tdel t p.nm) ∧ filesB s2 (tdel t p.nm) = fdrop (filesB s t) p.nm) := by
  have hbig := on.big
  have hhas : has t p.nm = true := (has_iff t p.nm).2 ⟨p, hp, rfl⟩
  have h0 := erase_may on.ok hhas
  have hok' := chg_ok on.ok h0
  rw [erase_tab] at hok'
  obtain ⟨wz, hwz⟩ : ∃ ws, ws = wipeWs (p.bs ++ free (nbS s) t) := ⟨_, rfl⟩
  have hin : ∀ x ∈ wz, ∃ b, (b ∈ p.bs ∨ b ∈ free (nbS s) t) ∧ x = (74 + b, zero256) := fun x hx => by
    rw [hwz] at hx
    obtain ⟨b, hb, e⟩ := wipeWs_free (n := 0) hx
    exact ⟨b, List.mem_append.1 hb, e⟩
  have hlt : ∀ x ∈ wz, 74 ≤ x.1 ∧ x.1 < s.length ∧ x.2.length = 256 := fun x hx => by
    obtain ⟨b, hb, rfl⟩ := hin x hx
    have : b < nbS s := by
      rcases hb with hb | hb
      · exact on.ok.lt p hp b hb
      · exact (free_lt hb).1
    unfold nbS at this
    exact ⟨Nat.le_add_right _ _, by show 74 + b < s.length; omega, zero_len⟩
  have hcnt : wz.length ≤ 1000 := by
    rw [hwz, wipeWs, List.length_map, List.length_append]
    have h1 := up_le (on.ok.up p hp) (on.ok.lt p hp)
    have h2 := free_le (nbS s) t
    omega
  have hv : Valid s wz := fun x hx => ⟨(hlt x hx).2.1, (hlt x hx).2.2⟩
  have hw256 : ∀ x ∈ wz, x.2.length = 256 := fun x hx => (hlt x hx).2.2
  have hol := old_laid on.full hw256
  have e1 : wipeP (p.bs ++ free (nbS s) t) (lit s 0) = (lit (laid s wz) 0, 0) := by
    rw [wipeP, ← hwz, phases]
    rcases goes_writes (s := s) (P := fun _ => True) wz [] 0 hv hcnt (fun _ => trivial) with ⟨k1, e, hk⟩ | ⟨_, _, h, _⟩
    · have hk1 : k1 = 0 := by omega
      subst hk1
      have e' : writes wz (lit s 0) = (⟨s, [] ++ wz, 0, false⟩, 0) := e
      rw [e', if_pos rfl, phases_one]
      rfl
    · exact absurd rfl h
  have hz1 : (laid s wz).getD 0 [] = zero256 := by rw [hol.other 0 fun x hx e => by have := (hlt x hx).1; omega]; exact hz
  have hws : putWs (tdel t p.nm) (eraseL p.nm) = [] := erase_ws _ _
  have hgo := put_goes (k := 0) (s := laid s wz) (t' := tdel t p.nm) (l := eraseL p.nm) (by rw [hol.len]; exact on.few) hol.full (by rw [hol.len]; exact hbig) hz1 hok' (by rw [hws]; intro x hx; cases hx) (by rw [hws]; decide)
  rcases hgo with ⟨s2, k', e, hk, hl, hz2, hd⟩ | ⟨_, _, h, _⟩
  · have hk' : k' = 0 := by omega
    subst hk'
    refine ⟨s2, by rw [eraseP, e1, if_pos rfl]; exact e, hl.trans hol.len, hz2, fun hf => ?_⟩
    rw [hws] at hd
    have hd' : s2.drop 42 = done ((laid s wz).drop 42) (metaCL (tdel t p.nm)) := hd
    have hnb : nbS s2 = nbS s := by rw [nbS, nbS, hl, hol.len]
    have hl1 := hl
    rw [hol.len] at hl1
    refine ⟨⟨by rw [hl1]; exact on.few, hf, by rw [hl1]; exact hbig, by rw [hnb]; exact hok', (table_told hok' (by rw [hol.len]; exact hbig) hl hd').symm⟩, ?_⟩
    have hfi := tdel_img (datB s) on.ok.rise p.nm
    refine Eq.trans (List.map_congr_left fun q hq => ?_) hfi
    obtain ⟨hqt, hqn⟩ := (mem_tdel t p.nm q).1 hq
    rw [img, img, datB, datB, pairs_range fun b hb => ?_]
    have hbn := on.ok.lt q hqt b hb
    have hb74 : 74 + b < s.length := by unfold nbS at hbn; omega
    rw [table_other hl hd' b (by rw [hol.len]; exact hb74), hol.other _ fun x hx e => ?_]
    obtain ⟨b', hb', rfl⟩ := hin x hx
    have : b' = b := by
      have : 74 + b' = 74 + b := e
      omega
    subst this
    rcases hb' with hb' | hb'
    · exact apart_of on.ok hqt hp hqn b' hb hb'
    · have h1 := (free_lt hb').2
      have h2 : takes t b' = true := by rw [takes, List.any_eq_true]; exact ⟨q, hqt, by simpa using hb⟩
      rw [h2] at h1
      cases h1
  · exact absurd rfl h

/-- What an opening leaves: the same files. -/
theorem open_on {s s2 : List (List UInt8)} {t : Tab} (on : On s t) (hz : s.getD 0 [] = zero256) (hl : s2.length = s.length) (hf : ∀ b ∈ s2, b.length = 256) (hd : s2.drop 42 = recs decJ s) : On s2 t ∧ filesB s2 t = filesB s t :=
  drop_on on hl hf (hd.trans (recs_zero hz))

/-- A disk of bytes 0 has no files. -/
theorem new_on {N : Nat} (h : 74 < N) (h2 : N ≤ 2176) : On (List.replicate N zero256) [] ∧ filesB (List.replicate N zero256) [] = [] := by
  refine ⟨⟨by rw [List.length_replicate]; exact h2, fun b hb => by rw [(List.mem_replicate.1 hb).2]; exact zero_len, by rw [List.length_replicate]; exact h, ?_, ?_⟩, rfl⟩
  · exact ⟨List.Pairwise.nil, Nat.zero_le _, fun p hp => by (cases hp), fun p hp => by (cases hp), fun p hp => by (cases hp), fun p hp => by (cases hp), List.Pairwise.nil, Nat.min_le_right _ _⟩
  · have e : ((List.range 32).map fun i => (List.replicate N zero256).getD (42 + i) []) = (List.range 32).map fun _ => zero256 := List.map_congr_left fun i hi => by
      have := List.mem_range.1 hi
      rw [List.getD_eq_getElem?_getD, List.getElem?_replicate, if_pos (by omega)]
      rfl
    rw [metaB, e, tbytes, if_pos rfl, List.map_const', List.length_range, zero256, List.flatten_replicate_replicate]
    rfl

end Go.Proofs.YtphcbpfpelonaaaGreatDoor.M
