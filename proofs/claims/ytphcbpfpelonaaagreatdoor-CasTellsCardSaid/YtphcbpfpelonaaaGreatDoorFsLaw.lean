/-
  CONTRACTS OF wal.Open, file.Open IN THE STATE'S WORDS, AND OF orloplaw11.open, Seen, same. Conditions: the tables of package sha lie as laid.
-/
import Derived.Test.YtphcbpfpelonaaaGreatDoorPf30
import Derived.Test.YtphcbpfpelonaaaGreatDoorPf32
namespace Go.Proofs.YtphcbpfpelonaaaGreatDoor
open Go.RowKit Go.Maps
set_option linter.unusedVariables false
set_option maxRecDepth 100000

/-- A disk and a journal. -/
def WSt (w0 w : World) (g gw : Nat) (m : M.Dsk) (R : Nat → Prop) : Prop := ∃ T, CodeDk T w g m ∧ (∀ k, T k → w0.heap.size ≤ k) ∧ Below w0.heap.size w0 w ∧ (∀ k, R k → ¬ T k ∧ w0.heap.size ≤ k ∧ k < w.heap.size) ∧ ∀ F : Nat → Prop, (∀ k, F k → T k ∨ R k ∨ w.heap.size ≤ k) → Keeps F w (fun x => WalIs x gw g)

/-- What an opening makes of blocks s with c waiting. -/
def Opened (s : List (List UInt8)) (c : List (Nat × List UInt8)) (s2 : List (List UInt8)) : Prop :=
  s2.length = s.length ∧ (∀ b ∈ s2, b.length = 256) ∧ s2.drop 42 = M.recs M.decJ (M.laid s c) ∧ s2.getD 0 [] = M.zero256

section
variable {w0 w : World} {g gw gf k : Nat} {s : List (List UInt8)} {c : List (Nat × List UInt8)} {t : M.Tab} {dn : Bool} {R : Nat → Prop}

theorem DSt.wopen (d : DSt w0 w g ⟨s, c, 0, false⟩ R) (hL : Laid w0) (h42 : 42 < s.length) (hw : c.length < 100000) :
    Calls Tryz.prog 25 #[.pointer (some ⟨g, 0, none⟩)] w fun e w' => Far w0 R w w' ∧ ∃ gw s2, e = .returned (.tuple #[.pointer (some ⟨gw, 0, none⟩), .int .i64 0]) ∧ WSt w0 w' g gw (M.lit s2 0) R ∧ Opened s c s2 := by
  obtain ⟨T, d, n, u, r⟩ := d
  obtain ⟨s2, e1, e2, e3, e4⟩ := wal_math.opens s c d.ok h42
  refine (wal_calls.open_yes d (fun x cx => wal_calls.ld hL (u.trans (cx.below u.size n))) h42 hw).mono ?_
  rintro e w' ⟨ch, T', d', ht, hh⟩
  rw [e1] at d' hh
  have hk := ch.size
  have hu := u.size
  have hfar : Far w0 R w w' := ch.mono fun j _ h => ⟨fun hr => (r j hr).1 h, n j h⟩
  rcases hh with ⟨-, gw, he, kw⟩ | ⟨h11, _⟩
  · refine ⟨hfar, gw, s2, he, ⟨T', d', fun j h => ?_, u.trans (ch.below hu n), fun j hj => ?_, fun F hF => kw F fun j hj => ?_⟩, e2, d'.ok.full, e3, e4⟩
    · rcases ht j h with h | h
      · exact n j h
      · omega
    · have h3 := r j hj
      refine ⟨fun h => ?_, h3.2.1, by omega⟩
      rcases ht j h with h | h
      · exact h3.1 h
      · omega
    · rcases hF j hj with h | h | h
      · exact .inl h
      · exact .inr (.inl (r j h).2.2)
      · exact .inr (.inr h)
  · cases h11

theorem DSt.wopen_no {m : M.Dsk} (d : DSt w0 w g m R) (hL : Laid w0) (h42 : m.safe.length ≤ 42) :
    Calls Tryz.prog 25 #[.pointer (some ⟨g, 0, none⟩)] w fun e w' => e = .returned (.tuple #[.pointer none, .int .i64 1]) ∧ Below w.heap.size w w' := by
  obtain ⟨T, d, n, u, r⟩ := d
  exact wal_calls.open_no d (fun x cx => wal_calls.ld hL (u.trans (cx.below u.size n))) h42

theorem WSt.fopen (d : WSt w0 w g gw (M.lit s 0) R) (hL : Laid w0) (h42 : 42 < s.length) (hf : ∀ b ∈ s, b.length = 256) :
    Calls Tryz.prog 26 #[.pointer (some ⟨gw, 0, none⟩)] w fun e w' => Below w.heap.size w w' ∧
      ((s.length ≤ 74 ∧ e = .returned (.tuple #[.pointer none, .int .i64 1])) ∨
       (74 < s.length ∧ ((∃ t gf, M.On s t ∧ e = .returned (.tuple #[.pointer (some ⟨gf, 0, none⟩), .int .i64 0]) ∧ FSt w0 w' g gw gf (M.lit s 0) t false R) ∨ ((∀ t, ¬ M.On s t) ∧ e = .returned (.tuple #[.pointer none, .int .i64 8]))))) := by
  obtain ⟨T, d, n, u, r, kw⟩ := d
  have hfew : s.length ≤ 2176 := d.ok.few
  refine (fopen_any d (kw T fun j h => .inl h).now (wal_calls.ld hL u) h42 (by show 0 < 1000000; decide)).mono ?_
  rintro e w' ⟨k, hh⟩
  have hk := k.size
  have hu := u.size
  refine ⟨k, ?_⟩
  rcases hh with ⟨h74, he⟩ | ⟨h74, ⟨t, gf, mb, ok, et, he, hg, hgm, ha, htab⟩ | ⟨hno, he⟩⟩
  · exact .inl ⟨h74, he⟩
  · have h74' : 74 < s.length := h74
    refine .inr ⟨h74, .inl ⟨t, gf, ⟨hfew, hf, h74', ok, et⟩, he, T, _, mb, ⟨d.below k, n, u.trans (k.mono hu), (kw _ fun j hj => ?_).below k, ha, htab, fun j hj => ⟨fun h => ?_, by omega, hj.2⟩, fun h => ?_, fun h => ?_, by omega, by omega, fun j hj => ?_⟩⟩⟩
    · rcases hj with hj | hj | hj
      · exact .inl hj
      · exact .inr (.inr (by omega))
      · exact .inr (.inl hj)
    · have := d.there j h; omega
    · have := d.there mb h; omega
    · have := d.there gf h; omega
    · have h3 := r j hj
      exact ⟨h3.1, fun h => by omega, by omega, by omega, h3.2.1, by omega⟩
  · exact .inr ⟨h74, .inr ⟨fun t on => hno t on.ok on.told, he⟩⟩

end

theorem M.filesB_len (s : List (List UInt8)) (t : M.Tab) : (M.filesB s t).length = t.length := List.length_map _

theorem M.filesB_get (s : List (List UInt8)) (t : M.Tab) (i : Nat) (hi : i < t.length) : (M.filesB s t).getD i default = ⟨(t.getD i default).nm, M.datB s (t.getD i default)⟩ := by
  rw [M.filesB, List.getD_eq_getElem?_getD, List.getElem?_map, List.getElem?_eq_getElem hi, List.getD_eq_getElem?_getD, List.getElem?_eq_getElem hi]
  rfl

theorem M.rise_at {t : M.Tab} (h : M.Rising t) {i : Nat} (hi : i + 1 < t.length) : bytesBefore (t.getD i default).nm (t.getD (i + 1) default).nm = true := by
  have := List.pairwise_iff_getElem.1 h i (i + 1) (by omega) hi (by omega)
  rwa [List.getD_eq_getElem?_getD, List.getD_eq_getElem?_getD, List.getElem?_eq_getElem (by omega), List.getElem?_eq_getElem hi]

theorem M.take_next_fs (F : M.Fs) (k : Nat) (h : k < F.length) : F.take (k + 1) = F.take k ++ [F.getD k default] := by
  rw [List.take_add_one, List.getElem?_eq_getElem h, List.getD_eq_getElem?_getD, List.getElem?_eq_getElem h]
  rfl

section
variable {w0 w : World} {g gw gf k : Nat} {s : List (List UInt8)} {t : M.Tab} {dn : Bool} {R : Nat → Prop}

end

end Go.Proofs.YtphcbpfpelonaaaGreatDoor
