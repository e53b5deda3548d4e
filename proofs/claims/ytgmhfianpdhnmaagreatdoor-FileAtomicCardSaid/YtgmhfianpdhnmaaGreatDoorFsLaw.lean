/-
  CONTRACTS OF wal.Open, file.Open IN THE STATE'S WORDS, AND OF orloplaw11.open, Seen, same. Conditions: the tables of package sha lie as laid.
-/
import Derived.Test.YtgmhfianpdhnmaaGreatDoorPf30
import Derived.Test.YtgmhfianpdhnmaaGreatDoorRefFileG
namespace Go.Proofs.YtgmhfianpdhnmaaGreatDoor
open Go.RowKit Go.Maps
set_option linter.unusedVariables false
set_option maxRecDepth 100000

/-- A disk and a journal. -/
def WSt (w0 w : World) (g gw : Nat) (m : M.Dsk) (R : Nat → Prop) : Prop := ∃ T, CodeDk T w g m ∧ (∀ k, T k → w0.heap.size ≤ k) ∧ Below w0.heap.size w0 w ∧ (∀ k, R k → ¬ T k ∧ w0.heap.size ≤ k ∧ k < w.heap.size) ∧ ∀ F : Nat → Prop, (∀ k, F k → T k ∨ R k ∨ w.heap.size ≤ k) → Keeps F w (fun x => WalIs x gw g)

/-- What an opening makes of blocks s with c waiting. -/
def Opened (s : List (List UInt8)) (c : List (Nat × List UInt8)) (s2 : List (List UInt8)) : Prop :=
  s2.length = s.length ∧ (∀ b ∈ s2, b.length = 256) ∧ s2.drop 42 = M.recs M.decJ (M.laid s c) ∧ s2.getD 0 [] = M.zero256

section
variable {w0 w : World} {g gw gf k : Nat} {s : List (List UInt8)} {c : List (Nat × List UInt8)} {t : M.Tab} {dn : Bool} {R : Nat → Prop}

theorem DSt.wopen (d : DSt w0 w g ⟨s, c, 0, false⟩ R) (hL : Laid w0) (h42 : 42 < s.length) (hw : c.length < 100000) :
    Calls Tryz.prog 27 #[.pointer (some ⟨g, 0, none⟩)] w fun e w' => Far w0 R w w' ∧ ∃ gw s2, e = .returned (.tuple #[.pointer (some ⟨gw, 0, none⟩), .int .i64 0]) ∧ WSt w0 w' g gw (M.lit s2 0) R ∧ Opened s c s2 := by
  obtain ⟨T, d, n, u, r⟩ := d
  obtain ⟨s2, e1, e2, e3, e4⟩ := wal_math.opens s c d.ok h42
  refine (wal_calls.open_yes d (fun x cx => wal_calls.ld hL (u.trans (cx.below u.size n))) h42 hw).mono ?_
  rintro e w' ⟨ch, T', d', ht, hh⟩
  rw [e1] at d' hh
  have hk := ch.size
  have hu := u.size
  have hfar : Far w0 R w w' := ch.mono fun j _ h => ⟨fun hr => (r j hr).1 h, n j h⟩
  rcases hh with ⟨-, gw, he, kw⟩ | ⟨h11, _⟩
  · refine ⟨hfar, gw, s2, he, ⟨T', d', fun j h => ?_, u.trans (ch.below hu n), fun j hj => ?_, fun F hF => kw F fun j hj => ?_⟩, e2, d'.ok.full, e3, e4⟩
    · rcases ht j h with h | h
      · exact n j h
      · omega
    · have h3 := r j hj
      refine ⟨fun h => ?_, h3.2.1, by omega⟩
      rcases ht j h with h | h
      · exact h3.1 h
      · omega
    · rcases hF j hj with h | h | h
      · exact .inl h
      · exact .inr (.inl (r j h).2.2)
      · exact .inr (.inr h)
  · cases h11

theorem DSt.wopen_no {m : M.Dsk} (d : DSt w0 w g m R) (hL : Laid w0) (h42 : m.safe.length ≤ 42) :
    Calls Tryz.prog 27 #[.pointer (some ⟨g, 0, none⟩)] w fun e w' => e = .returned (.tuple #[.pointer none, .int .i64 1]) ∧ Below w.heap.size w w' := by
  obtain ⟨T, d, n, u, r⟩ := d
  exact wal_calls.open_no d (fun x cx => wal_calls.ld hL (u.trans (cx.below u.size n))) h42

theorem WSt.fopen (d : WSt w0 w g gw (M.lit s 0) R) (hL : Laid w0) (h42 : 42 < s.length) (hf : ∀ b ∈ s, b.length = 256) :
    Calls Tryz.prog 28 #[.pointer (some ⟨gw, 0, none⟩)] w fun e w' => Below w.heap.size w w' ∧
      ((s.length ≤ 74 ∧ e = .returned (.tuple #[.pointer none, .int .i64 1])) ∨
       (74 < s.length ∧ ((∃ t gf, M.On s t ∧ e = .returned (.tuple #[.pointer (some ⟨gf, 0, none⟩), .int .i64 0]) ∧ FSt w0 w' g gw gf (M.lit s 0) t false R) ∨ ((∀ t, ¬ M.On s t) ∧ e = .returned (.tuple #[.pointer none, .int .i64 8]))))) := by
  obtain ⟨T, d, n, u, r, kw⟩ := d
  have hfew : s.length ≤ 2176 := d.ok.few
  refine (fopen_any d (kw T fun j h => .inl h).now (wal_calls.ld hL u) h42 (by show 0 < 1000000; decide)).mono ?_
  rintro e w' ⟨k, hh⟩
  have hk := k.size
  have hu := u.size
  refine ⟨k, ?_⟩
  rcases hh with ⟨h74, he⟩ | ⟨h74, ⟨t, gf, mb, ok, et, he, hg, hgm, ha, htab⟩ | ⟨hno, he⟩⟩
  · exact .inl ⟨h74, he⟩
  · have h74' : 74 < s.length := h74
    refine .inr ⟨h74, .inl ⟨t, gf, ⟨hfew, hf, h74', ok, et⟩, he, T, _, mb, ⟨d.below k, n, u.trans (k.mono hu), (kw _ fun j hj => ?_).below k, ha, htab, fun j hj => ⟨fun h => ?_, by omega, hj.2⟩, fun h => ?_, fun h => ?_, by omega, by omega, fun j hj => ?_⟩⟩⟩
    · rcases hj with hj | hj | hj
      · exact .inl hj
      · exact .inr (.inr (by omega))
      · exact .inr (.inl hj)
    · have := d.there j h; omega
    · have := d.there mb h; omega
    · have := d.there gf h; omega
    · have h3 := r j hj
      exact ⟨h3.1, fun h => by omega, by omega, by omega, h3.2.1, by omega⟩
  · exact .inr ⟨h74, .inr ⟨fun t on => hno t on.ok on.told, he⟩⟩

set_option maxHeartbeats 4000000 in
/-- The law's open. -/
theorem open11_any (d : DSt w0 w g ⟨s, c, 0, false⟩ R) (hL : Laid w0) (h74 : 74 < s.length) (hw : c.length < 100000) :
    Calls Tryz.prog 11 #[.pointer (some ⟨g, 0, none⟩)] w fun e w' => Far w0 R w w' ∧ ∃ s2, Opened s c s2 ∧
      ((∃ t gw gf, M.On s2 t ∧ e = .returned (.pointer (some ⟨gf, 0, none⟩)) ∧ FSt w0 w' g gw gf (M.lit s2 0) t false R) ∨ ((∀ t, ¬ M.On s2 t) ∧ e = .returned (.pointer none))) := by
  have C := Lib.hid (d.wopen hL (by omega) hw)
  have HL := Lib.hid hL
  have H74 := Lib.hid h74
  clear d hL h74 hw
  go_enter Tryz.func11, Tryz.ntmps11
  go_wp2_with fail
  refine C.out.mono ?_
  rintro e w1 ⟨far, gw, s2, rfl, ws, op⟩
  have hl2 := op.1
  have CF := Lib.hid (ws.fopen HL.out (by have := H74.out; omega) op.2.1)
  have FAR := Lib.hid far
  have OP := Lib.hid op
  have HL2 : Hid (74 < s2.length) := by rw [Hid, hl2]; exact H74.out
  clear C far ws op hl2
  go_wp2_with fail
  refine CF.out.mono ?_
  rintro e w2 ⟨k2, ⟨h1, rfl⟩ | ⟨h1, ⟨t, gf, on, rfl, fs⟩ | ⟨hno, rfl⟩⟩⟩
  · exact absurd HL2.out (by omega)
  · have K2 := Lib.hid k2
    have ON := Lib.hid on
    have FS := Lib.hid fs
    clear CF h1 k2 on fs
    go_wp2
    go_ret
    exact ⟨FAR.out.trans (Far.of_below K2.out), s2, OP.out, .inl ⟨t, gw, gf, ON.out, rfl, FS.out⟩⟩
  · have K2 := Lib.hid k2
    have HNO := Lib.hid hno
    clear CF h1 k2 hno
    go_wp2
    go_ret
    exact ⟨FAR.out.trans (Far.of_below K2.out), s2, OP.out, .inr ⟨HNO.out, rfl⟩⟩

end

theorem M.filesB_len (s : List (List UInt8)) (t : M.Tab) : (M.filesB s t).length = t.length := List.length_map _

theorem M.filesB_get (s : List (List UInt8)) (t : M.Tab) (i : Nat) (hi : i < t.length) : (M.filesB s t).getD i default = ⟨(t.getD i default).nm, M.datB s (t.getD i default)⟩ := by
  rw [M.filesB, List.getD_eq_getElem?_getD, List.getElem?_map, List.getElem?_eq_getElem hi, List.getD_eq_getElem?_getD, List.getElem?_eq_getElem hi]
  rfl

theorem M.rise_at {t : M.Tab} (h : M.Rising t) {i : Nat} (hi : i + 1 < t.length) : bytesBefore (t.getD i default).nm (t.getD (i + 1) default).nm = true := by
  have := List.pairwise_iff_getElem.1 h i (i + 1) (by omega) hi (by omega)
  rwa [List.getD_eq_getElem?_getD, List.getD_eq_getElem?_getD, List.getElem?_eq_getElem (by omega), List.getElem?_eq_getElem hi]

theorem M.take_next_fs (F : M.Fs) (k : Nat) (h : k < F.length) : F.take (k + 1) = F.take k ++ [F.getD k default] := by
  rw [List.take_add_one, List.getElem?_eq_getElem h, List.getD_eq_getElem?_getD, List.getElem?_eq_getElem h]
  rfl

section
variable {w0 w : World} {g gw gf k : Nat} {s : List (List UInt8)} {t : M.Tab} {dn : Bool} {R : Nat → Prop}

set_option maxHeartbeats 8000000 in
/-- All files, as a law sees them. -/
theorem seen11_any (f : FSt w0 w g gw gf (M.lit s k) t dn R) (on : M.On s t) :
    Calls Tryz.prog 22 #[.pointer (some ⟨gf, 0, none⟩)] w fun e w' => ∃ v xs, e = .returned (.tuple #[v, .bool true]) ∧ IsFs (fun j => w.heap.size ≤ j ∧ j < w'.heap.size) w' v (M.filesB s t) xs ∧ Below w.heap.size w w' := by
  have CN := Lib.hid (f.names on)
  have HF := Lib.hid f
  have HO := Lib.hid on
  obtain ⟨n, hn⟩ : ∃ n, n = t.length := ⟨_, rfl⟩
  have HN : Hid (t.length = n) := hn.symm
  have h64 : n ≤ 64 := by rw [hn]; exact on.ok.few
  have H64 := Lib.hid h64
  have HFL : Hid ((M.filesB s t).length = n) := by rw [Hid, M.filesB_len]; exact hn.symm
  clear f on hn h64
  go_enter Tryz.func22, Tryz.ntmps22
  go_wp2_with fail
  refine CN.out.mono ?_
  rintro e w1 ⟨nv, rfl, on1, k1⟩
  obtain ⟨na, nc, hnv⟩ := ownShape on1
  rw [List.length_map, HN.out] at hnv
  subst hnv
  have ON1 := Lib.hid on1
  have K1 := Lib.hid k1
  clear CN on1 k1
  go_wp2
  go_loopw [4, 6] (fun v i wr => ∃ (j : Nat) (xs : List Value), i = .int .i64 (j : Int) ∧ Hid (j ≤ n) ∧ Hid (Below w1.heap.size w1 wr) ∧ Hid (FsD (fun b => w.heap.size ≤ b ∧ b < wr.heap.size ∧ v.ownBlock ≠ some b) wr ((M.filesB s t).take j) xs) ∧ Hid (wr.ownsRow w1.heap.size 55 2 v ((M.filesB s t).take j).length (fcs ((M.filesB s t).take j) xs)))
    (fun v i _ => n - numOf i)
  case atStart => exact ⟨0, [], rfl, Nat.zero_le _, Below.refl _ _, by rw [List.take_zero]; exact FsD.nil _ _, by rw [List.take_zero]; exact World.ownsRow_nil _ _ _ _⟩
  case round =>
    obtain ⟨wz, rfl⟩ : ∃ x, x = wr := ⟨_, rfl⟩
    obtain ⟨v4, rfl⟩ : ∃ x, x = u4 := ⟨_, rfl⟩
    obtain ⟨j, xs, rfl, hj, kk, dd, oo⟩ := hrel
    have KZ : Hid (Below w.heap.size w wz) := K1.out.trans (kk.out.mono K1.out.size)
    by_cases hlt : j < n
    · have b1 : (j : Int) < (n : Int) := by omega
      have hjt : j < t.length := by rw [HN.out]; exact hlt
      have onz := own_below ON1.out kk.out
      rw [List.length_map, HN.out] at onz
      obtain ⟨nb0, hna, _, hcs, _⟩ := ownCells onz (by omega)
      have hcell : ∀ i, i < n → wz.cell? ⟨nb0, i, none⟩ = some (.string ⟨(t.getD i default).nm.toArray⟩) := fun i hi => by
        have hit : i < t.length := by rw [HN.out]; exact hi
        rw [hcs i (by rw [List.length_map, List.length_map]; exact hit), List.getElem?_map, List.getElem?_map, List.getElem?_eq_getElem hit, List.getD_eq_getElem?_getD, List.getElem?_eq_getElem hit]
        rfl
      have CR := Lib.hid ((HF.out.see KZ.out).read HO.out j hjt)
      have c0 := hcell j hlt
      obtain ⟨p, hp⟩ : ∃ p, p = t.getD j default := ⟨_, rfl⟩
      have hfg := M.filesB_get s t j hjt
      have hfn := M.take_next_fs (M.filesB s t) j (by rw [HFL.out]; exact hlt)
      rw [hfg, ← hp] at hfn
      have hnl : p.nm.length ≤ maxLen := by
        have := (HO.out.ok.nm p (by rw [hp]; exact M.getD_mem hjt)).2
        unfold maxLen; omega
      rw [← hp] at c0 CR
      obtain ⟨snm, hsnm⟩ : ∃ s : ByteArray, s = ⟨p.nm.toArray⟩ := ⟨_, rfl⟩
      rw [← hsnm] at c0 CR
      have HSN := Lib.hid hsnm
      have HP := Lib.hid hp
      have HFN := Lib.hid hfn
      have HNL := Lib.hid hnl
      have HCELL := Lib.hid hcell
      have HLT := Lib.hid hlt
      have g2 : (0 : Int) ≤ (j : Int) := by omega
      have g3 : ((j : Int)).toNat = j := by omega
      have G1 : Hid (wrap64 ((j : Int) + 1) = ((j + 1 : Nat) : Int)) := wrap_next (by have := H64.out; omega)
      subst hna
      clear hjt onz hcs hcell hp hfg hfn hnl hsnm hlt
      go_wp2_with fail
      refine CR.out.mono ?_
      rintro e w2 ⟨r, rfl, o2, k2⟩
      obtain ⟨ra, rc, rfl⟩ := o2.shape'
      obtain ⟨q, hq⟩ : ∃ q, q = (M.datB s p).length := ⟨_, rfl⟩
      have ob : Own w2 wz.heap.size (.slice ra (M.datB s p).length rc) (M.datB s p) := o2
      rw [← hq] at o2 ob ⊢
      have K2 : Hid (Below w1.heap.size w1 w2) := kk.out.trans (k2.mono kk.out.size)
      have KZ2 := Lib.hid k2
      have OB := Lib.hid ob
      have hd0 := ob.nil0
      have HD0 := Lib.hid hd0
      have HLD : Hid (Lies (fun b => wz.heap.size ≤ b ∧ b < w2.heap.size) (.slice ra q rc)) := ob.lies fun k h1 h2 => ⟨h1, h2⟩
      have c2 : w2.cell? ⟨nb0, j, none⟩ = some (.string snm) := (k2.cell (p := ⟨nb0, j, none⟩) (World.block_lt_of_cell? _ _ c0)).trans c0
      clear CR o2 ob k2 hq hd0 c0
      by_cases h0 : j = 0
      focus
        have b2 : ¬ (0 : Int) < (j : Int) := by omega
        have hd1 : decide ((0 : Int) < (j : Int)) = false := decide_eq_false b2
        have b3 : ¬ 0 < j := by omega
        have hd2 : decide (0 < j) = false := decide_eq_false b3
        clear h0
        go_upto_region 7 with fail
        go_quiet (fail)
        go_upto_region 9 with fail
        obtain ⟨w3, hw3⟩ : ∃ x, Hid (x = w2.drewN nq) := ⟨_, rfl⟩
        have K3 : Hid (Below w2.heap.size w2 w3) := by rw [hw3.out]; exact drewN_below (Below.refl _ _) nq
        rw [← hw3.out]
        clear b2 hd1 b3 hd2 hw3
      rotate_left
      focus
        have b2 : (0 : Int) < (j : Int) := by omega
        have b3 : 0 < j := by omega
        obtain ⟨i, hi⟩ : ∃ i, i = j - 1 := ⟨_, rfl⟩
        have hij : j = i + 1 := by omega
        have hin : i < n := by have := HLT.out; omega
        have hc1 := HCELL.out i hin
        have hrise := M.rise_at HO.out.ok.rise (i := i) (by rw [HN.out]; have := HLT.out; omega)
        rw [← hij, ← HP.out] at hrise
        obtain ⟨u, hu⟩ : ∃ u, u = (t.getD i default).nm := ⟨_, rfl⟩
        have hul : u.length ≤ maxLen := by
          have := (HO.out.ok.nm (t.getD i default) (M.getD_mem (by rw [HN.out]; exact hin))).2
          rw [hu]
          unfold maxLen; omega
        rw [← hu] at hc1 hrise
        have CL := Lib.hid (fun y => rless_any u p.nm y hul HNL.out)
        rw [hrise, ← HSN.out] at CL
        obtain ⟨su, hsu⟩ : ∃ s : ByteArray, s = ⟨u.toArray⟩ := ⟨_, rfl⟩
        rw [← hsu] at hc1 CL
        have KY : Hid (∀ y, Below w2.heap.size w2 y → y.cell? ⟨nb0, i, none⟩ = some (.string su) ∧ y.cell? ⟨nb0, j, none⟩ = some (.string snm)) := fun y ky => by
          have h2 : w2.cell? ⟨nb0, i, none⟩ = some (.string su) := (KZ2.out.cell (p := ⟨nb0, i, none⟩) (World.block_lt_of_cell? _ _ hc1)).trans hc1
          exact ⟨(ky.cell (p := ⟨nb0, i, none⟩) (World.block_lt_of_cell? _ _ h2)).trans h2, (ky.cell (p := ⟨nb0, j, none⟩) (World.block_lt_of_cell? _ _ c2)).trans c2⟩
        have hi2 : (i : Int) < (n : Int) := by omega
        have hi3 : (0 : Int) ≤ (i : Int) := by omega
        have hi4 : ((i : Int)).toNat = i := by omega
        have W0 : Hid (wrap64 ((j : Int) - 1) = (i : Int)) := by
          rw [Hid, wrap_id (by have := H64.out; have := HLT.out; omega)]
          omega
        clear h0 hi hij hin hc1 hrise hu hul hsu c2
        go_upto_region 7 with fail
        refine wp_region_any (by kernel_rfl) ?_
        change wpAny _ _ _ _ _ _ _ (World.drew _)
        refine wpAny_of_held (S := fun w' => Below w2.heap.size w2 w') _ _ _ _ ?_
        have S0 : Below w2.heap.size w2 w2.drew := (Below.refl _ _).drew
        refine wpAnyH_take_at (i := 0) (v := .int .i64 0) rfl rfl (by kernel_rfl) (by kernel_rfl) (by kernel_rfl) (fun _ _ _ h => h) (Or.inl ⟨by rfl, fun w hS => by go_simp⟩) S0 ?_
        try simp only [List.setIfInBounds_toArray, List.set_cons_zero, List.set_cons_succ]
        refine wpAnyH_take_at (i := 1) (v := .bool false) rfl rfl (by kernel_rfl) (by kernel_rfl) (by kernel_rfl) (fun _ _ _ h => h) (Or.inl ⟨by rfl, fun w hS => by go_simp⟩) S0 ?_
        try simp only [List.setIfInBounds_toArray, List.set_cons_zero, List.set_cons_succ]
        refine wpAnyH_take_at (i := 2) (v := .bool false) rfl rfl (by kernel_rfl) (by kernel_rfl) (by kernel_rfl) (fun _ _ _ h => h) (Or.inl ⟨by rfl, fun w hS => by go_simp⟩) S0 ?_
        try simp only [List.setIfInBounds_toArray, List.set_cons_zero, List.set_cons_succ]
        refine wpAnyH_take_at (i := 3) (v := .int .i64 (j : Int)) rfl rfl (by kernel_rfl) (by kernel_rfl) (by kernel_rfl) (fun _ _ _ h => h) (Or.inl ⟨by rfl, fun w hS => by go_simp⟩) S0 ?_
        try simp only [List.setIfInBounds_toArray, List.set_cons_zero, List.set_cons_succ]
        refine wpAnyH_take_at (i := 4) (v := .bool true) rfl rfl (by kernel_rfl) (by kernel_rfl) (by kernel_rfl) (fun _ _ _ h => h) (Or.inl ⟨by rfl, fun w hS => by go_simp⟩) S0 ?_
        try simp only [List.setIfInBounds_toArray, List.set_cons_zero, List.set_cons_succ]
        refine wpAnyH_take_at (i := 5) (v := .bool true) rfl rfl (by kernel_rfl) (by kernel_rfl) (by kernel_rfl) (fun _ _ _ h => h) (Or.inl ⟨by rfl, fun w hS => by go_simp⟩) S0 ?_
        try simp only [List.setIfInBounds_toArray, List.set_cons_zero, List.set_cons_succ]
        refine wpAnyH_take_at (i := 6) (v := .slice (some ⟨nb0, 0, none⟩) n nc) rfl rfl (by kernel_rfl) (by kernel_rfl) (by kernel_rfl) (fun _ _ _ h => h) (Or.inl ⟨by rfl, fun w hS => by go_simp⟩) S0 ?_
        try simp only [List.setIfInBounds_toArray, List.set_cons_zero, List.set_cons_succ]
        refine wpAnyH_take_at (i := 7) (v := .int .i64 (j : Int)) rfl rfl (by kernel_rfl) (by kernel_rfl) (by kernel_rfl) (fun _ _ _ h => h) (Or.inl ⟨by rfl, fun w hS => by go_simp⟩) S0 ?_
        try simp only [List.setIfInBounds_toArray, List.set_cons_zero, List.set_cons_succ]
        refine wpAnyH_take_at (i := 8) (v := .int .i64 (i : Int)) rfl rfl (by kernel_rfl) (by kernel_rfl) (by kernel_rfl) (fun _ _ _ h => h) (Or.inl ⟨by rfl, fun w hS => by have q : IntKind.i64.wrap ((j : Int) - 1) = (i : Int) := (IntWalk.i64_left _).trans W0.out; go_simp⟩) S0 ?_
        try simp only [List.setIfInBounds_toArray, List.set_cons_zero, List.set_cons_succ]
        refine wpAnyH_take_at (i := 9) (v := .pointer (some ⟨nb0, i, none⟩)) rfl rfl (by kernel_rfl) (by kernel_rfl) (by kernel_rfl) (fun _ _ _ h => h) (Or.inl ⟨by rfl, fun w hS => by go_simp⟩) S0 ?_
        try simp only [List.setIfInBounds_toArray, List.set_cons_zero, List.set_cons_succ]
        refine wpAnyH_take_at (i := 10) (v := .string su) rfl rfl (by kernel_rfl) (by kernel_rfl) (by kernel_rfl) (fun _ _ _ h => h) (Or.inl ⟨by rfl, fun w hS => by have c := (KY.out w hS).1; go_simp⟩) S0 ?_
        try simp only [List.setIfInBounds_toArray, List.set_cons_zero, List.set_cons_succ]
        refine wpAnyH_take_at (i := 11) (v := .slice (some ⟨nb0, 0, none⟩) n nc) rfl rfl (by kernel_rfl) (by kernel_rfl) (by kernel_rfl) (fun _ _ _ h => h) (Or.inl ⟨by rfl, fun w hS => by go_simp⟩) S0 ?_
        try simp only [List.setIfInBounds_toArray, List.set_cons_zero, List.set_cons_succ]
        refine wpAnyH_take_at (i := 12) (v := .int .i64 (j : Int)) rfl rfl (by kernel_rfl) (by kernel_rfl) (by kernel_rfl) (fun _ _ _ h => h) (Or.inl ⟨by rfl, fun w hS => by go_simp⟩) S0 ?_
        try simp only [List.setIfInBounds_toArray, List.set_cons_zero, List.set_cons_succ]
        refine wpAnyH_take_at (i := 13) (v := .pointer (some ⟨nb0, j, none⟩)) rfl rfl (by kernel_rfl) (by kernel_rfl) (by kernel_rfl) (fun _ _ _ h => h) (Or.inl ⟨by rfl, fun w hS => by go_simp⟩) S0 ?_
        try simp only [List.setIfInBounds_toArray, List.set_cons_zero, List.set_cons_succ]
        refine wpAnyH_take_at (i := 14) (v := .string snm) rfl rfl (by kernel_rfl) (by kernel_rfl) (by kernel_rfl) (fun _ _ _ h => h) (Or.inl ⟨by rfl, fun w hS => by have c := (KY.out w hS).2; go_simp⟩) S0 ?_
        try simp only [List.setIfInBounds_toArray, List.set_cons_zero, List.set_cons_succ]
        refine wpAnyH_ready (rs := [15]) (by kernel_rfl) (by simp) ?_
        refine AllReadyH.cons rfl (fun K hK => ?_) AllReadyH.nil
        go_simp
        refine (CL.out _).mono ?_
        rintro e w3 ⟨rfl, k3⟩
        have K3 : Hid (Below w2.heap.size w2 w3) := S0.trans (k3.mono S0.size)
        refine hK.out _ _ K3.out (fun _ => ?_)
        clear hK K S0 k3 CL
        refine wpAnyH_take_at (i := 16) (v := .bool false) rfl rfl (by kernel_rfl) (by kernel_rfl) (by kernel_rfl) (fun _ _ _ h => h) (Or.inl ⟨by rfl, fun w hS => by go_simp⟩) K3.out ?_
        try simp only [List.setIfInBounds_toArray, List.set_cons_zero, List.set_cons_succ]
        refine wpAnyH_take_at (i := 17) (v := .bool false) rfl rfl (by kernel_rfl) (by kernel_rfl) (by kernel_rfl) (fun _ _ _ h => h) (Or.inl ⟨by rfl, fun w hS => by go_simp⟩) K3.out ?_
        try simp only [List.setIfInBounds_toArray, List.set_cons_zero, List.set_cons_succ]
        refine wpAnyH_take_at (i := 18) (v := .bool false) rfl rfl (by kernel_rfl) (by kernel_rfl) (by kernel_rfl) (fun _ _ _ h => h) (Or.inl ⟨by rfl, fun w hS => by go_simp⟩) K3.out ?_
        try simp only [List.setIfInBounds_toArray, List.set_cons_zero, List.set_cons_succ]
        refine wpAnyH_done (by kernel_rfl) ?_ _
        have c2 := (KY.out w2 (Below.refl _ _)).2
        go_upto_region 9 with fail
        clear KY W0 hi2 hi3 hi4 b2 b3
      all_goals (
        have c3 : w3.cell? ⟨nb0, j, none⟩ = some (.string snm) := (K3.out.cell (p := ⟨nb0, j, none⟩) (World.block_lt_of_cell? _ _ c2)).trans c2
        obtain ⟨w4, hw4⟩ : ∃ x, Hid (x = w3.alloc (.cells #[.string snm, .slice ra q rc] 55)) := ⟨_, rfl⟩
        obtain ⟨p4, hp4⟩ : ∃ x, Hid (x = w3.heap.size) := ⟨_, rfl⟩
        have k4 : Below w3.heap.size w3 w4 := by rw [hw4.out]; exact (Below.refl _ _).alloc (Nat.le_refl _) _
        have B4 : Blk w4 p4 55 [.string ⟨p.nm.toArray⟩, .slice ra q rc] := by rw [← HSN.out, hw4.out]; exact Blk.newAt _ _ _ _ _ hp4.out rfl
        have K24 : Below w2.heap.size w2 w4 := K3.out.trans (k4.mono K3.out.size)
        have KZ4 : Hid (Below wz.heap.size wz w4) := KZ2.out.trans (K24.mono KZ2.out.size)
        have hz2 := KZ2.out.size
        have hz4 := K24.size
        have hzw := KZ.out.size
        have hp4' := hp4.out
        have hz3 := K3.out.size
        have IF := Lib.hid (fs_one (S := fun b => w.heap.size ≤ b) B4 (OB.out.isB.below K24) HD0.out (HLD.out.mono fun b hb => by omega) HNL.out (by show w.heap.size ≤ p4; omega))
        have OO4 := Lib.hid (own_below oo.out KZ4.out)
        have HL4 := Lib.hid dd.out.len
        have HDD := Lib.hid (dd.out.below KZ4.out)
        have HLZ : Hid (∀ b, v4.ownBlock = some b → b < wz.heap.size) := fun b hb => (oo.out.lt b hb).2
        have HTL : Hid (((M.filesB s t).take j).length ≤ 64) := by rw [Hid, List.length_take]; have := H64.out; have := HLT.out; omega
        have HB4 : Hid (w1.heap.size ≤ w4.heap.size) := Nat.le_trans K2.out.size K24.size
        have HND : Hid (FsD (fun b => wz.heap.size ≤ b ∧ b < w2.heap.size) w4 [(⟨p.nm, M.datB s p⟩ : M.Fil)] [.slice ra q rc]) := ⟨rfl, fun i hi => by
          have : i = 0 := by simp at hi; exact hi
          subst this
          exact ⟨OB.out.isB.below K24, HD0.out, HLD.out, HNL.out⟩⟩
        have K14 : Hid (Below w1.heap.size w1 w4) := kk.out.trans (KZ4.out.mono kk.out.size)
        have HSZ : Hid (w.heap.size ≤ wz.heap.size ∧ wz.heap.size ≤ w2.heap.size ∧ w2.heap.size ≤ w4.heap.size) := ⟨hzw, hz2, hz4⟩
        clear k4 B4 K24 hz2 hz4 hzw hp4' hz3 c2 dd oo kk
        go_wp2_with (rw [← hw4.out, ← hp4.out]; at_builtin; go_must (refine wpList_app_fs _ rfl _ _ rfl w1.heap.size v4 ((M.filesB s t).take j) xs rfl OO4.out HL4.out (.slice (some ⟨p4, 0, none⟩) 1 1) [(⟨p.nm, M.datB s p⟩ : M.Fil)] [.slice ra q rc] rfl IF.out (by have := HTL.out; simp only [List.length_cons, List.length_nil]; omega) HB4.out ?_))
        intro v5 w5 o5 g5 a5
        have hs5 := g5.size
        have K15 : Hid (Below w1.heap.size w1 w5) := K14.out.grown g5 HB4.out fun b hb => (OO4.out.lt b hb).1
        have c45 : Chg (fun b => v4.ownBlock = some b) w4 w5 := Chg.of_grown g5 fun k hk => hk
        have hsz := HSZ.out
        have hne : ∀ b, b < w4.heap.size → v4.ownBlock ≠ some b → v5.ownBlock ≠ some b := fun b h1 h2 e => by
          rcases a5 with a5 | a5
          · exact h2 (a5 ▸ e)
          · rw [a5] at e
            injection e with e
            omega
        have D5 : Hid (FsD (fun b => w.heap.size ≤ b ∧ b < w5.heap.size ∧ v5.ownBlock ≠ some b) w5 ((M.filesB s t).take (j + 1)) (xs ++ [.slice ra q rc])) := by
          rw [HFN.out]
          have h1 := (HDD.out.chg c45 fun b hb => hb.2.2).mono (R := fun b => w.heap.size ≤ b ∧ b < w5.heap.size ∧ v5.ownBlock ≠ some b) fun b hb => ⟨hb.1, by omega, hne b (by omega) hb.2.2⟩
          have h2 := (HND.out.chg c45 fun b hb e => by have := HLZ.out b e; omega).mono (R := fun b => w.heap.size ≤ b ∧ b < w5.heap.size ∧ v5.ownBlock ≠ some b) fun b hb => ⟨by omega, by omega, hne b (by omega) fun e => by have := HLZ.out b e; omega⟩
          exact h1.append h2
        have O5 : Hid (w5.ownsRow w1.heap.size 55 2 v5 ((M.filesB s t).take (j + 1)).length (fcs ((M.filesB s t).take (j + 1)) (xs ++ [.slice ra q rc]))) := by
          have e5 : ((M.filesB s t).take j ++ [(⟨p.nm, M.datB s p⟩ : M.Fil)]).length = min j (M.filesB s t).length + 1 := by simp
          rw [HFN.out, e5]
          exact o5
        clear c45 o5 g5 a5 hsz hne hs5 HDD HND HLZ HSZ IF OO4 HL4
        go_wp2
        go_roundw
        case rel => exact ⟨j + 1, _, by first | rfl | rw [G1.out], HLT.out, K15, D5, O5⟩
        case measure =>
          have := HLT.out
          try rw [G1.out]
          show n - (((j + 1 : Nat) : Int)).toNat < n - ((j : Int)).toNat
          omega)
    · have b1 : ¬ (j : Int) < (n : Int) := by omega
      have e : (M.filesB s t).take j = M.filesB s t := List.take_of_length_le (by rw [HFL.out]; omega)
      rw [e] at dd oo
      have hk1 := K1.out.size
      have II := Lib.hid (isFs_own (S := fun b => w.heap.size ≤ b ∧ b < wz.heap.size) oo.out (dd.out.mono fun b hb => ⟨hb.1, hb.2.1⟩) fun b hb => ⟨by have := (oo.out.lt b hb).1; omega, (oo.out.lt b hb).2⟩)
      clear dd oo e hlt hk1
      go_wp2
      go_ret2
      exact ⟨_, rfl, ⟨xs, II.out⟩, KZ.out⟩

set_option maxHeartbeats 4000000 in
/-- Are the files those of the document? -/
theorem same11_any (f : FSt w0 w g gw gf (M.lit s k) t dn R) (on : M.On s t) {S : Nat → Prop} {gr : Nat} {v : Value} {G : M.Fs} {ys : List Value} (hb : RefAt11 w gr v ((M.nbS s : Nat) : Int)) (hF : IsFs S w v G ys) (hlen : G.length ≤ 1000) (hd : ∀ q ∈ G, q.data.length ≤ 1099511627776) (b : Bool) (hbb : b = decide (M.filesB s t = G)) :
    Calls Tryz.prog 12 #[.pointer (some ⟨gf, 0, none⟩), .pointer (some ⟨gr, 0, none⟩)] w fun e w' => e = .returned (.bool b) ∧ Below w.heap.size w w' := by
  have CS := Lib.hid (seen11_any f on)
  have HF := Lib.hid f
  have HO := Lib.hid on
  have HB := Lib.hid hb
  have HG := Lib.hid hF
  have HL := Lib.hid hlen
  have HD := Lib.hid hd
  have HBL := Lib.hid hb.lt
  have HBB := Lib.hid hbb
  have HFR : Hid (M.filesB s t = G → M.freeF ((M.nbS s : Nat) : Int) G = ((M.free (M.nbS s) t).length : Int)) := fun e => by
    rw [← e]
    exact M.freeF_img on.ok (M.datB s) fun p hp => M.datB_len on hp
  have HNB : Hid (-1099511627776 ≤ ((M.nbS s : Nat) : Int) ∧ ((M.nbS s : Nat) : Int) ≤ 1099511627776) := by
    rw [Hid]; unfold M.nbS; omega
  have HL64 : Hid ((M.filesB s t).length ≤ 100000) := by rw [Hid, M.filesB_len]; have := on.ok.few; omega
  clear f on hb hF hlen hd hbb
  go_enter Tryz.func12, Tryz.ntmps12
  go_wp2_with fail
  refine CS.out.mono ?_
  rintro e w1 ⟨sv, xs, rfl, is, k1⟩
  have B1 := HB.out.below k1 HBL.out
  have c0 := B1.cell 0
  simp only [List.getElem?_cons_zero] at c0
  have CM := Lib.hid (rsame11_any is (HG.out.below k1) HL64.out)
  rw [← HBB.out] at CM
  have K1 := Lib.hid k1
  have B1H := Lib.hid B1
  clear CS is k1 B1
  go_wp2_with fail
  refine CM.out.mono ?_
  rintro e w2 ⟨rfl, k2⟩
  have K2 : Hid (Below w.heap.size w w2) := K1.out.trans (k2.mono K1.out.size)
  clear CM k2 c0
  cases b with
  | true =>
    have he := of_decide_eq_true HBB.out.symm
    have CF := Lib.hid ((HF.out.see K2.out).free HO.out)
    have hfr := HFR.out he
    clear he
    go_wp2_with fail
    refine CF.out.mono ?_
    rintro e w3 ⟨rfl, k3⟩
    have K3 : Hid (Below w.heap.size w w3) := K2.out.trans (k3.mono K2.out.size)
    have CR := Lib.hid (rfree_any (HB.out.below K3.out HBL.out) (HG.out.below K3.out) HL.out HD.out HNB.out)
    rw [hfr] at CR
    clear k3 CF hfr
    go_wp2_with fail
    refine CR.out.mono ?_
    rintro e w4 ⟨rfl, rfl⟩
    clear CR
    go_wp2
    go_ret
    exact ⟨by simp, K3.out⟩
  | false =>
    go_wp2
    go_ret
    exact ⟨rfl, K2.out⟩

end

end Go.Proofs.YtgmhfianpdhnmaaGreatDoor
