/-
  THE CONTRACT OF Files.Commit. Conditions: all lies so, and lasts while the disk turns.
  THE CONTRACT OF Files.wipe. Conditions: all lies so, and lasts while the disk turns.
-/
import Derived.Test.YtphcbpfpelonaaaGreatDoorPf27

namespace Go.Proofs.YtphcbpfpelonaaaGreatDoor
open Go.RowKit Go.Maps
set_option linter.unusedVariables false
set_option maxRecDepth 100000

theorem fcommit_down {w : World} {gf gw mb : Nat} (hA : FilesAt w gf gw mb true) (lv : Value) :
    Calls Tryz.prog 9 #[.pointer (some ⟨gf, 0, none⟩), lv] w fun e w' => e = .returned (.int .i64 11) ∧ w' = w := by
  have c2 := hA.cell 2
  simp only [List.getElem?_cons_zero, List.getElem?_cons_succ] at c2
  go_enter Tryz.func9, Tryz.ntmps9
  go_wp2
  go_ret
  exact ⟨rfl, rfl⟩

set_option maxHeartbeats 8000000 in
theorem fcommit_no {T : Nat → Prop} {w : World} {gf gw g mb nb : Nat} {m : M.Dsk} {t : M.Tab} {vs : List Value} (hF : FLies T w gf gw g mb nb m false t vs) (lv : Value) (l : M.FL) (xs : List Value) (hl : IsFL w lv l xs) (hlen : l.length ≤ 10000) (hd : ∀ c ∈ l, c.data.length ≤ 1099511627776) (r : Int) (hr : r = M.fmay nb t l) (h0 : r ≠ 0) :
    Calls Tryz.prog 9 #[.pointer (some ⟨gf, 0, none⟩), lv] w fun e w' => e = .returned (.int .i64 r) ∧ Below w.heap.size w w' := by
  have C := Lib.hid (fmay_any hF lv l xs hl (by omega) hd r hr)
  have c2 := hF.at_.cell 2
  simp only [List.getElem?_cons_zero, List.getElem?_cons_succ] at c2
  have z1 : (r != 0) = true := by simpa using h0
  have z2 : (r == 0) = false := by simpa using h0
  clear hF hl hlen hd hr
  go_enter Tryz.func9, Tryz.ntmps9
  go_wp2_with fail
  refine C.out.mono ?_
  rintro e w1 ⟨rfl, k1⟩
  have K1 := Lib.hid k1
  clear k1 C c2
  go_wp2
  go_ret
  exact ⟨rfl, K1.out⟩

/-- What Commit leaves behind. -/
def CommitIs (T S : Nat → Prop) (w : World) (gf gw g mb : Nat) (t' : M.Tab) (P : M.Dsk × Int) (e : Ending) (w' : World) : Prop :=
  e = .returned (.int .i64 P.2) ∧ Chg (fun k => T k ∨ k = gf) w w' ∧ ∃ T', CodeDk T' w' g P.1 ∧ (∀ k, T' k → T k ∨ w.heap.size ≤ k) ∧
  ((P.2 = 0 ∧ ∃ (b : Nat) (S' : Nat → Prop), w.heap.size ≤ b ∧ FilesAt w' gf gw b false ∧ TabIn S' w' b t' ∧ ¬ T' b ∧ ∀ k, S' k → (S k ∨ w.heap.size ≤ k) ∧ ¬ T' k ∧ k < w'.heap.size) ∨ (P.2 ≠ 0 ∧ FilesAt w' gf gw mb true))

set_option maxHeartbeats 8000000 in
theorem fcommit_yes {T S : Nat → Prop} {w : World} {gf gw g mb nb : Nat} {m : M.Dsk} {t : M.Tab} {vs : List Value} (hF : FLies T w gf gw g mb nb m false t vs) (lv : Value) (l : M.FL) (xs : List Value) (hK : Keeps T w (fun x => FilesAt x gf gw mb false ∧ WalIs x gw g ∧ IsFL x lv l xs ∧ Laid x))
    (hS : ∀ i, i < t.length → Lies S (vs.getD i undef)) (hST : ∀ k, S k → ¬ T k) (hSl : ∀ k, S k → k < w.heap.size) (hgT : ¬ T gf) (hgS : ¬ S gf) (h74 : 74 < m.safe.length) (hlen : l.length ≤ 10000) (hd : ∀ c ∈ l, c.data.length ≤ 1099511627776) (h0 : M.fmay nb t l = 0) (hw : m.wait.length + (M.putWs (M.chgN (M.free nb t) t l).1 l).length < 90000) :
    Calls Tryz.prog 9 #[.pointer (some ⟨gf, 0, none⟩), lv] w (CommitIs T S w gf gw g mb (M.chgN (M.free nb t) t l).1 (M.putP (M.chgN (M.free nb t) t l).1 l m)) := by
  have C := Lib.hid (fmay_any hF lv l xs hK.now.2.2.1 (by omega) hd 0 h0.symm)
  have c2 := hF.at_.cell 2
  simp only [List.getElem?_cons_zero, List.getElem?_cons_succ] at c2
  have hok := M.chg_ok hF.ok h0
  have hnbN : nb + 74 ≤ m.safe.length := by have := hF.nb; omega
  have hin := M.put_fits hF.ok h0 hnbN
  have hmay := M.meta_may hok h74
  have hblk := (M.fmay_zero h0).2.2.2
  have hgl : gf < w.heap.size := hF.at_.lt
  obtain ⟨t', ht'⟩ : ∃ z, z = (M.chgN (M.free nb t) t l).1 := ⟨_, rfl⟩
  rw [← ht'] at hok hin hmay hw ⊢
  obtain ⟨P, hP⟩ : ∃ z, z = M.putP t' l m := ⟨_, rfl⟩
  rw [← hP]
  have HT' := Lib.hid ht'
  have HP := Lib.hid hP
  have HF := Lib.hid hF
  have HK := Lib.hid hK
  have HS := Lib.hid hS
  have HOK := Lib.hid hok
  have HIN := Lib.hid hin
  have HMAY := Lib.hid hmay
  have HW := Lib.hid hw
  have HGL := Lib.hid hgl
  have HB := Lib.hid hblk
  have HD := Lib.hid hd
  have HLEN := Lib.hid hlen
  clear ht' hP hF hK hS hok hin hmay hw h0 hblk hnbN hgl hd hlen
  go_enter Tryz.func9, Tryz.ntmps9
  go_wp2_with fail
  refine C.out.mono ?_
  rintro e w1 ⟨rfl, k1⟩
  have CC := Lib.hid (changed_any (HF.out.below k1) HS.out lv l xs (HK.out.below k1).now.2.2.1 HLEN.out HD.out HB.out)
  rw [← HT'.out] at CC
  clear C c2
  go_wp2_with fail
  refine CC.out.mono ?_
  rintro e w2 ⟨b', rfl, hb1, hb2, ⟨vs', hT, hL⟩, k2⟩
  have K2 : Hid (Below w.heap.size w w2) := k1.trans (k2.mono k1.size)
  have hk1 := k1.size
  have hth : ∀ k, T k → k < w.heap.size := HF.out.dk.there
  have KT : Keeps T w2 (fun x => IsTabV x b' t' vs') := fun x cx => hT.chg cx (fun h => by have := hth b' h; omega) fun i hi => (hL i hi).mono fun k hk h => by
    rcases hk with hk | hk
    · exact hST k hk h
    · have := hth k h
      omega
  have KK := HK.out.below K2.out
  have CP := Lib.hid (put_any (HF.out.dk.below K2.out) (fun x cx => ⟨(KK x cx).1, (KK x cx).2.1, KT x cx, (KK x cx).2.2.1, (KK x cx).2.2.2⟩ : Keeps T w2 (PutK gf gw g mb false b' t' vs' lv l xs)) (by omega) HW.out HLEN.out (tabFits HOK.out) HIN.out HMAY.out)
  rw [← HP.out] at CP
  have HB' : Hid (w.heap.size ≤ b' ∧ b' < w2.heap.size) := ⟨Nat.le_trans hk1 hb1, hb2⟩
  have HL2 : Hid (∀ i, i < t'.length → Lies (fun k => S k ∨ (w.heap.size ≤ k ∧ k < w2.heap.size)) (vs'.getD i undef)) := fun i hi => (hL i hi).mono fun k hk => hk.imp_right fun h => by omega
  have HTH := Lib.hid hth
  have KKH := Lib.hid KK
  have KTH := Lib.hid KT
  clear k1 k2 hT hL hb1 hb2 KK KT CC hk1
  go_wp2_with fail
  refine CP.out.mono ?_
  rintro e w3 ⟨rfl, ch, T3, d3, t3⟩
  have A3 := (KKH.out w3 ch).1
  have T3' := Lib.hid (KTH.out w3 ch)
  have c1 := A3.cell 1
  have c2 := A3.cell 2
  have f1 := A3.frozen 1
  have f2 := A3.frozen 2
  simp only [List.getElem?_cons_zero, List.getElem?_cons_succ] at c1 c2
  have AH := Lib.hid A3
  have hsz2 := K2.out.size
  have CW : Chg T w w3 := (Chg.of_below (F := T) K2.out).trans ch fun _ _ h => h
  have TT : Hid (∀ k, T3 k → T k ∨ w.heap.size ≤ k) := fun k h => (t3 k h).imp_right fun h => by omega
  have T3B := Lib.hid t3
  have Z3 : Hid (w2.heap.size ≤ w3.heap.size) := ch.size
  have D3 := Lib.hid d3
  have CWH := Lib.hid CW
  have hg3 : ∀ b, T3 b → ¬ b = gf := fun b h e => by
    subst e
    have := HGL.out
    rcases TT.out b h with h | h
    · exact hgT h
    · omega
  have HG3 := Lib.hid hg3
  obtain ⟨pc, hpc⟩ : ∃ z, z = P.2 := ⟨_, rfl⟩
  rw [← hpc]
  have HPC := Lib.hid hpc
  clear hpc ch d3 t3 A3 CP CW hg3 hsz2
  by_cases h0 : pc = 0
  · have z1 : (pc != 0) = false := by rw [h0]; rfl
    subst h0
    go_wp2
    go_ret
    have CG : Chg (fun b => b = gf) w3 (w3.setCell ⟨gf, 1, none⟩ (.map (some b'))) := (Chg.refl _ _).cell 1 _
    have hb' := HB'.out
    have hgl := HGL.out
    refine ⟨by rw [← HPC.out]; rfl, (CWH.out.mono fun k _ h => .inl h).trans CG fun k _ h => .inr h, T3, D3.out.chg CG HG3.out, TT.out, .inl ⟨HPC.out.symm, b', _, hb'.1, AH.out.set_ 1 _, ⟨vs', T3'.out.chg CG (fun e => by omega) fun i hi => (HL2.out i hi).mono fun k hk e => ?_, HL2.out⟩, fun h => ?_, fun k hk => ⟨hk.imp_right fun h => h.1, fun h => ?_, ?_⟩⟩⟩
    · subst e
      rcases hk with hk | hk
      · exact hgS hk
      · omega
    · rcases T3B.out b' h with h | h
      · have := HTH.out b' h
        omega
      · omega
    · rcases T3B.out k h with h | h
      · rcases hk with hk | hk
        · exact hST k hk h
        · have := HTH.out k h
          omega
      · rcases hk with hk | hk
        · have := hSl k hk
          have := K2.out.size
          omega
        · omega
    · have h1 := CG.size
      have h2 := Z3.out
      have h3 := K2.out.size
      rcases hk with hk | hk
      · have := hSl k hk
        omega
      · omega
  · have z1 : (pc != 0) = true := by simpa using h0
    have z2 : (pc == 0) = false := by simpa using h0
    have H0 := Lib.hid h0
    go_wp2
    go_ret
    have CG : Chg (fun b => b = gf) w3 (w3.setCell ⟨gf, 2, none⟩ (.bool true)) := (Chg.refl _ _).cell 2 _
    exact ⟨by rw [← HPC.out]; rfl, (CWH.out.mono fun k _ h => .inl h).trans CG fun k _ h => .inr h, T3, D3.out.chg CG HG3.out, TT.out, .inr ⟨by rw [← HPC.out]; exact H0.out, AH.out.set_ 2 _⟩⟩

end Go.Proofs.YtphcbpfpelonaaaGreatDoor

namespace Go.Proofs.YtphcbpfpelonaaaGreatDoor
open Go.RowKit Go.Maps
set_option linter.unusedVariables false
set_option maxRecDepth 100000

/-- The writes of a wipe. -/
def M.wipeWs (bs : List Nat) : List (Nat × List UInt8) := bs.map fun b => (74 + b, M.zero256)
noncomputable def M.wipeP (bs : List Nat) : M.Dsk → M.Dsk × Int := M.phases [M.writes (M.wipeWs bs), M.Dsk.doSync]

theorem M.wipeWs_drop (bs : List Nat) (j : Nat) (h : j < bs.length) : M.wipeWs (bs.drop j) = (74 + bs.getD j 0, M.zero256) :: M.wipeWs (bs.drop (j + 1)) := by
  rw [List.drop_eq_getElem_cons h, M.wipeWs, List.map_cons, List.getD_eq_getElem?_getD, List.getElem?_eq_getElem h]
  rfl

end Go.Proofs.YtphcbpfpelonaaaGreatDoor
