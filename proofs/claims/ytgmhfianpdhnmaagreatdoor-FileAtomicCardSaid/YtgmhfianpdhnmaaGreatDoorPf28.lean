/-
  THE CONTRACT OF Files.Commit. Conditions: all lies so, and lasts while the disk turns.
  THE CONTRACT OF Files.wipe. Conditions: all lies so, and lasts while the disk turns.
-/
import Derived.Test.YtgmhfianpdhnmaaGreatDoorPf27

namespace Go.Proofs.YtgmhfianpdhnmaaGreatDoor
open Go.RowKit Go.Maps
set_option linter.unusedVariables false
set_option maxRecDepth 100000

theorem fcommit_down {w : World} {gf gw mb : Nat} (hA : FilesAt w gf gw mb true) (lv : Value) :
    Calls Tryz.prog 13 #[.pointer (some ⟨gf, 0, none⟩), lv] w fun e w' => e = .returned (.int .i64 11) ∧ w' = w := by
  have c2 := hA.cell 2
  simp only [List.getElem?_cons_zero, List.getElem?_cons_succ] at c2
  go_enter Tryz.func13, Tryz.ntmps13
  go_wp2
  go_ret
  exact ⟨rfl, rfl⟩

set_option maxHeartbeats 8000000 in
theorem fcommit_no {T : Nat → Prop} {w : World} {gf gw g mb nb : Nat} {m : M.Dsk} {t : M.Tab} {vs : List Value} (hF : FLies T w gf gw g mb nb m false t vs) (lv : Value) (l : M.FL) (xs : List Value) (hl : IsFL w lv l xs) (hlen : l.length ≤ 10000) (hd : ∀ c ∈ l, c.data.length ≤ 1099511627776) (r : Int) (hr : r = M.fmay nb t l) (h0 : r ≠ 0) :
    Calls Tryz.prog 13 #[.pointer (some ⟨gf, 0, none⟩), lv] w fun e w' => e = .returned (.int .i64 r) ∧ Below w.heap.size w w' := by
  have C := Lib.hid (fmay_any hF lv l xs hl (by omega) hd r hr)
  have c2 := hF.at_.cell 2
  simp only [List.getElem?_cons_zero, List.getElem?_cons_succ] at c2
  have z1 : (r != 0) = true := by simpa using h0
  have z2 : (r == 0) = false := by simpa using h0
  clear hF hl hlen hd hr
  go_enter Tryz.func13, Tryz.ntmps13
  go_wp2_with fail
  refine C.out.mono ?_
  rintro e w1 ⟨rfl, k1⟩
  have K1 := Lib.hid k1
  clear k1 C c2
  go_wp2
  go_ret
  exact ⟨rfl, K1.out⟩

/-- What Commit leaves behind. -/
def CommitIs (T S : Nat → Prop) (w : World) (gf gw g mb : Nat) (t' : M.Tab) (P : M.Dsk × Int) (e : Ending) (w' : World) : Prop :=
  e = .returned (.int .i64 P.2) ∧ Chg (fun k => T k ∨ k = gf) w w' ∧ ∃ T', CodeDk T' w' g P.1 ∧ (∀ k, T' k → T k ∨ w.heap.size ≤ k) ∧
  ((P.2 = 0 ∧ ∃ (b : Nat) (S' : Nat → Prop), w.heap.size ≤ b ∧ FilesAt w' gf gw b false ∧ TabIn S' w' b t' ∧ ¬ T' b ∧ ∀ k, S' k → (S k ∨ w.heap.size ≤ k) ∧ ¬ T' k ∧ k < w'.heap.size) ∨ (P.2 ≠ 0 ∧ FilesAt w' gf gw mb true))

set_option maxHeartbeats 8000000 in
theorem fcommit_yes {T S : Nat → Prop} {w : World} {gf gw g mb nb : Nat} {m : M.Dsk} {t : M.Tab} {vs : List Value} (hF : FLies T w gf gw g mb nb m false t vs) (lv : Value) (l : M.FL) (xs : List Value) (hK : Keeps T w (fun x => FilesAt x gf gw mb false ∧ WalIs x gw g ∧ IsFL x lv l xs ∧ Laid x))
    (hS : ∀ i, i < t.length → Lies S (vs.getD i undef)) (hST : ∀ k, S k → ¬ T k) (hSl : ∀ k, S k → k < w.heap.size) (hgT : ¬ T gf) (hgS : ¬ S gf) (h74 : 74 < m.safe.length) (hlen : l.length ≤ 10000) (hd : ∀ c ∈ l, c.data.length ≤ 1099511627776) (h0 : M.fmay nb t l = 0) (hw : m.wait.length + (M.putWs (M.chgN (M.free nb t) t l).1 l).length < 90000) :
    Calls Tryz.prog 13 #[.pointer (some ⟨gf, 0, none⟩), lv] w (CommitIs T S w gf gw g mb (M.chgN (M.free nb t) t l).1 (M.putP (M.chgN (M.free nb t) t l).1 l m)) := by
  have C := Lib.hid (fmay_any hF lv l xs hK.now.2.2.1 (by omega) hd 0 h0.symm)
  have c2 := hF.at_.cell 2
  simp only [List.getElem?_cons_zero, List.getElem?_cons_succ] at c2
  have hok := M.chg_ok hF.ok h0
  have hnbN : nb + 74 ≤ m.safe.length := by have := hF.nb; omega
  have hin := M.put_fits hF.ok h0 hnbN
  have hmay := M.meta_may hok h74
  have hblk := (M.fmay_zero h0).2.2.2
  have hgl : gf < w.heap.size := hF.at_.lt
  obtain ⟨t', ht'⟩ : ∃ z, z = (M.chgN (M.free nb t) t l).1 := ⟨_, rfl⟩
  rw [← ht'] at hok hin hmay hw ⊢
  obtain ⟨P, hP⟩ : ∃ z, z = M.putP t' l m := ⟨_, rfl⟩
  rw [← hP]
  have HT' := Lib.hid ht'
  have HP := Lib.hid hP
  have HF := Lib.hid hF
  have HK := Lib.hid hK
  have HS := Lib.hid hS
  have HOK := Lib.hid hok
  have HIN := Lib.hid hin
  have HMAY := Lib.hid hmay
  have HW := Lib.hid hw
  have HGL := Lib.hid hgl
  have HB := Lib.hid hblk
  have HD := Lib.hid hd
  have HLEN := Lib.hid hlen
  clear ht' hP hF hK hS hok hin hmay hw h0 hblk hnbN hgl hd hlen
  go_enter Tryz.func13, Tryz.ntmps13
  go_wp2_with fail
  refine C.out.mono ?_
  rintro e w1 ⟨rfl, k1⟩
  have CC := Lib.hid (changed_any (HF.out.below k1) HS.out lv l xs (HK.out.below k1).now.2.2.1 HLEN.out HD.out HB.out)
  rw [← HT'.out] at CC
  clear C c2
  go_wp2_with fail
  refine CC.out.mono ?_
  rintro e w2 ⟨b', rfl, hb1, hb2, ⟨vs', hT, hL⟩, k2⟩
  have K2 : Hid (Below w.heap.size w w2) := k1.trans (k2.mono k1.size)
  have hk1 := k1.size
  have hth : ∀ k, T k → k < w.heap.size := HF.out.dk.there
  have KT : Keeps T w2 (fun x => IsTabV x b' t' vs') := fun x cx => hT.chg cx (fun h => by have := hth b' h; omega) fun i hi => (hL i hi).mono fun k hk h => by
    rcases hk with hk | hk
    · exact hST k hk h
    · have := hth k h
      omega
  have KK := HK.out.below K2.out
  have CP := Lib.hid (put_any (HF.out.dk.below K2.out) (fun x cx => ⟨(KK x cx).1, (KK x cx).2.1, KT x cx, (KK x cx).2.2.1, (KK x cx).2.2.2⟩ : Keeps T w2 (PutK gf gw g mb false b' t' vs' lv l xs)) (by omega) HW.out HLEN.out (tabFits HOK.out) HIN.out HMAY.out)
  rw [← HP.out] at CP
  have HB' : Hid (w.heap.size ≤ b' ∧ b' < w2.heap.size) := ⟨Nat.le_trans hk1 hb1, hb2⟩
  have HL2 : Hid (∀ i, i < t'.length → Lies (fun k => S k ∨ (w.heap.size ≤ k ∧ k < w2.heap.size)) (vs'.getD i undef)) := fun i hi => (hL i hi).mono fun k hk => hk.imp_right fun h => by omega
  have HTH := Lib.hid hth
  have KKH := Lib.hid KK
  have KTH := Lib.hid KT
  clear k1 k2 hT hL hb1 hb2 KK KT CC hk1
  go_wp2_with fail
  refine CP.out.mono ?_
  rintro e w3 ⟨rfl, ch, T3, d3, t3⟩
  have A3 := (KKH.out w3 ch).1
  have T3' := Lib.hid (KTH.out w3 ch)
  have c1 := A3.cell 1
  have c2 := A3.cell 2
  have f1 := A3.frozen 1
  have f2 := A3.frozen 2
  simp only [List.getElem?_cons_zero, List.getElem?_cons_succ] at c1 c2
  have AH := Lib.hid A3
  have hsz2 := K2.out.size
  have CW : Chg T w w3 := (Chg.of_below (F := T) K2.out).trans ch fun _ _ h => h
  have TT : Hid (∀ k, T3 k → T k ∨ w.heap.size ≤ k) := fun k h => (t3 k h).imp_right fun h => by omega
  have T3B := Lib.hid t3
  have Z3 : Hid (w2.heap.size ≤ w3.heap.size) := ch.size
  have D3 := Lib.hid d3
  have CWH := Lib.hid CW
  have hg3 : ∀ b, T3 b → ¬ b = gf := fun b h e => by
    subst e
    have := HGL.out
    rcases TT.out b h with h | h
    · exact hgT h
    · omega
  have HG3 := Lib.hid hg3
  obtain ⟨pc, hpc⟩ : ∃ z, z = P.2 := ⟨_, rfl⟩
  rw [← hpc]
  have HPC := Lib.hid hpc
  clear hpc ch d3 t3 A3 CP CW hg3 hsz2
  by_cases h0 : pc = 0
  · have z1 : (pc != 0) = false := by rw [h0]; rfl
    subst h0
    go_wp2
    go_ret
    have CG : Chg (fun b => b = gf) w3 (w3.setCell ⟨gf, 1, none⟩ (.map (some b'))) := (Chg.refl _ _).cell 1 _
    have hb' := HB'.out
    have hgl := HGL.out
    refine ⟨by rw [← HPC.out]; rfl, (CWH.out.mono fun k _ h => .inl h).trans CG fun k _ h => .inr h, T3, D3.out.chg CG HG3.out, TT.out, .inl ⟨HPC.out.symm, b', _, hb'.1, AH.out.set_ 1 _, ⟨vs', T3'.out.chg CG (fun e => by omega) fun i hi => (HL2.out i hi).mono fun k hk e => ?_, HL2.out⟩, fun h => ?_, fun k hk => ⟨hk.imp_right fun h => h.1, fun h => ?_, ?_⟩⟩⟩
    · subst e
      rcases hk with hk | hk
      · exact hgS hk
      · omega
    · rcases T3B.out b' h with h | h
      · have := HTH.out b' h
        omega
      · omega
    · rcases T3B.out k h with h | h
      · rcases hk with hk | hk
        · exact hST k hk h
        · have := HTH.out k h
          omega
      · rcases hk with hk | hk
        · have := hSl k hk
          have := K2.out.size
          omega
        · omega
    · have h1 := CG.size
      have h2 := Z3.out
      have h3 := K2.out.size
      rcases hk with hk | hk
      · have := hSl k hk
        omega
      · omega
  · have z1 : (pc != 0) = true := by simpa using h0
    have z2 : (pc == 0) = false := by simpa using h0
    have H0 := Lib.hid h0
    go_wp2
    go_ret
    have CG : Chg (fun b => b = gf) w3 (w3.setCell ⟨gf, 2, none⟩ (.bool true)) := (Chg.refl _ _).cell 2 _
    exact ⟨by rw [← HPC.out]; rfl, (CWH.out.mono fun k _ h => .inl h).trans CG fun k _ h => .inr h, T3, D3.out.chg CG HG3.out, TT.out, .inr ⟨by rw [← HPC.out]; exact H0.out, AH.out.set_ 2 _⟩⟩

end Go.Proofs.YtgmhfianpdhnmaaGreatDoor

namespace Go.Proofs.YtgmhfianpdhnmaaGreatDoor
open Go.RowKit Go.Maps
set_option linter.unusedVariables false
set_option maxRecDepth 100000

/-- The writes of a wipe. -/
def M.wipeWs (bs : List Nat) : List (Nat × List UInt8) := bs.map fun b => (74 + b, M.zero256)
noncomputable def M.wipeP (bs : List Nat) : M.Dsk → M.Dsk × Int := M.phases [M.writes (M.wipeWs bs), M.Dsk.doSync]

theorem M.wipeWs_drop (bs : List Nat) (j : Nat) (h : j < bs.length) : M.wipeWs (bs.drop j) = (74 + bs.getD j 0, M.zero256) :: M.wipeWs (bs.drop (j + 1)) := by
  rw [List.drop_eq_getElem_cons h, M.wipeWs, List.map_cons, List.getD_eq_getElem?_getD, List.getElem?_eq_getElem h]
  rfl

set_option maxHeartbeats 8000000 in
theorem wipe_any {T : Nat → Prop} {w : World} {gf gw g mb nb : Nat} {m : M.Dsk} {t : M.Tab} {vs : List Value} {dn : Bool} (hF : FLies T w gf gw g mb nb m dn t vs) (hK : Keeps T w (fun x => FilesAt x gf gw mb dn ∧ WalIs x gw g)) (kv : Value) (ks : List Nat) (hk : IsI w kv ks) (hks : ks.length ≤ 2048) (hlt : ∀ b ∈ ks, b < nb) (h74 : 74 < m.safe.length) (hw : m.wait.length < 90000) :
    Calls Tryz.prog 41 #[.pointer (some ⟨gf, 0, none⟩), kv] w fun e w' => e = .returned (.int .i64 (M.wipeP (ks ++ M.free nb t) m).2) ∧ Chg T w w' ∧ ∃ T', CodeDk T' w' g (M.wipeP (ks ++ M.free nb t) m).1 ∧ ∀ k, T' k → T k ∨ w.heap.size ≤ k := by
  obtain ⟨ZC, hZC⟩ := make_run 256 (by decide)
  have hmk : ∀ w : World, (Instr.makeSlice 42 (.int .i64 256) (.int .i64 256)).run Tryz.prog w = .ok (.slice (some ⟨w.heap.size, 0, none⟩) 256 256) (w.alloc (.cells ZC 5)) := fun w => (hZC w).1
  have HZ : Hid (∀ w : World, Own (w.alloc (.cells ZC 5)) w.heap.size (.slice (some ⟨w.heap.size, 0, none⟩) 256 256) (List.replicate 256 0)) := fun w => (hZC w).2
  have CCL := Lib.hid (sclone_any kv ks w hk (by omega))
  obtain ⟨all, hall⟩ : ∃ z, z = ks ++ M.free nb t := ⟨_, rfl⟩
  obtain ⟨P, hP⟩ : ∃ P, Hid (P = M.wipeP all m) := ⟨_, rfl⟩
  rw [← hall, ← hP.out]
  have HALL := Lib.hid hall
  have hnbN : nb + 74 ≤ m.safe.length := by have := hF.nb; omega
  have HA74 : Hid (∀ b ∈ all, 74 + b < m.safe.length) := fun b hb => by
    rw [hall] at hb
    rcases List.mem_append.1 hb with hb | hb
    · have := hlt b hb; omega
    · have := (M.free_lt hb).1; omega
  have HAL : Hid (all.length ≤ 4096) := by
    have h1 := M.free_le nb t
    have h2 := hF.ok.n
    rw [Hid, hall, List.length_append]
    omega
  have HF := Lib.hid hF
  have HK := Lib.hid hK
  have HW := Lib.hid hw
  have HKS := Lib.hid hks
  have CFREE := Lib.hid (free_any gf)
  clear hZC hF hK hks hlt hw hall hk hnbN
  go_enter Tryz.func41, Tryz.ntmps41
  go_wp2_with fail
  refine CCL.out.mono ?_
  rintro e w1 ⟨cv, rfl, oc, k1⟩
  have K1 := Lib.hid k1
  have OC := Lib.hid oc
  clear oc k1 CCL
  go_wp2_with fail
  refine (CFREE.out w1).mono ?_
  rintro e w2 ⟨rfl, hw2⟩
  obtain ⟨x1, hx1⟩ : ∃ x, Hid (x = w1.heap.size) := ⟨_, rfl⟩
  have HW2 := Lib.hid hw2
  have K12 : Hid (Below w1.heap.size w1 w2) := by rw [hw2]; exact (Below.refl _ _).alloc (Nat.le_refl _) _
  have B2 : Hid (Blk w2 x1 27 [.pointer (some ⟨gf, 0, none⟩)]) := by rw [hw2]; exact Blk.newAt _ _ _ _ _ hx1.out rfl
  have K2 : Hid (Below w.heap.size w w2) := K1.out.trans (K12.out.mono K1.out.size)
  have OC2 : Hid (OwnI w2 w.heap.size cv ks) := own_below OC.out K12.out
  have CA := Lib.hid (appendSeq_any (HF.out.below K2.out) x1 w.heap.size (B2.out.cell 0) cv ks OC2.out K2.out.size (by have := HKS.out; omega))
  rw [← HALL.out] at CA
  rw [← hx1.out]
  clear hw2 HW2
  go_wp2_with fail
  refine CA.out.mono ?_
  rintro e w3 ⟨av, rfl, oa, k3⟩
  obtain ⟨aa, ac, rfl⟩ := ownShape oa
  have hth : ∀ k, T k → k < w.heap.size := HF.out.dk.there
  have K3 : Hid (Below w.heap.size w w3) := K2.out.trans (k3.mono (Nat.le_refl _))
  have KA3 : Hid (Keeps T w3 (fun x => IsI x (.slice aa all.length ac) all)) := fun x cx => OwnI.isI (own_chg oa cx fun b hb h => by
    have h1 := (oa.lt b hb).1
    have h2 := hth b h
    omega)
  have KK3 := Lib.hid (HK.out.below K3.out)
  have D3 := Lib.hid (HF.out.dk.below K3.out)
  obtain ⟨n, hn⟩ : ∃ n, n = all.length := ⟨_, rfl⟩
  have HN : Hid (all.length = n) := hn.symm
  rw [← hn] at KA3 ⊢
  obtain ⟨R, hR⟩ : ∃ R, Hid (R = M.writes (M.wipeWs all) m) := ⟨_, rfl⟩
  have HPE : Hid (P = if R.2 = 0 then M.phases [M.Dsk.doSync] R.1 else R) := by rw [Hid, hP.out, M.wipeP, M.phases, ← hR.out]
  have HNB : Hid (n ≤ 4096) := by rw [Hid, hn]; exact HAL.out
  clear oa k3 CA hn CFREE B2 OC OC2 hth
  go_wp2
  go_loopw [6, 7, 14] (fun _ _ i wr => ∃ (j : Nat) (m2 : M.Dsk) (T2 : Nat → Prop), i = .int .i64 (j : Int) ∧ Hid (j ≤ n) ∧ Hid (m2.wait.length < 90000 + j ∧ m2.safe.length = m.safe.length) ∧ Hid (M.writes (M.wipeWs (all.drop j)) m2 = R) ∧ Hid (CodeDk T2 wr g m2) ∧ Hid (Chg T w3 wr) ∧ Hid (∀ k, T2 k → T k ∨ w3.heap.size ≤ k) ∧ Hid (Keeps T2 wr (fun x => FilesAt x gf gw mb dn ∧ WalIs x gw g)) ∧ Hid (Keeps T2 wr (fun x => IsI x (.slice aa n ac) all)))
    (fun _ _ i _ => n - numOf i)
  case atStart => exact ⟨0, m, T, rfl, Nat.zero_le _, ⟨HW.out, rfl⟩, by rw [List.drop_zero]; exact hR.out.symm, D3.out, Chg.refl _ _, fun k h => .inl h, KK3.out, KA3.out⟩
  case round =>
    clear KK3 KA3 D3
    obtain ⟨wz, rfl⟩ : ∃ x, x = wr := ⟨_, rfl⟩
    obtain ⟨j, m2, T2, rfl, hj, hwl, hr, dz, cz, tz, kz, ka⟩ := hrel
    by_cases hlt : j < n
    · have b1 : (j : Int) < (n : Int) := by omega
      have HJ := Lib.hid hlt
      have hj2 : j < all.length := by rw [HN.out]; exact hlt
      have hwd := M.wipeWs_drop all j hj2
      obtain ⟨ao', cap', ee, i1, i2, i3⟩ := ka.out.now
      injection ee with e1 e2 e3
      obtain ⟨ib, io, hib, hcb⟩ := i3.resolve_left (fun e => by rw [e] at hj2; cases hj2)
      rw [← e1] at hib
      subst hib
      have hxc := hcb j hj2
      have hx74 := HA74.out _ (show all.getD j 0 ∈ all by rw [List.getD_eq_getElem?_getD, List.getElem?_eq_getElem hj2]; exact List.getElem_mem _)
      obtain ⟨x, hx⟩ : ∃ x, x = all.getD j 0 := ⟨_, rfl⟩
      rw [← hx] at hxc hx74 hwd
      have hfew := HF.out.dk.ok.few
      have HX74 : Hid (74 + x < m.safe.length ∧ x < 3000) := by rw [Hid]; omega
      have HWD := Lib.hid hwd
      have HG : Hid (∀ y, Below wz.heap.size wz y → y.cell? ⟨gf, 0, none⟩ = some (.pointer (some ⟨gw, 0, none⟩))) := fun y ky => by
        have := (kz.out.now.1.below ky).cell 0
        simpa only [List.getElem?_cons_zero] using this
      have g2 : (0 : Int) ≤ (j : Int) := Int.natCast_nonneg j
      have g3 : ((j : Int)).toNat = j := Int.toNat_natCast j
      clear hj2 i1 i2 i3 e1 e2 e3 hcb hx74 hx hwd hfew
      go_upto_region 4 with fail
      have e32 : IntKind.i64.wrap (32 + (x : Int)) = 32 + (x : Int) := IntWalk.i64_in _ (by have := HX74.out.2; omega)
      have E32 := Lib.hid e32
      clear e32 hxc
      refine wp_region_any (by kernel_rfl) ?_
      change wpAny _ _ _ _ _ _ _ (World.drew _)
      refine wpAny_of_held (S := fun w' => w'.cell? ⟨gf, 0, none⟩ = some (.pointer (some ⟨gw, 0, none⟩))) _ _ _ _ ?_
      have S0 : wz.drew.cell? ⟨gf, 0, none⟩ = some (.pointer (some ⟨gw, 0, none⟩)) := HG.out _ (drewN_below (Below.refl _ wz) 1)
      refine wpAnyH_take_at (i := 0) (v := .pointer (some ⟨gf, 0, none⟩)) rfl rfl (by kernel_rfl) (by kernel_rfl) (by kernel_rfl) (fun _ _ _ h => h) (Or.inl ⟨by rfl, fun w hS => by go_simp⟩) S0 ?_
      try simp only [List.setIfInBounds_toArray, List.set_cons_zero, List.set_cons_succ]
      refine wpAnyH_take_at (i := 1) (v := .pointer (some ⟨gf, 0, none⟩)) rfl rfl (by kernel_rfl) (by kernel_rfl) (by kernel_rfl) (fun _ _ _ h => h) (Or.inl ⟨by rfl, fun w hS => by go_simp⟩) S0 ?_
      try simp only [List.setIfInBounds_toArray, List.set_cons_zero, List.set_cons_succ]
      refine wpAnyH_take_at (i := 2) (v := .pointer (some ⟨gf, 0, none⟩)) rfl rfl (by kernel_rfl) (by kernel_rfl) (by kernel_rfl) (fun _ _ _ h => h) (Or.inl ⟨by rfl, fun w hS => by go_simp⟩) S0 ?_
      try simp only [List.setIfInBounds_toArray, List.set_cons_zero, List.set_cons_succ]
      refine wpAnyH_take_at (i := 3) (v := .pointer (some ⟨gw, 0, none⟩)) rfl rfl (by kernel_rfl) (by kernel_rfl) (by kernel_rfl) (fun _ _ _ h => h) (Or.inl ⟨by rfl, fun w hS => by have c := hS; go_simp⟩) S0 ?_
      try simp only [List.setIfInBounds_toArray, List.set_cons_zero, List.set_cons_succ]
      refine wpAnyH_take_at (i := 4) (v := .int .i64 (x : Int)) rfl rfl (by kernel_rfl) (by kernel_rfl) (by kernel_rfl) (fun _ _ _ h => h) (Or.inl ⟨by rfl, fun w hS => by go_simp⟩) S0 ?_
      try simp only [List.setIfInBounds_toArray, List.set_cons_zero, List.set_cons_succ]
      refine wpAnyH_take_at (i := 5) (v := .int .i64 ((32 + x : Nat) : Int)) rfl rfl (by kernel_rfl) (by kernel_rfl) (by kernel_rfl) (fun _ _ _ h => h) (Or.inl ⟨by rfl, fun w hS => by have e := E32.out; go_simp⟩) S0 ?_
      try simp only [List.setIfInBounds_toArray, List.set_cons_zero, List.set_cons_succ]
      refine wpAnyH_ready (rs := [6]) (by kernel_rfl) (by simp) ?_
      refine AllReadyH.cons rfl (fun K hK => ?_) AllReadyH.nil
      go_simp
      obtain ⟨w5, hw5⟩ : ∃ y, Hid (y = (wz.alloc (.cells ZC 5)).drew) := ⟨_, rfl⟩
      obtain ⟨mg, hmg⟩ : ∃ y, Hid (y = wz.heap.size) := ⟨_, rfl⟩
      have K5 : Hid (Below wz.heap.size wz w5) := by rw [hw5.out]; exact drewN_below ((Below.refl _ wz).alloc (Nat.le_refl _) _) 1
      have IZ : Hid (IsB w5 (.slice (some ⟨mg, 0, none⟩) 256 256) M.zero256) := by
        rw [hw5.out, hmg.out]
        have := HZ.out wz
        exact (Own.isB (show Own (wz.alloc (.cells ZC 5)).drew wz.heap.size _ _ from this) : IsB _ _ _)
      rw [← hw5.out, ← hmg.out]
      refine hK.out _ _ (HG.out _ K5.out) (fun _ => ?_)
      clear hK K S0 hw5 hmg
      obtain ⟨q, hq⟩ : ∃ q, q = m2.doWrite ((42 + (32 + x) : Nat) : Int) M.zero256 := ⟨_, rfl⟩
      have hgrow := M.doWrite_grow m2 ((42 + (32 + x) : Nat) : Int) M.zero256
      have CW := Lib.hid (wwrite10 (dz.out.below K5.out) (kz.out.now.2.below K5.out) (by have := hwl.out.1; have := HNB.out; have := HJ.out; omega) (32 + x) (by have := hwl.out.2; have := HX74.out.1; omega) _ _ IZ.out)
      rw [← hq] at CW hgrow
      have hr3 := hr.out
      rw [HWD.out, M.writes] at hr3
      rw [show 42 + (32 + x) = 74 + x by omega] at hq
      simp only at hr3
      rw [← hq] at hr3
      have HG1 := Lib.hid hgrow
      have HR3 := Lib.hid hr3
      have KZ5 := Lib.hid (kz.out.below K5.out)
      have KA5 := Lib.hid (ka.out.below K5.out)
      have CZ5 : Hid (Chg T w3 w5) := cz.out.trans (Chg.of_below (F := fun _ => False) K5.out) fun _ _ h => h.elim
      clear hq hgrow hr3 hr
      refine wpAnyH_ready (rs := [7]) (by kernel_rfl) (by simp) ?_
      refine AllReadyH.cons rfl (fun K hK => ?_) AllReadyH.nil
      go_simp
      refine CW.out.mono ?_
      rintro e w6 ⟨rfl, ch, T3, d6, t6⟩
      have KZ6 := Lib.hid (KZ5.out.next ch t6)
      have KA6 := Lib.hid (KA5.out.next ch t6)
      have CZ6 : Hid (Chg T w3 w6) := CZ5.out.trans ch fun k hk h => (tz.out k h).resolve_right (by omega)
      have TZ6 : Hid (∀ k, T3 k → T k ∨ w3.heap.size ≤ k) := fun k h => by
        rcases t6 k h with h | h
        · exact tz.out k h
        · have := CZ5.out.size
          exact .inr (by omega)
      have D6 := Lib.hid d6
      obtain ⟨qc, hqc⟩ : ∃ z, z = q.2 := ⟨_, rfl⟩
      rw [← hqc] at HR3 ⊢
      have HQC := Lib.hid hqc
      have HG6 : w6.cell? ⟨gf, 0, none⟩ = some (.pointer (some ⟨gw, 0, none⟩)) := by
        have := KZ6.out.now.1.cell 0
        simpa only [List.getElem?_cons_zero] using this
      refine hK.out _ _ HG6 (fun _ => ?_)
      clear hK K hqc ch t6 d6 CW KZ5 KA5 CZ5
      refine wpAnyH_ready (rs := [8]) (by kernel_rfl) (by simp) ?_
      refine AllReadyH.cons rfl (fun K hK => ?_) AllReadyH.nil
      go_simp
      refine hK.out _ _ HG6 (fun _ => ?_)
      clear hK K
      refine wpAnyH_done (by kernel_rfl) ?_ _
      by_cases h0 : qc = 0
      · have HR4 : Hid (M.writes (M.wipeWs (all.drop (j + 1))) q.1 = R) := by have := HR3.out; rwa [if_pos h0] at this
        have HW4 : Hid (q.1.wait.length < 90000 + (j + 1) ∧ q.1.safe.length = m.safe.length) := by
          have h1 := HG1.out
          have h2 := hwl.out
          rw [Hid]; omega
        have n3 : wrap64 ((j : Int) + 1) = ((j + 1 : Nat) : Int) := by have h1 := HNB.out; have h2 := HJ.out; clear h0 g2 g3; unfold wrap64; omega
        have N3 := Lib.hid n3
        clear n3
        subst h0
        go_wp2
        go_roundw
        case rel => exact ⟨j + 1, q.1, T3, by first | rw [N3.out] | rfl, HJ.out, HW4.out, HR4.out, D6.out, CZ6.out, TZ6.out, KZ6.out, KA6.out⟩
        case measure =>
          first | rw [N3.out] | skip
          exact step_down HJ.out
      · have hRq : q = R := by have := HR3.out; rwa [if_neg h0] at this
        have hPq : P = q := by rw [HPE.out, ← hRq, if_neg (by rw [← HQC.out]; exact h0)]
        have HPQ := Lib.hid hPq
        have z1 : (qc != 0) = true := by simpa using h0
        have z2 : (qc == 0) = false := by simpa using h0
        clear hRq hPq
        go_wp2
        go_ret
        exact ⟨by rw [HPQ.out, ← HQC.out]; rfl, (Chg.of_below (F := T) K3.out).trans CZ6.out fun _ _ h => h, T3, by rw [HPQ.out]; exact D6.out, fun k h => (TZ6.out k h).imp_right fun h => by have := K3.out.size; omega⟩
    · have b1 : ¬ (j : Int) < (n : Int) := by omega
      obtain rfl : j = n := by have := hj.out; omega
      have hR0 := hr.out
      rw [List.drop_of_length_le (by rw [HN.out]; exact Nat.le_refl _)] at hR0
      have hRm : R = (m2, 0) := hR0.symm
      have hPm : P = m2.doSync := by rw [HPE.out, hRm, if_pos rfl, M.phases_one]
      have CS := Lib.hid (wsync10 dz.out kz.out.now.2)
      have HPM := Lib.hid hPm
      have f0 := kz.out.now.1.cell 0
      simp only [List.getElem?_cons_zero] at f0
      clear hR0 hRm hPm hlt
      rw [← HPM.out] at CS
      go_wp2_with fail
      refine CS.out.mono ?_
      rintro e w4 ⟨rfl, ch, T3, d4, t4⟩
      have hz := cz.out.size
      have h3 := K3.out.size
      have CF : Hid (Chg T w w4) := (Chg.of_below (F := T) K3.out).trans (cz.out.trans ch fun k hk h => (tz.out k h).resolve_right (by omega)) fun _ _ h => h
      have TF : Hid (∀ k, T3 k → T k ∨ w.heap.size ≤ k) := fun k h => by
        rcases t4 k h with h | h
        · exact (tz.out k h).imp_right fun h => by omega
        · exact .inr (by omega)
      have D4 := Lib.hid d4
      clear ch t4 d4 hz h3 f0
      go_wp2
      go_ret
      exact ⟨rfl, CF.out, T3, D4.out, TF.out⟩

end Go.Proofs.YtgmhfianpdhnmaaGreatDoor
