/-
  CONTRACT OF THE REFERENCE'S Crash. Conditions: the disk lies so; the list of what is kept lies out of it.
-/
import Derived.Test.YthmamdlhgfkckaaRefDiskZ
namespace Go.Proofs.Ythmamdlhgfkckaa
open Go.RowKit
set_option linter.unusedVariables false

theorem M.kept_length (s : List (List UInt8)) (c : List (Nat × List UInt8)) (k : List Bool) (j : Nat) : (M.kept s c k j).length = s.length := by
  induction j with
  | zero => rfl
  | succ j ih =>
    rw [M.kept]
    split
    · rw [List.length_set, ih]
    · exact ih

set_option maxHeartbeats 4000000 in
theorem rcrash_any {T : Nat → Prop} {w : World} {g : Nat} {sv wv : Value} {rows dvs : List Value} {m1 : M.Dsk} (h : RefAt T w g sv wv rows dvs m1) (kv : Value) (kp : List Bool) (hk : IsZ w kv kp) (hkl : kp ≠ [] → Lies (fun b => ¬ T b) kv) :
    Calls Try.prog 20 #[.pointer (some ⟨g, 0, none⟩), kv] w fun e w' => e = .returned (.tuple #[]) ∧ Chg T w w' ∧ ∃ rows', RefAt T w' g sv (.slice none 0 0) rows' [] (m1.crash kp) := by
  have TG := Lib.hid h.tg
  obtain ⟨q, hq⟩ : ∃ q, q = m1.wait.length := ⟨_, rfl⟩
  obtain ⟨wa, wc, ew⟩ := ownShape h.wrow
  obtain ⟨sa, sc, es⟩ := ownShape h.srow
  obtain ⟨n, hn⟩ : ∃ n, n = m1.safe.length := ⟨_, rfl⟩
  obtain ⟨l, hl⟩ : ∃ l, l = kp.length := ⟨_, rfl⟩
  have HL : Hid (l = kp.length) := hl
  rw [← hn] at es
  rw [← hq] at ew
  subst ew es
  have HN : Hid (n = m1.safe.length) := hn
  have HQ : Hid (q = m1.wait.length) := hq
  have HF : Hid (n ≤ 2176) := by rw [Hid, hn]; exact h.ok.few
  obtain ⟨ka, kc, ek, _, _, hat⟩ := hk
  rw [← hl] at ek
  subst ek
  have HC : Hid (∀ W, Chg T w W → ∀ i, i < l → ∃ b off, ka = some ⟨b, off, none⟩ ∧ W.cell? ⟨b, off + i, none⟩ = some (.bool (kp.getD i false))) := by
    intro W kW i hi
    rcases hat with h0 | ⟨b, off, rfl, hc⟩
    · rw [hl, h0] at hi
      exact absurd hi (Nat.not_lt_zero _)
    · refine ⟨b, off, rfl, ?_⟩
      have hcc := hc i (by omega)
      rw [World.cell?_of_block (kW.block b (World.block_lt_of_cell? w _ hcc) (hkl (fun e => by rw [e] at hl; simp at hl; omega) _ _ _ rfl)), hcc]
  have R1 := Lib.hid h
  have HQM : Hid (q < 9223372036854775808) := by
    rcases h.wrow.2 with ⟨_, h0⟩ | ⟨_, cap', _, e1, _, _, h3, h4, _⟩
    · rw [Hid, hq, h0]; decide
    · unfold maxLen at h4
      rw [Hid]
      omega
  clear h hq hn hl hat hkl
  go_enter Try.func20, Try.ntmps20
  go_wp2
  go_loopw [4] (fun i wr => ∃ (j : Nat) (rows : List Value), j ≤ q ∧ i = .int .i64 (j : Int) ∧ Hid (RefAt T wr g (.slice sa n sc) (.slice wa q wc) rows dvs { m1 with safe := M.kept m1.safe m1.wait kp j }) ∧ Hid (Chg T w wr))
    (fun i _ => q - (intOf i).toNat)
  case atStart => exact ⟨0, rows, by omega, rfl, R1, Chg.refl _ _⟩
  case round =>
    clear R1
    obtain ⟨wz, rfl⟩ : ∃ x, x = wr := ⟨_, rfl⟩
    obtain ⟨j, rows, hj, rfl, rr, kk⟩ := hrel
    have c1 : wz.cell? ⟨g, 1, none⟩ = some (.slice wa q wc) := rr.out.blk.cell 1
    by_cases hlt : j < q
    · have n3 : wrap64 ((j : Int) + 1) = ((j + 1 : Nat) : Int) := by have := HQM.out; unfold wrap64; omega
      by_cases hkeep : kp.getD j false = true
      · have hjl : j < l := by
          rw [HL.out]
          apply Classical.byContradiction
          intro hn
          rw [List.getD_eq_getElem?_getD, List.getElem?_eq_none (by omega)] at hkeep
          cases hkeep
        obtain ⟨kb, ko, rfl, ckk⟩ := HC.out wz kk.out j hjl
        rw [hkeep] at ckk
        have c0 : wz.cell? ⟨g, 0, none⟩ = some (.slice sa n sc) := rr.out.blk.cell 0
        have hjw : j < m1.wait.length := by have := HQ.out; omega
        obtain ⟨x, hx⟩ : ∃ x, x = m1.wait.getD j (0, []) := ⟨_, rfl⟩
        have hxm : x ∈ m1.wait := by rw [hx, List.getD_eq_getElem?_getD, List.getElem?_eq_getElem hjw]; exact List.getElem_mem hjw
        have hok := rr.out.ok.wat x hxm
        have hlen : (M.kept m1.safe m1.wait kp j).length = n := by rw [M.kept_length, ← HN.out]
        have hxb : x.1 < n := by have := hok.1; simpa [hlen] using this
        obtain ⟨wb, rfl, hwc, cw, fw⟩ := ownCells (by have := rr.out.wrow; rwa [show ({ m1 with safe := M.kept m1.safe m1.wait kp j } : M.Dsk).wait.length = q from HQ.out.symm] at this) (by omega)
        obtain ⟨sb, rfl, hsc, cs, fs⟩ := ownCells (by have := rr.out.srow; rwa [show ({ m1 with safe := M.kept m1.safe m1.wait kp j } : M.Dsk).safe.length = n from hlen] at this) (by omega)
        obtain ⟨dv, hdv⟩ : ∃ dv, dv = dvs.getD j undef := ⟨_, rfl⟩
        have hcg := chgs_get m1.wait dvs j rr.out.dlen hjw
        have hcl := chgs_length m1.wait dvs rr.out.dlen
        rw [← hx, ← hdv] at hcg
        have e0 : wz.cell? ⟨wb, j * 2, none⟩ = some (.int .i64 (x.1 : Int)) := by rw [cw _ (by rw [hcl]; omega), Nat.mul_comm]; exact hcg.1
        have e1 : wz.cell? ⟨wb, j * 2 + 1, none⟩ = some dv := by rw [cw _ (by rw [hcl]; omega), Nat.mul_comm]; exact hcg.2
        have dj := rr.out.dvs_ j hjw
        rw [← hdv] at dj
        obtain ⟨da, dc, hdd⟩ := dj.1.shape
        have hrl : rows.length = n := by rw [rr.out.rlen]; exact hlen
        have s0 : wz.cell? ⟨sb, x.1, none⟩ = some (rows.getD x.1 undef) := by rw [cs _ (by omega), List.getD_eq_getElem?_getD, List.getElem?_eq_getElem (by omega)]; rfl
        have s1 := fs x.1
        have hl256 : (m1.wait.getD j (0, [])).2.length = 256 := by rw [← hx]; exact hok.2
        rw [hl256] at hdd
        obtain ⟨b, hb⟩ : ∃ b, b = x.1 := ⟨_, rfl⟩
        rw [← hb] at e0 s0 s1 hxb
        have ow := rr.out.srow
        rw [show ({ m1 with safe := M.kept m1.safe m1.wait kp j } : M.Dsk).safe.length = n from hlen] at ow
        have st := ow.stored b dv
        have ks : Chg (fun k => (Value.slice (some ⟨sb, 0, none⟩) n sc).ownBlock = some k) wz (wz.setCell ⟨sb, b, none⟩ dv) := (Chg.refl _ wz).setCell _ _ (.inl rfl)
        have RL := rr.out.lay (b := b) (by rw [hlen]; exact hxb) dj.1 hl256 dj.2 ks (by rw [hlen]; exact st.1)
        have KL : Hid (Chg T w (wz.setCell ⟨sb, b, none⟩ dv)) := kk.out.trans (ks.mono fun k _ e => (rr.out.ts k e).1) fun _ _ h => h
        have RL' : Hid (RefAt T (wz.setCell ⟨sb, b, none⟩ dv) g (.slice (some ⟨sb, 0, none⟩) n sc) (.slice (some ⟨wb, 0, none⟩) q wc) (rows.set b dv) dvs { m1 with safe := M.kept m1.safe m1.wait kp (j + 1) }) := by
          rw [M.kept, if_pos hkeep, ← hx, ← hb]
          rw [← hx] at RL
          exact RL
        rw [hdd] at e1 RL' KL
        have HJ : Hid (j < q) := hlt
        have b0 : (j : Int) < (l : Int) := by omega
        have b1 : (j : Int) < (q : Int) := by omega
        have b2 : (b : Int) < (n : Int) := by omega
        have b3 : (0 : Int) ≤ (j : Int) := by omega
        have b4 : (0 : Int) ≤ (b : Int) := by omega
        have n1 : ((j : Int)).toNat = j := by omega
        have n2 : ((b : Int)).toNat = b := by omega
        have HX := Lib.hid hx
        have HB := Lib.hid hb
        clear hcg hcl cw cs fw hok hrl hlen hxm hx hb hsc hwc ow st ks RL dj hdv hdd hl256 hj hlt hjw hkeep
        go_upto_region 4 with fail
        refine wp_region_still 21 (by kernel_rfl) (by kernel_rfl) ?_
        simp only [List.take_succ_cons, List.take_zero, List.drop_succ_cons, List.drop_zero]
        repeat still_step
        refine wpStill_nil ?_
        go_wp2
        go_roundw
        case rel => exact ⟨j + 1, _, by have := HJ.out; omega, by rw [n3], RL'.out.chg ((Chg.refl (fun _ => False) _).drew) (fun _ _ h => h), KL.out.drew⟩
        case measure => rw [n3]; have := HJ.out; simp only [intOf, Int.toNat_natCast]; omega

      · have HK : Hid (M.kept m1.safe m1.wait kp (j + 1) = M.kept m1.safe m1.wait kp j) := by rw [Hid, M.kept, if_neg hkeep]
        have HJ : Hid (j < q) := hlt
        have b1 : (j : Int) < (q : Int) := by omega
        rw [Bool.not_eq_true] at hkeep
        by_cases hjl : j < l
        · obtain ⟨kb, ko, rfl, ckk⟩ := HC.out wz kk.out j hjl
          rw [hkeep] at ckk
          have b0 : (j : Int) < (l : Int) := by omega
          have b3 : (0 : Int) ≤ (j : Int) := by omega
          clear hkeep hlt hj
          go_wp2
          go_roundw
          case rel => exact ⟨j + 1, rows, by have := HJ.out; omega, by rw [n3], by rw [HK.out]; exact rr, kk⟩
          case measure => rw [n3]; have := HJ.out; simp only [intOf, Int.toNat_natCast]; omega
        · have b0 : ¬ (j : Int) < (l : Int) := by omega
          clear hkeep hlt hj
          go_wp2
          go_roundw
          case rel => exact ⟨j + 1, rows, by have := HJ.out; omega, by rw [n3], by rw [HK.out]; exact rr, kk⟩
          case measure => rw [n3]; have := HJ.out; simp only [intOf, Int.toNat_natCast]; omega
    · obtain rfl : j = q := by omega
      have e1 : M.kept m1.safe m1.wait kp j = M.kept m1.safe m1.wait kp m1.wait.length := by rw [← HQ.out]
      rw [e1] at rr
      have B0 := rr.out.blk
      have B1 := ((B0.set_ 1 (.slice none 0 0)).set_ 2 (.int .i64 ((0 : Nat) : Int))).set_ 3 (.bool false)
      have k1 : Chg (fun b => b = g) wz (((wz.setCell ⟨g, 1, none⟩ (.slice none 0 0)).setCell ⟨g, 2, none⟩ (.int .i64 ((0 : Nat) : Int))).setCell ⟨g, 3, none⟩ (.bool false)) := (((Chg.refl _ wz).cell 1 _).cell 2 _).cell 3 _
      have R2 := Lib.hid (rr.out.drained k1 0 false (by decide) B1)
      have K2 : Hid (Chg T w (((wz.setCell ⟨g, 1, none⟩ (.slice none 0 0)).setCell ⟨g, 2, none⟩ (.int .i64 ((0 : Nat) : Int))).setCell ⟨g, 3, none⟩ (.bool false))) := kk.out.trans (k1.one TG.out) fun _ _ h => h
      have f1 := B0.frozen 1
      have f2 := B0.frozen 2
      have f3 := B0.frozen 3
      have c2 := B0.cell 2
      have c3 := B0.cell 3
      clear B0 B1 k1 rr kk hlt hj e1
      go_wp2
      go_end0
      exact ⟨rfl, K2.out, _, R2.out⟩

end Go.Proofs.Ythmamdlhgfkckaa
