/-
  CONTRACT OF THE REFERENCE'S Sync. Conditions: the disk lies so.
-/
import Derived.Test.YthmamdlhgfkckaaRefDiskS
namespace Go.Proofs.Ythmamdlhgfkckaa
open Go.RowKit
set_option linter.unusedVariables false

/-- The rows behind the first j writes that wait. -/
def laidV (rows : List Value) : List (Nat × List UInt8) → List Value → List Value
  | c :: r, d :: s => laidV (rows.set c.1 d) r s
  | _, _ => rows

theorem ownCells {w : World} {B n size cap : Nat} {e : TypeId} {ao : Option Addr} {xs : List Value} (h : w.ownsRow B e size (.slice ao n cap) n xs) (hn : 0 < n) :
    ∃ b, ao = some ⟨b, 0, none⟩ ∧ (n ≤ cap ∧ cap ≤ maxLen) ∧ (∀ k, k < xs.length → w.cell? ⟨b, k, none⟩ = xs[k]?) ∧ ∀ k, w.frozen? ⟨b, k, none⟩ = false := by
  rcases h.2 with ⟨_, h0⟩ | ⟨g, cap', cur, e1, hb, hg, hc, hm, hs, ht⟩
  · omega
  · injection e1 with e1 e2 e3
    subst e3
    refine ⟨g, e1, ⟨hc, hm⟩, fun k hk => ?_, fun k => frozen_of_row w g k _ e hg⟩
    rw [cell_of_row w g k cur e (0, 0) hg, ← ht, List.getElem?_take, if_pos (by have := h.1; omega)]
    simp

set_option maxHeartbeats 4000000 in
/-- What waits is laid. -/
theorem rsync_ok {T : Nat → Prop} {w : World} {g : Nat} {sv wv : Value} {rows dvs : List Value} {m : M.Dsk} (h : RefAt T w g sv wv rows dvs m) (hd : m.down = false) (hg : m.goes.2 = false) :
    Calls Try.prog 16 #[.pointer (some ⟨g, 0, none⟩)] w fun e w' => e = .returned (.int .i64 0) ∧ Chg T w w' ∧ ∃ rows', RefAt T w' g sv (.slice none 0 0) rows' [] m.goes.1.synced := by
  have c3 : w.cell? ⟨g, 3, none⟩ = some (.bool false) := by rw [← hd]; exact h.blk.cell 3
  have G := Lib.hid (rgoes_any h)
  have TG := Lib.hid h.tg
  have hg' : m.goes.2 = false := hg
  rw [hg] at G
  obtain ⟨m1, hm1⟩ : ∃ x, x = m.goes.1 := ⟨_, rfl⟩
  have hw1 : m1.wait = m.wait := by rw [hm1, M.Dsk.goes]; split; rfl; split <;> rfl
  rw [← hm1] at G ⊢
  obtain ⟨q, hq⟩ : ∃ q, q = m1.wait.length := ⟨_, rfl⟩
  obtain ⟨wa, wc, ew⟩ := ownShape h.wrow
  rw [← hw1, ← hq] at ew
  obtain ⟨sa, sc, es⟩ := ownShape h.srow
  obtain ⟨n, hn⟩ : ∃ n, n = m.safe.length := ⟨_, rfl⟩
  have hs1 : m1.safe = m.safe := by rw [hm1, M.Dsk.goes]; split; rfl; split <;> rfl
  rw [← hn] at es
  subst ew es
  have HN : Hid (n = m1.safe.length) := by rw [Hid, hs1, hn]
  have HQ : Hid (q = m1.wait.length) := hq
  have HF : Hid (n ≤ 2176) := by rw [Hid, hn]; exact h.ok.few
  clear h hd hg hg' hm1 hw1 hq hs1 hn
  go_enter Try.func16, Try.ntmps16
  go_wp2_with fail
  refine G.out.mono ?_
  rintro e w1 ⟨rfl, r1, k1⟩
  have R1 := Lib.hid r1
  have K1 : Hid (Chg T w w1) := k1.one TG.out
  clear r1 k1 G c3
  go_wp2
  go_loopw [3] (fun i wr => ∃ (j : Nat) (rows : List Value), j ≤ q ∧ i = .int .i64 (j : Int) ∧ Hid (RefAt T wr g (.slice sa n sc) (.slice wa q wc) rows dvs { m1 with safe := M.laid m1.safe (m1.wait.take j) }) ∧ Hid (Chg T w wr))
    (fun i _ => q - (intOf i).toNat)
  case atStart => exact ⟨0, rows, by omega, rfl, R1, K1⟩
  case round =>
    clear R1 K1
    obtain ⟨wz, rfl⟩ : ∃ x, x = wr := ⟨_, rfl⟩
    obtain ⟨j, rows, hj, rfl, rr, kk⟩ := hrel
    have c1 : wz.cell? ⟨g, 1, none⟩ = some (.slice wa q wc) := rr.out.blk.cell 1
    by_cases hlt : j < q
    · have c0 : wz.cell? ⟨g, 0, none⟩ = some (.slice sa n sc) := rr.out.blk.cell 0
      have hjw : j < m1.wait.length := by have := HQ.out; omega
      obtain ⟨x, hx⟩ : ∃ x, x = m1.wait.getD j (0, []) := ⟨_, rfl⟩
      have hxm : x ∈ m1.wait := by rw [hx, List.getD_eq_getElem?_getD, List.getElem?_eq_getElem hjw]; exact List.getElem_mem hjw
      have hok := rr.out.ok.wat x hxm
      have hlen : (M.laid m1.safe (m1.wait.take j)).length = n := by rw [M.laid_length, ← HN.out]
      have hxb : x.1 < n := by have := hok.1; simpa [hlen] using this
      obtain ⟨wb, rfl, hwc, cw, fw⟩ := ownCells (by have := rr.out.wrow; rwa [show ({ m1 with safe := M.laid m1.safe (m1.wait.take j) } : M.Dsk).wait.length = q from HQ.out.symm] at this) (by omega)
      obtain ⟨sb, rfl, hsc, cs, fs⟩ := ownCells (by have := rr.out.srow; rwa [show ({ m1 with safe := M.laid m1.safe (m1.wait.take j) } : M.Dsk).safe.length = n from hlen] at this) (by omega)
      obtain ⟨dv, hdv⟩ : ∃ dv, dv = dvs.getD j undef := ⟨_, rfl⟩
      have hcg := chgs_get m1.wait dvs j rr.out.dlen hjw
      have hcl := chgs_length m1.wait dvs rr.out.dlen
      rw [← hx, ← hdv] at hcg
      have e0 : wz.cell? ⟨wb, j * 2, none⟩ = some (.int .i64 (x.1 : Int)) := by rw [cw _ (by rw [hcl]; omega), Nat.mul_comm]; exact hcg.1
      have e1 : wz.cell? ⟨wb, j * 2 + 1, none⟩ = some dv := by rw [cw _ (by rw [hcl]; omega), Nat.mul_comm]; exact hcg.2
      have dj := rr.out.dvs_ j hjw
      rw [← hdv] at dj
      obtain ⟨da, dc, hdd⟩ := dj.1.shape
      have hrl : rows.length = n := by rw [rr.out.rlen]; exact hlen
      have s0 : wz.cell? ⟨sb, x.1, none⟩ = some (rows.getD x.1 undef) := by rw [cs _ (by omega), List.getD_eq_getElem?_getD, List.getElem?_eq_getElem (by omega)]; rfl
      have s1 := fs x.1
      have hl256 : (m1.wait.getD j (0, [])).2.length = 256 := by rw [← hx]; exact hok.2
      rw [hl256] at hdd
      obtain ⟨b, hb⟩ : ∃ b, b = x.1 := ⟨_, rfl⟩
      rw [← hb] at e0 s0 s1 hxb
      have ow := rr.out.srow
      rw [show ({ m1 with safe := M.laid m1.safe (m1.wait.take j) } : M.Dsk).safe.length = n from hlen] at ow
      have st := ow.stored b dv
      have ks : Chg (fun k => (Value.slice (some ⟨sb, 0, none⟩) n sc).ownBlock = some k) wz (wz.setCell ⟨sb, b, none⟩ dv) := (Chg.refl _ wz).setCell _ _ (.inl rfl)
      have RL := rr.out.lay (b := b) (by rw [hlen]; exact hxb) dj.1 hl256 dj.2 ks (by rw [hlen]; exact st.1)
      have KL : Hid (Chg T w (wz.setCell ⟨sb, b, none⟩ dv)) := kk.out.trans (ks.mono fun k _ e => (rr.out.ts k e).1) fun _ _ h => h
      have RL' : Hid (RefAt T (wz.setCell ⟨sb, b, none⟩ dv) g (.slice (some ⟨sb, 0, none⟩) n sc) (.slice (some ⟨wb, 0, none⟩) q wc) (rows.set b dv) dvs { m1 with safe := M.laid m1.safe (m1.wait.take (j + 1)) }) := by
        rw [List.take_add_one, List.getElem?_eq_getElem hjw]
        have ex : m1.wait[j] = x := by rw [hx, List.getD_eq_getElem?_getD, List.getElem?_eq_getElem hjw]; rfl
        rw [ex, Option.toList_some, M.laid_snoc, ← hb]
        rw [← hx] at RL
        exact RL
      rw [hdd] at e1 RL' KL
      have HJ : Hid (j < q) := hlt
      have b1 : (j : Int) < (q : Int) := by omega
      have b2 : (b : Int) < (n : Int) := by omega
      have b3 : (0 : Int) ≤ (j : Int) := by omega
      have b4 : (0 : Int) ≤ (b : Int) := by omega
      have n1 : ((j : Int)).toNat = j := by omega
      have n3 : wrap64 ((j : Int) + 1) = ((j + 1 : Nat) : Int) := by have := hwc.1; have := hwc.2; unfold maxLen at this; unfold wrap64; omega
      have n2 : ((b : Int)).toNat = b := by omega
      have HX := Lib.hid hx
      have HB := Lib.hid hb
      clear hcg hcl cw cs fw hok hrl hlen hxm hx hb hsc hwc ow st ks RL dj hdv hdd hl256 hj hlt hjw
      go_upto_region 6 with fail
      refine wp_region_still 21 (by kernel_rfl) (by kernel_rfl) ?_
      simp only [List.take_succ_cons, List.take_zero, List.drop_succ_cons, List.drop_zero]
      repeat still_step
      refine wpStill_nil ?_
      go_wp2
      go_roundw
      case rel => exact ⟨j + 1, _, by have := HJ.out; omega, by rw [n3], RL'.out.chg ((Chg.refl (fun _ => False) _).drew) (fun _ _ h => h), KL.out.drew⟩
      case measure => rw [n3]; have := HJ.out; simp only [intOf, Int.toNat_natCast]; omega
    · obtain rfl : j = q := by omega
      have e1 : m1.wait.take j = m1.wait := by rw [HQ.out, List.take_length]
      rw [e1] at rr
      have B0 := rr.out.blk
      have B1 := B0.set_ 1 (.slice none 0 0)
      have k1 : Chg (fun b => b = g) wz (wz.setCell ⟨g, 1, none⟩ (.slice none 0 0)) := (Chg.refl _ wz).cell 1 _
      have R2 := Lib.hid (rr.out.drained k1 m1.left m1.down rr.out.left_ B1)
      have K2 : Hid (Chg T w (wz.setCell ⟨g, 1, none⟩ (.slice none 0 0))) := kk.out.trans (k1.one TG.out) fun _ _ h => h
      have f1 := B0.frozen 1
      clear B0 B1 k1 rr kk hlt hj e1
      go_wp2
      go_ret
      exact ⟨rfl, K2.out, _, R2.out⟩

end Go.Proofs.Ythmamdlhgfkckaa
