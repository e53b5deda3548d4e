/-
  CONTRACT OF (*disk.Disk).Tamper. Conditions: the disk lies so; the bytes lie out of it, fewer than 2^40.
-/
import Derived.Test.YthmamdlhgfkckaaDiskY
namespace Go.Proofs.Ythmamdlhgfkckaa
open Go.RowKit
set_option linter.unusedVariables false

/-- 'b[m:]', whatever b's address is. -/
theorem from9 (ao : Option Addr) (n cap m : Nat) (hm : m ≤ n) (W : World) : (Instr.slice 22 (.slice ao n cap) (some (.int .i64 (m : Int))) none none).run Try.prog W = .ok (.slice (if cap = m then ao else ao.map (·.add m)) (n - m) (cap - m)) W := by
  have hel : Try.prog.elem 22 = 5 := by simp [Program.elem, Try.underlying22]
  rw [run_slice_l W 22 ao n cap (by rw [hel]; exact Try.underlying22) .i64 (m : Int) (by omega) (by omega), hel, Try.sizeOf5]
  simp only [Result.andThen_ok, sliced, Int.toNat_natCast, Nat.mul_one]

set_option maxHeartbeats 2000000 in
/-- Nothing of it lies on the disk. -/
theorem tamper9_no {T : Nat → Prop} {w : World} {g : Nat} {sv wv : Value} {dvs : List Value} {m : M.Dsk} (h : DkAt T w g sv wv dvs m) (at_ : Int) (bv : Value) (bs : List UInt8) (hb : IsB w bv bs) (hlen : bs.length < 1099511627776)
    (hno : 256 * (m.safe.length : Int) ≤ at_ ∨ at_ ≤ -(bs.length : Int)) :
    Calls Try.prog 21 #[.pointer (some ⟨g, 0, none⟩), .int .i64 at_, bv] w fun e w' => e = .returned (.tuple #[]) ∧ w' = w ∧ DkAt T w' g sv wv dvs (m.tamper at_ bs) := by
  have R : Hid (DkAt T w g sv wv dvs (m.tamper at_ bs)) := h.lay _ (Chg.refl _ w) (by show Own w 0 sv (m.tamper at_ bs).safe.flatten; rw [M.tamper_none m h.ok at_ bs hno]; exact h.srow) (M.turns_length _ _ _ _) (M.turns_full _ _ _ h.ok.full _)
  have c0 : w.cell? ⟨g, 0, none⟩ = some sv := h.blk.cell 0
  obtain ⟨N, hN⟩ : ∃ N, N = 256 * m.safe.length := ⟨_, rfl⟩
  obtain ⟨sa, sc, es⟩ := ownShape h.srow
  rw [h.flat, ← hN] at es
  subst es
  obtain ⟨l, hl⟩ : ∃ l, l = bs.length := ⟨_, rfl⟩
  obtain ⟨ba, bc, eb⟩ := hb.shape
  rw [← hl] at eb
  subst eb
  have t1 : wrap64 (-(l : Int)) = -(l : Int) := by unfold wrap64; omega
  by_cases h1 : (N : Int) ≤ at_
  · clear h hb hl hN hno hlen
    go_enter Try.func21, Try.ntmps21
    go_wp2
    exact bodyPost_ret (results_none rfl _ _ _) rfl ⟨rfl, rfl, R.out⟩
  · have h2 : at_ ≤ -(l : Int) := by omega
    clear h hb hl hN hno hlen
    go_enter Try.func21, Try.ntmps21
    go_wp2
    exact bodyPost_ret (results_none rfl _ _ _) rfl ⟨rfl, rfl, R.out⟩

set_option maxRecDepth 100000 in
set_option maxHeartbeats 4000000 in
theorem tamper9_yes {T : Nat → Prop} {w : World} {g : Nat} {sv wv : Value} {dvs : List Value} {m : M.Dsk} (h : DkAt T w g sv wv dvs m) (at_ : Int) (bv : Value) (bs : List UInt8) (hb : IsB w bv bs) (hlen : bs.length < 1099511627776)
    (hin : at_ < 256 * (m.safe.length : Int) ∧ -(bs.length : Int) < at_) :
    Calls Try.prog 21 #[.pointer (some ⟨g, 0, none⟩), .int .i64 at_, bv] w fun e w' => e = .returned (.tuple #[]) ∧ Chg T w w' ∧ DkAt T w' g sv wv dvs (m.tamper at_ bs) := by
  have H := Lib.hid h
  have hf := h.ok.few
  have c0 : w.cell? ⟨g, 0, none⟩ = some sv := h.blk.cell 0
  have c0' : w.drew.cell? ⟨g, 0, none⟩ = some sv := h.blk.cell 0
  obtain ⟨N, hN⟩ : ∃ N, N = 256 * m.safe.length := ⟨_, rfl⟩
  obtain ⟨sa, sc, es⟩ := ownShape h.srow
  rw [h.flat, ← hN] at es
  obtain ⟨l, hl⟩ : ∃ l, l = bs.length := ⟨_, rfl⟩
  obtain ⟨ba, bc, eb⟩ := hb.shape
  rw [← hl] at eb
  obtain ⟨o, ho⟩ : ∃ o, o = at_.toNat := ⟨_, rfl⟩
  obtain ⟨k, hk⟩ : ∃ k, k = (-at_).toNat := ⟨_, rfl⟩
  have hoN : o ≤ N := by omega
  have hkl : k ≤ l := by omega
  obtain ⟨cs, hcs⟩ : ∃ cs, cs = sc := ⟨_, rfl⟩
  have s1 : ∀ W, (Instr.slice 22 (.slice sa N sc) (some (.int .i64 (o : Int))) none none).run Try.prog W = .ok (.slice (if sc = o then sa else sa.map (·.add o)) (N - o) (sc - o)) W := fun W => from9 sa N sc o hoN W
  have s2 : ∀ W, (Instr.slice 22 (.slice ba l bc) (some (.int .i64 (k : Int))) none none).run Try.prog W = .ok (.slice (if bc = k then ba else ba.map (·.add k)) (l - k) (bc - k)) W := fun W => from9 ba l bc k (by omega) W
  obtain ⟨a1, ha1⟩ : ∃ a, a = if sc = o then sa else sa.map (·.add o) := ⟨_, rfl⟩
  obtain ⟨a2, ha2⟩ : ∃ a, a = if bc = k then ba else ba.map (·.add k) := ⟨_, rfl⟩
  rw [← ha1] at s1
  rw [← ha2] at s2
  obtain ⟨n1, hn1⟩ : ∃ n, n = N - o := ⟨_, rfl⟩
  obtain ⟨n2, hn2⟩ : ∃ n, n = l - k := ⟨_, rfl⟩
  obtain ⟨p1, hp1⟩ : ∃ n, n = sc - o := ⟨_, rfl⟩
  obtain ⟨p2, hp2⟩ : ∃ n, n = bc - k := ⟨_, rfl⟩
  rw [← hn1, ← hp1] at s1
  rw [← hn2, ← hp2] at s2
  have t1 : wrap64 (-(l : Int)) = -(l : Int) := by unfold wrap64; omega
  have t2 : wrap64 (-at_) = -at_ := by unfold wrap64; omega
  have m1 : (if at_ < 0 then (0 : Int) else at_) = (o : Int) := by split <;> omega
  have m4 : (if IntKind.i64.wrap (-at_) < 0 then (0 : Int) else IntKind.i64.wrap (-at_)) = (k : Int) := by
    rw [show IntKind.i64.wrap (-at_) = -at_ by rw [IntKind.wrap_i64]; omega]
    split <;> omega
  have g1 : ¬ (N : Int) ≤ at_ := by omega
  have g2 : ¬ at_ ≤ -(l : Int) := by omega
  obtain ⟨nn, hnn⟩ : ∃ nn, nn = min n2 n1 := ⟨_, rfl⟩
  have HT : Hid ((m.tamper at_ bs).safe.flatten = m.safe.flatten.take o ++ (bs.drop k).take nn ++ m.safe.flatten.drop (o + nn)) :=
    M.tamper_some m h.ok at_ bs o k nn ho hk (by rw [hnn, hn1, hn2, hl, hN]) (by omega) (by omega)
  have HXL : Hid (((bs.drop k).take nn).length = nn) := by rw [Hid, List.length_take, List.length_drop]; omega
  have HNN : Hid (nn = min n2 n1) := hnn
  have HON : Hid (o + nn ≤ N) := by rw [Hid]; omega
  have HN : Hid (N = 256 * m.safe.length) := hN
  -- WHERE WHAT IS COPIED LIES
  have HSRC : Hid (0 < nn → ∃ ad, a2 = some ad ∧ ∀ j v, (Lib.byteCells ((bs.drop k).take nn))[j]? = some v → w.drew.cell? (ad.add j) = some v) := by
    intro h0
    obtain ⟨ao, cap, e, h1, h2, h3⟩ := hb
    rw [e] at eb
    injection eb with e1 e2 e3
    subst e1 e3
    rcases h3 with h3 | ⟨b, off, rfl, hc⟩
    · rw [h3] at hl; simp at hl; omega
    · refine ⟨⟨b, off + k, none⟩, by rw [ha2, if_neg (by omega), Option.map_some, Addr.add_lit], fun j v hj => ?_⟩
      have hlt : j < ((bs.drop k).take nn).length := by
        have := (List.getElem?_eq_some_iff.1 hj).1
        rwa [byteCells_length] at this
      rw [HXL.out] at hlt
      rw [byteCells_getElem? _ _ (by rw [HXL.out]; exact hlt), M.getD_take _ _ _ hlt, M.getD_drop] at hj
      rw [Addr.add_lit, ← hj, Nat.add_assoc]
      exact hc (k + j) (by omega)
  have HDST : Hid (0 < nn → ∃ sb cur, sa = some ⟨sb, 0, none⟩ ∧ a1 = some ⟨sb, o, none⟩ ∧ Blk w.drew sb 5 cur ∧ N ≤ sc ∧ sc ≤ maxLen ∧ cur.length = sc ∧ cur.take N = Lib.byteCells m.safe.flatten) := by
    intro h0
    obtain ⟨sb, cap, cur, e, _, hbk, h1, h2, h3, h4⟩ := h.srow.blk9 (by rw [h.flat]; omega)
    rw [h.flat, ← hN] at e h1 h4
    rw [es] at e
    injection e with e1 e2 e3
    subst e1 e3
    exact ⟨sb, cur, rfl, by rw [ha1, if_neg (by omega), Option.map_some, Addr.add_lit, Nat.zero_add], hbk.drew, h1, h2, h3, h4⟩
  subst es eb
  have HF : Hid (∀ c ∈ (m.tamper at_ bs).safe, c.length = 256) := M.turns_full _ _ _ h.ok.full _
  clear h hb hlen hin hf hN hl hk ho hoN hkl hcs ha1 ha2 hn1 hn2 hp1 hp2 hnn
  go_enter Try.func21, Try.ntmps21
  go_upto_region 1 with fail
  clear c0 g1 g2 t1
  refine wp_region_still 12 (by kernel_rfl) (by kernel_rfl) ?_
  simp only [List.take_succ_cons, List.take_zero, List.drop_succ_cons, List.drop_zero]
  repeat still_step
  refine wpStill_nil ?_
  by_cases h0 : 0 < nn
  · obtain ⟨ad, rfl, hsrc⟩ := HSRC.out h0
    obtain ⟨sb, cur, rfl, rfl, hbk, h1, h2, h3, h4⟩ := HDST.out h0
    refine wpList_copy_blk rfl (.tmp 26) (.tmp 31) 22 22 rfl 5 Try.underlying22 (by kernel_rfl) (some ⟨sb, o, none⟩) (some ad) n1 p1 n2 p2 rfl rfl sb o cur 5 hbk (Lib.byteCells ((bs.drop k).take nn)) (by rw [byteCells_length, HXL.out]; exact HNN.out) (fun _ => ⟨rfl, _, rfl, hsrc⟩) (by rw [byteCells_length, HXL.out]; have := HON.out; omega) (byteCells_oneCell _) ?_
    intro w2 hb2 ho2
    have e2 := splice_row (cur := cur) (bs := m.safe.flatten) (xs := (bs.drop k).take nn) (o := o) (by rw [H.out.flat, ← HN.out]; exact h4) (by rw [HXL.out, H.out.flat, ← HN.out]; exact HON.out) (by rw [H.out.flat, ← HN.out]; omega)
    rw [HXL.out, ← HT.out, H.out.flat, ← HN.out] at e2
    have hfs : (m.tamper at_ bs).safe.flatten.length = N := by rw [flat_length _ HF.out, HN.out]; rw [show (m.tamper at_ bs).safe.length = m.safe.length from M.turns_length _ _ _ _]
    have o2 : Own w2 0 (.slice (some ⟨sb, 0, none⟩) N sc) (m.tamper at_ bs).safe.flatten := by
      rw [← hfs]
      refine Own.of_blk9 (Nat.zero_le _) hb2 (by rw [hfs]; exact h1) h2 ?_ (by rw [hfs]; exact e2)
      rw [splice, List.length_append, List.length_append, List.length_take, List.length_drop, byteCells_length, HXL.out]
      have := HON.out
      omega
    have k2 : Chg (fun k => (Value.slice (some ⟨sb, 0, none⟩) N sc).ownBlock = some k) w w2 := (Chg.refl _ w).drew.trans (Chg.of_grown (F := fun k => (Value.slice (some ⟨sb, 0, none⟩) N sc).ownBlock = some k) ho2 fun k e => e) fun _ _ h => h
    have R2 := Lib.hid (H.out.lay (m.tamper at_ bs).safe k2 o2 (M.turns_length _ _ _ _) HF.out)
    have K2 : Hid (Chg T w w2) := k2.mono fun k _ e => (H.out.ts k e).1
    clear hb2 ho2 e2 hfs o2 k2 hbk h1 h2 h3 h4 hsrc h0 HSRC HDST HT HXL HNN HON HN HF H
    go_wp2
    go_end0
    exact ⟨rfl, K2.out, R2.out⟩
  · refine wpList_copy_nothing rfl (.tmp 26) (.tmp 31) 22 22 rfl 5 Try.underlying22 (by kernel_rfl) a1 a2 n1 p1 n2 p2 rfl rfl (by have := HNN.out; show min n2 n1 = 0; omega) ?_
    have hz : nn = 0 := by omega
    have R2 : Hid (DkAt T w.drew g (.slice sa N sc) wv dvs (m.tamper at_ bs)) := by
      refine (H.out.chg ((Chg.refl (fun _ => False) _).drew) (fun _ _ h => h)).lay (m.tamper at_ bs).safe (Chg.refl _ _) ?_ (M.turns_length _ _ _ _) HF.out
      rw [HT.out, hz, List.take_zero, List.append_nil, Nat.add_zero, List.take_append_drop]
      exact H.out.srow
    have K2 : Hid (Chg T w w.drew) := (Chg.refl _ _).drew
    clear h0 hz HSRC HDST HT HXL HNN HON HN HF H
    go_wp2
    go_end0
    exact ⟨rfl, K2.out, R2.out⟩

end Go.Proofs.Ythmamdlhgfkckaa
