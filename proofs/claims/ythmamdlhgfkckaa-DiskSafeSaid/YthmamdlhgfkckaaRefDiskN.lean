/-
  CONTRACTS OF THE REFERENCE'S New. Conditions: none.
-/
import Derived.Test.YthmamdlhgfkckaaRefDiskT
namespace Go.Proofs.Ythmamdlhgfkckaa
open Go.RowKit
set_option linter.unusedVariables false

theorem rows_row : RowTy 42 22 1 24 (.slice none 0 0) := ⟨Try.underlying42, by kernel_rfl, rfl, by decide⟩

/-- A block more, nothing waiting. -/
theorem RefAt.addRow {T : Nat → Prop} {w w' : World} {g : Nat} {sv sv' rv : Value} {rows : List Value} {m : M.Dsk} (h : RefAt T w g sv (.slice none 0 0) rows [] m) (hw : m.wait = []) {bs : List UInt8} (hl : bs.length = 256) (hfew : m.safe.length < 2176)
    (k : Chg (fun b => b = g ∨ sv.ownBlock = some b) w w') (hb : Blk w' g 45 [sv', .slice none 0 0, .int .i64 (m.left : Int), .bool m.down])
    (ho : w'.ownsRow 0 22 1 sv' (m.safe.length + 1) (rows ++ [rv])) (hd : IsB w' rv bs)
    (hlie : Lies (fun b => w.heap.size ≤ b ∧ b < w'.heap.size ∧ sv'.ownBlock ≠ some b) rv) (hat : sv'.ownBlock = sv.ownBlock ∨ ∃ b, sv'.ownBlock = some b ∧ w.heap.size ≤ b ∧ b < w'.heap.size) :
    RefAt (Grown T w w') w' g sv' (.slice none 0 0) (rows ++ [rv]) [] { m with safe := m.safe ++ [bs] } where
  blk := hb
  srow := by simpa using ho
  wrow := by rw [hw]; exact World.ownsRow_nil _ _ _ _
  dlen := by rw [hw]; rfl
  rows_ := fun j hj => by
    have hj' : j < m.safe.length + 1 := by simpa using hj
    rw [getD_snoc _ _ _ _ (by rw [h.rlen]; exact hj'), getD_snoc _ _ _ _ hj', h.rlen]
    by_cases hlt : j < m.safe.length
    · rw [if_pos hlt, if_pos hlt]
      refine ⟨(h.rows_ j hlt).1.chg k ((h.rows_ j hlt).2.mono fun b hb e => ?_), (h.rows_ j hlt).2.mono fun b hb => ⟨⟨.inl hb.1, Nat.lt_of_lt_of_le (h.there b hb.1) k.size⟩, hb.2.1, fun e => ?_, hb.2.2.2⟩⟩
      · rcases e with e | e
        · exact hb.2.1 e
        · exact hb.2.2.1 e
      · rcases hat with hat | ⟨b', e', h1, h2⟩
        · exact hb.2.2.1 (hat ▸ e)
        · rw [e'] at e
          injection e with e
          have := h.there b hb.1
          omega
    · rw [if_neg hlt, if_neg hlt]
      refine ⟨hd, hlie.mono fun b hb => ⟨⟨.inr hb.1, hb.2.1⟩, fun e => ?_, hb.2.2, fun e => by cases e⟩⟩
      have := h.there g h.tg
      omega
  dvs_ := fun j hj => by rw [hw] at hj; cases hj
  tg := ⟨.inl h.tg, Nat.lt_of_lt_of_le (h.there g h.tg) k.size⟩
  ts := fun b hb => by
    rcases hat with hat | ⟨b', e', h1, h2⟩
    · rw [hat] at hb
      have := h.ts b hb
      exact ⟨⟨.inl this.1, Nat.lt_of_lt_of_le (h.there b this.1) k.size⟩, this.2⟩
    · rw [e'] at hb
      injection hb with hb
      subst hb
      refine ⟨⟨.inr h1, h2⟩, fun e => ?_⟩
      have := h.there g h.tg
      omega
  tw := fun b hb => by cases hb
  there := fun b hb => hb.2
  left_ := h.left_
  ok := ⟨by simp; omega, fun c hc => by
    rcases List.mem_append.1 hc with hc | hc
    · exact h.ok.full c hc
    · simp only [List.mem_singleton] at hc
      exact hc ▸ hl, fun c hc => by rw [hw] at hc; cases hc⟩

def M.zdsk (j : Nat) : M.Dsk := ⟨List.replicate j M.zero256, [], 0, false⟩

theorem M.zdsk_next (j : Nat) : ({ M.zdsk j with safe := (M.zdsk j).safe ++ [M.zero256] } : M.Dsk) = M.zdsk (j + 1) := by
  rw [M.zdsk, M.zdsk, List.replicate_succ']

theorem M.zdsk_len (j : Nat) : (M.zdsk j).safe.length = j := List.length_replicate

set_option maxRecDepth 100000 in
set_option maxHeartbeats 8000000 in
theorem rnew_any (n : Int) (hn : -9223372036854775808 ≤ n ∧ n < 9223372036854775808) (w : World) :
    Calls Try.prog 33 #[.int .i64 n] w fun e w' => ∃ g sv rows T, e = .returned (.pointer (some ⟨g, 0, none⟩)) ∧ RefAt T w' g sv (.slice none 0 0) rows [] (M.dnew n.toNat) ∧ (∀ k, T k → w.heap.size ≤ k) ∧ Below w.heap.size w w' := by
  obtain ⟨ZC, hZC⟩ := make_run 256 (by decide)
  have hmk : ∀ w : World, (Instr.makeSlice 22 (.int .i64 256) (.int .i64 256)).run Try.prog w = .ok (.slice (some ⟨w.heap.size, 0, none⟩) 256 256) (w.alloc (.cells ZC 5)) := fun w => (hZC w).1
  have HMK : Hid (∀ w : World, Own (w.alloc (.cells ZC 5)) w.heap.size (.slice (some ⟨w.heap.size, 0, none⟩) 256 256) M.zero256) := fun w => (hZC w).2
  obtain ⟨g, hg⟩ : ∃ g, g = w.heap.size := ⟨_, rfl⟩
  obtain ⟨W, hW⟩ : ∃ W, Hid (W = w.alloc (.cells #[.slice none 0 0, .slice none 0 0, .int .i64 0, .bool false] 45)) := ⟨_, rfl⟩
  have B0 : Blk W g 45 [.slice none 0 0, .slice none 0 0, .int .i64 ((0 : Nat) : Int), .bool false] := by rw [hW.out]; exact Blk.newAt _ _ _ _ _ hg rfl
  have K0 : Hid (Below w.heap.size w W) := by rw [hW.out]; exact (Below.refl _ _).alloc (Nat.le_refl _) _
  have R0 : Hid (RefAt (fun k => k = g) W g (.slice none 0 0) (.slice none 0 0) [] [] (M.zdsk 0)) :=
    { blk := B0, srow := World.ownsRow_nil _ _ _ _, wrow := World.ownsRow_nil _ _ _ _, dlen := rfl, rows_ := fun i hi => (by cases hi), dvs_ := fun i hi => (by cases hi), tg := rfl, ts := fun k hk => (by cases hk), tw := fun k hk => (by cases hk),
      there := fun k hk => hk ▸ B0.lt, left_ := by decide, ok := ⟨by decide, fun b hb => (by cases hb), fun b hb => (by cases hb)⟩ }
  have HG : Hid (w.heap.size ≤ g) := by rw [Hid]; omega
  have HN := Lib.hid hn
  clear hZC B0 hn
  go_enter Try.func33, Try.ntmps33
  go_upto_region 2 with fail
  rw [← hW.out, ← hg]
  clear hW hg
  go_wp2
  go_loopw [4] (fun i wr => ∃ (j : Nat) (sv : Value) (rows : List Value) (T : Nat → Prop), j ≤ 2176 ∧ j ≤ n.toNat ∧ i = .int .i64 (j : Int) ∧ Hid (RefAt T wr g sv (.slice none 0 0) rows [] (M.zdsk j)) ∧ Hid (∀ k, T k → w.heap.size ≤ k) ∧ Hid (Below w.heap.size w wr))
    (fun i _ => 2176 - (intOf i).toNat)
  case atStart => exact ⟨0, _, _, _, by omega, by omega, rfl, R0, fun k hk => hk ▸ HG.out, K0⟩
  case round =>
    clear R0 K0
    obtain ⟨wz, rfl⟩ : ∃ x, x = wr := ⟨_, rfl⟩
    obtain ⟨j, sv, rows, T, hj, hjn, rfl, rr, tt, kk⟩ := hrel
    by_cases h1 : (j : Int) < n
    · by_cases h2 : j < 2176
      · have b2 : (j : Int) < 2176 := by omega
        have HJ : Hid (j < 2176 ∧ (j : Int) < n) := ⟨h2, h1⟩
        obtain ⟨sa, sc, es⟩ := ownShape rr.out.srow
        rw [M.zdsk_len] at es
        subst es
        have c1 : wz.cell? ⟨g, 0, none⟩ = some (.slice sa j sc) := rr.out.blk.cell 0
        clear hj hjn
        go_upto_region 5 with fail
        refine region_T (fun w' => w'.cell? ⟨g, 0, none⟩ = some (.slice sa j sc)) [8, 9, 10] (by kernel_rfl) ?_
        have S0 : wz.drew.cell? ⟨g, 0, none⟩ = some (.slice sa j sc) := c1
        refine anyT_take_at (i := 0) (v := .pointer (some ⟨g, 0, none⟩)) rfl rfl (by kernel_rfl) (by kernel_rfl) (by kernel_rfl) (by kernel_rfl) (fun _ _ _ h => h) (Or.inl ⟨by rfl, fun w hS => by have c : w.cell? ⟨g, 0, none⟩ = some (.slice sa j sc) := hS; go_simp⟩) S0 ?_
        simp only [List.setIfInBounds_toArray, List.set_cons_zero, List.set_cons_succ]
        refine anyT_take_at (i := 1) (v := .pointer (some ⟨g, 0, none⟩)) rfl rfl (by kernel_rfl) (by kernel_rfl) (by kernel_rfl) (by kernel_rfl) (fun _ _ _ h => h) (Or.inl ⟨by rfl, fun w hS => by have c : w.cell? ⟨g, 0, none⟩ = some (.slice sa j sc) := hS; go_simp⟩) S0 ?_
        simp only [List.setIfInBounds_toArray, List.set_cons_zero, List.set_cons_succ]
        refine anyT_take_at (i := 2) (v := .pointer (some ⟨g, 0, none⟩)) rfl rfl (by kernel_rfl) (by kernel_rfl) (by kernel_rfl) (by kernel_rfl) (fun _ _ _ h => h) (Or.inl ⟨by rfl, fun w hS => by have c : w.cell? ⟨g, 0, none⟩ = some (.slice sa j sc) := hS; go_simp⟩) S0 ?_
        simp only [List.setIfInBounds_toArray, List.set_cons_zero, List.set_cons_succ]
        refine anyT_take_at (i := 3) (v := .pointer (some ⟨g, 0, none⟩)) rfl rfl (by kernel_rfl) (by kernel_rfl) (by kernel_rfl) (by kernel_rfl) (fun _ _ _ h => h) (Or.inl ⟨by rfl, fun w hS => by have c : w.cell? ⟨g, 0, none⟩ = some (.slice sa j sc) := hS; go_simp⟩) S0 ?_
        simp only [List.setIfInBounds_toArray, List.set_cons_zero, List.set_cons_succ]
        refine anyT_take_at (i := 4) (v := .slice sa j sc) rfl rfl (by kernel_rfl) (by kernel_rfl) (by kernel_rfl) (by kernel_rfl) (fun _ _ _ h => h) (Or.inl ⟨by rfl, fun w hS => by have c : w.cell? ⟨g, 0, none⟩ = some (.slice sa j sc) := hS; go_simp⟩) S0 ?_
        simp only [List.setIfInBounds_toArray, List.set_cons_zero, List.set_cons_succ]
        refine anyT_ready (rs := [5]) (by kernel_rfl) (by simp) ?_
        refine ReadyT.cons rfl (fun K hK => ?_) ReadyT.nil
        go_simp
        obtain ⟨w1, hw1⟩ : ∃ x, x = (wz.alloc (.cells ZC 5)).drew := ⟨_, rfl⟩
        obtain ⟨rp, hrp⟩ : ∃ x, x = wz.heap.size := ⟨_, rfl⟩
        rw [← hw1, ← hrp]
        have k1 : Below wz.heap.size wz w1 := by rw [hw1]; exact drewN_below ((Below.refl _ wz).alloc (Nat.le_refl _) _) 1
        have o1 : Own w1 wz.heap.size (.slice (some ⟨rp, 0, none⟩) 256 256) M.zero256 := by rw [hw1, hrp]; exact HMK.out wz
        have blk := rr.out.blk
        have gl := blk.lt
        refine hK.out _ _ (.inr ((blk.below k1 gl).cell 0)) ?_
        clear hK K hw1 hrp
        refine anyT_ready (rs := [6]) (by kernel_rfl) (by simp) ?_
        refine ReadyT.cons rfl (fun K hK => ?_) ReadyT.nil
        go_simp
        obtain ⟨w2, hw2⟩ : ∃ x, x = w1.alloc (.cells #[.slice (some ⟨rp, 0, none⟩) 256 256] 22) := ⟨_, rfl⟩
        obtain ⟨p, hp⟩ : ∃ x, x = w1.heap.size := ⟨_, rfl⟩
        obtain ⟨rv, hrv⟩ : ∃ x, x = Value.slice (some ⟨rp, 0, none⟩) 256 256 := ⟨_, rfl⟩
        rw [← hrv] at hw2 o1 ⊢
        rw [← hw2, ← hp]
        have k2 : Below w1.heap.size w1 w2 := by rw [hw2]; exact (Below.refl _ _).alloc (Nat.le_refl _) _
        have kw2 : Below wz.heap.size wz w2 := k1.trans (k2.mono k1.size)
        have b2' : Blk w2 p 22 [rv] := by rw [hw2]; exact Blk.newAt _ _ _ _ _ hp rfl
        have d2 : IsB w2 rv M.zero256 := o1.isB.below k2
        have ld : Lies (fun b => wz.heap.size ≤ b ∧ b < w1.heap.size) rv := Own.lies o1 fun k h1 h2 => ⟨h1, h2⟩
        have r2 := own_chg rr.out.srow (Chg.of_below (F := fun _ => False) kw2) (fun _ _ h => h)
        rw [M.zdsk_len] at r2
        refine hK.out _ _ (.inr ((blk.below kw2 gl).cell 0)) ?_
        clear hK K hw2
        refine anyT_ready (rs := [7]) (by kernel_rfl) (by simp) ?_
        refine ReadyT.cons rfl (fun K hK => ?_) ReadyT.nil
        refine step_app_row rows_row rfl (.tmp 20) (.tmp 22) rfl 0 _ j _ rfl r2 ⟨p, 0, none⟩ 1 1 [rv] rfl rfl ?cc ?c1 (by have := HJ.out; unfold maxLen; omega) (by have := HJ.out; omega) (Nat.zero_le _) ?_
        case cc => exact fun j u hj => by rw [Addr.add_lit, Nat.zero_add, b2'.cell]; exact hj
        case c1 => intro u hu; simp only [List.mem_cons, List.not_mem_nil, or_false] at hu; rw [hu, hrv]; rfl
        intro wv0 w4 o4 g4 a4
        obtain ⟨wa', wc', rfl⟩ := ownShape o4
        have hrow : ∀ b, (Value.slice sa j sc).ownBlock = some b → T b ∧ b ≠ g := fun b hb => rr.out.ts b hb
        have B4 : Blk w4 g 45 [.slice sa j sc, .slice none 0 0, .int .i64 ((M.zdsk j).left : Int), .bool (M.zdsk j).down] := (blk.below kw2 gl).grown g4 fun e => (hrow g e.symm).2 rfl
        refine hK.out _ _ (.inr (B4.cell 0)) ?_
        clear hK K
        refine anyT_free_at (i := 8) (v := .pointer (some ⟨g, 0, none⟩)) rfl rfl (by kernel_rfl) (by kernel_rfl) (by kernel_rfl) (by kernel_rfl) (fun _ _ _ h => h) (Or.inl ⟨by rfl, fun w _ => by go_simp⟩) ?_
        simp only [List.setIfInBounds_toArray, List.set_cons_zero, List.set_cons_succ]
        refine anyT_free_at (i := 9) (v := .pointer (some ⟨g, 0, none⟩)) rfl rfl (by kernel_rfl) (by kernel_rfl) (by kernel_rfl) (by kernel_rfl) (fun _ _ _ h => h) (Or.inl ⟨by rfl, fun w _ => by go_simp⟩) ?_
        simp only [List.setIfInBounds_toArray, List.set_cons_zero, List.set_cons_succ]
        refine anyT_ready (rs := [10]) (by kernel_rfl) (by simp) ?_
        refine ReadyT.cons rfl (fun K hK => ?_) ReadyT.nil
        have c4 := B4.cell 0
        have f4 := B4.frozen 0
        go_simp
        obtain ⟨sv', hsv'⟩ : ∃ x, x = Value.slice wa' (j + 1) wc' := ⟨_, rfl⟩
        rw [← hsv'] at o4 a4 ⊢
        have hth := rr.out.there
        have hbn : ∀ b, sv'.ownBlock = some b → (T b ∧ b ≠ g) ∨ (w1.heap.size ≤ b ∧ b < w4.heap.size) := fun b hb => by
          rcases a4 with a4 | a4
          · exact .inl (hrow b (a4 ▸ hb))
          · rw [a4] at hb
            injection hb with hb
            have h1 := (o4.lt b (by rw [a4, hb])).2
            have h2 := k2.size
            exact .inr ⟨by omega, h1⟩
        obtain ⟨w5, hw5⟩ : ∃ x, x = w4.setCell ⟨g, 0, none⟩ sv' := ⟨_, rfl⟩
        rw [← hw5]
        have kc : Chg (fun b => b = g) w4 w5 := by rw [hw5]; exact (Chg.refl _ w4).cell 0 sv'
        have B5 : Blk w5 g 45 [sv', .slice none 0 0, .int .i64 ((M.zdsk j).left : Int), .bool (M.zdsk j).down] := by rw [hw5]; exact B4.set_ 0 sv'
        have kA : Chg (fun b => b = g ∨ (Value.slice sa j sc).ownBlock = some b) wz w5 := by
          have e1 : Chg (fun b => b = g ∨ (Value.slice sa j sc).ownBlock = some b) wz w2 := Chg.of_below kw2
          have e2 : Chg (fun b => b = g ∨ (Value.slice sa j sc).ownBlock = some b) w2 w4 := Chg.of_grown g4 fun k hk => .inr hk
          exact (e1.trans e2 fun _ _ h => h).trans kc fun _ _ h => .inl h
        have o5 : w5.ownsRow 0 22 1 sv' (j + 1) (rows ++ [rv]) := own_chg o4 kc fun b hb e => by
          rcases hbn b hb with h | h
          · exact h.2 e
          · have := k1.size
            omega
        have d5 : IsB w5 rv M.zero256 := (d2.chg (Chg.of_grown (F := fun b => (Value.slice sa j sc).ownBlock = some b) g4 fun k hk => hk) (ld.mono fun b hb e => by have := hth b (hrow b e).1; omega)).chg kc (ld.mono fun b hb e => by omega)
        have l5 : Lies (fun b => wz.heap.size ≤ b ∧ b < w5.heap.size ∧ sv'.ownBlock ≠ some b) rv := ld.mono fun b hb => ⟨hb.1, by have h1 := k2.size; have h2 := g4.size; have h3 := kc.size; omega, fun e => by
          rcases hbn b e with h | h
          · have := hth b h.1
            omega
          · omega⟩
        have R5 := rr.out.addRow (sv' := sv') (rv := rv) rfl (show M.zero256.length = 256 from List.length_replicate) (by rw [M.zdsk_len]; exact HJ.out.1) kA B5 (by rw [M.zdsk_len]; exact o5) d5 l5 (by
          rcases a4 with a4 | a4
          · exact .inl a4
          · have h1 := (o4.lt _ a4).2
            exact .inr ⟨_, a4, kw2.size, Nat.lt_of_lt_of_le h1 kc.size⟩)
        rw [M.zdsk_next] at R5
        have R6 := Lib.hid R5
        have T6 : Hid (∀ k, Grown T wz w5 k → w.heap.size ≤ k) := fun k h => by
          rcases h.1 with h | h
          · exact tt.out k h
          · exact Nat.le_trans kk.out.size h
        have K6 : Hid (Below w.heap.size w w5) := kk.out.trans (kA.below kk.out.size fun k e => by
          rcases e with e | e
          · exact e ▸ tt.out g rr.out.tg
          · exact tt.out k (hrow k e).1)
        refine hK.out _ _ (.inl (by simp)) ?_
        clear hK K
        refine anyT_done (by kernel_rfl) ?_ _
        have n3 : wrap64 ((j : Int) + 1) = ((j + 1 : Nat) : Int) := by have := HJ.out; unfold wrap64; omega
        have N3 := Lib.hid n3
        clear n3 hsv' hbn kc B5 kA o5 d5 l5 R5 B4 hrow c4 f4 b2' d2 ld r2 k2 kw2 o1 k1 hrv hp blk gl S0 o4 a4 g4 hth hw5 c1 rr tt kk h1 h2 b2
        have n3 := N3.out
        go_wp2
        go_roundw
        case rel => clear n3; exact ⟨j + 1, sv', _, _, by have := HJ.out.1; omega, by have := HJ.out.2; omega, by rw [N3.out], R6, T6, K6⟩
        case measure => clear n3; rw [N3.out]; have := HJ.out.1; simp only [intOf, Int.toNat_natCast]; omega
      · obtain rfl : j = 2176 := by omega
        have HD : Hid (M.dnew n.toNat = M.zdsk 2176) := by rw [Hid, M.dnew, show min n.toNat 2176 = 2176 by omega]; rfl
        clear hj hjn h2
        have h1' : (2176 : Int) < n := h1
        clear h1
        go_wp2
        go_ret
        exact ⟨g, sv, rows, T, rfl, by rw [HD.out]; exact rr.out, tt.out, kk.out⟩
    · have HD : Hid (M.dnew n.toNat = M.zdsk j) := by rw [Hid, M.dnew, show min n.toNat 2176 = j by omega]; rfl
      clear hj hjn
      go_wp2
      go_ret
      exact ⟨g, rfl, sv, rows, T, by rw [HD.out]; exact rr.out, tt.out, kk.out⟩

end Go.Proofs.Ythmamdlhgfkckaa
