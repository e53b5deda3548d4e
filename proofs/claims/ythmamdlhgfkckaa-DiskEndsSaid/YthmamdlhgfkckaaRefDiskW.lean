/-
  CONTRACTS OF THE REFERENCE'S Write. Conditions: the disk lies so; what is written lies out of it; fewer than a million writes wait.
-/
import Derived.Test.YthmamdlhgfkckaaRefDisk
import Derived.Test.YthmamdlhgfkckaaRowsKit
namespace Go.Proofs.Ythmamdlhgfkckaa
open Go.RowKit
set_option linter.unusedVariables false

theorem change_row : RowTy 43 66 2 32 (.agg #[.int .i64 0, .slice none 0 0]) := ⟨Try.underlying43, by kernel_rfl, rfl, by decide⟩

theorem M.Ok_push {m : M.Dsk} (h : m.Ok) {i : Nat} {bs : List UInt8} (hi : i < m.safe.length) (hl : bs.length = 256) : ({ m with wait := m.wait ++ [(i, bs)] } : M.Dsk).Ok :=
  ⟨h.few, h.full, fun c hc => by
    rcases List.mem_append.1 hc with hc | hc
    · exact h.wat c hc
    · simp only [List.mem_singleton] at hc
      subst hc
      exact ⟨hi, hl⟩⟩

/-- Blocks of T, and new ones. -/
def Grown (T : Nat → Prop) (w w' : World) (k : Nat) : Prop := (T k ∨ w.heap.size ≤ k) ∧ k < w'.heap.size

theorem getD_snoc {α : Type} (l : List α) (x d : α) (i : Nat) (h : i < l.length + 1) : (l ++ [x]).getD i d = if i < l.length then l.getD i d else x := by
  by_cases hi : i < l.length
  · rw [if_pos hi, List.getD_eq_getElem?_getD, List.getElem?_append_left hi, ← List.getD_eq_getElem?_getD]
  · obtain rfl : i = l.length := by omega
    rw [if_neg hi, List.getD_eq_getElem?_getD, List.getElem?_append_right (Nat.le_refl _), Nat.sub_self]
    rfl

theorem RefAt.push {T : Nat → Prop} {w w' : World} {g : Nat} {sv wv wv' dv : Value} {rows dvs : List Value} {m : M.Dsk} (h : RefAt T w g sv wv rows dvs m) {i : Nat} {bs : List UInt8} (hi : i < m.safe.length) (hl : bs.length = 256)
    (k : Chg (fun b => b = g ∨ wv.ownBlock = some b) w w') (hb : Blk w' g 45 [sv, wv', .int .i64 (m.left : Int), .bool m.down])
    (ho : w'.ownsRow 0 66 2 wv' (m.wait.length + 1) (chgs m.wait dvs ++ [.int .i64 (i : Int), dv])) (hd : IsB w' dv bs)
    (hlie : Lies (fun b => w.heap.size ≤ b ∧ b < w'.heap.size ∧ wv'.ownBlock ≠ some b) dv) (hat : wv'.ownBlock = wv.ownBlock ∨ ∃ b, wv'.ownBlock = some b ∧ w.heap.size ≤ b ∧ b < w'.heap.size) :
    RefAt (Grown T w w') w' g sv wv' rows (dvs ++ [dv]) { m with wait := m.wait ++ [(i, bs)] } where
  blk := hb
  srow := own_chg h.srow k fun b hb => fun e => by
    rcases e with e | e
    · exact (h.ts b hb).2 e
    · exact (h.tw b e).2.2 hb
  wrow := by
    rw [chgs_append _ _ _ _ h.dlen]
    simpa using ho
  dlen := by simp [h.dlen]
  rows_ := fun j hj => ⟨(h.rows_ j hj).1.chg k ((h.rows_ j hj).2.mono fun b hb e => by
      rcases e with e | e
      · exact hb.2.1 e
      · exact hb.2.2.2 e), (h.rows_ j hj).2.mono fun b hb => ⟨⟨.inl hb.1, Nat.lt_of_lt_of_le (h.there b hb.1) k.size⟩, hb.2.1, hb.2.2.1, fun e => by
      rcases hat with hat | ⟨b', e', h1, h2⟩
      · exact hb.2.2.2 (hat ▸ e)
      · rw [e'] at e
        injection e with e
        have := h.there b hb.1
        omega⟩⟩
  dvs_ := fun j hj => by
    have hj' : j < m.wait.length + 1 := by simpa using hj
    rw [getD_snoc _ _ _ _ (by rw [h.dlen]; exact hj'), getD_snoc _ _ _ _ hj', h.dlen]
    by_cases hlt : j < m.wait.length
    · rw [if_pos hlt, if_pos hlt]
      refine ⟨(h.dvs_ j hlt).1.chg k ((h.dvs_ j hlt).2.mono fun b hb e => ?_), (h.dvs_ j hlt).2.mono fun b hb => ⟨⟨.inl hb.1, Nat.lt_of_lt_of_le (h.there b hb.1) k.size⟩, hb.2.1, hb.2.2.1, fun e => ?_⟩⟩
      · rcases e with e | e
        · exact hb.2.1 e
        · exact hb.2.2.2 e
      · rcases hat with hat | ⟨b', e', h1, h2⟩
        · exact hb.2.2.2 (hat ▸ e)
        · rw [e'] at e
          injection e with e
          have := h.there b hb.1
          omega
    · rw [if_neg hlt, if_neg hlt]
      refine ⟨hd, hlie.mono fun b hb => ⟨⟨.inr hb.1, hb.2.1⟩, fun e => ?_, fun e => ?_, hb.2.2⟩⟩
      · have := h.there g h.tg
        omega
      · have := h.there b (h.ts b e).1
        omega
  tg := ⟨.inl h.tg, Nat.lt_of_lt_of_le (h.there g h.tg) k.size⟩
  ts := fun b hb => ⟨⟨.inl (h.ts b hb).1, Nat.lt_of_lt_of_le (h.there b (h.ts b hb).1) k.size⟩, (h.ts b hb).2⟩
  tw := fun b hb => by
    rcases hat with hat | ⟨b', e', h1, h2⟩
    · rw [hat] at hb
      have := h.tw b hb
      exact ⟨⟨.inl this.1, Nat.lt_of_lt_of_le (h.there b this.1) k.size⟩, this.2⟩
    · rw [e'] at hb
      injection hb with hb
      subst hb
      refine ⟨⟨.inr h1, h2⟩, fun e => ?_, fun e => ?_⟩
      · have := h.there g h.tg
        omega
      · have := h.there b' (h.ts b' e).1
        omega
  there := fun b hb => hb.2
  left_ := h.left_
  ok := M.Ok_push h.ok hi hl

theorem ownShape {w : World} {B n size : Nat} {e : TypeId} {v : Value} {xs : List Value} (h : w.ownsRow B e size v n xs) : ∃ ao cap, v = .slice ao n cap := by
  rcases h.2 with ⟨rfl, rfl⟩ | ⟨g, cap, cur, rfl, _⟩
  · exact ⟨none, 0, rfl⟩
  · exact ⟨_, cap, rfl⟩

set_option maxHeartbeats 4000000 in
theorem rwrite_ok {T : Nat → Prop} {w : World} {g : Nat} {sv wv : Value} {rows dvs : List Value} {m : M.Dsk} (h : RefAt T w g sv wv rows dvs m) (i : Nat) (hi : i < m.safe.length) (bv : Value) (bs : List UInt8) (hbv : IsB w bv bs) (hl : bs.length = 256) (hlb : Lies (fun b => ¬ T b) bv) (hd : m.down = false) (hfew : m.wait.length < 1000000) :
    Calls Try.prog 14 #[.pointer (some ⟨g, 0, none⟩), .int .i64 (i : Int), bv] w fun e w' =>
      e = .returned (.int .i64 (if (({ m with wait := m.wait ++ [(i, bs)] } : M.Dsk).goes).2 then 11 else 0)) ∧ Chg T w w' ∧ ∃ wv' dvs' T', RefAt T' w' g sv wv' rows dvs' (m.write i bs) ∧ ∀ k, T' k → T k ∨ w.heap.size ≤ k := by
  have H := Lib.hid h
  have HBV := Lib.hid hbv
  have HLB := Lib.hid hlb
  have HL := Lib.hid hl
  have HI := Lib.hid hi
  have HF := Lib.hid hfew
  have c0 : w.cell? ⟨g, 0, none⟩ = some sv := h.blk.cell 0
  have c1 : w.cell? ⟨g, 1, none⟩ = some wv := h.blk.cell 1
  have c3 : w.cell? ⟨g, 3, none⟩ = some (.bool false) := by rw [← hd]; exact h.blk.cell 3
  have hf : m.safe.length ≤ 2176 := h.ok.few
  obtain ⟨n, hn⟩ : ∃ n, n = m.safe.length := ⟨_, rfl⟩
  obtain ⟨q, hq⟩ : ∃ q, q = m.wait.length := ⟨_, rfl⟩
  obtain ⟨sa, sc, es⟩ := ownShape h.srow
  obtain ⟨wa, wc, ew⟩ := ownShape h.wrow
  obtain ⟨ba, bc, eb⟩ := hbv.shape
  rw [← hn] at es hf hi
  rw [← hq] at ew
  rw [hl] at eb
  subst es ew eb
  have t1 : ¬ (i : Int) < 0 := by omega
  have t2 : ¬ ((n : Int) ≤ (i : Int)) := by omega
  have t2' : (i : Int) < (n : Int) := by omega
  have i1 : -9223372036854775808 ≤ (i : Int) ∧ (i : Int) < 9223372036854775808 := by omega
  have HN : Hid (n = m.safe.length) := hn
  have HQ : Hid (q = m.wait.length) := hq
  obtain ⟨mw, hmw⟩ : ∃ x, Hid (x = ({ m with wait := m.wait ++ [(i, bs)] } : M.Dsk)) := ⟨_, rfl⟩
  have MW : Hid (m.write i bs = mw.goes.1) := by rw [Hid, hmw.out]; rfl
  rw [MW.out, ← hmw.out]
  obtain ⟨c, hc⟩ : ∃ c : Int, Hid ((if mw.goes.2 = true then 11 else 0) = c) := ⟨_, rfl⟩
  rw [hc.out]
  clear h hbv hlb hl hfew hd hn hq hf hi
  go_enter Try.func14, Try.ntmps14
  go_upto_region 5 with fail
  refine region_T (fun w' => w'.cell? ⟨g, 1, none⟩ = some (.slice wa q wc)) [12, 13, 14] (by kernel_rfl) ?_
  have S0 : w.drew.cell? ⟨g, 1, none⟩ = some (.slice wa q wc) := c1
  refine anyT_take_at (i := 0) (v := .pointer (some ⟨g, 0, none⟩)) rfl rfl (by kernel_rfl) (by kernel_rfl) (by kernel_rfl) (by kernel_rfl) (fun _ _ _ h => h) (Or.inl ⟨by rfl, fun w hS => by have c : w.cell? ⟨g, 1, none⟩ = some (.slice wa q wc) := hS; go_simp⟩) S0 ?_
  simp only [List.setIfInBounds_toArray, List.set_cons_zero, List.set_cons_succ]
  refine anyT_take_at (i := 1) (v := .pointer (some ⟨g, 0, none⟩)) rfl rfl (by kernel_rfl) (by kernel_rfl) (by kernel_rfl) (by kernel_rfl) (fun _ _ _ h => h) (Or.inl ⟨by rfl, fun w hS => by have c : w.cell? ⟨g, 1, none⟩ = some (.slice wa q wc) := hS; go_simp⟩) S0 ?_
  simp only [List.setIfInBounds_toArray, List.set_cons_zero, List.set_cons_succ]
  refine anyT_take_at (i := 2) (v := .pointer (some ⟨g, 0, none⟩)) rfl rfl (by kernel_rfl) (by kernel_rfl) (by kernel_rfl) (by kernel_rfl) (fun _ _ _ h => h) (Or.inl ⟨by rfl, fun w hS => by have c : w.cell? ⟨g, 1, none⟩ = some (.slice wa q wc) := hS; go_simp⟩) S0 ?_
  simp only [List.setIfInBounds_toArray, List.set_cons_zero, List.set_cons_succ]
  refine anyT_take_at (i := 3) (v := .pointer (some ⟨g, 1, none⟩)) rfl rfl (by kernel_rfl) (by kernel_rfl) (by kernel_rfl) (by kernel_rfl) (fun _ _ _ h => h) (Or.inl ⟨by rfl, fun w hS => by have c : w.cell? ⟨g, 1, none⟩ = some (.slice wa q wc) := hS; go_simp⟩) S0 ?_
  simp only [List.setIfInBounds_toArray, List.set_cons_zero, List.set_cons_succ]
  refine anyT_take_at (i := 4) (v := .slice wa q wc) rfl rfl (by kernel_rfl) (by kernel_rfl) (by kernel_rfl) (by kernel_rfl) (fun _ _ _ h => h) (Or.inl ⟨by rfl, fun w hS => by have c : w.cell? ⟨g, 1, none⟩ = some (.slice wa q wc) := hS; go_simp⟩) S0 ?_
  simp only [List.setIfInBounds_toArray, List.set_cons_zero, List.set_cons_succ]
  refine anyT_take_at (i := 5) (v := .int .i64 (i : Int)) rfl rfl (by kernel_rfl) (by kernel_rfl) (by kernel_rfl) (by kernel_rfl) (fun _ _ _ h => h) (Or.inl ⟨by rfl, fun w hS => by have c : w.cell? ⟨g, 1, none⟩ = some (.slice wa q wc) := hS; go_simp⟩) S0 ?_
  simp only [List.setIfInBounds_toArray, List.set_cons_zero, List.set_cons_succ]
  refine anyT_take_at (i := 7) (v := .slice ba 256 bc) rfl rfl (by kernel_rfl) (by kernel_rfl) (by kernel_rfl) (by kernel_rfl) (fun _ _ _ h => h) (Or.inl ⟨by rfl, fun w hS => by have c : w.cell? ⟨g, 1, none⟩ = some (.slice wa q wc) := hS; go_simp⟩) S0 ?_
  simp only [List.setIfInBounds_toArray, List.set_cons_zero, List.set_cons_succ]
  refine anyT_ready (rs := [6]) (by kernel_rfl) (by simp) ?_
  refine ReadyT.cons rfl (fun K hK => ?_) ReadyT.nil
  go_simp
  obtain ⟨w1, hw1⟩ : ∃ x, x = (w.alloc (.cells #[] 5)).drew := ⟨_, rfl⟩
  rw [← hw1]
  have k1 : Below w.heap.size w w1 := by rw [hw1]; exact drewN_below ((Below.refl _ w).alloc (Nat.le_refl _) _) 1
  have o1 : Own w1 w.heap.size (.slice (some ⟨w.heap.size, 0, none⟩) 0 0) [] := by rw [hw1]; exact own_empty w
  have blk := H.out.blk
  have gl := blk.lt
  refine hK.out _ _ (.inr ((blk.below k1 gl).cell 1)) ?_
  clear hK K hw1
  refine anyT_ready (rs := [8]) (by kernel_rfl) (by simp) ?_
  refine ReadyT.cons rfl (fun K hK => ?_) ReadyT.nil
  refine step_clone rfl (.tmp 33) (.tmp 34) rfl w.heap.size _ rfl o1 (.slice ba 256 bc) bs rfl (HBV.out.below k1) (by intro e; have := HL.out; rw [e] at this; cases this) (by have := HL.out; omega) k1.size ?_
  intro dv w2 od k2
  have kw2 : Below w.heap.size w w2 := k1.trans k2
  obtain ⟨da, dc, rfl⟩ := ownShape od
  rw [HL.out] at od ⊢
  refine hK.out _ _ (.inr ((blk.below kw2 gl).cell 1)) ?_
  clear hK K
  refine anyT_take_at (i := 9) (v := .agg #[.int .i64 (i : Int), .slice da 256 dc]) rfl rfl (by kernel_rfl) (by kernel_rfl) (by kernel_rfl) (by kernel_rfl) (fun _ _ _ h => h) (Or.inl ⟨by rfl, fun w hS => by go_simp⟩) ((blk.below kw2 gl).cell 1) ?_
  simp only [List.setIfInBounds_toArray, List.set_cons_zero, List.set_cons_succ]
  refine anyT_ready (rs := [10]) (by kernel_rfl) (by simp) ?_
  refine ReadyT.cons rfl (fun K hK => ?_) ReadyT.nil
  go_simp
  obtain ⟨dv, hdv⟩ : ∃ x, x = Value.slice da 256 dc := ⟨_, rfl⟩
  rw [← hdv] at od ⊢
  obtain ⟨w3, hw3⟩ : ∃ x, x = w2.alloc (.cells #[.int .i64 (i : Int), dv] 66) := ⟨_, rfl⟩
  obtain ⟨p, hp⟩ : ∃ x, x = w2.heap.size := ⟨_, rfl⟩
  rw [← hw3, ← hp]
  have k3 : Below w2.heap.size w2 w3 := by rw [hw3]; exact (Below.refl _ _).alloc (Nat.le_refl _) _
  have kw3 : Below w.heap.size w w3 := kw2.trans (k3.mono kw2.size)
  have b3 : Blk w3 p 66 [.int .i64 (i : Int), dv] := by rw [hw3]; exact Blk.newAt _ _ _ _ _ hp rfl
  have d3 : IsB w3 dv bs := (od.isB).below k3
  have ld : Lies (fun b => w.heap.size ≤ b ∧ b < w2.heap.size) dv := Own.lies od fun k h1 h2 => ⟨h1, h2⟩
  have r3 := own_chg H.out.wrow (Chg.of_below (F := fun _ => False) kw3) (fun _ _ h => h)
  rw [← HQ.out] at r3
  refine hK.out _ _ (.inr ((blk.below kw3 gl).cell 1)) ?_
  clear hK K hw3 o1 k1 k2
  refine anyT_ready (rs := [11]) (by kernel_rfl) (by simp) ?_
  refine ReadyT.cons rfl (fun K hK => ?_) ReadyT.nil
  refine step_app_row change_row rfl (.tmp 31) (.tmp 37) rfl 0 _ q _ rfl r3 ⟨p, 0, none⟩ 1 1 [.int .i64 (i : Int), dv] rfl rfl ?cc ?c1 (by have := HF.out; rw [← HQ.out] at this; unfold maxLen; omega) (by have := HF.out; rw [← HQ.out] at this; omega) (Nat.zero_le _) ?_
  case cc => exact fun j u hj => by rw [Addr.add_lit, Nat.zero_add, b3.cell]; exact hj
  case c1 => intro u hu; simp only [List.mem_cons, List.not_mem_nil, or_false] at hu; rcases hu with rfl | rfl; rfl; rw [hdv]; rfl
  intro wv0 w4 o4 g4 a4
  obtain ⟨wa', wc', rfl⟩ := ownShape o4
  have hrow : ∀ b, (Value.slice wa q wc).ownBlock = some b → T b ∧ b ≠ g := fun b hb => ⟨(H.out.tw b hb).1, (H.out.tw b hb).2.1⟩
  have B4 : Blk w4 g 45 [.slice sa n sc, .slice wa q wc, .int .i64 (m.left : Int), .bool m.down] := (blk.below kw3 gl).grown g4 fun e => (hrow g e.symm).2 rfl
  refine hK.out _ _ (.inr (B4.cell 1)) ?_
  clear hK K
  refine anyT_free_at (i := 12) (v := .pointer (some ⟨g, 0, none⟩)) rfl rfl (by kernel_rfl) (by kernel_rfl) (by kernel_rfl) (by kernel_rfl) (fun _ _ _ h => h) (Or.inl ⟨by rfl, fun w _ => by go_simp⟩) ?_
  simp only [List.setIfInBounds_toArray, List.set_cons_zero, List.set_cons_succ]
  refine anyT_free_at (i := 13) (v := .pointer (some ⟨g, 1, none⟩)) rfl rfl (by kernel_rfl) (by kernel_rfl) (by kernel_rfl) (by kernel_rfl) (fun _ _ _ h => h) (Or.inl ⟨by rfl, fun w _ => by go_simp⟩) ?_
  simp only [List.setIfInBounds_toArray, List.set_cons_zero, List.set_cons_succ]
  refine anyT_ready (rs := [14]) (by kernel_rfl) (by simp) ?_
  refine ReadyT.cons rfl (fun K hK => ?_) ReadyT.nil
  have c4 := B4.cell 1
  have f4 := B4.frozen 1
  go_simp
  obtain ⟨wv', hwv'⟩ : ∃ x, x = Value.slice wa' (q + 1) wc' := ⟨_, rfl⟩
  rw [← hwv'] at o4 a4 ⊢
  have hbn : ∀ b, wv'.ownBlock = some b → (T b ∧ b ≠ g) ∨ (w2.heap.size ≤ b ∧ b < w4.heap.size) := fun b hb => by
    rcases a4 with a4 | a4
    · exact .inl (hrow b (a4 ▸ hb))
    · rw [a4] at hb
      injection hb with hb
      have h1 := (o4.lt b (by rw [a4, hb])).2
      have h2 := k3.size
      exact .inr ⟨by omega, h1⟩
  obtain ⟨w5, hw5⟩ : ∃ x, x = w4.setCell ⟨g, 1, none⟩ wv' := ⟨_, rfl⟩
  rw [← hw5]
  have kc : Chg (fun b => b = g) w4 w5 := by rw [hw5]; exact (Chg.refl _ w4).cell 1 wv'
  have B5 : Blk w5 g 45 [.slice sa n sc, wv', .int .i64 (m.left : Int), .bool m.down] := by rw [hw5]; exact B4.set_ 1 wv'
  have hth := H.out.there
  have kA : Chg (fun b => b = g ∨ (Value.slice wa q wc).ownBlock = some b) w w5 := by
    have e1 : Chg (fun b => b = g ∨ (Value.slice wa q wc).ownBlock = some b) w w3 := Chg.of_below kw3
    have e2 : Chg (fun b => b = g ∨ (Value.slice wa q wc).ownBlock = some b) w3 w4 := Chg.of_grown g4 fun k hk => .inr hk
    exact (e1.trans e2 fun _ _ h => h).trans kc fun _ _ h => .inl h
  have o5 : w5.ownsRow 0 66 2 wv' (q + 1) (chgs m.wait dvs ++ [.int .i64 (i : Int), dv]) := own_chg o4 kc fun b hb e => by
    rcases hbn b hb with h | h
    · exact h.2 e
    · have := kw2.size
      omega
  have d5 : IsB w5 dv bs := (d3.chg (Chg.of_grown (F := fun b => (Value.slice wa q wc).ownBlock = some b) g4 fun k hk => hk) (ld.mono fun b hb e => by have := hth b (hrow b e).1; omega)).chg kc (ld.mono fun b hb e => by omega)
  have l5 : Lies (fun b => w.heap.size ≤ b ∧ b < w5.heap.size ∧ wv'.ownBlock ≠ some b) dv := ld.mono fun b hb => ⟨hb.1, by have h1 := k3.size; have h2 := g4.size; have h3 := kc.size; omega, fun e => by
    rcases hbn b e with h | h
    · have := hth b h.1
      omega
    · omega⟩
  have R5 := Lib.hid (H.out.push (i := i) (bs := bs) (wv' := wv') (dv := dv) (by rw [← HN.out]; omega) HL.out (HQ.out ▸ kA) B5 (by rw [← HQ.out]; exact o5) d5 l5 (by
    rcases a4 with a4 | a4
    · exact .inl a4
    · have h1 := (o4.lt _ a4).2
      exact .inr ⟨_, a4, kw3.size, Nat.lt_of_lt_of_le h1 kc.size⟩))
  have KA : Hid (Chg T w w5) := kA.mono fun k hk e => by
    rcases e with e | e
    · exact e ▸ H.out.tg
    · exact (hrow k e).1
  refine hK.out _ _ (.inl (by simp)) ?_
  clear hK K
  refine anyT_done (by kernel_rfl) ?_ _
  rw [← hmw.out] at R5
  have KT : Hid (∀ k, Grown T w w5 k → T k ∨ w.heap.size ≤ k) := fun k h => h.1
  have TG := Lib.hid R5.out.tg
  have KG : Hid (∀ k, k < w.heap.size → k = g → T k) := fun k _ e => e ▸ H.out.tg
  clear hmw hw5 hwv' o4 a4 g4 hbn kc B5 hth kA o5 d5 l5 B4 hrow c4 f4 b3 d3 ld r3 k3 kw3 kw2 od hdv hp blk gl S0 H HBV HLB HL HI HF HN HQ c0 c1 c3 t1 t2 t2' i1
  go_wp2_with fail
  refine (rgoes_any R5.out).mono ?_
  rintro e w6 ⟨rfl, r6, k6⟩
  have R6 := Lib.hid r6
  have K6 : Hid (Chg T w w6) := KA.out.trans k6 KG.out
  clear r6 k6
  by_cases hg : mw.goes.2 = true
  · have HG : Hid (c = 11) := by rw [Hid, ← hc.out, if_pos hg]
    rw [hg]
    clear hg hc
    go_wp2
    go_ret
    exact ⟨by rw [HG.out]; rfl, K6.out, _, _, _, R6.out, KT.out⟩
  · have HG : Hid (c = 0) := by rw [Hid, ← hc.out, if_neg hg]
    rw [Bool.not_eq_true] at hg
    rw [hg]
    clear hg hc
    go_wp2
    go_ret
    exact ⟨by rw [HG.out]; rfl, K6.out, _, _, _, R6.out, KT.out⟩

end Go.Proofs.Ythmamdlhgfkckaa
