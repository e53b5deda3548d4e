/-
  CONTRACT OF THE REFERENCE'S Tamper. Conditions: the disk lies so; the bytes lie out of it, fewer than 2^40.
-/
import Derived.Test.YthmamdlhgfkckaaRefDiskR
namespace Go.Proofs.Ythmamdlhgfkckaa
open Go.RowKit
set_option linter.unusedVariables false

theorem M.turns_length (s : List (List UInt8)) (at_ : Int) (b : List UInt8) (j : Nat) : (M.turns s at_ b j).length = s.length := by
  induction j with
  | zero => rfl
  | succ j ih =>
    rw [M.turns]
    split
    · rw [M.turned1, List.length_set, ih]
    · exact ih

/-- It may be said to have more blocks. -/
theorem RefAt.wider {T T' : Nat → Prop} {w : World} {g : Nat} {sv wv : Value} {rows dvs : List Value} {m : M.Dsk} (h : RefAt T w g sv wv rows dvs m) (hT : ∀ k, T k → T' k) (hth : ∀ k, T' k → k < w.heap.size) : RefAt T' w g sv wv rows dvs m where
  blk := h.blk
  srow := h.srow
  wrow := h.wrow
  dlen := h.dlen
  rows_ := fun i hi => ⟨(h.rows_ i hi).1, (h.rows_ i hi).2.mono fun b hb => ⟨hT b hb.1, hb.2⟩⟩
  dvs_ := fun i hi => ⟨(h.dvs_ i hi).1, (h.dvs_ i hi).2.mono fun b hb => ⟨hT b hb.1, hb.2⟩⟩
  tg := hT _ h.tg
  ts := fun k hk => ⟨hT k (h.ts k hk).1, (h.ts k hk).2⟩
  tw := fun k hk => ⟨hT k (h.tw k hk).1, (h.tw k hk).2⟩
  there := hth
  left_ := h.left_
  ok := h.ok

theorem bc_set8 (bs : List UInt8) (i : Nat) (u : UInt8) : (Lib.byteCells bs).set i (.int .u8 (u.toNat : Int)) = Lib.byteCells (bs.set i u) := by
  simp [Lib.byteCells, List.map_set]


set_option maxRecDepth 100000 in
set_option maxHeartbeats 8000000 in
theorem rtamper_any {T : Nat → Prop} {w : World} {g : Nat} {sv wv : Value} {rows dvs : List Value} {m : M.Dsk} (h : RefAt T w g sv wv rows dvs m) (at_ : Int) (hat : -9223372036854775808 ≤ at_ ∧ at_ < 9223372036854775808) (bv : Value) (bs : List UInt8) (hb : IsB w bv bs) (hbl : bs ≠ [] → Lies (fun b => ¬ T b) bv) (hlen : bs.length < 1099511627776) :
    Calls Try.prog 22 #[.pointer (some ⟨g, 0, none⟩), .int .i64 at_, bv] w fun e w' => e = .returned (.tuple #[]) ∧ Chg T w w' ∧ ∃ rows' T', RefAt T' w' g sv wv rows' dvs (m.tamper at_ bs) ∧ ∀ k, T' k → T k ∨ w.heap.size ≤ k := by
  have R0 := Lib.hid h
  have c0 : w.cell? ⟨g, 0, none⟩ = some sv := h.blk.cell 0
  obtain ⟨n, hn⟩ : ∃ n, n = m.safe.length := ⟨_, rfl⟩
  obtain ⟨l, hl⟩ : ∃ l, l = bs.length := ⟨_, rfl⟩
  obtain ⟨sa, sc, es⟩ := ownShape h.srow
  rw [← hn] at es
  subst es
  have hf : n ≤ 2176 := by rw [hn]; exact h.ok.few
  have HF : Hid (n ≤ 2176) := hf
  have HN : Hid (n = m.safe.length) := hn
  have HL : Hid (l = bs.length) := hl
  have HLE : Hid (l < 1099511627776) := by rw [Hid, hl]; exact hlen
  obtain ⟨ba, bc, eb, _, _, hat2⟩ := hb
  rw [← hl] at eb
  subst eb
  have HC : Hid (∀ W, Chg T w W → ∀ i, i < l → ∃ b off, ba = some ⟨b, off, none⟩ ∧ W.cell? ⟨b, off + i, none⟩ = some (.int .u8 ((bs.getD i 0).toNat : Int))) := by
    intro W kW i hi
    rcases hat2 with h0 | ⟨b, off, rfl, hc⟩
    · rw [hl, h0] at hi
      exact absurd hi (Nat.not_lt_zero _)
    · refine ⟨b, off, rfl, ?_⟩
      have hcc := hc i (by omega)
      rw [World.cell?_of_block (kW.block b (World.block_lt_of_cell? w _ hcc) (hbl (fun e => by rw [e] at hl; simp at hl; omega) _ _ _ rfl)), hcc]
  have HT : Hid (m.tamper at_ bs = { m with safe := M.turns m.safe at_ bs l }) := by rw [Hid, M.Dsk.tamper, hl]
  rw [HT.out]
  have HTH := Lib.hid h.there
  have HAT := Lib.hid hat
  obtain ⟨N, hN⟩ : ∃ N, N = 256 * n := ⟨_, rfl⟩
  have HNN : Hid (N = 256 * n) := hN
  have t1 : wrap64 (256 * (n : Int)) = (N : Int) := by unfold wrap64; omega
  clear h hn hl hf hlen hat2 hbl HT hN hat
  go_enter Try.func22, Try.ntmps22
  go_wp2
  go_loopw [7] (fun k wr => ∃ (j : Nat) (rows : List Value) (T' : Nat → Prop), j ≤ l ∧ k = .int .i64 (j : Int) ∧ Hid (RefAt T' wr g (.slice sa n sc) wv rows dvs { m with safe := M.turns m.safe at_ bs j }) ∧ Hid (Chg T w wr) ∧ Hid (∀ k, T' k → T k ∨ w.heap.size ≤ k))
    (fun k _ => l - (intOf k).toNat)
  case atStart => exact ⟨0, rows, T, by omega, rfl, R0, Chg.refl _ _, fun k h => .inl h⟩
  case round =>
    clear c0 R0
    obtain ⟨wz, rfl⟩ : ∃ x, x = wr := ⟨_, rfl⟩
    obtain ⟨j, rows, T', hj, rfl, rr, kk, tt⟩ := hrel
    by_cases hlt : j < l
    · have n3 : wrap64 ((j : Int) + 1) = ((j + 1 : Nat) : Int) := by have := HLE.out; unfold wrap64; omega
      have HJ : Hid (j < l) := hlt
      have b1 : (j : Int) < (l : Int) := by omega
      have b3 : (0 : Int) ≤ (j : Int) := by omega
      have n1 : ((j : Int)).toNat = j := by omega
      have n4 : wrap64 (-(j : Int)) = -(j : Int) := by have := HLE.out; unfold wrap64; omega
      by_cases hin : 0 ≤ at_ + (j : Int) ∧ at_ + (j : Int) < (N : Int)
      · obtain ⟨p, hp⟩ : ∃ p : Nat, at_ + (j : Int) = (p : Int) := ⟨(at_ + (j : Int)).toNat, by omega⟩
        have hpN : p < N := by omega
        obtain ⟨pq, hpq⟩ : ∃ v, v = p / 256 := ⟨_, rfl⟩
        obtain ⟨pr, hpr⟩ : ∃ v, v = p % 256 := ⟨_, rfl⟩
        have hpqn : pq < n := by have := HNN.out; omega
        have hpr256 : pr < 256 := by omega
        obtain ⟨s, hs⟩ : ∃ s, s = M.turns m.safe at_ bs j := ⟨_, rfl⟩
        have hsl : s.length = n := by rw [hs, M.turns_length, ← HN.out]
        have HK : Hid (M.turns m.safe at_ bs (j + 1) = s.set pq ((s.getD pq []).set pr (bs.getD j 0))) := by
          rw [Hid, M.turns, if_pos ⟨hin.1, by rw [← HN.out]; have := hin.2; have := HNN.out; omega⟩, M.turned1, ← hs, hp, Int.toNat_natCast, ← hpq, ← hpr]
        rw [← hs] at rr
        have HP := Lib.hid hp
        have q1 : (p : Int).tdiv 256 = (pq : Int) := by rw [Int.tdiv_eq_ediv_of_nonneg (by omega)]; omega
        have q1' : (p : Int) / 256 = (pq : Int) := by omega
        have q2 : (p : Int).tmod 256 = (pr : Int) := by rw [Int.tmod_eq_emod_of_nonneg (by omega)]; omega
        have q2' : (p : Int) % 256 = (pr : Int) := by omega
        have g3 : ¬ (N : Int) ≤ at_ := by omega
        have g4 : ¬ (N : Int) ≤ (p : Int) := by omega
        obtain ⟨sb, rfl, hsc, cs, fs⟩ := ownCells (by have := rr.out.srow; rwa [show ({ m with safe := s } : M.Dsk).safe.length = n from hsl] at this) (by omega)
        have hrl : rows.length = n := by rw [rr.out.rlen]; exact hsl
        have c0 : wz.cell? ⟨g, 0, none⟩ = some (.slice (some ⟨sb, 0, none⟩) n sc) := rr.out.blk.cell 0
        have s0 : wz.cell? ⟨sb, pq, none⟩ = some (rows.getD pq undef) := by rw [cs _ (by omega), List.getD_eq_getElem?_getD, List.getElem?_eq_getElem (by omega)]; rfl
        have s1 := fs pq
        obtain ⟨rv, hrv⟩ : ∃ rv, rv = rows.getD pq undef := ⟨_, rfl⟩
        have rb := (rr.out.rows_ pq (by rw [hsl]; exact hpqn)).1
        obtain ⟨x, hx⟩ : ∃ x, x = s.getD pq [] := ⟨_, rfl⟩
        have hx256 : x.length = 256 := by rw [hx, List.getD_eq_getElem?_getD, List.getElem?_eq_getElem (by omega)]; exact rr.out.ok.full _ (List.getElem_mem _)
        rw [← hrv] at s0
        rw [← hrv, show ({ m with safe := s } : M.Dsk).safe.getD pq [] = x from hx.symm] at rb
        rw [← hx] at HK
        obtain ⟨ra, rc, er⟩ := rb.shape
        rw [hx256] at er
        subst er
        have RB := Lib.hid rb
        have HNIL := Lib.hid (not_nil_of rb hx256)
        have HX := Lib.hid hx256
        obtain ⟨kb, ko, rfl, ckk⟩ := HC.out wz kk.out j hlt
        obtain ⟨u, hu⟩ : ∃ u, u = bs.getD j 0 := ⟨_, rfl⟩
        rw [← hu] at ckk HK
        have kbl : kb < wz.heap.size := World.block_lt_of_cell? wz _ ckk
        have gl : g < wz.heap.size := rr.out.blk.lt
        have sbl : sb < wz.heap.size := World.block_lt_of_cell? wz _ s0
        have c0a : (wz.alloc (.cells #[] 5)).cell? ⟨g, 0, none⟩ = some (.slice (some ⟨sb, 0, none⟩) n sc) := by rw [World.cell?_alloc_lt _ _ _ gl]; exact c0
        have s0a : (wz.alloc (.cells #[] 5)).cell? ⟨sb, pq, none⟩ = some (.slice ra 256 rc) := by rw [World.cell?_alloc_lt _ _ _ sbl]; exact s0
        have hpq0 : (0 : Int) ≤ (pq : Int) := by omega
        have hpq1 : (pq : Int) < (n : Int) := by omega
        have hpq2 : (pq : Int).toNat = pq := by omega
        have hpr0 : (0 : Int) ≤ (pr : Int) := by omega
        have hpr1 : (pr : Int) < 256 := by omega
        have hpr2 : (pr : Int).toNat = pr := by omega
        have HPR : Hid (pr < 256) := hpr256
        have HPQ : Hid (pq < n) := hpqn
        have HSL : Hid (s.length = n) := hsl
        have n5 : wrap64 (at_ + (j : Int)) = (p : Int) := by rw [hp]; have := HNN.out; have := HF.out; unfold wrap64; omega
        have n6 : wrap64 (p : Int) = (p : Int) := by have h := n5; rwa [hp] at h
        have n7 : wrap64 (pq : Int) = (pq : Int) := by clear n5 n6; have := HF.out; unfold wrap64; omega
        have n8 : wrap64 (pr : Int) = (pr : Int) := by clear n5 n6 n7; unfold wrap64; omega
        clear hp hpN hpq hpr hpqn hpr256 hs hsl hsc cs fs hrl hrv hx hx256 rb hu hj hlt
        by_cases g1 : at_ < 0
        · have g2 : ¬ at_ < -(j : Int) := by have := hin.1; omega
          clear hin
          go_wp2_with (at_builtin; go_must (refine wpList_app _ rfl _ _ rfl wz.heap.size _ [] rfl ?c1 _ x rfl ?c2 HNIL.out (by rw [HX.out]; simp) (by simp) ?_))
          case c1 => exact own_empty wz
          case c2 => exact RB.out.below ((Below.refl _ _).alloc (Nat.le_refl _) _)
          intro x1 w1 o1 k1 z1
          have K1 : Below wz.heap.size wz w1 := ((Below.refl _ _).alloc (Nat.le_refl _) (.cells #[] 5)).trans k1
          have o2 : Own w1 wz.heap.size x1 x := o1
          clear o1 k1 z1
          obtain ⟨xb, xc, rfl, hxb⟩ := o2.shape (by rw [HX.out]; decide)
          rw [HX.out] at o2 ⊢
          have hrow : w1.ownsRow wz.heap.size 5 1 (.slice (some ⟨xb, 0, none⟩) 256 xc) 256 (Lib.byteCells x) := by
            have h := o2
            rwa [Own, HX.out] at h
          have p0 : w1.cell? ⟨xb, pr, none⟩ = some (.int .u8 ((x.getD pr 0).toNat : Int)) := by rw [hrow.cellAt pr HPR.out, byteCells_getElem? _ _ (by rw [HX.out]; exact HPR.out)]
          have p1 := hrow.frozenAt pr
          have r2 := (hrow.stored pr (.int .u8 (u.toNat : Int))).1
          rw [bc_set8] at r2
          have ck1 : w1.cell? ⟨kb, ko + j, none⟩ = some (.int .u8 (u.toNat : Int)) := by rw [World.cell?_of_block (K1.block kb kbl), ckk]
          clear ckk o2
          go_upto_region 8 with fail
          have N7 := Lib.hid n7
          have N3 := Lib.hid n3
          have T1 := Lib.hid t1
          clear n3 n4 n5 n6 n7 n8 t1
          obtain ⟨w2, hw2⟩ : ∃ x, x = w1.setCell ⟨xb, pr, none⟩ (.int .u8 (u.toNat : Int)) := ⟨_, rfl⟩
          rw [← hw2] at r2 ⊢
          have K2 : Below wz.heap.size wz w2 := by rw [hw2]; exact K1.setCell hxb _
          have R2 := rr.out.chg (F := fun b => wz.heap.size ≤ b) (Chg.of_below K2) fun b hb => by have := rr.out.there b hb; omega
          have R2' := R2.wider (T' := Grown T' wz w2) (fun k hk => ⟨.inl hk, Nat.lt_of_lt_of_le (rr.out.there k hk) K2.size⟩) (fun k hk => hk.2)
          have OX : Own w2 wz.heap.size (.slice (some ⟨xb, 0, none⟩) 256 xc) (x.set pr u) := by rw [Own, List.length_set, HX.out]; exact r2
          have lx : Lies (RefS (Grown T' wz w2) g (.slice (some ⟨sb, 0, none⟩) n sc) wv) (.slice (some ⟨xb, 0, none⟩) 256 xc) := OX.lies fun k h1 h2 => ⟨⟨.inr h1, h2⟩, by omega, fun e => by injection e with e; simp only at e; omega, fun e => by have := rr.out.there k (rr.out.tw k e).1; omega⟩
          have ow := R2'.srow
          rw [show ({ m with safe := s } : M.Dsk).safe.length = n from HSL.out] at ow
          obtain ⟨_, e9, _, _, fs2⟩ := ownCells ow (by have := HPQ.out; omega)
          injection e9 with e9
          injection e9 with e9
          subst e9
          have st := (ow.stored pq (.slice (some ⟨xb, 0, none⟩) 256 xc)).1
          have ks : Chg (fun k => (Value.slice (some ⟨sb, 0, none⟩) n sc).ownBlock = some k) w2 (w2.setCell ⟨sb, pq, none⟩ (.slice (some ⟨xb, 0, none⟩) 256 xc)) := (Chg.refl _ w2).setCell _ _ (.inl rfl)
          have RL := R2'.lay (b := pq) (by rw [HSL.out]; exact HPQ.out) OX.isB (by rw [List.length_set, HX.out]) lx ks (by rw [HSL.out]; exact st)
          have RL' : Hid (RefAt (Grown T' wz w2) (w2.setCell ⟨sb, pq, none⟩ (.slice (some ⟨xb, 0, none⟩) 256 xc)) g (.slice (some ⟨sb, 0, none⟩) n sc) wv (rows.set pq (.slice (some ⟨xb, 0, none⟩) 256 xc)) dvs { m with safe := M.turns m.safe at_ bs (j + 1) }) := by rw [HK.out]; exact RL
          have KL : Hid (Chg T w (w2.setCell ⟨sb, pq, none⟩ (.slice (some ⟨xb, 0, none⟩) 256 xc))) := (kk.out.trans (Chg.of_below (F := fun _ => False) K2) fun _ _ h => h.elim).trans ks fun k hk e => by
            rcases tt.out k (rr.out.ts k e).1 with h | h
            · exact h
            · omega
          have TL : Hid (∀ k, Grown T' wz w2 k → T k ∨ w.heap.size ≤ k) := fun k h => by
            rcases h.1 with h | h
            · exact tt.out k h
            · exact .inr (Nat.le_trans kk.out.size h)
          have c0b : w2.cell? ⟨g, 0, none⟩ = some (.slice (some ⟨sb, 0, none⟩) n sc) := R2.blk.cell 0
          have s0b : w2.cell? ⟨sb, pq, none⟩ = some (.slice ra 256 rc) := by rw [World.cell?_of_block (K2.block sb sbl), s0]
          have s1b := fs2 pq
          clear c0 c0a s0 s0a s1 ck1 hrow p0 p1 r2 hw2 K1 K2 R2 R2' OX lx ow st ks RL fs2 RB HNIL gl sbl kbl rr kk tt hxb
          have n7 := N7.out
          have n3 := N3.out
          have t1 := T1.out
          go_wp2
          go_roundw
          case rel => clear n7 n3 t1; exact ⟨j + 1, by have := HJ.out; omega, by omega, _, _, RL', TL⟩
          case measure => clear n7 n3 t1; have h3 := N3.out; first | rw [h3] | skip; clear h3; have := HJ.out; simp only [intOf, Int.toNat_natCast]; omega
        · clear hin
          go_wp2_with (at_builtin; go_must (refine wpList_app _ rfl _ _ rfl wz.heap.size _ [] rfl ?c1 _ x rfl ?c2 HNIL.out (by rw [HX.out]; simp) (by simp) ?_))
          case c1 => exact own_empty wz
          case c2 => exact RB.out.below ((Below.refl _ _).alloc (Nat.le_refl _) _)
          intro x1 w1 o1 k1 z1
          have K1 : Below wz.heap.size wz w1 := ((Below.refl _ _).alloc (Nat.le_refl _) (.cells #[] 5)).trans k1
          have o2 : Own w1 wz.heap.size x1 x := o1
          clear o1 k1 z1
          obtain ⟨xb, xc, rfl, hxb⟩ := o2.shape (by rw [HX.out]; decide)
          rw [HX.out] at o2 ⊢
          have hrow : w1.ownsRow wz.heap.size 5 1 (.slice (some ⟨xb, 0, none⟩) 256 xc) 256 (Lib.byteCells x) := by
            have h := o2
            rwa [Own, HX.out] at h
          have p0 : w1.cell? ⟨xb, pr, none⟩ = some (.int .u8 ((x.getD pr 0).toNat : Int)) := by rw [hrow.cellAt pr HPR.out, byteCells_getElem? _ _ (by rw [HX.out]; exact HPR.out)]
          have p1 := hrow.frozenAt pr
          have r2 := (hrow.stored pr (.int .u8 (u.toNat : Int))).1
          rw [bc_set8] at r2
          have ck1 : w1.cell? ⟨kb, ko + j, none⟩ = some (.int .u8 (u.toNat : Int)) := by rw [World.cell?_of_block (K1.block kb kbl), ckk]
          clear ckk o2
          go_upto_region 8 with fail
          have N7 := Lib.hid n7
          have N3 := Lib.hid n3
          have T1 := Lib.hid t1
          clear n3 n4 n5 n6 n7 n8 t1
          obtain ⟨w2, hw2⟩ : ∃ x, x = w1.setCell ⟨xb, pr, none⟩ (.int .u8 (u.toNat : Int)) := ⟨_, rfl⟩
          rw [← hw2] at r2 ⊢
          have K2 : Below wz.heap.size wz w2 := by rw [hw2]; exact K1.setCell hxb _
          have R2 := rr.out.chg (F := fun b => wz.heap.size ≤ b) (Chg.of_below K2) fun b hb => by have := rr.out.there b hb; omega
          have R2' := R2.wider (T' := Grown T' wz w2) (fun k hk => ⟨.inl hk, Nat.lt_of_lt_of_le (rr.out.there k hk) K2.size⟩) (fun k hk => hk.2)
          have OX : Own w2 wz.heap.size (.slice (some ⟨xb, 0, none⟩) 256 xc) (x.set pr u) := by rw [Own, List.length_set, HX.out]; exact r2
          have lx : Lies (RefS (Grown T' wz w2) g (.slice (some ⟨sb, 0, none⟩) n sc) wv) (.slice (some ⟨xb, 0, none⟩) 256 xc) := OX.lies fun k h1 h2 => ⟨⟨.inr h1, h2⟩, by omega, fun e => by injection e with e; simp only at e; omega, fun e => by have := rr.out.there k (rr.out.tw k e).1; omega⟩
          have ow := R2'.srow
          rw [show ({ m with safe := s } : M.Dsk).safe.length = n from HSL.out] at ow
          obtain ⟨_, e9, _, _, fs2⟩ := ownCells ow (by have := HPQ.out; omega)
          injection e9 with e9
          injection e9 with e9
          subst e9
          have st := (ow.stored pq (.slice (some ⟨xb, 0, none⟩) 256 xc)).1
          have ks : Chg (fun k => (Value.slice (some ⟨sb, 0, none⟩) n sc).ownBlock = some k) w2 (w2.setCell ⟨sb, pq, none⟩ (.slice (some ⟨xb, 0, none⟩) 256 xc)) := (Chg.refl _ w2).setCell _ _ (.inl rfl)
          have RL := R2'.lay (b := pq) (by rw [HSL.out]; exact HPQ.out) OX.isB (by rw [List.length_set, HX.out]) lx ks (by rw [HSL.out]; exact st)
          have RL' : Hid (RefAt (Grown T' wz w2) (w2.setCell ⟨sb, pq, none⟩ (.slice (some ⟨xb, 0, none⟩) 256 xc)) g (.slice (some ⟨sb, 0, none⟩) n sc) wv (rows.set pq (.slice (some ⟨xb, 0, none⟩) 256 xc)) dvs { m with safe := M.turns m.safe at_ bs (j + 1) }) := by rw [HK.out]; exact RL
          have KL : Hid (Chg T w (w2.setCell ⟨sb, pq, none⟩ (.slice (some ⟨xb, 0, none⟩) 256 xc))) := (kk.out.trans (Chg.of_below (F := fun _ => False) K2) fun _ _ h => h.elim).trans ks fun k hk e => by
            rcases tt.out k (rr.out.ts k e).1 with h | h
            · exact h
            · omega
          have TL : Hid (∀ k, Grown T' wz w2 k → T k ∨ w.heap.size ≤ k) := fun k h => by
            rcases h.1 with h | h
            · exact tt.out k h
            · exact .inr (Nat.le_trans kk.out.size h)
          have c0b : w2.cell? ⟨g, 0, none⟩ = some (.slice (some ⟨sb, 0, none⟩) n sc) := R2.blk.cell 0
          have s0b : w2.cell? ⟨sb, pq, none⟩ = some (.slice ra 256 rc) := by rw [World.cell?_of_block (K2.block sb sbl), s0]
          have s1b := fs2 pq
          clear c0 c0a s0 s0a s1 ck1 hrow p0 p1 r2 hw2 K1 K2 R2 R2' OX lx ow st ks RL fs2 RB HNIL gl sbl kbl rr kk tt hxb
          have n7 := N7.out
          have n3 := N3.out
          have t1 := T1.out
          go_wp2
          go_roundw
          case rel => clear n7 n3 t1; exact ⟨j + 1, by have := HJ.out; omega, by omega, _, _, RL', TL⟩
          case measure => clear n7 n3 t1; have h3 := N3.out; first | rw [h3] | skip; clear h3; have := HJ.out; simp only [intOf, Int.toNat_natCast]; omega
      · have HK : Hid (M.turns m.safe at_ bs (j + 1) = M.turns m.safe at_ bs j) := by
          rw [Hid, M.turns, if_neg]
          rw [← HN.out]
          intro hh
          exact hin ⟨hh.1, by have := hh.2; have := HNN.out; omega⟩
        by_cases g1 : at_ < 0
        · by_cases g2 : at_ < -(j : Int)
          · clear hin hj hlt
            go_wp2
            go_roundw
            case rel => exact ⟨j + 1, rows, T', by have := HJ.out; omega, by rw [n3], by rw [HK.out]; exact rr, kk, tt⟩
            case measure => rw [n3]; have := HJ.out; simp only [intOf, Int.toNat_natCast]; omega
          · have g3 : ¬ (N : Int) ≤ at_ := by omega
            have n5 : wrap64 (at_ + (j : Int)) = at_ + (j : Int) := by have := HLE.out; have := HAT.out; unfold wrap64; omega
            have g4 : (N : Int) ≤ at_ + (j : Int) := by omega
            clear hin hj hlt
            go_wp2
            go_roundw
            case rel => exact ⟨j + 1, rows, T', by have := HJ.out; omega, by rw [n3], by rw [HK.out]; exact rr, kk, tt⟩
            case measure => rw [n3]; have := HJ.out; simp only [intOf, Int.toNat_natCast]; omega
        · by_cases g3 : (N : Int) ≤ at_
          · clear hin hj hlt
            go_wp2
            go_roundw
            case rel => exact ⟨j + 1, rows, T', by have := HJ.out; omega, by rw [n3], by rw [HK.out]; exact rr, kk, tt⟩
            case measure => rw [n3]; have := HJ.out; simp only [intOf, Int.toNat_natCast]; omega
          · have n5 : wrap64 (at_ + (j : Int)) = at_ + (j : Int) := by have := HLE.out; have := HAT.out; have := HNN.out; have := HF.out; unfold wrap64; omega
            have g4 : (N : Int) ≤ at_ + (j : Int) := by omega
            clear hin hj hlt
            go_wp2
            go_roundw
            case rel => exact ⟨j + 1, rows, T', by have := HJ.out; omega, by rw [n3], by rw [HK.out]; exact rr, kk, tt⟩
            case measure => rw [n3]; have := HJ.out; simp only [intOf, Int.toNat_natCast]; omega
    · obtain rfl : j = l := by omega
      clear hlt hj
      go_wp2
      go_end0
      exact ⟨rfl, kk.out, _, _, rr.out, tt.out⟩

end Go.Proofs.Ythmamdlhgfkckaa
