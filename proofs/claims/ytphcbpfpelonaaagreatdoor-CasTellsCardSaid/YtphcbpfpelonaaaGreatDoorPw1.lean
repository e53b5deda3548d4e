/-
  CONTRACTS OF package wal's PHASES: inOrder over method values, lay, forget. Conditions: what each leans on lasts beside the disk (Keeps).
  CONTRACT OF (*wal.Wal).may, with its closure and slices.ContainsFunc: whether changes may be committed. Conditions: the Wal, the disk and the list lie so.
-/
import Derived.Test.YtphcbpfpelonaaaGreatDoorPf15
import Derived.Test.YtphcbpfpelonaaaGreatDoorPf16

namespace Go.Proofs.YtphcbpfpelonaaaGreatDoor
open Go.RowKit
set_option linter.unusedVariables false
set_option maxRecDepth 100000

namespace M
/-- One act behind another, up to the first that doesn't answer OK. -/
def phases : List (Dsk → Dsk × Int) → Dsk → Dsk × Int
  | [], m => (m, 0)
  | p :: r, m => if (p m).2 = 0 then phases r (p m).1 else p m

/-- Changes laid at their places. -/
def lays : CL → Dsk → Dsk × Int
  | [], m => (m, 0)
  | c :: r, m => if (m.doWrite (42 + c.1) c.2).2 = 0 then lays r (m.doWrite (42 + c.1) c.2).1 else m.doWrite (42 + c.1) c.2

theorem wait_lays : ∀ (l : CL) (m : Dsk), (lays l m).1.wait.length ≤ m.wait.length + l.length
  | [], m => Nat.le_refl _
  | c :: r, m => by
    have h := wait_write m (42 + c.1) c.2
    rw [lays]
    split
    · have := wait_lays r (m.doWrite (42 + c.1) c.2).1
      rw [List.length_cons]
      omega
    · rw [List.length_cons]
      omega

theorem lays_step (l : CL) (k : Nat) (m : Dsk) (h : k < l.length) : lays (l.drop k) m = if (m.doWrite (42 + (l.getD k (0, [])).1) (l.getD k (0, [])).2).2 = 0 then lays (l.drop (k + 1)) (m.doWrite (42 + (l.getD k (0, [])).1) (l.getD k (0, [])).2).1 else m.doWrite (42 + (l.getD k (0, [])).1) (l.getD k (0, [])).2 := by
  rw [List.drop_eq_getElem_cons h, lays, List.getD_eq_getElem?_getD, List.getElem?_eq_getElem h]
  rfl
end M

/-- A call that makes of the disk what p says, while K lasts. -/
def Does (K : World → Prop) (g n : Nat) (f : Nat) (args : Array Value) (p : M.Dsk → M.Dsk × Int) : Prop :=
  ∀ T x m, CodeDk T x g m → m.safe.length = n → m.wait.length < 900000 → Keeps T x K → Calls Tryz.prog f args x fun e x' => e = .returned (.int .i64 (p m).2) ∧ Chg T x x' ∧ ∃ T', CodeDk T' x' g (p m).1 ∧ ∀ k, T' k → T k ∨ x.heap.size ≤ k

theorem Does.mono {K K' : World → Prop} {g n f : Nat} {args : Array Value} {p : M.Dsk → M.Dsk × Int} (h : Does K g n f args p) (hk : ∀ x, K' x → K x) : Does K' g n f args p := fun T x m d hn hw k => h T x m d hn hw (k.mono hk)

theorem does_sync (K : World → Prop) (g n : Nat) : Does K g n 72 #[.pointer (some ⟨g, 0, none⟩)] M.Dsk.doSync := fun T x m d _ _ _ => codeDk_sync d

set_option maxHeartbeats 4000000 in
theorem does_forget (K : World → Prop) (g nb : Nat) (lv : Value) (hlv : ∃ a n c, lv = .slice a n c) : Does K g nb 78 #[.agg #[.pointer (some ⟨g, 0, none⟩), lv]] (fun m => m.doWrite 0 M.zero256) := by
  intro T x m d _ hw k
  obtain ⟨a, n, c, rfl⟩ := hlv
  have D := Lib.hid d
  have HW := Lib.hid hw
  obtain ⟨G, hG⟩ : ∃ G, Hid (G = x.heap.size) := ⟨_, rfl⟩
  obtain ⟨W, hW⟩ : ∃ W, Hid (W = x.alloc (.cells #[.pointer (some ⟨g, 0, none⟩), .slice a n c] 129)) := ⟨_, rfl⟩
  have KW : Hid (Below x.heap.size x W) := by rw [hW.out]; exact (Below.refl _ _).alloc (Nat.le_refl _) _
  have BW : Hid (Blk W G 129 [.pointer (some ⟨g, 0, none⟩), .slice a n c]) := by rw [hW.out]; exact Blk.newAt _ _ _ _ _ hG.out rfl
  clear d hw k
  go_enter Tryz.func78, Tryz.ntmps78
  go_upto_region 1 with fail
  rw [← hG.out, ← hW.out]
  have HGX : Hid (∀ k, T k → k ≠ G) := fun k hk => by have := D.out.there k hk; rw [hG.out]; omega
  clear hG hW
  go_upto_region 1 with fail
  refine wp_region_any (by kernel_rfl) ?_
  change wpAny _ _ _ _ _ _ _ (World.drew _)
  refine wpAny_of_held (S := fun w' => w'.cell? ⟨G, 0, none⟩ = some (.pointer (some ⟨g, 0, none⟩))) _ _ _ _ ?_
  have S0 : W.drew.cell? ⟨G, 0, none⟩ = some (.pointer (some ⟨g, 0, none⟩)) := BW.out.cell 0
  refine wpAnyH_take_at (i := 0) (v := .pointer (some ⟨G, 0, none⟩)) rfl rfl (by kernel_rfl) (by kernel_rfl) (by kernel_rfl) (fun _ _ _ h => h) (Or.inl ⟨by rfl, fun w hS => by go_simp⟩) S0 ?_
  simp only [List.setIfInBounds_toArray, List.set_cons_zero, List.set_cons_succ]
  refine wpAnyH_take_at (i := 1) (v := .pointer (some ⟨g, 0, none⟩)) rfl rfl (by kernel_rfl) (by kernel_rfl) (by kernel_rfl) (fun _ _ _ h => h) (Or.inl ⟨by rfl, fun w hS => by have c := hS; go_simp⟩) S0 ?_
  simp only [List.setIfInBounds_toArray, List.set_cons_zero, List.set_cons_succ]
  refine wpAnyH_ready (rs := [2]) (by kernel_rfl) (by simp) ?_
  refine AllReadyH.cons rfl (fun K hK => ?_) AllReadyH.nil
  go_simp
  refine (emptyHead_any W.drew).mono ?_
  rintro e w1 ⟨v1, rfl, o1, k1⟩
  have k01 : Below W.heap.size W w1 := (drewN_below (Below.refl _ W) 1).trans k1
  have B1 := BW.out.below k01 BW.out.lt
  have kx1 : Below x.heap.size x w1 := KW.out.trans (k01.mono KW.out.size)
  refine hK.out _ _ (B1.cell 0) (fun _ => ?_)
  clear hK S0
  refine wpAnyH_ready (rs := [3]) (by kernel_rfl) (by simp) ?_
  refine AllReadyH.cons rfl (fun K hK => ?_) AllReadyH.nil
  go_simp
  refine (codeDk_write (D.out.below kx1) 0 v1 M.zero256 o1.isB (by have := HW.out; omega)).mono ?_
  rintro e w2 ⟨rfl, c2, T2, d2, t2⟩
  have B2 := B1.chg c2 (fun h => HGX.out _ h rfl)
  refine hK.out _ _ (B2.cell 0) (fun _ => ?_)
  have CC : Hid (Chg T x w2) := (Chg.of_below kx1 : Chg T x w1).trans c2 fun _ _ h => h
  have DD := Lib.hid d2
  have hs1 := kx1.size
  have TT : Hid (∀ k, T2 k → T k ∨ x.heap.size ≤ k) := fun k h => (t2 k h).imp_right fun h => Nat.le_trans hs1 h
  have C2 := Lib.hid (B2.cell 0)
  clear hK k1 k01 B1 kx1 o1 c2 d2 t2 B2 hs1
  obtain ⟨q, hq⟩ : ∃ q, Hid (q = m.doWrite 0 M.zero256) := ⟨_, rfl⟩
  rw [← hq.out] at DD ⊢
  refine wpAnyH_take_at (i := 4) (v := .int .i64 q.2) rfl rfl (by kernel_rfl) (by kernel_rfl) (by kernel_rfl) (fun _ _ _ h => h) (Or.inl ⟨by rfl, fun w hS => by go_simp⟩) C2.out ?_
  simp only [List.setIfInBounds_toArray, List.set_cons_zero, List.set_cons_succ]
  refine wpAnyH_done (by kernel_rfl) ?_ _
  clear C2
  go_wp2
  go_ret
  exact ⟨by rw [hq.out]; rfl, CC.out, T2, by rw [← hq.out]; exact DD.out, TT.out⟩

set_option maxHeartbeats 8000000 in
theorem does_lay (K : World → Prop) (g nb : Nat) (lv : Value) (l : M.CL) (xs : List Value) (hk : ∀ x, K x → IsCL x lv l xs) (hl : l.length ≤ 40) (hb : ∀ i, i < l.length → 0 ≤ (l.getD i (0, [])).1 ∧ (l.getD i (0, [])).1 < 1000000) :
    Does K g nb 77 #[.agg #[.pointer (some ⟨g, 0, none⟩), lv]] (M.lays l) := by
  intro T x m d _ hw k
  obtain ⟨ao, cap, rfl⟩ := (hk x k.now).shape
  have HK := Lib.hid hk
  have HB := Lib.hid hb
  obtain ⟨n, hn⟩ : ∃ n, n = l.length := ⟨_, rfl⟩
  rw [← hn] at HK hl ⊢
  have HN : Hid (l.length = n) := hn.symm
  have H40 := Lib.hid hl
  obtain ⟨R, hR⟩ : ∃ R, Hid (R = M.lays l m) := ⟨_, rfl⟩
  rw [← hR.out]
  obtain ⟨G, hG⟩ : ∃ G, Hid (G = x.heap.size) := ⟨_, rfl⟩
  obtain ⟨W, hW⟩ : ∃ W, Hid (W = x.alloc (.cells #[.pointer (some ⟨g, 0, none⟩), .slice ao n cap] 129)) := ⟨_, rfl⟩
  have KW : Below x.heap.size x W := by rw [hW.out]; exact (Below.refl _ _).alloc (Nat.le_refl _) _
  have BW : Blk W G 129 [.pointer (some ⟨g, 0, none⟩), .slice ao n cap] := by rw [hW.out]; exact Blk.newAt _ _ _ _ _ hG.out rfl
  have HS : Hid (W.heap.size = G + 1) := by rw [Hid, hW.out, hG.out]; simp
  have D := Lib.hid (d.below KW)
  have C0 : Hid (Chg T x W) := Chg.of_below KW
  have KK : Hid (Keeps (fun j => T j ∨ W.heap.size ≤ j) W (fun y => K y ∧ Blk y G 129 [.pointer (some ⟨g, 0, none⟩), .slice ao n cap])) := fun y c => by
    have hlt := BW.lt
    refine ⟨k y ((Chg.of_below KW : Chg T x W).trans c fun j hj h => h.resolve_right (by have := KW.size; omega)), BW.chg c fun h => ?_⟩
    rcases h with h | h
    · have := d.there _ h
      have := hG.out
      omega
    · omega
  have HW := Lib.hid hw
  have HTX : Hid (x.heap.size ≤ W.heap.size) := KW.size
  clear hk hb hl hn d hw k KW BW
  go_enter Tryz.func77, Tryz.ntmps77
  go_upto_region 1 with fail
  rw [← hG.out, ← hW.out]
  clear hG hW
  have c1 : W.cell? ⟨G, 1, none⟩ = some (.slice ao n cap) := KK.out.now.2.cell 1
  go_wp2
  go_loopw [9] (fun i wr => ∃ (j : Nat) (m' : M.Dsk) (T' : Nat → Prop), i = .int .i64 (j : Int) ∧ Hid (j ≤ n) ∧ Hid (m'.wait.length ≤ m.wait.length + j) ∧ Hid (M.lays (l.drop j) m' = R) ∧ Hid (CodeDk T' wr g m') ∧ Hid (Chg T x wr) ∧ Hid (∀ k, T' k → T k ∨ W.heap.size ≤ k) ∧ Hid (W.heap.size ≤ wr.heap.size) ∧ Hid (Keeps T' wr (fun y => K y ∧ Blk y G 129 [.pointer (some ⟨g, 0, none⟩), .slice ao n cap])))
    (fun i _ => n - numOf i)
  case atStart => exact ⟨0, m, T, rfl, Nat.zero_le _, Nat.le_refl _, by rw [List.drop_zero]; exact hR.out.symm, D, C0, fun k h => .inl h, Nat.le_refl _, KK.out.less fun _ h => .inl h⟩
  case round =>
    clear D C0 KK c1
    obtain ⟨wz, rfl⟩ : ∃ x, x = wr := ⟨_, rfl⟩
    obtain ⟨j, m', T', rfl, hj, hwt, hr, d, c, ht, hsz, kk⟩ := hrel
    by_cases hlt : j < n
    · have b1 : (j : Int) < (n : Int) := by omega
      have hjl : j < l.length := by rw [HN.out]; exact hlt
      have cl := HK.out _ kk.out.now.1
      obtain ⟨lb, lo, rfl⟩ := cl.caps.2.2.2 (fun e => by rw [e] at hjl; cases hjl)
      have ca := cl.at_ j hjl
      have cr := cl.row_ j hjl
      have hb := HB.out j hjl
      have hst := M.lays_step l j m' hjl
      obtain ⟨p, hp⟩ : ∃ p, p = (l.getD j (0, [])).1 := ⟨_, rfl⟩
      obtain ⟨y, hy⟩ : ∃ p, p = (l.getD j (0, [])).2 := ⟨_, rfl⟩
      obtain ⟨xv, hx⟩ : ∃ p, p = xs.getD j undef := ⟨_, rfl⟩
      rw [← hp, ← hy] at hst
      rw [← hp] at hb
      rw [← hp, ← hx] at ca
      rw [← hx, ← hy] at cr
      obtain ⟨xa, xc, ex⟩ := cr.1.shape
      obtain ⟨yn, hyn⟩ : ∃ n, n = y.length := ⟨_, rfl⟩
      rw [← hyn] at ex
      subst ex
      have c0 : wz.cell? ⟨lb, lo + j * 2, none⟩ = some (.int .i64 p) := ca.1
      have c1 : wz.cell? ⟨lb, lo + j * 2 + 1, none⟩ = some (.slice xa yn xc) := ca.2
      have cG : wz.cell? ⟨G, 0, none⟩ = some (.pointer (some ⟨g, 0, none⟩)) := kk.out.now.2.cell 0
      obtain ⟨pz, hpz⟩ : ∃ z, Hid (z = wz.heap.size) := ⟨_, rfl⟩
      obtain ⟨wa, hwa⟩ : ∃ z, Hid (z = wz.alloc (.cells #[.int .i64 p, .slice xa yn xc] 146)) := ⟨_, rfl⟩
      have kwa : Below wz.heap.size wz wa := by rw [hwa.out]; exact (Below.refl _ _).alloc (Nat.le_refl _) _
      have bz : Blk wa pz 146 [.int .i64 p, .slice xa yn xc] := by rw [hwa.out]; exact Blk.newAt _ _ _ _ _ hpz.out rfl
      have cz0 : wa.cell? ⟨pz, 0, none⟩ = some (.int .i64 p) := bz.cell 0
      have cz1 : wa.cell? ⟨pz, 1, none⟩ = some (.slice xa yn xc) := bz.cell 1
      obtain ⟨pp, hpp⟩ : ∃ z, z = 42 + p := ⟨_, rfl⟩
      rw [← hpp] at hst
      have w42 : wrap64 (42 + p) = pp := by rw [hpp]; unfold wrap64; omega
      have cGa : wa.cell? ⟨G, 0, none⟩ = some (.pointer (some ⟨g, 0, none⟩)) := (kwa.cell (p := ⟨G, 0, none⟩) (World.block_lt_of_cell? wz _ cG)).trans cG
      have CW := Lib.hid (codeDk_write (d.out.below kwa) pp (.slice xa yn xc) y (cr.1.below kwa) (by have := hwt.out; have := HW.out; have := H40.out; omega))
      have HWW := Lib.hid (M.wait_write m' pp y)
      obtain ⟨q, hq⟩ : ∃ q, Hid (q = m'.doWrite pp y) := ⟨_, rfl⟩
      rw [← hq.out] at CW HWW hst
      obtain ⟨cd, hcd⟩ : ∃ c, Hid (c = q.2) := ⟨_, rfl⟩
      have hr' := hr.out
      rw [hst, ← hcd.out] at hr'
      rw [← hcd.out] at CW
      have HR := Lib.hid hr'
      have KWA := Lib.hid kwa
      have HJ := Lib.hid hlt
      have g2 : (0 : Int) ≤ (j : Int) := Int.natCast_nonneg j
      have g3 : ((j : Int)).toNat = j := Int.toNat_natCast j
      clear ca cr hb hst hp hy hx hyn hr hr' cl hjl kwa hlt cG hpp bz
      go_upto_region 4 with fail
      rw [← hwa.out, ← hpz.out]
      clear hwa hpz c0 c1
      go_wp2_with fail
      refine CW.out.mono ?_
      rintro e w1 ⟨rfl, e1, T1, d1, t1⟩
      have CC : Hid (Chg T x w1) := (c.out.trans (Chg.of_below KWA.out : Chg T wz _) fun _ _ h => h).trans e1 fun k hk h => (ht.out k h).resolve_right (by have := HTX.out; omega)
      have DD := Lib.hid d1
      have KN := Lib.hid ((kk.out.below KWA.out).next e1 t1)
      have hs1 := hsz.out
      have hs2 := KWA.out.size
      have TT : Hid (∀ k, T1 k → T k ∨ W.heap.size ≤ k) := fun k h => by
        rcases t1 k h with h | h
        · exact ht.out k h
        · exact .inr (by omega)
      have SZ : Hid (W.heap.size ≤ w1.heap.size) := by rw [Hid]; have := e1.size; omega
      clear CW e1 d1 t1 hs1 hs2 cGa cz0 cz1 w42
      by_cases h0 : cd = 0
      · have t0 : (cd != 0) = false := by rw [h0]; rfl
        have HR2 : Hid (M.lays (l.drop (j + 1)) q.1 = R) := by have := HR.out; rwa [if_pos h0] at this
        have n3 : wrap64 ((j : Int) + 1) = ((j + 1 : Nat) : Int) := by have := HJ.out; have := H40.out; unfold wrap64; omega
        have N3 := Lib.hid n3
        have HWN : Hid (q.1.wait.length ≤ m.wait.length + (j + 1)) := by rw [Hid]; have := HWW.out; have := hwt.out; omega
        clear n3 h0 HR d c ht kk hsz
        go_wp2
        go_roundw
        case rel => exact ⟨j + 1, q.1, T1, by first | rw [N3.out] | rfl, HJ.out, HWN, HR2, DD, CC, TT, SZ, KN⟩
        case measure =>
          first | rw [N3.out] | skip
          exact step_down HJ.out
      · have t0 : (cd != 0) = true := by simpa using h0
        have HR2 : Hid (q = R) := by have := HR.out; rwa [if_neg h0] at this
        clear h0 HR d c ht kk hsz
        go_wp2
        go_ret
        exact ⟨by rw [hcd.out, HR2.out]; rfl, CC.out, T1, by rw [← HR2.out]; exact DD.out, fun k h => (TT.out k h).imp_right fun h => Nat.le_trans HTX.out h⟩
    · have b1 : ¬ (j : Int) < (n : Int) := by omega
      have e : l.drop j = [] := List.drop_eq_nil_of_le (by rw [HN.out]; omega)
      have hr2 := hr.out
      rw [e] at hr2
      have HR2 : Hid ((m', (0 : Int)) = R) := hr2
      clear e hr2 hlt hr
      go_wp2
      go_ret
      exact ⟨by rw [← HR2.out]; rfl, c.out, T', by rw [← HR2.out]; exact d.out, fun k h => (ht.out k h).imp_right fun h => Nat.le_trans HTX.out h⟩

/-- The function has a body: it is entered. -/
def Enters (f : Nat) : Prop := ∀ (args : Array Value) (w : World), (callFunc f args).run Tryz.prog w = .ok (.enter f args) w

theorem enters_of {f : Nat} {fn : Func} {c : Code} (hf : Tryz.prog.funcs[f]? = some fn) (hname : (fn.name == "runtime.NumGoroutine") = false) (hb : fn.body = some c) : Enters f := by
  intro args w
  have h1 : fn.name ≠ "runtime.NumGoroutine" := by simpa using hname
  simp [callFunc, hf, h1, hb]

set_option maxHeartbeats 4000000 in
theorem inOrder_any (K : World → Prop) (g nb : Nat) (fs : List (Nat × Array Value)) (ps : List (M.Dsk → M.Dsk × Int)) (hn : fs.length = ps.length) (h100 : fs.length ≤ 100) (ao : Option Addr) (cap : Nat) (hK : ∀ x, K x → ∃ b off, ao = some ⟨b, off, none⟩ ∧ ∀ i, i < fs.length → x.cell? ⟨b, off + i, none⟩ = some (.func (.func (fs.getD i (0, #[])).1) (fs.getD i (0, #[])).2 #[]))
    (he : ∀ i, i < fs.length → Enters (fs.getD i (0, #[])).1) (hd : ∀ i, i < fs.length → Does K g nb (fs.getD i (0, #[])).1 (fs.getD i (0, #[])).2 (ps.getD i fun m => (m, 0))) (hg : ∀ p ∈ ps, ∀ m, (p m).1.wait.length ≤ m.wait.length + 100 ∧ (p m).1.safe.length = m.safe.length) (T : Nat → Prop) (x : World) (m : M.Dsk) (d : CodeDk T x g m) (hnb : m.safe.length = nb) (hw : m.wait.length < 200000) (k : Keeps T x K) :
    Calls Tryz.prog 76 #[.slice ao fs.length cap] x fun e x' => e = .returned (.int .i64 (M.phases ps m).2) ∧ Chg T x x' ∧ ∃ T', CodeDk T' x' g (M.phases ps m).1 ∧ ∀ k, T' k → T k ∨ x.heap.size ≤ k := by
  obtain ⟨n, hnn⟩ : ∃ n, n = fs.length := ⟨_, rfl⟩
  rw [← hnn] at h100 ⊢
  have HN : Hid (fs.length = n) := hnn.symm
  have H100 := Lib.hid h100
  have HK := Lib.hid hK
  have HD := Lib.hid hd
  have HE := Lib.hid he
  have HG := Lib.hid hg
  have HP : Hid (ps.length = n) := by rw [Hid, ← hn, hnn]
  have HW := Lib.hid hw
  have D := Lib.hid d
  have KK := Lib.hid k
  have NB := Lib.hid hnb
  obtain ⟨R, hR⟩ : ∃ R, Hid (R = M.phases ps m) := ⟨_, rfl⟩
  rw [← hR.out]
  clear hn hnn h100 hK hd he hg hw d k hnb
  go_enter Tryz.func76, Tryz.ntmps76
  go_wp2
  go_loopw [8] (fun i wr => ∃ (j : Nat) (m' : M.Dsk) (T' : Nat → Prop), i = .int .i64 (j : Int) ∧ Hid (j ≤ n) ∧ Hid (m'.wait.length < 200000 + 100 * j ∧ m'.safe.length = nb) ∧ Hid (M.phases (ps.drop j) m' = R) ∧ Hid (CodeDk T' wr g m') ∧ Hid (Chg T x wr) ∧ Hid (∀ k, T' k → T k ∨ x.heap.size ≤ k) ∧ Hid (Keeps T' wr K))
    (fun i _ => n - numOf i)
  case atStart => exact ⟨0, m, T, rfl, Nat.zero_le _, ⟨HW.out, NB.out⟩, by rw [List.drop_zero]; exact hR.out.symm, D, Chg.refl _ _, fun k h => .inl h, KK⟩
  case round =>
    clear D KK HW NB
    obtain ⟨wz, rfl⟩ : ∃ x, x = wr := ⟨_, rfl⟩
    obtain ⟨j, m', T', rfl, hj, hw, hr, d, c, ht, kk⟩ := hrel
    by_cases hlt : j < n
    · have b1 : (j : Int) < (n : Int) := by omega
      obtain ⟨b, off, rfl, hc⟩ := HK.out _ kk.out.now
      have c0 := hc j (by rw [HN.out]; exact hlt)
      have CL := Lib.hid (HD.out j (by rw [HN.out]; exact hlt) T' wz m' d.out hw.out.2 (by have := hw.out; have := H100.out; omega) kk.out)
      obtain ⟨f, hf⟩ : ∃ f, f = (fs.getD j (0, #[])).1 := ⟨_, rfl⟩
      obtain ⟨ar, has⟩ : ∃ f, f = (fs.getD j (0, #[])).2 := ⟨_, rfl⟩
      obtain ⟨p, hp⟩ : ∃ p, p = ps.getD j (fun m => (m, 0)) := ⟨_, rfl⟩
      rw [← hf, ← has] at c0
      rw [← hf, ← has, ← hp] at CL
      have hcf : (callFunc f ar).run Tryz.prog wz = .ok (.enter f ar) wz := by rw [hf]; exact HE.out j (by rw [HN.out]; exact hlt) _ _
      have hpm : p ∈ ps := by rw [hp, List.getD_eq_getElem?_getD, List.getElem?_eq_getElem (by rw [HP.out]; exact hlt)]; exact List.getElem_mem _
      have HGP := Lib.hid (HG.out p hpm m')
      have hdr : M.phases (ps.drop j) m' = if (p m').2 = 0 then M.phases (ps.drop (j + 1)) (p m').1 else p m' := by
        rw [List.drop_eq_getElem_cons (by rw [HP.out]; exact hlt), M.phases, hp, List.getD_eq_getElem?_getD, List.getElem?_eq_getElem (by rw [HP.out]; exact hlt)]
        rfl
      rw [hdr] at hr
      have HR := Lib.hid hr.out
      have g2 : (0 : Int) ≤ (j : Int) := Int.natCast_nonneg j
      have g3 : ((j : Int)).toNat = j := Int.toNat_natCast j
      have HJ := Lib.hid hlt
      obtain ⟨q, hq⟩ : ∃ q, Hid (q = p m') := ⟨_, rfl⟩
      rw [← hq.out] at CL HGP HR
      clear hc hf has hp hpm hdr hr hlt
      obtain ⟨cd, hcd⟩ : ∃ c, Hid (c = q.2) := ⟨_, rfl⟩
      rw [← hcd.out] at CL HR
      go_wp2_with fail
      refine CL.out.mono ?_
      rintro e w1 ⟨rfl, c1, T1, d1, t1⟩
      have CC := Lib.hid (c.out.trans c1 fun k hk h => (ht.out k h).resolve_right (by omega))
      have DD := Lib.hid d1
      have KN := Lib.hid (kk.out.next c1 t1)
      have hsz := c.out.size
      have TT : Hid (∀ k, T1 k → T k ∨ x.heap.size ≤ k) := fun k h => by
        rcases t1 k h with h | h
        · exact ht.out k h
        · exact .inr (Nat.le_trans hsz h)
      clear CL c1 d1 t1 hsz
      by_cases h0 : cd = 0
      · have t0 : (cd != 0) = false := by rw [h0]; rfl
        have HR2 : Hid (M.phases (ps.drop (j + 1)) q.1 = R) := by have := HR.out; rwa [if_pos h0] at this
        have n3 : wrap64 ((j : Int) + 1) = ((j + 1 : Nat) : Int) := by have := HJ.out; have := H100.out; unfold wrap64; omega
        have N3 := Lib.hid n3
        have HWN : Hid (q.1.wait.length < 200000 + 100 * (j + 1) ∧ q.1.safe.length = nb) := ⟨by have := HGP.out.1; have := hw.out.1; omega, HGP.out.2.trans hw.out.2⟩
        clear n3 h0 HR d c ht kk
        go_wp2
        go_roundw
        case rel => exact ⟨j + 1, q.1, T1, by first | rw [N3.out] | rfl, HJ.out, HWN, HR2, DD, CC, TT, KN⟩
        case measure =>
          first | rw [N3.out] | skip
          exact step_down HJ.out
      · have t0 : (cd != 0) = true := by simpa using h0
        have HR2 : Hid (q = R) := by have := HR.out; rwa [if_neg h0] at this
        clear h0 HR d c ht kk
        go_wp2
        go_ret
        exact ⟨by rw [hcd.out, HR2.out]; rfl, CC.out, T1, by rw [← HR2.out]; exact DD.out, TT.out⟩
    · have b1 : ¬ (j : Int) < (n : Int) := by omega
      have e : ps.drop j = [] := List.drop_eq_nil_of_le (by rw [HP.out]; omega)
      have hr2 := hr.out
      rw [e] at hr2
      have HR2 : Hid ((m', (0 : Int)) = R) := hr2
      clear e hr2 hlt hr
      go_wp2
      go_ret
      exact ⟨by rw [← HR2.out]; rfl, c.out, T', by rw [← HR2.out]; exact d.out, ht.out⟩

end Go.Proofs.YtphcbpfpelonaaaGreatDoor

namespace Go.Proofs.YtphcbpfpelonaaaGreatDoor
open Go.RowKit
set_option linter.unusedVariables false
set_option maxRecDepth 100000

/-- All changes fit. -/
def M.AllFit (n : Nat) (l : M.CL) : Prop := ∀ i, i < l.length → M.Fits n (l.getD i (0, []))
noncomputable instance (n : Nat) (l : M.CL) : Decidable (M.AllFit n l) := Classical.propDecidable _

theorem IsCL.below {w w' : World} {v : Value} {l : M.CL} {xs : List Value} (h : IsCL w v l xs) (k : Below w.heap.size w w') : IsCL w' v l xs := by
  obtain ⟨ao, cap, rfl, h1, h2, h3, h4, h5⟩ := h
  refine ⟨ao, cap, rfl, h1, h2, h3, fun i hi => ⟨(h4 i hi).1.below k, (h4 i hi).2⟩, ?_⟩
  rcases h5 with h | ⟨b, off, rfl, h⟩
  · exact .inl h
  · exact .inr ⟨b, off, rfl, fun i hi => ⟨(k.cell (p := ⟨b, off + i * 2, none⟩) (World.block_lt_of_cell? w _ (h i hi).1)).trans (h i hi).1, (k.cell (p := ⟨b, off + i * 2 + 1, none⟩) (World.block_lt_of_cell? w _ (h i hi).2)).trans (h i hi).2⟩⟩

section
variable {T : Nat → Prop} {gw g : Nat} {m : M.Dsk}

set_option maxHeartbeats 4000000 in
theorem may1_any {w : World} (hD : CodeDk T w g m) (hW : WalIs w gw g) (gb : Nat) (hb : w.cell? ⟨gb, 0, none⟩ = some (.pointer (some ⟨gw, 0, none⟩))) (p : Int) (xa : Option Addr) (yn xc : Nat) (bad : Bool) (hbad : bad = !decide (0 ≤ p ∧ p < (m.safe.length : Int) - 42 ∧ yn = 256)) :
    Calls Tryz.prog 106 #[.agg #[.int .i64 p, .slice xa yn xc], .pointer (some ⟨gb, 0, none⟩)] w fun e w' => e = .returned (.bool bad) ∧ Below w.heap.size w w' := by
  obtain ⟨G, hG⟩ : ∃ G, Hid (G = w.heap.size) := ⟨_, rfl⟩
  obtain ⟨W, hW2⟩ : ∃ W, Hid (W = w.alloc (.cells #[.int .i64 p, .slice xa yn xc] 146)) := ⟨_, rfl⟩
  have KW : Below w.heap.size w W := by rw [hW2.out]; exact (Below.refl _ _).alloc (Nat.le_refl _) _
  have BW : Blk W G 146 [.int .i64 p, .slice xa yn xc] := by rw [hW2.out]; exact Blk.newAt _ _ _ _ _ hG.out rfl
  have c0 : W.cell? ⟨G, 0, none⟩ = some (.int .i64 p) := BW.cell 0
  have c1 : W.cell? ⟨G, 1, none⟩ = some (.slice xa yn xc) := BW.cell 1
  have cb : W.cell? ⟨gb, 0, none⟩ = some (.pointer (some ⟨gw, 0, none⟩)) := (KW.cell (p := ⟨gb, 0, none⟩) (World.block_lt_of_cell? w _ hb)).trans hb
  have H := Lib.hid (whas10 (hD.below KW) (hW.below KW) p)
  have K := Lib.hid KW
  by_cases hp : 0 ≤ p ∧ p < (m.safe.length : Int) - 42
  · rw [decide_eq_true hp] at H
    by_cases h256 : yn = 256
    · have e : bad = false := by rw [hbad, decide_eq_true ⟨hp.1, hp.2, h256⟩]; rfl
      have t1 : ((yn : Int) != 256) = false := by rw [h256]; rfl
      subst e
      clear hD hW hb hp hbad h256 KW BW
      go_enter Tryz.func106, Tryz.ntmps106
      go_upto_region 1 with fail
      rw [← hG.out, ← hW2.out]
      go_wp2_with fail
      refine H.out.mono ?_
      rintro e w1 ⟨rfl, rfl⟩
      go_wp2
      go_ret
      exact ⟨rfl, K.out⟩
    · have e : bad = true := by rw [hbad, decide_eq_false (fun h => h256 h.2.2)]; rfl
      have t2 : ¬ (yn : Int) = 256 := by omega
      have t1 : ((yn : Int) != 256) = true := by simpa using t2
      subst e
      clear hD hW hb hp hbad h256 KW BW
      go_enter Tryz.func106, Tryz.ntmps106
      go_upto_region 1 with fail
      rw [← hG.out, ← hW2.out]
      go_wp2_with fail
      refine H.out.mono ?_
      rintro e w1 ⟨rfl, rfl⟩
      go_wp2
      go_ret
      exact ⟨rfl, K.out⟩
  · rw [decide_eq_false hp] at H
    have e : bad = true := by rw [hbad, decide_eq_false (fun h => hp ⟨h.1, h.2.1⟩)]; rfl
    subst e
    clear hD hW hb hp hbad KW BW
    go_enter Tryz.func106, Tryz.ntmps106
    go_upto_region 1 with fail
    rw [← hG.out, ← hW2.out]
    go_wp2_with fail
    refine H.out.mono ?_
    rintro e w1 ⟨rfl, rfl⟩
    go_wp2
    go_ret
    exact ⟨rfl, K.out⟩

set_option maxHeartbeats 4000000 in
theorem indexFunc10 {w : World} (hD : CodeDk T w g m) (h42 : 42 < m.safe.length) (hW : WalIs w gw g) (gb : Nat) (hb : w.cell? ⟨gb, 0, none⟩ = some (.pointer (some ⟨gw, 0, none⟩))) (lv : Value) (l : M.CL) (xs : List Value) (hl : IsCL w lv l xs) (h40 : l.length ≤ 1000) :
    Calls Tryz.prog 127 #[lv, .func (.func 106) #[] #[.pointer (some ⟨gb, 0, none⟩)]] w fun e w' =>
      ∃ r : Int, e = .returned (.int .i64 r) ∧ Hid (0 ≤ r ↔ ¬ M.AllFit (m.safe.length - 42) l) ∧ Below w.heap.size w w' := by
  obtain ⟨ao, cap, rfl⟩ := hl.shape
  obtain ⟨n, hn⟩ : ∃ n, n = l.length := ⟨_, rfl⟩
  rw [← hn] at hl h40 ⊢
  have HN : Hid (l.length = n) := hn.symm
  have D := Lib.hid hD
  have WI := Lib.hid hW
  have CB := Lib.hid hb
  have HL := Lib.hid hl
  have H40 := Lib.hid h40
  have H42 := Lib.hid h42
  clear hD hW hb hl h40 hn h42
  go_enter Tryz.func127, Tryz.ntmps127
  go_wp2
  go_loopw [8] (fun i wr => ∃ (j : Nat), i = .int .i64 (j : Int) ∧ Hid (j ≤ n ∧ ∀ i, i < j → M.Fits (m.safe.length - 42) (l.getD i (0, []))) ∧ Hid (Below w.heap.size w wr))
    (fun i _ => n - numOf i)
  case atStart => exact ⟨0, rfl, ⟨Nat.zero_le _, fun i hi => by omega⟩, Below.refl _ _⟩
  case round =>
    obtain ⟨wz, rfl⟩ : ∃ x, x = wr := ⟨_, rfl⟩
    obtain ⟨j, rfl, hj, kk⟩ := hrel
    by_cases hlt : j < n
    · have b1 : (j : Int) < (n : Int) := by omega
      have hjl : j < l.length := by rw [HN.out]; exact hlt
      have cl := HL.out
      obtain ⟨lb, lo, rfl⟩ := cl.caps.2.2.2 (fun e => by rw [e] at hjl; cases hjl)
      have ca := cl.at_ j hjl
      have cr := cl.row_ j hjl
      obtain ⟨p, hp⟩ : ∃ p, p = (l.getD j (0, [])).1 := ⟨_, rfl⟩
      obtain ⟨y, hy⟩ : ∃ p, p = (l.getD j (0, [])).2 := ⟨_, rfl⟩
      obtain ⟨xv, hx⟩ : ∃ p, p = xs.getD j undef := ⟨_, rfl⟩
      rw [← hp, ← hx] at ca
      rw [← hx, ← hy] at cr
      obtain ⟨xa, xc, ex⟩ := cr.1.shape
      obtain ⟨yn, hyn⟩ : ∃ n, n = y.length := ⟨_, rfl⟩
      rw [← hyn] at ex
      subst ex
      have c0 : wz.cell? ⟨lb, lo + j * 2, none⟩ = some (.int .i64 p) := (kk.out.cell (p := ⟨lb, lo + j * 2, none⟩) (World.block_lt_of_cell? w _ ca.1)).trans ca.1
      have c1 : wz.cell? ⟨lb, lo + j * 2 + 1, none⟩ = some (.slice xa yn xc) := (kk.out.cell (p := ⟨lb, lo + j * 2 + 1, none⟩) (World.block_lt_of_cell? w _ ca.2)).trans ca.2
      have HF : Hid (M.Fits (m.safe.length - 42) (l.getD j (0, [])) ↔ 0 ≤ p ∧ p < (m.safe.length : Int) - 42 ∧ yn = 256) := by
        rw [Hid, M.Fits, hp, hyn, hy, show ((m.safe.length - 42 : Nat) : Int) = (m.safe.length : Int) - 42 by have := H42.out; omega]
      obtain ⟨bad, hbad⟩ : ∃ b, b = !decide (0 ≤ p ∧ p < (m.safe.length : Int) - 42 ∧ yn = 256) := ⟨_, rfl⟩
      have CM := Lib.hid (may1_any (D.out.below kk.out) (WI.out.below kk.out) gb ((kk.out.cell (p := ⟨gb, 0, none⟩) (World.block_lt_of_cell? w _ CB.out)).trans CB.out) p xa yn xc bad hbad)
      have HB := Lib.hid hbad
      have HJ := Lib.hid hlt
      have g2 : (0 : Int) ≤ (j : Int) := Int.natCast_nonneg j
      have g3 : ((j : Int)).toNat = j := Int.toNat_natCast j
      clear ca cr hp hy hx hyn cl hjl hlt hbad
      cases bad with
      | true =>
        have HNO : Hid (¬ M.AllFit (m.safe.length - 42) l) := fun h => by
          have h1 := HF.out.1 (h j (by rw [HN.out]; exact HJ.out))
          have h2 := HB.out
          rw [decide_eq_true h1] at h2
          cases h2
        go_wp2_with fail
        refine CM.out.mono ?_
        rintro e w1 ⟨rfl, k1⟩
        have K1 : Hid (Below w.heap.size w w1) := kk.out.trans (k1.mono kk.out.size)
        clear CM k1 kk hj
        go_wp2
        go_ret
        exact ⟨_, rfl, iff_of_true (Int.natCast_nonneg j) HNO.out, K1.out⟩
      | false =>
        have HY : Hid (M.Fits (m.safe.length - 42) (l.getD j (0, []))) := HF.out.2 (of_decide_eq_true (by have := HB.out; simpa using this.symm))
        have n3 : wrap64 ((j : Int) + 1) = ((j + 1 : Nat) : Int) := by have := HJ.out; have := H40.out; unfold wrap64; omega
        have N3 := Lib.hid n3
        have HJ2 : Hid (j + 1 ≤ n ∧ ∀ i, i < j + 1 → M.Fits (m.safe.length - 42) (l.getD i (0, []))) := ⟨HJ.out, fun i hi => by
          by_cases e : i = j
          · rw [e]; exact HY.out
          · exact hj.out.2 i (by omega)⟩
        clear n3 hj
        go_wp2_with fail
        refine CM.out.mono ?_
        rintro e w1 ⟨rfl, k1⟩
        have K1 : Hid (Below w.heap.size w w1) := kk.out.trans (k1.mono kk.out.size)
        clear CM k1 kk
        go_wp2
        go_roundw
        case rel => exact ⟨j + 1, by first | rw [N3.out] | rfl, HJ2.out, K1⟩
        case measure =>
          first | rw [N3.out] | skip
          exact step_down HJ.out
    · have b1 : ¬ (j : Int) < (n : Int) := by omega
      have e : j = n := by have := hj.out.1; omega
      have HA : Hid (M.AllFit (m.safe.length - 42) l) := fun i hi => hj.out.2 i (by rw [e, ← HN.out]; exact hi)
      clear e hlt hj
      go_wp2
      go_ret
      exact ⟨-1, rfl, iff_of_false (by omega) (fun h => h HA.out), kk.out⟩

set_option maxHeartbeats 4000000 in
theorem containsFunc10 {w : World} (hD : CodeDk T w g m) (h42 : 42 < m.safe.length) (hW : WalIs w gw g) (gb : Nat) (hb : w.cell? ⟨gb, 0, none⟩ = some (.pointer (some ⟨gw, 0, none⟩))) (lv : Value) (l : M.CL) (xs : List Value) (hl : IsCL w lv l xs) (h40 : l.length ≤ 1000)
    (b : Bool) (hbb : b = !decide (M.AllFit (m.safe.length - 42) l)) :
    Calls Tryz.prog 105 #[lv, .func (.func 106) #[] #[.pointer (some ⟨gb, 0, none⟩)]] w fun e w' =>
      e = .returned (.bool b) ∧ Below w.heap.size w w' := by
  have C := Lib.hid (indexFunc10 hD h42 hW gb hb lv l xs hl h40)
  have HBB := Lib.hid hbb
  obtain ⟨ao, cap, rfl⟩ := hl.shape
  clear hD h42 hW hb hl h40 hbb
  go_enter Tryz.func105, Tryz.ntmps105
  go_wp2_with fail
  refine C.out.mono ?_
  rintro e w1 ⟨r, rfl, hr, k1⟩
  have K1 := Lib.hid k1
  have e1 : decide (0 ≤ r) = b := by
    rw [HBB.out]
    by_cases h : M.AllFit (m.safe.length - 42) l
    · rw [decide_eq_true h, decide_eq_false fun h0 => hr.out.1 h0 h]; rfl
    · rw [decide_eq_false h, decide_eq_true (hr.out.2 h)]; rfl
  have E1 := Lib.hid e1
  clear C k1 hr e1
  go_wp2
  go_ret
  exact ⟨by first | rfl | (show Ending.returned (.bool (decide (0 ≤ r))) = _; rw [E1.out]), K1.out⟩

set_option maxHeartbeats 4000000 in
theorem wmay_any {w : World} (hD : CodeDk T w g m) (h42 : 42 < m.safe.length) (hW : WalIs w gw g) (lv : Value) (l : M.CL) (xs : List Value) (hl : IsCL w lv l xs) (ok : Bool) (hok : ok = decide (M.May (m.safe.length - 42) l)) :
    Calls Tryz.prog 88 #[.pointer (some ⟨gw, 0, none⟩), lv] w fun e w' => e = .returned (.bool ok) ∧ Below w.heap.size w w' := by
  have hmf : ∀ (fn : Fn) (first cap : Array Value) (w : World), (Instr.makeFunc fn first cap).run Tryz.prog w = .ok (.func fn first cap) w := fun _ _ _ _ => rfl
  obtain ⟨G, hG⟩ : ∃ G, Hid (G = w.heap.size) := ⟨_, rfl⟩
  obtain ⟨W, hW2⟩ : ∃ W, Hid (W = w.alloc (.cells #[.pointer (some ⟨gw, 0, none⟩)] 59)) := ⟨_, rfl⟩
  have KW : Below w.heap.size w W := by rw [hW2.out]; exact (Below.refl _ _).alloc (Nat.le_refl _) _
  have BW : Blk W G 59 [.pointer (some ⟨gw, 0, none⟩)] := by rw [hW2.out]; exact Blk.newAt _ _ _ _ _ hG.out rfl
  obtain ⟨ao, cap, rfl⟩ := hl.shape
  obtain ⟨n, hn⟩ : ∃ n, n = l.length := ⟨_, rfl⟩
  have hlW := hl.below KW
  have K := Lib.hid KW
  by_cases h40 : n ≤ 40
  · obtain ⟨b, hb⟩ : ∃ b, b = !decide (M.AllFit (m.safe.length - 42) l) := ⟨_, rfl⟩
    have C := Lib.hid (containsFunc10 (hD.below KW) h42 (hW.below KW) G (BW.cell 0) _ l xs hlW (by omega) b hb)
    have e1 : (!b) = ok := by
      rw [hok, hb, Bool.not_not]
      congr 1
      rw [M.may_iff]
      exact propext ⟨fun h => ⟨by omega, h⟩, fun h => h.2⟩
    have E1 := Lib.hid e1
    have b1 : (n : Int) ≤ 40 := by omega
    rw [← hn] at C ⊢
    clear hD h42 hW hl hok KW BW hlW hb e1 h40 hn
    go_enter Tryz.func88, Tryz.ntmps88
    go_upto_region 1 with fail
    rw [← hG.out, ← hW2.out]
    go_wp2_with fail
    refine C.out.mono ?_
    rintro e w1 ⟨rfl, k1⟩
    have K1 := Lib.hid (K.out.trans (k1.mono K.out.size))
    clear C k1
    go_wp2
    go_ret
    exact ⟨by first | rfl | (show Ending.returned (.bool (!b)) = _; rw [E1.out]) | (rw [← E1.out]; rfl), K1.out⟩
  · have e1 : ok = false := by rw [hok]; exact decide_eq_false fun h => h40 (by have := h.1; omega)
    subst e1
    have b1 : ¬ (n : Int) ≤ 40 := by omega
    rw [← hn]
    clear hD h42 hW hl hok KW BW hlW h40 hn
    go_enter Tryz.func88, Tryz.ntmps88
    go_upto_region 1 with fail
    rw [← hG.out, ← hW2.out]
    go_wp2
    go_ret
    exact ⟨rfl, K.out⟩

end

end Go.Proofs.YtphcbpfpelonaaaGreatDoor
