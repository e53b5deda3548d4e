/-
  CONTRACT OF seal.Seal WITH A BOOK. Conditions: fewer than 50000 boxes; up to 2^24 bytes.
-/
import Derived.Test.YtdojalhaklkegaaDoorSealB
namespace Go.Proofs.YtdojalhaklkegaaDoor
open Go.RowKit Go.Maps
set_option linter.unusedVariables false
set_option maxRecDepth 100000

theorem meth_seal (w : World) (a : Addr) : (method 278 72 (.pointer (some a)) "Seal").run Tryd.prog w = .ok (136, .pointer (some a)) w := by kernel_rfl
theorem meth_open (w : World) (a : Addr) : (method 278 72 (.pointer (some a)) "Open").run Tryd.prog w = .ok (135, .pointer (some a)) w := by kernel_rfl

theorem append_mix {t t2 e e2 : TypeId} (ht : Tryd.prog.underlying t = some (.slice e)) (ht2 : Tryd.prog.underlying t2 = some (.slice e2)) (ty : TypeId) (b : Option Addr) (n c : Nat) (x : Value) (w : World) :
    (Builtin.append_ #[t, t2] ty #[.slice b n c, x]).run Tryd.prog w = (Builtin.append_ #[t, t] ty #[.slice b n c, x]).run Tryd.prog w := by
  unfold Builtin.append_
  simp [run_underlying ht, run_underlying ht2]

/-- 'append' of a slice of another type's name. -/
theorem wpList_appMix {t2 : TypeId} (ht2 : Tryd.prog.underlying t2 = some (.slice 5)) (w : World) {ops : Array Oper} {rest : List Oper} {o : Oper} {a : Act} {Q : Exit → Act → World → Prop} (hg : o.guard = none) (s x : Operand)
    (ho : o.op = .call { callee := .builtin .append, args := #[s, x], argTypes := #[24, t2] })
    (B : Nat) (b : Option Addr) (n c : Nat) (bs : List UInt8) (hs : a.eval s = .slice b n c) (hown : Own w B (.slice b n c) bs) (ad : Addr) (m c2 : Nat) (ys : List UInt8) (hx : a.eval x = .slice (some ad) m c2) (hi : IsB w (.slice (some ad) m c2) ys)
    (hlen : bs.length + ys.length ≤ 140737488355328) (hB : B ≤ w.heap.size)
    (h : ∀ v' w', Own w' B v' (bs ++ ys) → w.grownBy w' (Value.slice b n c).ownBlock → (v'.ownBlock = (Value.slice b n c).ownBlock ∨ v'.ownBlock = some w.heap.size) → wpList Tryd.prog ops Q rest (a.put o.dst v') w') : wpList Tryd.prog ops Q (o :: rest) a w := by
  obtain ⟨i0, h0, hz0, hz1, hz2⟩ := info_parts Tryd.info5
  have hm : m = ys.length := by obtain ⟨_, _, e, _⟩ := hi; injection e
  subst hm
  obtain ⟨_, hn, hc⟩ := hi.cells
  obtain ⟨v', w', hr, h2, h3, h4, h5⟩ := run_append_own_at (P := Tryd.prog) w B 24 o.type 5 i0 (.int .u8 0) 1 1 Tryd.underlying24 h0 hz0 hz1 hz2 rfl (by decide) (.slice b n c) bs.length _ hown.row ad ys.length c2 (Lib.byteCells ys) (by rw [byteCells_length, Nat.mul_one]) (hc ad rfl) (byteCells_oneCell _) (by unfold maxLen; omega) (by omega) hB
  refine Lib.wpList_append_run w hg s x _ _ ho _ _ hs hx v' w' ((append_mix Tryd.underlying24 ht2 _ b n c _ w).trans hr) (h v' w' ?_ h3 h5)
  rw [Own, List.length_append, byteCells_append]
  exact h2

/-- Cells are not where a map is. -/
theorem IsB.keepM {w w' : World} {m : Nat} {v : Value} {bs : List UInt8} {F : Nat → Prop} (h : IsB w v bs) (hm : ∃ es clock, w.heap[m]? = some (.map es clock)) (k : Chg F w w') (hF : ∀ b, b < w.heap.size → F b → b = m) : IsB w' v bs := by
  obtain ⟨ao, cap, rfl, h1, h2, h3⟩ := h
  refine ⟨ao, cap, rfl, h1, h2, ?_⟩
  rcases h3 with h | ⟨b, off, rfl, h⟩
  · exact .inl h
  · refine .inr ⟨b, off, rfl, fun i hi => ?_⟩
    have hc := h i hi
    have hb : b < w.heap.size := World.block_lt_of_cell? w _ hc
    have hne : ¬ F b := fun hf => by
      have := hF b hb hf
      subst this
      obtain ⟨es, clock, e⟩ := hm
      simp [World.cell?, e] at hc
    rw [World.cell?_of_block (k.block b hb hne), hc]

theorem BkIs.isMap {T : Nat → Prop} {w : World} {gb m1 m2 : Nat} {L : M.Bk} (h : BkIs T w gb m1 m2 L) : ∃ es clock, w.heap[m2]? = some (.map es clock) := by
  obtain ⟨f, h1, _⟩ := h.map
  exact h1.isMap

theorem BkIs.wide {T T' : Nat → Prop} {w : World} {gb m1 m2 : Nat} {L : M.Bk} (h : BkIs T w gb m1 m2 L) (hT : ∀ k, T k → T' k) (hU : ∀ k, T' k → k < w.heap.size) : BkIs T' w gb m1 m2 L := by
  obtain ⟨f, h1, h2⟩ := h.map
  refine ⟨h.blk, h.ne, hT _ h.tg, hT _ h.tm, hU, h.ok, h.fit, f, h1, fun s hs => ?_⟩
  have := h2 s hs
  cases hb : M.bget L s with
  | none => rw [hb] at this; exact this
  | some t =>
    rw [hb] at this
    obtain ⟨v, e, hi, hl⟩ := this
    exact ⟨v, e, hi, fun ad n c e => ⟨hT _ (hl ad n c e).1, (hl ad n c e).2⟩⟩

/-- What stands between two pieces, while a layer is sealed. -/
structure SInv (T0 : Nat → Prop) (w0 w1 : World) (gb m1 m2 gs g0 : Nat) (L : M.Bk) (key pre ctx layer : List UInt8) (size i : Nat) (W : World) : Prop where
  chg : Chg (fun b => b = m2 ∨ b = gs ∨ b = g0) w1 W
  row : ∃ sv, Blk W gs 24 [sv] ∧ Own W w0.heap.size sv (M.hd pre size ++ M.sbx L.length layer size i) ∧ (∀ k, sv.ownBlock = some k → (k = g0 ∨ w1.heap.size ≤ k) ∧ k ≠ gs) ∧
    ∃ T, BkIs T W gb m1 m2 (M.sbk L key pre ctx layer size i) ∧ (∀ k, T k → T0 k ∨ w1.heap.size ≤ k) ∧ ∀ k, sv.ownBlock = some k → ¬ T k

theorem SInv.below {T0 : Nat → Prop} {w0 w1 : World} {gb m1 m2 gs g0 : Nat} {L : M.Bk} {key pre ctx layer : List UInt8} {size i : Nat} {W W' : World} (h : SInv T0 w0 w1 gb m1 m2 gs g0 L key pre ctx layer size i W) (k : Below W.heap.size W W') : SInv T0 w0 w1 gb m1 m2 gs g0 L key pre ctx layer size i W' := by
  obtain ⟨hc, sv, h1, h2, h3, T, h4, h5, h6⟩ := h
  refine ⟨hc.trans (Chg.of_below (F := fun _ => False) k) (fun _ _ h => h.elim), sv, h1.below k h1.lt, own_chg h2 (Chg.of_below (F := fun _ => False) k) (fun _ _ h => h), h3, T, h4.below k, h5, h6⟩

set_option maxHeartbeats 8000000 in
theorem sealOne_any (T0 : Nat → Prop) (w0 w1 : World) (gb m1 m2 gs g0 gc gk gd : Nat) (L : M.Bk) (key pre ctx layer : List UInt8) (size i : Nat) (kv dv : Value)
    (hw01 : w0.heap.size ≤ gs) (hg0 : w0.heap.size ≤ g0) (hgs1 : gs < w1.heap.size) (hT0 : ∀ k, T0 k → k < w0.heap.size)
    (bc : Blk w1 gc 38 [.iface 72 (.pointer (some ⟨gb, 0, none⟩))]) (bk : Blk w1 gk 24 [kv]) (bd : Blk w1 gd 84 [dv])
    (nc : gc ≠ m2 ∧ gc ≠ gs ∧ gc ≠ g0) (nk : gk ≠ m2 ∧ gk ≠ gs ∧ gk ≠ g0) (nd : gd ≠ m2 ∧ gd ≠ gs ∧ gd ≠ g0)
    (hk : ∀ W, Chg (fun b => b = m2 ∨ b = gs ∨ b = g0) w1 W → IsB W kv key) (hd : ∀ W, Chg (fun b => b = m2 ∨ b = gs ∨ b = g0) w1 W → IsB W dv (M.hd pre size ++ ctx))
    (hk32 : key.length = 32) (hp7 : pre.length = 7) (hcl : ctx.length ≤ 16777216) (hll : layer.length ≤ 16777216) (hL : L.length < 50000) (hsz : 1 ≤ size) (hik : i < M.np layer.length size) (hfew : M.np layer.length size ≤ 40000)
    (W : World) (nv pv : Value) (h : SInv T0 w0 w1 gb m1 m2 gs g0 L key pre ctx layer size i W) (hn : IsB W nv (M.nonce pre i (decide (i + 1 = M.np layer.length size)))) (hp : IsB W pv (M.pc layer size i)) :
    Calls Tryd.prog 44 #[nv, pv, .pointer (some ⟨gc, 0, none⟩), .pointer (some ⟨gk, 0, none⟩), .pointer (some ⟨gd, 0, none⟩), .pointer (some ⟨gs, 0, none⟩)] W fun e W' =>
      ∃ code : Nat, e = .returned (.int .i64 (code : Int)) ∧ (code = 0 → SInv T0 w0 w1 gb m1 m2 gs g0 L key pre ctx layer size (i + 1) W') ∧ (code ≠ 0 → False) := by
  obtain ⟨hc, sv, s1, s2, s3, T, s4, s5, s6⟩ := h
  have c0 : W.cell? ⟨gc, 0, none⟩ = some (.iface 72 (.pointer (some ⟨gb, 0, none⟩))) := (bc.chg hc (by intro h; omega)).cell 0
  have c1 : W.cell? ⟨gk, 0, none⟩ = some kv := (bk.chg hc (by intro h; omega)).cell 0
  have c2 : W.cell? ⟨gd, 0, none⟩ = some dv := (bd.chg hc (by intro h; omega)).cell 0
  have hm := meth_seal W ⟨gb, 0, none⟩
  have hhd := M.hd_len hp7 size
  have hplen : (M.pc layer size i).length ≤ 16777216 := by rw [M.pc_len]; omega
  have hsl : (M.sbk L key pre ctx layer size i).length = L.length + i := M.sbk_len ..
  have HC := Lib.hid (bkSeal_any s4 (by rw [hsl]; omega) kv nv dv pv key _ _ _ (hk W hc) hn (hd W hc) hp hk32 (M.nonce_len hp7 _ _) (by rw [List.length_append, hhd]; omega) (by omega))
  rw [hsl] at HC
  have HS : Hid (M.hd pre size ++ M.sbx L.length layer size (i + 1) = M.hd pre size ++ (M.sbx L.length layer size i ++ M.bbox (L.length + i) ((M.pc layer size i).length + 16))) := by
    rw [Hid, M.sbx_succ]
  have HLEN : Hid ((M.hd pre size ++ M.sbx L.length layer size i).length + (M.bbox (L.length + i) ((M.pc layer size i).length + 16)).length ≤ 140737488355328) := by
    have hfl : ((List.range i).flatMap (M.pc layer size)).length ≤ layer.length := by
      rw [M.pc_take, List.length_take]; omega
    rw [Hid, List.length_append, hhd, M.sbx_len, M.bbox_len]
    omega
  have HW := Lib.hid (⟨hc, s1, s2, s3, s5, s6⟩ : _ ∧ _ ∧ _ ∧ _ ∧ _ ∧ _)
  have HU := Lib.hid s4.up
  have HG : Hid (w0.heap.size ≤ gs ∧ w0.heap.size ≤ g0 ∧ (∀ k, T0 k → k < w0.heap.size) ∧ gs < w1.heap.size) := ⟨hw01, hg0, hT0, hgs1⟩
  have HTM : Hid (T m2) := s4.tm
  clear hc s1 s2 s3 s4 s5 s6 hn hp hk hd bc bk bd hhd hplen hsl
  go_enter Tryd.func44, Tryd.ntmps44
  go_wp2_with fail
  refine HC.out.mono ?_
  rintro e w3 ⟨r, rfl, o3, b3, c3⟩
  obtain ⟨hc, s1, s2, s3, s5, s6⟩ := HW.out
  have gT : ¬ T gs := fun h => by
    have := HG.out
    rcases s5 gs h with h | h
    · have := this.2.2.1 gs h; omega
    · omega
  have gm : gs ≠ m2 := fun e => gT (e ▸ HTM.out)
  have B3 := Lib.hid (s1.chg c3 gm)
  have S3 : Hid (Own w3 w0.heap.size sv (M.hd pre size ++ M.sbx L.length layer size i)) := own_chg s2 c3 fun k hk e => s6 k hk (e ▸ HTM.out)
  have HIB := Lib.hid o3.isB
  have HNIL := Lib.hid o3.nil0
  have hzW : w0.heap.size ≤ W.heap.size := by have := HG.out; have := hc.size; omega
  have hz3 : W.heap.size ≤ w3.heap.size := c3.size
  have HZ := Lib.hid (show w0.heap.size ≤ w3.heap.size by omega)
  have d0 : w3.cell? ⟨gs, 0, none⟩ = some sv := B3.out.cell 0
  have z0 : w3.frozen? ⟨gs, 0, none⟩ = false := B3.out.frozen 0
  have O3 := Lib.hid o3
  have BK3 := Lib.hid b3
  have C3 := Lib.hid c3
  have HGT := Lib.hid gT
  clear hc s1 s2 s3 s5 s6 o3 b3 c3 gT gm hzW hz3 HC c0 c1 c2 hm
  go_upto_region 2 with fail
  go_wp2_with (at_builtin; go_must (refine wpList_app3 _ rfl _ _ rfl w0.heap.size _ _ rfl S3.out _ _ rfl HIB.out HNIL.out HLEN.out HZ.out ?_))
  intro v4 w4 o4 g4 a4
  rw [← HS.out] at o4
  obtain ⟨v4a, v4c, hv4⟩ := o4.shape'
  obtain ⟨v4n, hv4n⟩ : ∃ n, n = (M.hd pre size ++ M.sbx L.length layer size (i + 1)).length := ⟨_, rfl⟩
  rw [← hv4n] at hv4
  obtain ⟨hc, s1, s2, s3, s5, s6⟩ := HW.out
  have hneg : sv.ownBlock ≠ some gs := fun e => (s3 gs e).2 rfl
  have B4 := Lib.hid (B3.out.grown g4 hneg.symm)
  have z0 : w4.frozen? ⟨gs, 0, none⟩ = false := B4.out.frozen 0
  have d0 : w4.cell? ⟨gs, 0, none⟩ = some sv := B4.out.cell 0
  have cg : Chg (fun b => sv.ownBlock = some b) w3 w4 := Chg.of_grown g4 fun k hk => hk
  have hsz : w1.heap.size ≤ w3.heap.size := Nat.le_trans hc.size C3.out.size
  have hzz : W.heap.size ≤ w3.heap.size := C3.out.size
  have hne4 : ∀ k, v4.ownBlock = some k → (k = g0 ∨ w1.heap.size ≤ k) ∧ k ≠ gs := fun k hk => by
    rcases a4 with e | e
    · exact s3 k (e ▸ hk)
    · rw [e] at hk
      injection hk with hk
      have := HG.out.2.2.2
      exact ⟨.inr (by omega), by omega⟩
  have hT4 : ∀ k, v4.ownBlock = some k → ¬ Wider T W w3 k := fun k hk ht => by
    rcases a4 with e | e
    · rw [e] at hk
      have hkW := (s2.block_lt k hk).2
      rcases ht with ht | ht
      · exact s6 k hk ht
      · omega
    · rw [e] at hk
      injection hk with hk
      have := BK3.out.up k ht
      omega
  have hTs : ∀ k, sv.ownBlock = some k → ¬ Wider T W w3 k := fun k hk ht => by
    have hkW := (s2.block_lt k hk).2
    rcases ht with ht | ht
    · exact s6 k hk ht
    · omega
  have hTg : ¬ Wider T W w3 gs := fun ht => by
    rcases ht with ht | ht
    · exact HGT.out ht
    · have := HG.out.2.2.2; have := hc.size; omega
  have HF : Hid (SInv T0 w0 w1 gb m1 m2 gs g0 L key pre ctx layer size (i + 1) (w4.setCell ⟨gs, 0, none⟩ v4)) := by
    refine ⟨?_, v4, ?_, ?_, hne4, Wider T W w3, ?_, ?_, hT4⟩
    · refine Chg.setCell ?_ _ _ (.inl (.inr (.inl rfl)))
      refine (hc.trans C3.out fun k _ h => .inl h).trans cg fun k hk h => ?_
      rcases (s3 k h).1 with h | h
      · exact .inr (.inr h)
      · omega
    · exact B4.out.set_ 0 v4
    · refine own_chg o4 ((Chg.refl (fun b => b = gs) w4).cell 0 v4) fun k hk e => (hne4 k hk).2 e
    · refine (BK3.out.chg cg fun k ht h => hTs k h ht).chg ((Chg.refl (fun b => b = gs) w4).cell 0 v4) fun k ht e => hTg (e ▸ ht)
    · rintro k (h | h)
      · exact s5 k h
      · exact .inr (Nat.le_trans hc.size h.1)
  clear hc s1 s2 s3 s5 s6 hneg cg hsz hzz hne4 hT4 hTs hTg o4 g4 a4 hv4n
  subst hv4
  go_wp2
  go_ret
  exact ⟨0, rfl, fun _ => HF.out, fun h => absurd rfl h⟩

set_option maxHeartbeats 16000000 in
theorem seal_any {T0 : Nat → Prop} {w : World} {gb m1 m2 : Nat} {L : M.Bk} (hb : BkIs T0 w gb m1 m2 L) (kv pv xv lv : Value) (key pre ctx layer : List UInt8) (size : Nat)
    (hk : IsB w kv key) (hp : IsB w pv pre) (hx : IsB w xv ctx) (hl : IsB w lv layer) (hxn : ∀ n c, xv = .slice none n c → c = 0) (hk32 : key.length = 32) (hp7 : pre.length = 7) (hs1 : 1 ≤ size) (hs2 : size ≤ 65536) (hcl : ctx.length ≤ 16777216) (hll : layer.length ≤ 16777216)
    (hL : L.length < 50000) (hfew : M.np layer.length size ≤ 40000) :
    Calls Tryd.prog 19 #[.iface 72 (.pointer (some ⟨gb, 0, none⟩)), kv, pv, xv, lv, .int .i64 (size : Int)] w fun e w' => ∃ r, e = .returned (.tuple #[r, .int .i64 0]) ∧ Own w' w.heap.size r (M.sealB L.length pre layer size) ∧
      BkIs (Wider T0 w w') w' gb m1 m2 (M.bookB L key pre ctx layer size) ∧ Chg (fun b => b = m2) w w' := by
  obtain ⟨WA, hWA⟩ : ∃ x, x = w.alloc (.cells #[.iface 72 (.pointer (some ⟨gb, 0, none⟩))] 38) := ⟨_, rfl⟩
  obtain ⟨W1, hW1⟩ : ∃ x, x = WA.alloc (.cells #[kv] 24) := ⟨_, rfl⟩
  have kA : Below w.heap.size w WA := by rw [hWA]; exact (Below.refl _ _).alloc (Nat.le_refl _) _
  have k1 : Below WA.heap.size WA W1 := by rw [hW1]; exact (Below.refl _ _).alloc (Nat.le_refl _) _
  have zA : WA.heap.size = w.heap.size + 1 := by rw [hWA]; simp
  have z1 : W1.heap.size = w.heap.size + 1 + 1 := by rw [hW1]; simp [zA]
  have BC : Hid (Blk W1 w.heap.size 38 [.iface 72 (.pointer (some ⟨gb, 0, none⟩))]) := by
    have : Blk WA w.heap.size 38 [.iface 72 (.pointer (some ⟨gb, 0, none⟩))] := by rw [hWA]; exact Blk.newAt _ _ _ _ _ rfl rfl
    exact this.below k1 this.lt
  have BK : Hid (Blk W1 (w.heap.size + 1) 24 [kv]) := by rw [Hid, hW1]; exact Blk.newAt _ _ _ _ _ zA.symm rfl
  have k01 : Below w.heap.size w W1 := kA.trans (k1.mono (by omega))
  have E1 : Hid (W1 = (w.alloc (.cells #[.iface 72 (.pointer (some ⟨gb, 0, none⟩))] 38)).alloc (.cells #[kv] 24)) := by rw [Hid, hW1, hWA]
  have Z1 := Lib.hid z1
  have K01 := Lib.hid k01
  have HBK := Lib.hid hb
  have HK := Lib.hid hk
  have HX := Lib.hid hx
  have HLY := Lib.hid hl
  have HXN := Lib.hid hxn
  have HLEN : Hid (key.length = 32 ∧ pre.length = 7 ∧ 1 ≤ size ∧ size ≤ 65536 ∧ ctx.length ≤ 16777216 ∧ layer.length ≤ 16777216 ∧ L.length < 50000 ∧ M.np layer.length size ≤ 40000) := ⟨hk32, hp7, hs1, hs2, hcl, hll, hL, hfew⟩
  have CH := Lib.hid (newHead_any pv pre size W1 (hp.below k01) hp7 hs2)
  have CS := Lib.hid (isSize_any (size : Int) W1)
  rw [decide_eq_true (show (1 : Int) ≤ (size : Int) by omega), decide_eq_true (show (size : Int) ≤ 65536 by omega)] at CS
  obtain ⟨pa, pc, rfl⟩ := hp.shape
  obtain ⟨la, lc, rfl⟩ := hl.shape
  obtain ⟨ka, kc, rfl⟩ := hk.shape
  obtain ⟨xa, xc, rfl⟩ := hx.shape
  obtain ⟨xn, hxm⟩ : ∃ n, n = ctx.length := ⟨_, rfl⟩
  rw [← hxm] at HX HXN ⊢
  rw [hp7] at CH ⊢
  have ck : W1.cell? ⟨w.heap.size + 1, 0, none⟩ = some (.slice ka key.length kc) := BK.out.cell 0
  rw [hk32] at ck BK HK E1 ⊢
  obtain ⟨n, hn⟩ : ∃ n, n = layer.length := ⟨_, rfl⟩
  rw [← hn] at HLY ⊢
  have HN := Lib.hid hn
  have HSL := Lib.hid (fun W => slength_any (n : Int) (size : Int) W)
  clear hWA hW1 kA k1 zA z1 k01 hb hk hp hx hl hxn hk32 hp7 hs1 hs2 hcl hll hL hfew hn hxm
  go_enter Tryd.func19, Tryd.ntmps19
  go_upto_region 1 with fail
  rw [← E1.out]
  go_wp2_with fail
  refine CS.out.mono ?_
  rintro e wq ⟨rfl, hq⟩
  rw [hq]
  clear hq wq
  go_upto_region 3 with fail
  go_wp2_with fail
  refine CH.out.mono ?_
  rintro e w2 ⟨hv, rfl, o2, k2⟩
  obtain ⟨ha, hc_, rfl⟩ := o2.shape'
  have hhl : (M.hd pre size).length = 12 := M.hd_len HLEN.out.2.1 size
  rw [hhl]
  have HHL := Lib.hid hhl
  have O2 := Lib.hid o2
  rw [hhl] at O2
  have K2 := Lib.hid (K01.out.trans (k2.mono K01.out.size))
  have R := Lib.hid (rowsN_two (t := 84) (fr := (0, 0)) O2.out.isB (HX.out.below K2.out) O2.out.nil0 HXN.out)
  have k3 : Below w.heap.size w (w2.alloc (.cells #[.slice ha 12 hc_, .slice xa xn xc] 84)) := K2.out.alloc K2.out.size _
  have HCC := Lib.hid (concatH_any _ _ _ R.out (by have h1 := HHL.out; have h2 := HLEN.out; simp; omega))
  rw [show [M.hd pre size, ctx].flatten = M.hd pre size ++ ctx by simp] at HCC
  have K3 := Lib.hid k3
  have K12 := Lib.hid k2
  clear o2 k2 CH CS ck R k3 hhl
  go_upto_region 4 with fail
  go_wp2_with fail
  refine HCC.out.mono ?_
  rintro e w3 ⟨dv, rfl, o3, k3⟩
  obtain ⟨da, dc, rfl⟩ := o3.shape'
  obtain ⟨dn, hdn⟩ : ∃ n, n = (M.hd pre size ++ ctx).length := ⟨_, rfl⟩
  have O3 := Lib.hid o3
  rw [← hdn] at O3 ⊢
  have K23 : Hid (Below w2.heap.size w2 w3) := ((Below.refl _ w2).alloc (Nat.le_refl _) _).trans (k3.mono (by simp))
  clear o3 k3 HCC hdn
  obtain ⟨W4, hW4⟩ : ∃ W, W = w3.alloc (.cells #[.slice da dn dc] 84) := ⟨_, rfl⟩
  have BD : Hid (Blk W4 w3.heap.size 84 [.slice da dn dc]) := by rw [Hid, hW4]; exact Blk.newAt _ _ _ _ _ rfl rfl
  have k34 : Below w3.heap.size w3 W4 := by rw [hW4]; exact (Below.refl _ _).alloc (Nat.le_refl _) _
  have z4 : W4.heap.size = w3.heap.size + 1 := by rw [hW4]; simp
  have K04 : Hid (Below w.heap.size w W4) := (K2.out.trans (K23.out.mono K2.out.size)).trans (k34.mono (Nat.le_trans K2.out.size K23.out.size))
  have K34 := Lib.hid k34
  have Z4 := Lib.hid z4
  have E4 := Lib.hid hW4
  obtain ⟨m, hm⟩ : ∃ m : Nat, m = 12 + n + 16 * M.np n size := ⟨_, rfl⟩
  have hse : M.sealLen (n : Int) (size : Int) = (m : Int) := by
    have h := HLEN.out
    have h2 := HN.out
    rw [M.sealLen, if_neg (by omega), Int.toNat_natCast, Int.toNat_natCast, hm]
    omega
  rw [hse] at HSL
  have HM : Hid (12 ≤ m ∧ m ≤ 70368744177664) := by
    have h := HLEN.out
    have h2 := HN.out
    rw [← h2] at h
    rw [Hid, hm]
    omega
  clear hW4 k34 z4 hm hse
  go_upto_region 5 with fail
  rw [← E4.out]
  go_wp2_with fail
  refine (HSL.out _).mono ?_
  rintro e wq ⟨rfl, hq⟩
  rw [hq]
  clear hq wq
  go_wp2_with (at_make; go_must (refine wpList_make_cap _ rfl _ _ rfl .i64 .i64 0 (m : Int) 0 m rfl rfl rfl rfl (Nat.zero_le _) (by have := HM.out; omega) ?_))
  intro w5 o5 k5
  have O5 := Lib.hid o5
  have K45 := Lib.hid k5
  obtain ⟨hab, hao, hac, hh⟩ := O2.out.isB.some_ (by intro e; have := HHL.out; rw [e] at this; cases this)
  injection hh with hh1 hh2 hh3
  clear hh2
  subst hh1 hh3
  have HIB : Hid (IsB w5 (.slice (some ⟨hab, hao, none⟩) 12 hc_) (M.hd pre size)) := O2.out.isB.below (K23.out.trans ((K34.out.trans (k5.mono (by have := Z4.out; omega))).mono K23.out.size))
  clear o5 k5 HSL
  go_wp2_with (at_builtin; go_must (refine wpList_appMix Tryd.underlying84 _ rfl _ _ rfl W4.heap.size _ _ _ [] rfl O5.out _ _ _ _ rfl HIB.out ?c1 K45.out.size ?_))
  case c1 => rw [HHL.out]; decide
  intro v6 w6 o6 g6 a6
  obtain ⟨sa, sc, hv6⟩ := o6.shape'
  rw [HHL.out] at hv6
  subst hv6
  obtain ⟨W7, hW7⟩ : ∃ W, W = w6.alloc (.cells #[.slice sa 12 sc] 24) := ⟨_, rfl⟩
  obtain ⟨g0, hg0⟩ : ∃ g, sa = some ⟨g, 0, none⟩ ∧ W4.heap.size ≤ g ∧ g < w6.heap.size := by
    rcases o6.2 with ⟨e, _⟩ | ⟨g, cap, cur, e, hb, hg, _⟩
    · injection e with e1 e2; cases e2
    · injection e with e1
      exact ⟨g, e1, hb, (Array.getElem?_eq_some_iff.1 hg).1⟩
  obtain ⟨hsa, hg1, hg2⟩ := hg0
  subst hsa
  have k56 : Below W4.heap.size w5 w6 := (Below.refl _ w5).grown g6 K45.out.size (fun k hk => by injection hk with hk; change W4.heap.size = k at hk; omega) |>.mono (Nat.le_refl _)
  have k67 : Below w6.heap.size w6 W7 := by rw [hW7]; exact (Below.refl _ _).alloc (Nat.le_refl _) _
  have hz5 : W4.heap.size ≤ w5.heap.size := K45.out.size
  have hz6 : w5.heap.size ≤ w6.heap.size := g6.size
  have k07 : Below w.heap.size w W7 := ((K04.out.trans (K45.out.mono K04.out.size)).trans (k56.mono K04.out.size)).trans (k67.mono (by have := K04.out.size; omega))
  have k37 : Below W4.heap.size W4 W7 := (K45.out.trans k56).trans (k67.mono (by omega))
  have BS : Hid (Blk W7 w6.heap.size 24 [.slice (some ⟨g0, 0, none⟩) 12 sc]) := by rw [Hid, hW7]; exact Blk.newAt _ _ _ _ _ rfl rfl
  have z7 : W7.heap.size = w6.heap.size + 1 := by rw [hW7]; simp
  have hzq : W4.heap.size = w3.heap.size + 1 := Z4.out
  have k27 : Below w2.heap.size w2 W7 := K23.out.trans ((K34.out.trans (k37.mono (by omega))).mono K23.out.size)
  have k17 : Below W1.heap.size W1 W7 := K12.out.trans (k27.mono K12.out.size)
  have hz1 := Z1.out
  have hz12 := K12.out.size
  have hz23 := K23.out.size
  have hup := HBK.out.up
  have htm := hup m2 HBK.out.tm
  have HF : Hid (∀ W, Chg (fun b => b = m2 ∨ b = w6.heap.size ∨ b = g0) W7 W → IsB W (.slice (some ⟨hab, hao, none⟩) 12 hc_) (M.hd pre size) ∧ IsB W (.slice da dn dc) (M.hd pre size ++ ctx) ∧ IsB W (.slice ka 32 kc) key ∧ IsB W (.slice la n lc) layer) := by
    intro W hc
    have hcw : Chg (fun b => b = m2 ∨ b = w6.heap.size ∨ b = g0) w W := (Chg.of_below k07).trans hc fun _ _ h => h
    have hmap := HBK.out.isMap
    have hin : ∀ b, b < w.heap.size → (b = m2 ∨ b = w6.heap.size ∨ b = g0) → b = m2 := fun b hb h => by omega
    refine ⟨?_, ?_, HK.out.keepM hmap hcw hin, HLY.out.keepM hmap hcw hin⟩
    · have o := O2.out.lies (S := fun k => W1.heap.size ≤ k ∧ k < w2.heap.size) (fun k h1 h2 => ⟨h1, h2⟩)
      exact (O2.out.isB.below k27).chg hc fun ad n c e => by have := o ad n c e; omega
    · have o := O3.out.lies (S := fun k => w2.heap.size ≤ k ∧ k < w3.heap.size) (fun k h1 h2 => ⟨by simp at h1; omega, h2⟩)
      have k3 : Below w3.heap.size w3 W7 := K34.out.trans (k37.mono (by omega))
      exact (O3.out.isB.below k3).chg hc fun ad n c e => by have := o ad n c e; omega
  obtain ⟨k, hk⟩ : ∃ k, k = M.np layer.length size := ⟨_, rfl⟩
  have HI0 : Hid (SInv T0 w W7 gb m1 m2 w6.heap.size g0 L key pre ctx layer size 0 W7) := by
    refine ⟨Chg.refl _ _, .slice (some ⟨g0, 0, none⟩) 12 sc, BS.out, ?_, ?_, T0, ?_, fun k hk => .inl hk, ?_⟩
    · have o7 : Own W7 W4.heap.size (.slice (some ⟨g0, 0, none⟩) 12 sc) (M.hd pre size) := own_chg o6 (Chg.of_below (F := fun _ => False) k67) (fun _ _ h => h)
      rw [show M.hd pre size ++ M.sbx L.length layer size 0 = M.hd pre size by simp [M.sbx]]
      exact o7.mono (by omega)
    · intro k hk
      injection hk with hk
      change g0 = k at hk
      subst hk
      exact ⟨.inl rfl, by omega⟩
    · exact HBK.out.below k07
    · intro k hk ht
      injection hk with hk
      change g0 = k at hk
      have := hup k ht
      omega
  have hl := HLEN.out
  have HE := Lib.hid (eachS_any (.pointer (some ⟨w.heap.size, 0, none⟩)) (.pointer (some ⟨w.heap.size + 1, 0, none⟩)) (.pointer (some ⟨w3.heap.size, 0, none⟩)) (.pointer (some ⟨w6.heap.size, 0, none⟩)) (.slice la n lc) (.slice (some ⟨hab, hao, none⟩) 12 hc_) layer (M.hd pre size) size k
    (SInv T0 w W7 gb m1 m2 w6.heap.size g0 L key pre ctx layer size) (fun _ _ => False) W7 hk hl.2.2.1 (by omega) (by omega) HHL.out
    (fun i W h => ⟨(HF.out W h.chg).2.2.2, (HF.out W h.chg).1⟩) (fun i W W' h k => h.below k) HI0.out (by
      rw [M.hd_pre hl.2.1]
      intro i hi W nv pv h hn hp
      rw [hk] at hi hn
      exact sealOne_any T0 w W7 gb m1 m2 w6.heap.size g0 w.heap.size (w.heap.size + 1) w3.heap.size L key pre ctx layer size i (.slice ka 32 kc) (.slice da dn dc) (by omega) (by omega) (by omega) hup
        (BC.out.below k17 (by omega)) (BK.out.below k17 (by omega)) (BD.out.below k37 (by omega)) ⟨by omega, by omega, by omega⟩ ⟨by omega, by omega, by omega⟩ ⟨by omega, by omega, by omega⟩
        (fun W hc => (HF.out W hc).2.2.1) (fun W hc => (HF.out W hc).2.1) hl.1 hl.2.1 (by omega) (by omega) hl.2.2.2.2.2.2.1 hl.2.2.1 hi hl.2.2.2.2.2.2.2 W nv pv h hn hp))
  have HK7 := Lib.hid k07
  have E7 := Lib.hid hW7
  have HKK := Lib.hid hk
  have HNUM : Hid (w.heap.size ≤ w6.heap.size ∧ w.heap.size ≤ g0 ∧ W7.heap.size = w6.heap.size + 1 ∧ m2 < w.heap.size) := ⟨by omega, by omega, z7, htm⟩
  clear o6 g6 a6 hg1 hg2 k56 k67 hz5 hz6 k07 k37 z7 hzq k27 k17 hz1 hz12 hz23 hup htm hl hW7 hk
  go_wp2_with fail
  rw [← E7.out]
  refine HE.out.mono ?_
  rintro e w8 ⟨code, rfl, hi, hf⟩
  by_cases hz : code = 0
  · subst hz
    obtain ⟨hc, sv, s1, s2, s3, T, s4, s5, s6⟩ := hi rfl
    have d0 : w8.cell? ⟨w6.heap.size, 0, none⟩ = some sv := s1.cell 0
    obtain ⟨h1, h2, h3, h4⟩ := HNUM.out
    have h78 : W7.heap.size ≤ w8.heap.size := hc.size
    have R1 : Hid (Own w8 w.heap.size sv (M.sealB L.length pre layer size)) := by
      rw [Hid, M.sealB, ← HKK.out]; exact s2
    have R2 : Hid (BkIs (Wider T0 w w8) w8 gb m1 m2 (M.bookB L key pre ctx layer size)) := by
      rw [Hid, M.bookB, ← HKK.out]
      refine s4.wide (fun j hj => ?_) (fun j hj => ?_)
      · rcases s5 j hj with h | h
        · exact .inl h
        · exact .inr ⟨by have := HK7.out.size; omega, s4.up j hj⟩
      · rcases hj with h | h
        · have := HBK.out.up j h
          have := HK7.out.size
          omega
        · exact h.2
    have R3 : Hid (Chg (fun b => b = m2) w w8) := (Chg.of_below HK7.out).trans hc fun j hj h => by omega
    clear hi hf hc s1 s2 s3 s4 s5 s6 h1 h2 h3 h4 h78 HE HI0 HF
    go_wp2
    go_ret2
    exact ⟨sv, rfl, R1.out, R2.out, R3.out⟩
  · exact (hf hz).elim

end Go.Proofs.YtdojalhaklkegaaDoor
