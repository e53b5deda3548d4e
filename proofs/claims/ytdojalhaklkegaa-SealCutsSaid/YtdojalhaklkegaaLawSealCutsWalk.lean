/-
  THE WALK OF orloplaw17.SealCuts. Conditions: what is nil has no spare room.
-/
import Derived.Test.YtdojalhaklkegaaSealSmall
import Derived.Test.YtdojalhaklkegaaSealCutsM
import Derived.Test.YtdojalhaklkegaaSealCutsEnd
namespace Go.Proofs.Ytdojalhaklkegaa
open Go.RowKit Go.Maps
set_option linter.unusedVariables false
set_option maxRecDepth 100000

theorem IsB.nn {w : World} {v : Value} {bs : List UInt8} (h : IsB w v bs) (hl : 0 < bs.length) : ∀ n c, v = .slice none n c → c = 0 := by
  intro n c e
  obtain ⟨b, off, cap, h⟩ := h.some_ (fun e => by rw [e] at hl; exact absurd hl (by decide))
  rw [h] at e
  injection e with e
  cases e
theorem Own.nofz {w : World} {B g n cap : Nat} {bs : List UInt8} (h : Own w B (.slice (some ⟨g, 0, none⟩) n cap) bs) {i : Nat} (hl : 0 < bs.length) : w.frozen? ⟨g, i, none⟩ = false := by
  rcases h.row.2 with ⟨e, hz⟩ | ⟨g', cap', cur, e, hb, hg, h1, h2, h3⟩
  · rw [e] at h; omega
  · injection e with e _ _
    injection e with e
    injection e with e _ _
    subst e
    exact frozen_of_row w g i cur _ hg
theorem bcSet (xs : List UInt8) (i : Nat) (b : UInt8) : Lib.byteCells (xs.set i b) = (Lib.byteCells xs).set i (.int .u8 (b.toNat : Int)) := by
  simp [Lib.byteCells, List.map_set]
theorem nextB_ne {xs : List UInt8} (h : 0 < xs.length) : xs ≠ xs.set 0 (xs.getD 0 0 + 1) := by
  intro e
  have h2 := congrArg (fun l => (l.getD 0 0).toNat) e
  simp only [List.getD_eq_getElem?_getD, List.getElem?_set_self h, Option.getD_some] at h2
  rw [UInt8.toNat_add] at h2
  have := (xs[0]?.getD 0).toNat_lt
  have h1 : (1 : UInt8).toNat = 1 := rfl
  rw [h1] at h2
  omega
theorem IsB.cellB {w : World} {a : Addr} {n cap : Nat} {bs : List UInt8} (h : IsB w (.slice (some a) n cap) bs) {i : Nat} (hi : i < bs.length) : w.cell? ⟨a.block, a.off + i, none⟩ = some (.int .u8 ((bs.getD i 0).toNat : Int)) := by
  obtain ⟨ao, cap', e, h1, h2, h3⟩ := h
  injection e with e1 e2 e3
  rcases h3 with h | ⟨b, off, e', h⟩
  · rw [h] at hi; exact absurd hi (by simp)
  · rw [e'] at e1
    injection e1 with e1
    subst e1
    exact h i hi

theorem lies_at {S : Nat → Prop} {rows : List Value} (h : ∀ i, i < rows.length → Lies S (rows.getD i undef)) {x : Value} (hx : x ∈ rows) : Lies S x := by
  obtain ⟨i, hi, rfl⟩ := List.mem_iff_getElem.1 hx
  have := h i hi
  rwa [List.getD_eq_getElem?_getD, List.getElem?_eq_getElem hi] at this

theorem flat_next {bl : List (List UInt8)} {k : Nat} (h : k < bl.length) : (bl.take (k + 1)).flatten = (bl.take k).flatten ++ bl.getD k [] := by
  rw [List.take_add_one, List.flatten_append, List.getD_eq_getElem?_getD, List.getElem?_eq_getElem h]
  simp
theorem flat_few {bl : List (List UInt8)} (h : ∀ i, i < bl.length → (bl.getD i []).length ≤ 2500) {k : Nat} : (bl.take k).flatten.length ≤ 2500 * k := by
  induction k with
  | zero => simp
  | succ k ih =>
    by_cases hk : k < bl.length
    · rw [flat_next hk, List.length_append]
      have := h k hk
      omega
    · rw [List.take_of_length_le (by omega)] at ih ⊢
      omega


set_option maxHeartbeats 40000000 in
theorem sealCuts_walk (w : World) (kv pv xv lv : Value) (size : Int) (hsw : (Lit.int .i64 size).wf = true) (key pre ctx layer : List UInt8) (hk : IsB w kv key) (hp : IsB w pv pre) (hx : IsB w xv ctx) (hl : IsB w lv layer) (hxn : ∀ n c, xv = .slice none n c → c = 0)
    (ck ca cb : Nat) (hck : ck < 256) (hca : ca < 65536) (hcb : cb < 256) :
    Calls Try.prog 3 #[.agg #[kv, pv, xv, lv, .int .i64 size], .agg #[.int .u8 (ck : Int), .int .u16 (ca : Int), .int .u8 (cb : Int)]] w fun e w' => e = .returned (.bool true) ∧ Below w.heap.size w w' := by
  have hszb : size < 9223372036854775808 := by
    simp [Lit.wf, IntKind.min, IntKind.max, IntKind.bits, IntKind.signed] at hsw
    omega
  obtain ⟨ka, kc, rfl⟩ := hk.shape
  obtain ⟨pa, pc, rfl⟩ := hp.shape
  obtain ⟨xa, xc, rfl⟩ := hx.shape
  obtain ⟨la, lc, rfl⟩ := hl.shape
  have hll : layer.length < 9223372036854775808 := by
    have := IsB.nilN hl
    unfold maxLen at this
    omega
  obtain ⟨kn, hkn⟩ : ∃ n, n = key.length := ⟨_, rfl⟩
  obtain ⟨pn, hpn⟩ : ∃ n, n = pre.length := ⟨_, rfl⟩
  obtain ⟨xn, hxm⟩ : ∃ n, n = ctx.length := ⟨_, rfl⟩
  obtain ⟨ln, hln⟩ : ∃ n, n = layer.length := ⟨_, rfl⟩
  rw [← hkn] at hk ⊢
  rw [← hpn] at hp ⊢
  rw [← hxm] at hx hxn ⊢
  rw [← hln] at hl hll ⊢
  obtain ⟨WA, hWA⟩ : ∃ x, x = w.alloc (.cells #[.slice ka kn kc, .slice pa pn pc, .slice xa xn xc, .slice la ln lc, .int .i64 size] 24) := ⟨_, rfl⟩
  obtain ⟨W1, hW1⟩ : ∃ x, x = WA.alloc (.cells #[.int .u8 (ck : Int), .int .u16 (ca : Int), .int .u8 (cb : Int)] 27) := ⟨_, rfl⟩
  have kA : Below w.heap.size w WA := by rw [hWA]; exact (Below.refl _ _).alloc (Nat.le_refl _) _
  have k1 : Below WA.heap.size WA W1 := by rw [hW1]; exact (Below.refl _ _).alloc (Nat.le_refl _) _
  have zA : WA.heap.size = w.heap.size + 1 := by rw [hWA]; simp
  have BA : Hid (Blk W1 w.heap.size 24 [.slice ka kn kc, .slice pa pn pc, .slice xa xn xc, .slice la ln lc, .int .i64 size]) := by
    have : Blk WA w.heap.size 24 [.slice ka kn kc, .slice pa pn pc, .slice xa xn xc, .slice la ln lc, .int .i64 size] := by rw [hWA]; exact Blk.newAt _ _ _ _ _ rfl rfl
    exact this.below k1 this.lt
  have BC : Hid (Blk W1 (w.heap.size + 1) 27 [.int .u8 (ck : Int), .int .u16 (ca : Int), .int .u8 (cb : Int)]) := by rw [Hid, hW1]; exact Blk.newAt _ _ _ _ _ zA.symm rfl
  have K01 : Hid (Below w.heap.size w W1) := kA.trans (k1.mono (by omega))
  have Z1 : Hid (W1.heap.size = w.heap.size + 2) := by rw [Hid, hW1]; simp [zA]
  have E1 : Hid (W1 = (w.alloc (.cells #[.slice ka kn kc, .slice pa pn pc, .slice xa xn xc, .slice la ln lc, .int .i64 size] 24)).alloc (.cells #[.int .u8 (ck : Int), .int .u16 (ca : Int), .int .u8 (cb : Int)] 27)) := by rw [Hid, hW1, hWA]
  have HK := Lib.hid hk
  have HP := Lib.hid hp
  have HX := Lib.hid hx
  have HL := Lib.hid hl
  have HXN := Lib.hid hxn
  have HNN : Hid (kn = key.length ∧ pn = pre.length ∧ xn = ctx.length ∧ ln = layer.length) := ⟨hkn, hpn, hxm, hln⟩
  have CA := Lib.hid (awake17_any W1)
  have CSM := Lib.hid (fun W => small17_any ka pa xa la kn pn xn ln kc pc xc lc size W hll hszb)
  have HCC : Hid (ck < 256 ∧ ca < 65536 ∧ cb < 256) := ⟨hck, hca, hcb⟩
  clear hWA hW1 kA k1 zA hk hp hx hl hxn hkn hpn hxm hln hll hszb hsw hck hca hcb
  go_enter Try.func3, Try.ntmps3
  go_upto_region 1 with fail
  rw [← E1.out]
  go_wp2_with fail
  refine CA.out.mono ?_
  rintro e w1 ⟨rfl, k1⟩
  have K1 := Lib.hid (K01.out.trans (k1.mono K01.out.size))
  have BA1 := Lib.hid (BA.out.below k1 BA.out.lt)
  have BC1 := Lib.hid (BC.out.below k1 BC.out.lt)
  have Z2 : Hid (w.heap.size + 2 ≤ w1.heap.size) := by have := k1.size; have := Z1.out; rw [Hid]; omega
  clear k1 CA BA BC E1 K01 Z1
  go_upto_region 3 with fail
  go_wp2_with (refine wpList_load_mid rfl _ (.tmp 2) rfl w.heap.size 0 rfl [.slice ka kn kc, .slice pa pn pc, .slice xa xn xc, .slice la ln lc, .int .i64 size] _ (BA1.out.range 0 _ [] rfl) Try.underlying24 rfl (by kernel_rfl) ?_)
  refine (CSM.out w1).mono ?_
  rintro e w2 ⟨r, rfl, hr, k2⟩
  have HR := Lib.hid hr
  have K2 := Lib.hid (K1.out.trans (k2.mono K1.out.size))
  have BA2 := Lib.hid (BA1.out.below k2 BA1.out.lt)
  have BC2 := Lib.hid (BC1.out.below k2 BC1.out.lt)
  have Z3 : Hid (w.heap.size + 2 ≤ w2.heap.size) := Nat.le_trans Z2.out k2.size
  have c0 : w2.cell? ⟨w.heap.size, 0, none⟩ = some (.slice ka kn kc) := BA2.out.cell 0
  have c1 : w2.cell? ⟨w.heap.size, 1, none⟩ = some (.slice pa pn pc) := BA2.out.cell 1
  have c4 : w2.cell? ⟨w.heap.size, 4, none⟩ = some (.int .i64 size) := BA2.out.cell 4
  clear k2 hr CSM BA1 BC1 K1 Z2
  cases r with
  | false =>
    go_wp2
    go_ret
    exact ⟨rfl, K2.out⟩
  | true =>
    by_cases hs1 : size < 1
    · have q1 : decide (size < 1) = true := decide_eq_true hs1
      clear hs1
      by_cases h32 : kn = 32
      · subst h32
        by_cases h7 : pn = 7
        · subst h7
          go_wp2
          go_ret
          exact ⟨rfl, K2.out⟩
        · have q : ((pn : Int) != 7) = true := bne_iff_ne.2 (by omega)
          clear h7
          go_wp2
          go_ret
          exact ⟨rfl, K2.out⟩
      · have q : ((kn : Int) != 32) = true := bne_iff_ne.2 (by omega)
        clear h32
        go_wp2
        go_ret
        exact ⟨rfl, K2.out⟩
    · have q1 : decide (size < 1) = false := decide_eq_false hs1
      by_cases hs2 : 65536 < size
      · have q2 : decide (65536 < size) = true := decide_eq_true hs2
        clear hs1 hs2
        by_cases h32 : kn = 32
        · subst h32
          by_cases h7 : pn = 7
          · subst h7
            go_wp2
            go_ret
            exact ⟨rfl, K2.out⟩
          · have q : ((pn : Int) != 7) = true := bne_iff_ne.2 (by omega)
            clear h7
            go_wp2
            go_ret
            exact ⟨rfl, K2.out⟩
        · have q : ((kn : Int) != 32) = true := bne_iff_ne.2 (by omega)
          clear h32
          go_wp2
          go_ret
          exact ⟨rfl, K2.out⟩
      · have q2 : decide (65536 < size) = false := decide_eq_false hs2
        by_cases h32 : kn = 32
        · subst h32
          by_cases h7 : pn = 7
          · subst h7
            obtain ⟨sz, rfl⟩ := Int.eq_ofNat_of_zero_le (show 0 ≤ size by omega)
            have HSZ : Hid (1 ≤ sz ∧ sz ≤ 65536 ∧ xn ≤ 300 ∧ ln ≤ 1500 ∧ M.np ln sz ≤ 62 ∧ M.np layer.length sz ≤ 62) := by
              have h3 : M.np ln sz ≤ 62 := by
                have h := HR.out rfl
                have h2 := h.2.2.resolve_left (by omega)
                rw [Int.toNat_natCast] at h2
                have h4 : (ln + sz - 1) / sz ≤ ln / sz + 1 := by
                  have : ln + sz - 1 ≤ ln + sz := by omega
                  refine Nat.le_trans (Nat.div_le_div_right this) ?_
                  rw [Nat.add_div_right _ (by omega)]
                  exact Nat.le_refl _
                unfold M.np
                omega
              exact ⟨by omega, by omega, (HR.out rfl).1, (HR.out rfl).2.1, h3, by rw [← HNN.out.2.2.2]; exact h3⟩
            have CB := Lib.hid (bkBook_any w2)
            clear hs1 hs2 HR
            go_wp2_with fail
            refine CB.out.mono ?_
            clear c0 c1 c4 q1 q2
            rintro e w3 ⟨gb, m1, m2, T, rfl, b3, k3, hT⟩
            have K3 : Hid (Below w.heap.size w w3) := K2.out.trans (k3.mono K2.out.size)
            have BA3 := Lib.hid (BA2.out.below k3 BA2.out.lt)
            have BC3 := Lib.hid (BC2.out.below k3 BC2.out.lt)
            have Z4 : Hid (w.heap.size + 2 ≤ m2) := Nat.le_trans Z3.out (hT m2 b3.tm)
            have ZZ3 : Hid (w.heap.size + 2 ≤ w3.heap.size) := Nat.le_trans Z3.out k3.size
            have HK3 := Lib.hid (HK.out.below K3.out)
            have HP3 := Lib.hid (HP.out.below K3.out)
            have HX3 := Lib.hid (HX.out.below K3.out)
            have HL3 := Lib.hid (HL.out.below K3.out)
            have HM3 := Lib.hid b3.isMap
            have HU3 : Hid (m2 < w3.heap.size) := b3.up _ b3.tm
            have CS := Lib.hid (seal_any b3 (.slice ka 32 kc) (.slice pa 7 pc) (.slice xa xn xc) (.slice la ln lc) key pre ctx layer sz HK3.out HP3.out HX3.out HL3.out HXN.out HNN.out.1.symm HNN.out.2.1.symm HSZ.out.1 HSZ.out.2.1
              (by have := HSZ.out; have := HNN.out; omega) (by have := HSZ.out; have := HNN.out; omega) (by decide) (by have := HSZ.out; omega))
            have a0 : w3.cell? ⟨w.heap.size, 0, none⟩ = some (.slice ka 32 kc) := BA3.out.cell 0
            have a1 : w3.cell? ⟨w.heap.size, 1, none⟩ = some (.slice pa 7 pc) := BA3.out.cell 1
            have a2 : w3.cell? ⟨w.heap.size, 2, none⟩ = some (.slice xa xn xc) := BA3.out.cell 2
            have a3 : w3.cell? ⟨w.heap.size, 3, none⟩ = some (.slice la ln lc) := BA3.out.cell 3
            have a4 : w3.cell? ⟨w.heap.size, 4, none⟩ = some (.int .i64 (sz : Int)) := BA3.out.cell 4
            clear b3 k3 hT CB HK HP HX HL K2 BA2 BC2 Z3
            go_wp2_with fail
            refine CS.out.mono ?_
            rintro e w4 ⟨xv, rfl, o4, b4, c4⟩
            have K4 : Hid (Below w.heap.size w w4) := K3.out.trans (c4.below K3.out.size (fun k e => by subst e; have := Z4.out; omega))
            have HK4 := Lib.hid (HK3.out.keepM HM3.out c4 (fun b _ h => h))
            have HP4 := Lib.hid (HP3.out.keepM HM3.out c4 (fun b _ h => h))
            have HX4 := Lib.hid (HX3.out.keepM HM3.out c4 (fun b _ h => h))
            have HL4 := Lib.hid (HL3.out.keepM HM3.out c4 (fun b _ h => h))
            have BA4 := Lib.hid (BA3.out.chg c4 (fun e => by have := Z4.out; omega))
            have BC4 := Lib.hid (BC3.out.chg c4 (fun e => by have := Z4.out; omega))
            have ZZ4 : Hid (w.heap.size + 2 ≤ w4.heap.size) := Nat.le_trans ZZ3.out c4.size
            have HU : Hid (m2 < w3.heap.size ∧ w3.heap.size ≤ w4.heap.size) := ⟨HU3.out, c4.size⟩
            obtain ⟨xl, hxl⟩ : ∃ l, l = (M.sealB ([] : M.Bk).length pre layer sz).length := ⟨_, rfl⟩
            have HXLEN : Hid (xl = 12 + ln + M.np ln sz * 16) := by rw [Hid, hxl, M.sealB_len HNN.out.2.1.symm _ _ _ HSZ.out.1, ← HNN.out.2.2.2]
            obtain ⟨gx, xcap, rfl, hgx⟩ := o4.shape (by have := HXLEN.out; omega)
            rw [← hxl] at o4 ⊢
            have OX4 := Lib.hid o4
            have HGX := Lib.hid hgx
            have HXL := Lib.hid hxl
            have B4 := Lib.hid b4
            clear a0 a1 a2 a3 a4 CS o4 b4 c4 hxl hgx HK3 HP3 HX3 HL3 BA3 BC3 K3 ZZ3 HM3
            have a1b : (w4.alloc (.cells #[] 5)).cell? ⟨w.heap.size, 1, none⟩ = some (.slice pa 7 pc) := (BA4.out.below ((Below.refl w4.heap.size w4).alloc (Nat.le_refl _) (.cells #[] 5)) BA4.out.lt).cell 1
            go_wp2_with (at_builtin; go_must (refine wpList_app _ rfl _ _ rfl w4.heap.size _ [] rfl ?c1 _ pre rfl ?c2 (HP4.out.nn (by have := HNN.out; omega)) (by have := HNN.out; simp; omega) (by simp) ?_))
            case c1 => exact own_empty w4
            case c2 => exact HP4.out.below ((Below.refl _ _).alloc (Nat.le_refl _) _)
            intro v5 w5 o5 b5 _
            have k45 : Below w4.heap.size w4 w5 := ((Below.refl _ _).alloc (Nat.le_refl _) (.cells #[] 5)).trans b5
            have o5' : Own w5 w4.heap.size v5 pre := o5
            obtain ⟨gp, pcap, rfl, hgp⟩ := o5'.shape (by have := HNN.out; omega)
            rw [← HNN.out.2.1] at o5' ⊢
            obtain ⟨p0, hp0⟩ : ∃ x, x = (pre.getD 0 0).toNat := ⟨_, rfl⟩
            obtain ⟨q0, hq0⟩ : ∃ x, x = (p0 + 1) % 256 := ⟨_, rfl⟩
            have hcell5 : w5.cell? ⟨gp, 0, none⟩ = some (.int .u8 (p0 : Int)) := by
              have h := o5'.isB.cellB (i := 0) (by have := HNN.out; omega)
              rw [hp0]; exact h
            have hfz : w5.frozen? ⟨gp, 0, none⟩ = false := o5'.nofz (by have := HNN.out; omega)
            have y1 : IntKind.u8.wrap ((p0 : Int) + 1) = (q0 : Int) := by
              simp [IntKind.wrap, IntKind.signed, IntKind.bits]
              omega
            have K5 : Hid (Below w.heap.size w w5) := K4.out.trans (k45.mono K4.out.size)
            have OP5 := Lib.hid o5'
            have HGP := Lib.hid hgp
            have HP0 : Hid (p0 = (pre.getD 0 0).toNat ∧ q0 = (p0 + 1) % 256) := ⟨hp0, hq0⟩
            have K45 := Lib.hid k45
            clear a1b o5 b5 k45 o5' hgp hp0 hq0 HP4
            go_upto_region 9 with fail
            clear y1 hcell5 hfz
            obtain ⟨W6, hW6⟩ : ∃ W, W = w5.setCell ⟨gp, 0, none⟩ (.int .u8 (q0 : Int)) := ⟨_, rfl⟩
            rw [← hW6]
            obtain ⟨pq, hpq⟩ : ∃ l, l = pre.set 0 (pre.getD 0 0 + 1) := ⟨_, rfl⟩
            have hq7 : pq.length = 7 := by rw [hpq, List.length_set]; exact HNN.out.2.1.symm
            have HQ : Hid (pq.length = 7 ∧ pre ≠ pq) := ⟨hq7, fun e => nextB_ne (by have := HNN.out; omega) (e.trans hpq)⟩
            have k46 : Below w4.heap.size w4 W6 := by rw [hW6]; exact K45.out.setCell (p := ⟨gp, 0, none⟩) HGP.out _
            have o6 : Own W6 w4.heap.size (.slice (some ⟨gp, 0, none⟩) 7 pcap) pq := by
              have h0 := OP5.out.row
              rw [← HNN.out.2.1] at h0
              have h := (h0.stored 0 (.int .u8 (q0 : Int))).1
              rw [hW6, Own, hq7, hpq, bcSet, show ((pre.getD 0 0 + 1).toNat : Int) = (q0 : Int) by rw [HP0.out.2, HP0.out.1]; simp [UInt8.toNat_add]]
              exact h
            have K6 : Hid (Below w.heap.size w W6) := K4.out.trans (k46.mono K4.out.size)
            have HK6 := Lib.hid (HK4.out.below k46)
            have HX6 := Lib.hid (HX4.out.below k46)
            have HL6 := Lib.hid (HL4.out.below k46)
            have BA6 := Lib.hid (BA4.out.below k46 BA4.out.lt)
            have BC6 := Lib.hid (BC4.out.below k46 BC4.out.lt)
            have B6 := Lib.hid (B4.out.below k46)
            have OX6 := Lib.hid (OX4.out.below k46)
            have HM6 := Lib.hid B6.out.isMap
            have CS := Lib.hid (seal_any B6.out (.slice ka 32 kc) (.slice (some ⟨gp, 0, none⟩) 7 pcap) (.slice xa xn xc) (.slice la ln lc) key pq ctx layer sz HK6.out o6.isB HX6.out HL6.out HXN.out HNN.out.1.symm hq7 HSZ.out.1 HSZ.out.2.1
              (by have := HSZ.out; have := HNN.out; omega) (by have := HSZ.out; have := HNN.out; omega) (by rw [M.book1_len]; have := HSZ.out; omega) (by have := HSZ.out; omega))
            have ZZ6 : Hid (w.heap.size + 2 ≤ W6.heap.size ∧ m2 < w3.heap.size ∧ w3.heap.size ≤ W6.heap.size) := ⟨Nat.le_trans ZZ4.out k46.size, HU.out.1, Nat.le_trans HU.out.2 k46.size⟩
            have a0 : W6.cell? ⟨w.heap.size, 0, none⟩ = some (.slice ka 32 kc) := BA6.out.cell 0
            have a2 : W6.cell? ⟨w.heap.size, 2, none⟩ = some (.slice xa xn xc) := BA6.out.cell 2
            have a3 : W6.cell? ⟨w.heap.size, 3, none⟩ = some (.slice la ln lc) := BA6.out.cell 3
            have a4 : W6.cell? ⟨w.heap.size, 4, none⟩ = some (.int .i64 (sz : Int)) := BA6.out.cell 4
            clear hW6 hq7 k46 o6 HK4 HX4 HL4 BA4 BC4 B4 OX4 K45 K4 ZZ4 HU HP0 OP5 K5
            go_wp2_with fail
            refine CS.out.mono ?_
            rintro e w7 ⟨yv, rfl, o7, b7, c7⟩
            clear a0 a2 a3 a4
            have K7 : Hid (Below w.heap.size w w7) := K6.out.trans (c7.below K6.out.size (fun k e => by subst e; have := Z4.out; omega))
            have HK7 := Lib.hid (HK6.out.keepM HM6.out c7 (fun b _ h => h))
            have HX7 := Lib.hid (HX6.out.keepM HM6.out c7 (fun b _ h => h))
            have HL7 := Lib.hid (HL6.out.keepM HM6.out c7 (fun b _ h => h))
            have BA7 := Lib.hid (BA6.out.chg c7 (fun e => by have := Z4.out; omega))
            have BC7 := Lib.hid (BC6.out.chg c7 (fun e => by have := Z4.out; omega))
            have ZZ7 : Hid (w.heap.size + 2 ≤ w7.heap.size ∧ w3.heap.size ≤ w7.heap.size) := ⟨Nat.le_trans ZZ6.out.1 c7.size, Nat.le_trans ZZ6.out.2.2 c7.size⟩
            have OX7 : Hid (Own w7 w3.heap.size (.slice (some ⟨gx, 0, none⟩) xl xcap) (M.sealB ([] : M.Bk).length pre layer sz)) := own_chg OX6.out c7 (fun k hk e => by have h1 := (OX6.out.row.lt k hk).1; have := ZZ6.out; subst e; omega)
            obtain ⟨yl, hyl⟩ : ∃ l, l = (M.sealB (M.bookB [] key pre ctx layer sz).length pq layer sz).length := ⟨_, rfl⟩
            have HYLEN : Hid (yl = 12 + ln + M.np ln sz * 16) := by rw [Hid, hyl, M.sealB_len HQ.out.1 _ _ _ HSZ.out.1, ← HNN.out.2.2.2]
            obtain ⟨gy, ycap, rfl, hgy⟩ := o7.shape (by have := HYLEN.out; omega)
            rw [← hyl] at o7 ⊢
            have OY7 := Lib.hid o7
            have HGY := Lib.hid hgy
            have HYL := Lib.hid hyl
            have B7 := Lib.hid b7
            have hnp1 := M.np_pos ln sz
            have r1 : decide ((xl : Int) < 28) = false := decide_eq_false (by have := HXLEN.out; omega)
            have r2 : decide ((yl : Int) < 28) = false := decide_eq_false (by have := HYLEN.out; omega)
            clear CS o7 b7 c7 hyl hgy HK6 HX6 HL6 BA6 BC6 K6 HM6 B6 OX6 hnp1
            go_upto_region 12 with fail
            clear r1 r2
            obtain ⟨zq, hzq⟩ : ∃ z, z = sz + 16 := ⟨_, rfl⟩
            have e16 : IntKind.i64.wrap ((sz : Int) + 16) = (zq : Int) := by rw [IntKind.wrap_i64]; have := HSZ.out; omega
            have HZQ : Hid (zq = sz + 16 ∧ 1 ≤ zq ∧ zq ≤ 16777216) := ⟨hzq, by omega, by have := HSZ.out; omega⟩
            obtain ⟨sx, hsxx⟩ : ∃ l, l = M.sealB ([] : M.Bk).length pre layer sz := ⟨_, rfl⟩
            obtain ⟨sy, hsyy⟩ : ∃ l, l = M.sealB (M.bookB [] key pre ctx layer sz).length pq layer sz := ⟨_, rfl⟩
            rw [← hsxx] at OX7 HXL
            rw [← hsyy] at OY7 HYL
            have HSX := Lib.hid hsxx
            have HSY := Lib.hid hsyy
            obtain ⟨ax, hsx, hbx, hlx⟩ := OX7.out.isB.fromL 22 Try.underlying22 12 (by have := HXLEN.out; omega)
            obtain ⟨ay, hsy, hby, hly⟩ := OY7.out.isB.fromL 22 Try.underlying22 12 (by have := HYLEN.out; omega)
            obtain ⟨dx, hdx⟩ : ∃ d, d = xl - 12 := ⟨_, rfl⟩
            obtain ⟨ex, hex⟩ : ∃ d, d = xcap - 12 := ⟨_, rfl⟩
            obtain ⟨dy, hdy⟩ : ∃ d, d = yl - 12 := ⟨_, rfl⟩
            obtain ⟨ey, hey⟩ : ∃ d, d = ycap - 12 := ⟨_, rfl⟩
            rw [← hdx, ← hex] at hsx hbx hlx
            rw [← hdy, ← hey] at hsy hby hly
            have hsx2 : ∀ W : World, (Instr.slice 22 (.slice (some ⟨gx, 0, none⟩) xl xcap) (some (.int .i64 12)) none none).run Try.prog W = .ok (.slice ax dx ex) W := hsx
            have hsy2 : ∀ W : World, (Instr.slice 22 (.slice (some ⟨gy, 0, none⟩) yl ycap) (some (.int .i64 12)) none none).run Try.prog W = .ok (.slice ay dy ey) W := hsy
            have LX7 : Lies (fun k => k < w7.heap.size) (.slice ax dx ex) := hlx _ (OX7.out.lies fun k _ h => h)
            have LY7 : Lies (fun k => k < w7.heap.size) (.slice ay dy ey) := hly _ (OY7.out.lies fun k _ h => h)
            have zdx : (sx.drop 12).length = dx := by rw [List.length_drop, hdx, HXL.out]
            have zdy : (sy.drop 12).length = dy := by rw [List.length_drop, hdy, HYL.out]
            have HDX : Hid ((sx.drop 12).length = dx ∧ (sy.drop 12).length = dy ∧ 1 ≤ dx ∧ 1 ≤ dy ∧ dx ≤ 2500 ∧ dy ≤ 2500) := by
              have h1 := HXLEN.out
              have h2 := HYLEN.out
              have h3 := HSZ.out
              have h4 := M.np_pos ln sz
              exact ⟨zdx, zdy, by omega, by omega, by omega, by omega⟩
            obtain ⟨PX, hPX⟩ : ∃ l, l = (List.range (M.np (sx.drop 12).length zq)).map (M.pc (sx.drop 12) zq) := ⟨_, rfl⟩
            obtain ⟨PY, hPY⟩ : ∃ l, l = (List.range (M.np (sy.drop 12).length zq)).map (M.pc (sy.drop 12) zq) := ⟨_, rfl⟩
            have CX : Hid (∀ W, Below w7.heap.size w7 W → Calls Try.prog 9 #[.slice ax dx ex, .int .i64 (zq : Int)] W fun e w' => ∃ v rows, e = .returned v ∧ SpLL w' W.heap.size v PX rows ∧ (∀ i, i < rows.length → Lies (fun k => k < W.heap.size) (rows.getD i undef)) ∧ Below W.heap.size W w') := fun W k => by
              rw [hPX]
              exact cut_any _ _ zq W (hbx.below k) (LX7.mono fun j hj => Nat.lt_of_lt_of_le hj k.size) (hbx.nn (by have := HDX.out; omega)) HZQ.out.2.1 HZQ.out.2.2 (by have := HDX.out; omega)
            have CY : Hid (∀ W, Below w7.heap.size w7 W → Calls Try.prog 9 #[.slice ay dy ey, .int .i64 (zq : Int)] W fun e w' => ∃ v rows, e = .returned v ∧ SpLL w' W.heap.size v PY rows ∧ (∀ i, i < rows.length → Lies (fun k => k < W.heap.size) (rows.getD i undef)) ∧ Below W.heap.size W w') := fun W k => by
              rw [hPY]
              exact cut_any _ _ zq W (hby.below k) (LY7.mono fun j hj => Nat.lt_of_lt_of_le hj k.size) (hby.nn (by have := HDX.out; omega)) HZQ.out.2.1 HZQ.out.2.2 (by have := HDX.out; omega)
            have HPX : Hid (PX ≠ [] ∧ (∀ p ∈ PX, p.length ≤ 2500) ∧ PX.length ≤ 62 ∧ PX = (List.range (M.np (sx.drop 12).length zq)).map (M.pc (sx.drop 12) zq)) := by
              refine ⟨by rw [hPX]; exact M.pieces_some _ _, by rw [hPX]; exact M.piece_few (by have := HDX.out; omega), ?_, hPX⟩
              rw [hPX, M.pieces_len]
              have h := (M.sealed_cut (layer := layer) ([] : M.Bk).length HNN.out.2.1.symm HSZ.out.1 HSZ.out.2.1)
              rw [← HSX.out] at h
              have h2 := h.2.1
              unfold M.onp at h2
              rw [h.1, ← HZQ.out.1, ← List.length_drop] at h2
              rw [h2]
              exact HSZ.out.2.2.2.2.2
            have HPY : Hid (PY ≠ [] ∧ (∀ p ∈ PY, p.length ≤ 2500)) := ⟨by rw [hPY]; exact M.pieces_some _ _, by rw [hPY]; exact M.piece_few (by have := HDX.out; omega)⟩
            have c4 : ∀ W, Below w7.heap.size w7 W → W.cell? ⟨w.heap.size, 4, none⟩ = some (.int .i64 (sz : Int)) := fun W k => (BA7.out.below k BA7.out.lt).cell 4
            have HC4 := Lib.hid c4
            clear hzq hsxx hsyy hsx hbx hlx hsy hby hly hdx hex hdy hey LX7 LY7 zdx zdy hPX hPY c4
            go_upto_region 12 with fail
            refine wp_region_any (by kernel_rfl) ?_
            change wpAny _ _ _ _ _ _ _ (World.drew _)
            refine wpAny_of_held (S := fun W => Below w7.heap.size w7 W) _ _ _ _ ?_
            have S0 : Below w7.heap.size w7 w7.drew := (Below.refl _ _).drew
            refine wpAnyH_take_at (i := 0) (v := .slice (some ⟨gx, 0, none⟩) xl xcap) rfl rfl (by kernel_rfl) (by kernel_rfl) (by kernel_rfl) (fun _ _ _ h => h) (Or.inl ⟨by rfl, fun w hS => by go_simp⟩) S0 ?_
            try simp only [List.setIfInBounds_toArray, List.set_cons_zero, List.set_cons_succ]
            refine wpAnyH_take_at (i := 1) (v := .slice ax dx ex) rfl rfl (by kernel_rfl) (by kernel_rfl) (by kernel_rfl) (fun _ _ _ h => h) (Or.inl ⟨by rfl, fun w hS => by go_simp⟩) S0 ?_
            try simp only [List.setIfInBounds_toArray, List.set_cons_zero, List.set_cons_succ]
            refine wpAnyH_take_at (i := 2) (v := .pointer (some ⟨w.heap.size, 4, none⟩)) rfl rfl (by kernel_rfl) (by kernel_rfl) (by kernel_rfl) (fun _ _ _ h => h) (Or.inl ⟨by rfl, fun w hS => by go_simp⟩) S0 ?_
            try simp only [List.setIfInBounds_toArray, List.set_cons_zero, List.set_cons_succ]
            refine wpAnyH_take_at (i := 3) (v := .int .i64 (sz : Int)) rfl rfl (by kernel_rfl) (by kernel_rfl) (by kernel_rfl) (fun _ _ _ h => h) (Or.inl ⟨by rfl, fun w hS => by have c := HC4.out w hS; go_simp⟩) S0 ?_
            try simp only [List.setIfInBounds_toArray, List.set_cons_zero, List.set_cons_succ]
            refine wpAnyH_take_at (i := 4) (v := .int .i64 (zq : Int)) rfl rfl (by kernel_rfl) (by kernel_rfl) (by kernel_rfl) (fun _ _ _ h => h) (Or.inl ⟨by rfl, fun w hS => by go_simp⟩) S0 ?_
            try simp only [List.setIfInBounds_toArray, List.set_cons_zero, List.set_cons_succ]
            refine wpAnyH_take_at (i := 6) (v := .slice (some ⟨gy, 0, none⟩) yl ycap) rfl rfl (by kernel_rfl) (by kernel_rfl) (by kernel_rfl) (fun _ _ _ h => h) (Or.inl ⟨by rfl, fun w hS => by go_simp⟩) S0 ?_
            try simp only [List.setIfInBounds_toArray, List.set_cons_zero, List.set_cons_succ]
            refine wpAnyH_take_at (i := 7) (v := .slice ay dy ey) rfl rfl (by kernel_rfl) (by kernel_rfl) (by kernel_rfl) (fun _ _ _ h => h) (Or.inl ⟨by rfl, fun w hS => by go_simp⟩) S0 ?_
            try simp only [List.setIfInBounds_toArray, List.set_cons_zero, List.set_cons_succ]
            refine wpAnyH_take_at (i := 8) (v := .pointer (some ⟨w.heap.size, 4, none⟩)) rfl rfl (by kernel_rfl) (by kernel_rfl) (by kernel_rfl) (fun _ _ _ h => h) (Or.inl ⟨by rfl, fun w hS => by go_simp⟩) S0 ?_
            try simp only [List.setIfInBounds_toArray, List.set_cons_zero, List.set_cons_succ]
            refine wpAnyH_take_at (i := 9) (v := .int .i64 (sz : Int)) rfl rfl (by kernel_rfl) (by kernel_rfl) (by kernel_rfl) (fun _ _ _ h => h) (Or.inl ⟨by rfl, fun w hS => by have c := HC4.out w hS; go_simp⟩) S0 ?_
            try simp only [List.setIfInBounds_toArray, List.set_cons_zero, List.set_cons_succ]
            refine wpAnyH_take_at (i := 10) (v := .int .i64 (zq : Int)) rfl rfl (by kernel_rfl) (by kernel_rfl) (by kernel_rfl) (fun _ _ _ h => h) (Or.inl ⟨by rfl, fun w hS => by go_simp⟩) S0 ?_
            try simp only [List.setIfInBounds_toArray, List.set_cons_zero, List.set_cons_succ]
            refine wpAnyH_take_at (i := 12) (v := .agg #[.int .u8 (ck : Int), .int .u16 (ca : Int), .int .u8 (cb : Int)]) rfl rfl (by kernel_rfl) (by kernel_rfl) (by kernel_rfl) (fun _ _ _ h => h) (yieldsIf_load_mid (by rfl) 27 (.tmp 3) rfl (w.heap.size + 1) 0 rfl [.int .u8 (ck : Int), .int .u16 (ca : Int), .int .u8 (cb : Int)] _ (fun w h => (BC7.out.below h BC7.out.lt).range 0 _ [] rfl) Try.underlying27 rfl (by kernel_rfl)) S0 ?_
            try simp only [List.setIfInBounds_toArray, List.set_cons_zero, List.set_cons_succ]
            clear e16 hsx2 hsy2
            refine wpAnyH_ready (rs := [5]) (by kernel_rfl) (by simp) ?_
            refine AllReadyH.cons rfl (fun K hK => ?_) AllReadyH.nil
            go_simp
            refine (CX.out _ S0).mono ?_
            rintro e w8 ⟨vx, rx, rfl, s8, l8, k8⟩
            have S1 : Below w7.heap.size w7 w8 := S0.trans (k8.mono S0.size)
            refine hK.out _ _ S1 (fun _ => ?_)
            clear hK K
            refine wpAnyH_ready (rs := [11]) (by kernel_rfl) (by simp) ?_
            refine AllReadyH.cons rfl (fun K hK => ?_) AllReadyH.nil
            go_simp
            refine (CY.out _ S1).mono ?_
            rintro e w9 ⟨vy, ry, rfl, s9, l9, k9⟩
            have S2 : Below w7.heap.size w7 w9 := S1.trans (k9.mono S1.size)
            refine hK.out _ _ S2 (fun _ => ?_)
            clear hK K
            have SX9 : Hid (∃ B, SpLL w9 B vx PX rx) := ⟨_, s8.below k9⟩
            have SY9 : Hid (∃ B, SpLL w9 B vy PY ry) := ⟨_, s9⟩
            have LX9 : Hid (∀ x ∈ rx, Lies (fun k => k < w9.heap.size) x) := fun x hx => (lies_at l8 hx).mono fun k hk => Nat.lt_of_lt_of_le hk (Nat.le_trans k8.size k9.size)
            have LY9 : Hid (∀ x ∈ ry, Lies (fun k => k < w9.heap.size) x) := fun x hx => (lies_at l9 hx).mono fun k hk => Nat.lt_of_lt_of_le hk k9.size
            clear s8 s9 l8 l9 k8 k9 S1 S0 CX CY
            refine wpAnyH_ready (rs := [13]) (by kernel_rfl) (by simp) ?_
            refine AllReadyH.cons rfl (fun K hK => ?_) AllReadyH.nil
            go_simp
            obtain ⟨BX, sx9⟩ := SX9.out
            obtain ⟨BY, sy9⟩ := SY9.out
            refine (cutChunks_any vx vy PX.length PY.length rx ry ck ca cb w9 (sx9.el HPX.out.1 HPX.out.2.1) (sy9.el HPY.out.1 HPY.out.2) (List.length_pos_iff.2 HPX.out.1) (by have := HPX.out.2.2.1; omega) HCC.out.1 HCC.out.2.1 HCC.out.2.2 LX9.out LY9.out).mono ?_
            intro e w10 h10
            obtain ⟨vch, bl, rfl, hbl, hbn, k10, hb4⟩ := ch_bytes h10 sx9 HPX.out.1 HPX.out.2.1
            have S3 : Below w7.heap.size w7 w10 := S2.trans (k10.mono S2.size)
            refine hK.out _ _ S3 (fun _ => ?_)
            clear hK K
            refine wpAnyH_take_at (i := 14) (v := vch) rfl rfl (by kernel_rfl) (by kernel_rfl) (by kernel_rfl) (fun _ _ _ h => h) (Or.inl ⟨by rfl, fun w hS => by go_simp⟩) S3 ?_
            try simp only [List.setIfInBounds_toArray, List.set_cons_zero, List.set_cons_succ]
            refine wpAnyH_done (by kernel_rfl) ?_ _
            have K10 : Hid (Below w.heap.size w w10) := K7.out.trans (S3.mono K7.out.size)
            have HK10 := Lib.hid (HK7.out.below S3)
            have HX10 := Lib.hid (HX7.out.below S3)
            have HL10 := Lib.hid (HL7.out.below S3)
            have BA10 := Lib.hid (BA7.out.below S3 BA7.out.lt)
            have BC10 := Lib.hid (BC7.out.below S3 BC7.out.lt)
            have B10 := Lib.hid (B7.out.below S3)
            have OX10 := Lib.hid (OX7.out.below S3)
            have HBL := Lib.hid hbl
            have HB4 := Lib.hid hb4
            have HBN : Hid (bl.length ≤ 70) := by
              rw [Hid]
              have := HPX.out.2.2.1
              rcases hbn with h | h
              · omega
              · rw [h]; omega
            have ZZ10 : Hid (w.heap.size + 2 ≤ w10.heap.size ∧ w3.heap.size ≤ w10.heap.size) := ⟨Nat.le_trans ZZ7.out.1 S3.size, Nat.le_trans ZZ7.out.2 S3.size⟩
            clear SX9 SY9 LX9 LY9 sx9 sy9 h10 hbl hbn hb4 k10 S2 S3 K7 HK7 HX7 HL7 BA7 BC7 B7 OX7 OY7 ZZ7 HPY HC4
            obtain ⟨hs12, hb12⟩ := OX10.out.isB.upL 22 Try.underlying22 12 (by have := HXLEN.out; omega)
            have hs12b : ∀ W : World, (Instr.slice 22 (.slice (some ⟨gx, 0, none⟩) xl xcap) none (some (.int .i64 12)) none).run Try.prog W = .ok (.slice (some ⟨gx, 0, none⟩) 12 xcap) W := hs12
            have HB12 := Lib.hid hb12
            have H12N : Hid (∀ n c, Value.slice (some ⟨gx, 0, none⟩) 12 xcap = .slice none n c → c = 0) := fun n c e => by injection e with e; cases e
            obtain ⟨N, hN⟩ : ∃ n, n = bl.length := ⟨_, rfl⟩
            obtain ⟨ac, cc, hvch, hrw⟩ := HBL.out
            rw [← hN] at hvch
            subst hvch
            have HRW := Lib.hid hrw
            have HN := Lib.hid hN
            clear hs12 hb12 hrw hN HBL
            go_wp2_with (at_builtin; go_must (refine wpList_app _ rfl _ _ rfl w10.heap.size _ [] rfl ?c1 _ (sx.take 12) rfl ?c2 H12N.out (by simp; omega) (by simp) ?_))
            case c1 => exact own_empty w10
            case c2 => exact HB12.out.below ((Below.refl _ _).alloc (Nat.le_refl _) _)
            intro v11 w11 o11 b11 _
            have k11 : Below w10.heap.size w10 w11 := ((Below.refl _ _).alloc (Nat.le_refl _) (.cells #[] 5)).trans b11
            have O11 : Hid (Own w11 w10.heap.size v11 (sx.take 12 ++ (bl.take 0).flatten)) := by rw [Hid, List.take_zero, List.flatten_nil, List.append_nil]; exact o11
            have K11 := Lib.hid k11
            clear o11 b11 k11 hs12b
            go_wp2
            go_loopw [12, 13] (fun v i wr => ∃ k : Nat, i = .int .i64 (k : Int) ∧ Hid (k ≤ N) ∧ Hid (Own wr w10.heap.size v (sx.take 12 ++ (bl.take k).flatten)) ∧ Hid (Below w10.heap.size w10 wr)) (fun _ i _ => N - numOf i)
            case atStart => exact ⟨0, rfl, Nat.zero_le _, O11, K11⟩
            case round =>
              obtain ⟨wz, rfl⟩ : ∃ x, x = wr := ⟨_, rfl⟩
              obtain ⟨k, rfl, hk, ho, kz⟩ := hrel
              obtain ⟨vv, rfl⟩ : ∃ z, z = u12 := ⟨_, rfl⟩
              by_cases hlt : k < N
              · have b1 : (k : Int) < (N : Int) := by omega
                have i0 : (0 : Int) ≤ (k : Int) := by omega
                obtain ⟨rb, ro, x, eac, hc, hx, hxn, hxl⟩ := HRW.out k (by rw [← HN.out]; exact hlt)
                subst eac
                obtain ⟨xa, xc2, rfl⟩ := hx.shape
                obtain ⟨pk, hpk⟩ : ∃ p, p = (bl.getD k []).length := ⟨_, rfl⟩
                rw [← hpk] at hc hx hxn
                have hcz : wz.cell? ⟨rb, ro + k, none⟩ = some (.slice xa pk xc2) := (kz.out.cell (World.block_lt_of_cell? _ _ hc)).trans hc
                have HXZ : Hid (IsB wz (.slice xa pk xc2) (bl.getD k [])) := hx.below kz.out
                have HNX := Lib.hid hxn
                have G1 : Hid (wrap64 ((k : Int) + 1) = ((k + 1 : Nat) : Int)) := wrap_next (by have := HBN.out; have := HN.out; omega)
                have HLN : Hid ((sx.take 12 ++ (bl.take k).flatten).length + (bl.getD k []).length ≤ 140737488355328) := by
                  have h1 := flat_few (k := k) (bl := bl) (fun i hi => by obtain ⟨_, _, _, _, _, _, _, h⟩ := HRW.out i hi; exact h)
                  have h2 := HBN.out
                  have h3 := HN.out
                  rw [Hid, List.length_append, List.length_take]
                  omega
                have HLT := Lib.hid hlt
                clear hlt hc hx hxn hxl hpk hk
                go_wp2_with (at_builtin; go_must (refine wpList_app _ rfl _ _ rfl w10.heap.size vv _ rfl ho.out _ (bl.getD k []) rfl HXZ.out HNX.out HLN.out kz.out.size ?_))
                intro v4 w4 o4 b4 _
                have O4 : Hid (Own w4 w10.heap.size v4 (sx.take 12 ++ (bl.take (k + 1)).flatten)) := by
                  rw [Hid, flat_next (by rw [← HN.out]; exact HLT.out)]
                  first | exact o4 | (rw [List.getD_eq_getElem?_getD]; exact o4) | (rw [← List.append_assoc]; exact o4)
                have K4 : Hid (Below w10.heap.size w10 w4) := kz.out.trans b4
                clear o4 b4 ho kz hcz
                go_wp2
                go_roundw
                case rel => exact ⟨k + 1, by first | rfl | rw [G1.out], HLT.out, O4, K4⟩
                case measure =>
                  have := HLT.out
                  try rw [G1.out]
                  show N - (((k + 1 : Nat) : Int)).toNat < N - ((k : Int)).toNat
                  omega
              · have b1 : ¬ (k : Int) < (N : Int) := by omega
                obtain ⟨s, hs⟩ : ∃ s, s = sx.take 12 ++ bl.flatten := ⟨_, rfl⟩
                have HS12 : Hid (Own wz w10.heap.size vv s) := by
                  rw [Hid, hs]
                  have h := ho.out
                  rw [show bl.take k = bl from List.take_of_length_le (by have := HN.out; omega)] at h
                  exact h
                have HSE : Hid (s = sx.take 12 ++ bl.flatten ∧ s.length ≤ 200000 ∧ 12 ≤ s.length) := by
                  have h1 := flat_few (k := bl.length) (bl := bl) (fun i hi => by obtain ⟨_, _, _, _, _, _, _, h⟩ := HRW.out i hi; exact h)
                  rw [List.take_length] at h1
                  have h2 := HBN.out
                  have h4 := HXL.out
                  have h5 := HXLEN.out
                  refine ⟨hs, ?_, ?_⟩
                  · rw [hs, List.length_append, List.length_take]; omega
                  · rw [hs, List.length_append, List.length_take]; omega
                clear hs ho hlt hk O11 K11
                have kz2 : Below w10.heap.size w10 wz := kz.out
                have a0 : (wz.alloc (.cells #[] 5)).cell? ⟨w.heap.size, 0, none⟩ = some (.slice ka 32 kc) := (BA10.out.below (kz2.alloc kz2.size (.cells #[] 5)) BA10.out.lt).cell 0
                go_wp2_with (at_builtin; go_must (refine wpList_app _ rfl _ _ rfl wz.heap.size _ [] rfl ?c1 _ key rfl ?c2 (HK10.out.nn (by have := HNN.out; omega)) (by have := HNN.out; simp; omega) (by simp) ?_))
                case c1 => exact own_empty wz
                case c2 => exact HK10.out.below (kz2.alloc kz2.size _)
                intro v14 w14 o14 b14 _
                have k14 : Below wz.heap.size wz w14 := ((Below.refl _ _).alloc (Nat.le_refl _) (.cells #[] 5)).trans b14
                have kw14 : Below w10.heap.size w10 w14 := kz2.trans (k14.mono kz2.size)
                have O14 : Hid (Own w14 wz.heap.size v14 key) := o14
                have HS14 := Lib.hid (HS12.out.below k14)
                have KW14 := Lib.hid kw14
                have KZ14 := Lib.hid k14.size
                have KZZ := Lib.hid kz2.size
                clear a0 o14 b14 k14
                have a2 : (w14.alloc (.cells #[] 5)).cell? ⟨w.heap.size, 2, none⟩ = some (.slice xa xn xc) := (BA10.out.below (kw14.alloc kw14.size (.cells #[] 5)) BA10.out.lt).cell 2
                go_wp2_with (at_builtin; go_must (refine wpList_app _ rfl _ _ rfl w14.heap.size _ [] rfl ?d1 _ ctx rfl ?d2 HXN.out (by have := HNN.out; have := HSZ.out; simp; omega) (by simp) ?_))
                case d1 => exact own_empty w14
                case d2 => exact HX10.out.below (kw14.alloc kw14.size _)
                intro v15 w15 o15 b15 _
                have k15 : Below w14.heap.size w14 w15 := ((Below.refl _ _).alloc (Nat.le_refl _) (.cells #[] 5)).trans b15
                have kw15 : Below w10.heap.size w10 w15 := kw14.trans (k15.mono kw14.size)
                have O15 : Hid (Own w15 w14.heap.size v15 ctx) := o15
                have O14b := Lib.hid (O14.out.below k15)
                have HS15 := Lib.hid (HS14.out.below k15)
                have HK15 := Lib.hid (HK10.out.below kw15)
                have HX15 := Lib.hid (HX10.out.below kw15)
                have HL15 := Lib.hid (HL10.out.below kw15)
                have BA15 := Lib.hid (BA10.out.below kw15 BA10.out.lt)
                have BC15 := Lib.hid (BC10.out.below kw15 BC10.out.lt)
                have B15 := Lib.hid (B10.out.below kw15)
                have OX15 := Lib.hid (OX10.out.below kw15)
                have K15 := Lib.hid (K10.out.trans (kw15.mono K10.out.size))
                have ZZ15 : Hid (w10.heap.size ≤ wz.heap.size ∧ wz.heap.size ≤ w14.heap.size ∧ w14.heap.size ≤ w15.heap.size ∧ w.heap.size + 2 ≤ w10.heap.size ∧ w3.heap.size ≤ w10.heap.size) := ⟨KZZ.out, KZ14.out, k15.size, ZZ10.out.1, ZZ10.out.2⟩
                obtain ⟨r, hr⟩ : ∃ r, r = ck % 9 := ⟨_, rfl⟩
                rw [← hr] at HB4
                have HR9 : Hid (r < 9) := by rw [Hid, hr]; omega
                have v3 : (ck : Int).tmod 9 = (r : Int) := by rw [hr]; rfl
                have c0 : w15.cell? ⟨w.heap.size + 1, 0, none⟩ = some (.int .u8 (ck : Int)) := BC15.out.cell 0
                have c1 : w15.cell? ⟨w.heap.size + 1, 1, none⟩ = some (.int .u16 (ca : Int)) := BC15.out.cell 1
                have c2 : w15.cell? ⟨w.heap.size + 1, 2, none⟩ = some (.int .u8 (cb : Int)) := BC15.out.cell 2
                have HTK : Hid (sx.take 12 = M.hd pre sz ∧ sx.drop 12 = M.sbx 0 layer sz (M.np layer.length sz)) := by
                  have h1 := M.sealB_take HNN.out.2.1.symm ([] : M.Bk).length layer sz
                  have h2 := M.sealB_drop HNN.out.2.1.symm ([] : M.Bk).length layer sz
                  rw [← HSX.out] at h1 h2
                  exact ⟨h1, h2⟩
                have HST : Hid (s.take 12 = M.hd pre sz) := by
                  rw [Hid, HSE.out.1, List.take_append_of_le_length (by rw [List.length_take, HXL.out.symm]; have := HXLEN.out; omega), List.take_take, Nat.min_self]
                  exact HTK.out.1
                have hbt1 := M.bget_sbk_len (key := key) (pre := pre) (ctx := ctx) (layer := layer) (size := sz) HSZ.out.2.1 (L := []) (fun sl t h => by cases h) (M.np layer.length sz)
                have HBT := Lib.hid (M.bget_sbk_len (key := key) (pre := pq) (ctx := ctx) (layer := layer) (size := sz) HSZ.out.2.1 hbt1 (M.np layer.length sz))
                clear hbt1
                have KW1015 := Lib.hid kw15
                have K1415 := Lib.hid k15
                clear a2 o15 b15 k15 kw15 kw14 kz2 kz hr KW14 KZ14 KZZ ZZ10 HRW b1
                by_cases r4 : r = 4
                · have hsx : s = sx := by
                    rw [HSE.out.1, HB4.out (.inl r4), HPX.out.2.2.2, ← List.flatMap_def, M.pc_flat _ _ HZQ.out.2.1, List.take_append_drop]
                  have HSX2 := Lib.hid hsx
                  have v3b : (ck : Int).tmod 9 = 4 := by rw [v3, r4]; rfl
                  clear v3 r4 HB4 hsx
                  obtain ⟨k2, hk2⟩ : ∃ l, l = key := ⟨_, rfl⟩
                  obtain ⟨x2, hx2⟩ : ∃ l, l = ctx := ⟨_, rfl⟩
                  rw [← hk2] at O14b O14
                  rw [← hx2] at O15
                  have LK0 : Hid (k2.length = 32 ∧ x2.length ≤ 900 ∧ s.length ≤ 200000) := ⟨by rw [hk2]; exact HNN.out.1.symm, by rw [hx2]; have := HNN.out; have := HSZ.out; omega, HSE.out.2.1⟩
                  clear hk2 hx2
                  have hcb : (UInt8.ofNat cb).toNat = cb := by have := HCC.out.2.2; simp; omega
                  have w1 : IntKind.i64.wrap (ca : Int) = (ca : Int) := by have := HCC.out.2.1; rw [IntKind.wrap_i64]; omega
                  obtain ⟨ka2, kc2, rfl⟩ := O14b.out.shape'
                  obtain ⟨xa2, xc2, rfl⟩ := O15.out.shape'
                  obtain ⟨gs, scap, rfl, hgs⟩ := HS15.out.shape (by have := HSE.out; omega)
                  have hgs2 := (HS12.out.row.lt gs rfl).2
                  obtain ⟨L, hL⟩ : ∃ n, n = s.length := ⟨_, rfl⟩
                  have hL1 := HSE.out.2
                  obtain ⟨m, hm⟩ : ∃ n, n = ca % L := ⟨_, rfl⟩
                  have hml : m < L := by rw [hm]; exact Nat.mod_lt _ (by omega)
                  obtain ⟨c, hc⟩ : ∃ c, c = (s.getD m 0).toNat := ⟨_, rfl⟩
                  obtain ⟨y, hy⟩ : ∃ y, y = (s.getD m 0 ^^^ UInt8.ofNat cb) := ⟨_, rfl⟩
                  have yx : bits BinOp.xor IntKind.u8 (c : Int) (cb : Int) = (y.toNat : Int) := by
                    rw [hc, hy, UInt8.toNat_xor, hcb]
                    exact u8_xor_nat _ _ (UInt8.toNat_lt _) HCC.out.2.2
                  have hck : w15.cell? ⟨gs, m, none⟩ = some (.int .u8 (c : Int)) := by
                    have h := HS15.out.isB.cellB (i := m) (by omega)
                    rw [Nat.zero_add] at h
                    rw [hc]; exact h
                  have hfz : w15.frozen? ⟨gs, m, none⟩ = false := HS15.out.nofz (by omega)
                  have hfz' : w15.drew.frozen? ⟨gs, m, none⟩ = false := hfz
                  have h0 := HS15.out.row
                  rw [← hL] at h0 ⊢
                  have hst := (h0.stored m (.int .u8 (y.toNat : Int))).1
                  have v5 : (ca : Int).tmod (L : Int) = (m : Int) := by rw [hm]; rfl
                  have zn : ¬ L = 0 := by omega
                  have i0 : (0 : Int) ≤ (m : Int) := by omega
                  have i1 : (m : Int) < (L : Int) := by omega
                  have c1d : w15.drew.cell? ⟨w.heap.size + 1, 1, none⟩ = some (.int .u16 (ca : Int)) := c1
                  have c2d : w15.drew.cell? ⟨w.heap.size + 1, 2, none⟩ = some (.int .u8 (cb : Int)) := c2
                  have hckd : w15.drew.cell? ⟨gs, m, none⟩ = some (.int .u8 (c : Int)) := hck
                  have HST2 := Lib.hid hst
                  have HGS : Hid (w10.heap.size ≤ gs ∧ gs < wz.heap.size) := ⟨hgs, hgs2⟩
                  have HLL := Lib.hid hL
                  have HNS : Hid (s.set m y ≠ M.sealB (M.np layer.length sz) pq layer sz) := by
                    by_cases h12 : m < 12
                    · refine M.not_second2 (p := pre) HQ.out.1 (by have := HNN.out; have := HSZ.out; omega) HSZ.out.1 ?_
                      rw [List.drop_set_of_lt h12, HSX2.out]
                      exact HTK.out.2
                    · refine M.not_second HNN.out.2.1.symm HQ.out.1 HQ.out.2 (.inl ?_)
                      rw [List.take_set_of_le (by omega)]
                      exact HST.out
                  clear hgs hgs2 hm hml hc hy h0 hst hcb hL hL1
                  go_upto_region 22 with fail
                  refine wp_region_still 13 (by kernel_rfl) (by kernel_rfl) ?_
                  simp only [List.take_succ_cons, List.take_zero, List.drop_succ_cons, List.drop_zero]
                  repeat still_step
                  refine wpStill_nil ?_
                  go_upto_region 29 with fail
                  obtain ⟨wF, hwF⟩ : ∃ x, x = (w15.setCell ⟨gs, m, none⟩ (.int .u8 (y.toNat : Int))).drew := ⟨_, rfl⟩
                  rw [← hwF]
                  have cF : Chg (fun b => b = gs) w15 wF := by rw [hwF]; exact ((Chg.refl (fun b => b = gs) w15).cell m _).drew
                  have k10F : Below w10.heap.size w10 wF := KW1015.out.trans (cF.below KW1015.out.size (fun k e => by subst e; have := HGS.out; omega))
                  obtain ⟨s2, hs2⟩ : ∃ l, l = s.set m y := ⟨_, rfl⟩
                  have IK : Hid (IsB wF (.slice ka2 k2.length kc2) k2) := Own.isB (B := wz.heap.size) (own_chg O14b.out cF (fun b hb e => by have := (O14b.out.row.lt b hb).1; have := HGS.out; subst e; omega))
                  have IX : Hid (IsB wF (.slice xa2 x2.length xc2) x2) := Own.isB (B := w14.heap.size) (own_chg O15.out cF (fun b hb e => by have := (O15.out.row.lt b hb).1; have := HGS.out; have := ZZ15.out; subst e; omega))
                  have OS3 : Own wF w10.heap.size (.slice (some ⟨gs, 0, none⟩) L scap) s2 := by
                    rw [hwF, Own, hs2, List.length_set, ← HLL.out, bcSet]
                    exact HST2.out.drew
                  have IS : Hid (IsB wF (.slice (some ⟨gs, 0, none⟩) L scap) s2) := OS3.isB
                  have HXN2 : Hid (∀ n c, Value.slice xa2 x2.length xc2 = .slice none n c → c = 0) := O15.out.nil0
                  have LK : Hid (k2.length = 32 ∧ x2.length ≤ 1000 ∧ s2.length ≤ 200000) := ⟨LK0.out.1, by have := LK0.out; omega, by rw [hs2, List.length_set]; exact LK0.out.2.2⟩
                  rw [← hs2] at HNS
                  clear cF OS3 HST2 HGS hwF hs2 yx hck hfz hfz' c1d c2d hckd v5 zn i0 i1 w1 v3b LK0 HSX2 HLL
                  clear HK15 HX15 HL15 BA15 OX15 K15 B15 BC15 c0 c1 c2
                  have HK15 := Lib.hid (HK10.out.below k10F)
                  have HX15 := Lib.hid (HX10.out.below k10F)
                  have HL15 := Lib.hid (HL10.out.below k10F)
                  have BA15 := Lib.hid (BA10.out.below k10F BA10.out.lt)
                  have B15 := Lib.hid (B10.out.below k10F)
                  have OX15 := Lib.hid (OX10.out.below k10F)
                  have K15 := Lib.hid (K10.out.trans (k10F.mono K10.out.size))
                  clear k10F HK10 HX10 HL10 BA10 BC10 B10 OX10 K10 KW1015 K1415 HS14 O14 HS12 HS15 O14b O15 HST HSE
                  have CO := Lib.hid (sopen_any B15.out (.slice ka2 k2.length kc2) (.slice xa2 x2.length xc2) (.slice (some ⟨gs,0,none⟩) L scap) k2 x2 s2 IK.out IX.out IS.out HXN2.out LK.out.1 (by have := LK.out; omega) (by have := LK.out; omega) HBT.out)
                  go_wp2_with fail
                  refine CO.out.mono ?_
                  intro e wo ho
                  have hend := cuts_end (key := key) (p := pre) (q := pq) (ctx := ctx) (layer := layer) (size := sz) HNN.out.2.1.symm HQ.out.1 HQ.out.2 HSZ.out.1 HSZ.out.2.1 (by have := HNN.out; have := HSZ.out; omega) (by have := LK.out; omega) HNS.out ho
                  rw [show M.sealB 0 pre layer sz = sx from HSX.out.symm] at hend
                  obtain ⟨ko, hend⟩ := hend
                  have ISo := Lib.hid (IS.out.below ko)
                  have IKo := Lib.hid (IK.out.below ko)
                  have IXo := Lib.hid (IX.out.below ko)
                  have HKo := Lib.hid (HK15.out.below ko)
                  have HXo := Lib.hid (HX15.out.below ko)
                  have HLo := Lib.hid (HL15.out.below ko)
                  have BAo := Lib.hid (BA15.out.below ko BA15.out.lt)
                  have OXo := Lib.hid (OX15.out.below ko)
                  have Ko := Lib.hid (K15.out.trans (ko.mono K15.out.size))
                  clear ho CO IS IK IX HK15 HX15 HL15 BA15 OX15 K15 B15
                  rcases hend with ⟨ro, rfl, oo, e1, e2, e3⟩ | ⟨c, hc, rfl, hno⟩
                  · obtain ⟨roa, roc, rfl⟩ := oo.shape'
                    have OO := Lib.hid oo
                    have E123 : Hid (s2 = sx ∧ k2 = key ∧ x2 = ctx) := ⟨e3, e1, e2⟩
                    clear oo e1 e2 e3
                    go_wp2_with fail
                    refine (requal_b (.slice (some ⟨gs,0,none⟩) L scap) (.slice (some ⟨gx, 0, none⟩) xl xcap) s2 sx wo ISo.out OXo.out.isB).mono ?_
                    rintro e wp ⟨rfl, kp⟩
                    rw [decide_eq_true E123.out.1]
                    have HP := Lib.hid kp
                    have a0 : wp.cell? ⟨w.heap.size, 0, none⟩ = some (.slice ka 32 kc) := (BAo.out.below kp BAo.out.lt).cell 0
                    clear kp
                    go_wp2_with fail
                    refine (requal_b (.slice ka2 k2.length kc2) (.slice ka 32 kc) k2 key wp (IKo.out.below HP.out) (HKo.out.below HP.out)).mono ?_
                    rintro e wq ⟨rfl, kq⟩
                    clear a0
                    rw [decide_eq_true E123.out.2.1]
                    have HPQ := Lib.hid (HP.out.trans (kq.mono HP.out.size))
                    have a2 : wq.cell? ⟨w.heap.size, 2, none⟩ = some (.slice xa xn xc) := (BAo.out.below HPQ.out BAo.out.lt).cell 2
                    clear kq
                    go_wp2_with fail
                    refine (requal_b (.slice xa2 x2.length xc2) (.slice xa xn xc) x2 ctx wq (IXo.out.below HPQ.out) (HXo.out.below HPQ.out)).mono ?_
                    rintro e wr ⟨rfl, kr⟩
                    clear a2
                    rw [decide_eq_true E123.out.2.2]
                    have HPR := Lib.hid (HPQ.out.trans (kr.mono HPQ.out.size))
                    have a3 : wr.cell? ⟨w.heap.size, 3, none⟩ = some (.slice la ln lc) := (BAo.out.below HPR.out BAo.out.lt).cell 3
                    clear kr
                    go_wp2_with fail
                    refine (requal_b _ (.slice la ln lc) layer layer wr (OO.out.isB.below HPR.out) (HLo.out.below HPR.out)).mono ?_
                    rintro e wt ⟨rfl, kt⟩
                    clear a3
                    rw [decide_eq_true rfl]
                    have KT : Hid (Below w.heap.size w wt) := Ko.out.trans ((HPR.out.trans (kt.mono HPR.out.size)).mono Ko.out.size)
                    clear kt
                    go_wp2
                    go_ret
                    exact ⟨rfl, KT.out⟩
                  · have HNO := Lib.hid hno
                    clear hno
                    go_wp2_with fail
                    refine (requal_b (.slice (some ⟨gs,0,none⟩) L scap) (.slice (some ⟨gx, 0, none⟩) xl xcap) s2 sx wo ISo.out OXo.out.isB).mono ?_
                    rintro e wp ⟨rfl, kp⟩
                    have HP := Lib.hid kp
                    clear kp
                    by_cases q1 : s2 = sx
                    · rw [decide_eq_true q1]
                      have HNO2 : Hid (¬ (k2 = key ∧ x2 = ctx)) := fun h => HNO.out ⟨q1, h⟩
                      clear q1 HNO
                      have a0 : wp.cell? ⟨w.heap.size, 0, none⟩ = some (.slice ka 32 kc) := (BAo.out.below HP.out BAo.out.lt).cell 0
                      go_wp2_with fail
                      refine (requal_b (.slice ka2 k2.length kc2) (.slice ka 32 kc) k2 key wp (IKo.out.below HP.out) (HKo.out.below HP.out)).mono ?_
                      rintro e wq ⟨rfl, kq⟩
                      clear a0
                      have HPQ := Lib.hid (HP.out.trans (kq.mono HP.out.size))
                      clear kq
                      by_cases q2 : k2 = key
                      · rw [decide_eq_true q2]
                        have a2 : wq.cell? ⟨w.heap.size, 2, none⟩ = some (.slice xa xn xc) := (BAo.out.below HPQ.out BAo.out.lt).cell 2
                        have HNO3 : Hid (¬ x2 = ctx) := fun h => HNO2.out ⟨q2, h⟩
                        clear q2 HNO2
                        go_wp2_with fail
                        refine (requal_b (.slice xa2 x2.length xc2) (.slice xa xn xc) x2 ctx wq (IXo.out.below HPQ.out) (HXo.out.below HPQ.out)).mono ?_
                        rintro e wr ⟨rfl, kr⟩
                        clear a2
                        rw [decide_eq_false HNO3.out]
                        have KT : Hid (Below w.heap.size w wr) := Ko.out.trans ((HPQ.out.trans (kr.mono HPQ.out.size)).mono Ko.out.size)
                        clear kr
                        rcases hc with rfl | rfl
                        · go_wp2
                          go_ret
                          exact ⟨rfl, KT.out⟩
                        · go_wp2
                          go_ret
                          exact ⟨rfl, KT.out⟩
                      · rw [decide_eq_false q2]
                        have KT : Hid (Below w.heap.size w wq) := Ko.out.trans (HPQ.out.mono Ko.out.size)
                        clear q2
                        rcases hc with rfl | rfl
                        · go_wp2
                          go_ret
                          exact ⟨rfl, KT.out⟩
                        · go_wp2
                          go_ret
                          exact ⟨rfl, KT.out⟩
                    · rw [decide_eq_false q1]
                      have KT : Hid (Below w.heap.size w wp) := Ko.out.trans (HP.out.mono Ko.out.size)
                      clear q1
                      rcases hc with rfl | rfl
                      · go_wp2
                        go_ret
                        exact ⟨rfl, KT.out⟩
                      · go_wp2
                        go_ret
                        exact ⟨rfl, KT.out⟩
                · by_cases r5 : r = 5
                  · have y4 : ((r : Int) == 4) = false := beq_false_of_ne (by omega)
                    have v3b : (ck : Int).tmod 9 = 5 := by rw [v3, r5]; rfl
                    have y4b : ((5 : Int) == 4) = false := by decide
                    clear v3 y4 r4 HB4
                    obtain ⟨k2, hk2⟩ : ∃ l, l = key := ⟨_, rfl⟩
                    obtain ⟨x2, hx2⟩ : ∃ l, l = ctx := ⟨_, rfl⟩
                    rw [← hk2] at O14b
                    rw [← hx2] at O15
                    obtain ⟨sa, sc, rfl⟩ := HS15.out.shape'
                    obtain ⟨L, hL⟩ : ∃ n, n = s.length := ⟨_, rfl⟩
                    obtain ⟨m, hm⟩ : ∃ n, n = ca % L := ⟨_, rfl⟩
                    obtain ⟨d, hd⟩ : ∃ n, n = L - m := ⟨_, rfl⟩
                    have hL1 := HSE.out.2
                    have hml : m < L := by rw [hm]; exact Nat.mod_lt _ (by omega)
                    have IS0 := HS15.out.isB
                    rw [← hL] at IS0 ⊢
                    obtain ⟨hsl, htk⟩ := IS0.upL 22 Try.underlying22 d (by omega)
                    have w1 : IntKind.i64.wrap (ca : Int) = (ca : Int) := by have := HCC.out.2.1; rw [IntKind.wrap_i64]; omega
                    have v5 : (ca : Int).tmod (L : Int) = (m : Int) := by rw [hm]; rfl
                    have zn : ¬ L = 0 := by omega
                    have w2 : wrap64 ((L : Int) - (m : Int)) = (d : Int) := by unfold wrap64; omega
                    have HTKB := Lib.hid htk
                    have LK : Hid (k2.length = 32 ∧ x2.length ≤ 1000 ∧ (s.take d).length ≤ 200000) := ⟨by rw [hk2]; exact HNN.out.1.symm, by rw [hx2]; have := HNN.out; have := HSZ.out; omega, by rw [List.length_take]; omega⟩
                    have HNS : Hid (s.take d ≠ M.sealB (M.np layer.length sz) pq layer sz) := M.not_second HNN.out.2.1.symm HQ.out.1 HQ.out.2 (by
                      by_cases h12 : 12 ≤ d
                      · refine .inl ?_
                        rw [List.take_take, Nat.min_eq_left h12]
                        exact HST.out
                      · refine .inr ?_
                        rw [List.length_take]; omega)
                    obtain ⟨s2, hs2⟩ : ∃ l, l = s.take d := ⟨_, rfl⟩
                    rw [← hs2] at HTKB LK HNS
                    clear hk2 hx2 hs2 hL hm hd hL1 hml IS0 htk r5
                    obtain ⟨ka2, kc2, rfl⟩ := O14b.out.shape'
                    obtain ⟨xa2, xc2, rfl⟩ := O15.out.shape'
                    go_upto_region 29 with fail
                    clear hsl w1 v5 zn w2 v3b y4b
                    obtain ⟨wF, rfl⟩ : ∃ x, x = w15 := ⟨_, rfl⟩
                    have IS : Hid (IsB wF (.slice sa d sc) s2) := HTKB
                    have IK : Hid (IsB wF (.slice ka2 k2.length kc2) k2) := O14b.out.isB
                    have IX : Hid (IsB wF (.slice xa2 x2.length xc2) x2) := O15.out.isB
                    have HXN2 : Hid (∀ n c, Value.slice xa2 x2.length xc2 = .slice none n c → c = 0) := O15.out.nil0
                    clear HS15 O14b O15 HST HSE BC15 c0 c1 c2 KW1015 K1415 HK10 HX10 HL10 BA10 BC10 B10 OX10 K10 O14 HS14 HS12
                    have CO := Lib.hid (sopen_any B15.out (.slice ka2 k2.length kc2) (.slice xa2 x2.length xc2) (.slice sa d sc) k2 x2 s2 IK.out IX.out IS.out HXN2.out LK.out.1 (by have := LK.out; omega) (by have := LK.out; omega) HBT.out)
                    go_wp2_with fail
                    refine CO.out.mono ?_
                    intro e wo ho
                    have hend := cuts_end (key := key) (p := pre) (q := pq) (ctx := ctx) (layer := layer) (size := sz) HNN.out.2.1.symm HQ.out.1 HQ.out.2 HSZ.out.1 HSZ.out.2.1 (by have := HNN.out; have := HSZ.out; omega) (by have := LK.out; omega) HNS.out ho
                    rw [show M.sealB 0 pre layer sz = sx from HSX.out.symm] at hend
                    obtain ⟨ko, hend⟩ := hend
                    have ISo := Lib.hid (IS.out.below ko)
                    have IKo := Lib.hid (IK.out.below ko)
                    have IXo := Lib.hid (IX.out.below ko)
                    have HKo := Lib.hid (HK15.out.below ko)
                    have HXo := Lib.hid (HX15.out.below ko)
                    have HLo := Lib.hid (HL15.out.below ko)
                    have BAo := Lib.hid (BA15.out.below ko BA15.out.lt)
                    have OXo := Lib.hid (OX15.out.below ko)
                    have Ko := Lib.hid (K15.out.trans (ko.mono K15.out.size))
                    clear ho CO IS IK IX HK15 HX15 HL15 BA15 OX15 K15 B15
                    rcases hend with ⟨ro, rfl, oo, e1, e2, e3⟩ | ⟨c, hc, rfl, hno⟩
                    · obtain ⟨roa, roc, rfl⟩ := oo.shape'
                      have OO := Lib.hid oo
                      have E123 : Hid (s2 = sx ∧ k2 = key ∧ x2 = ctx) := ⟨e3, e1, e2⟩
                      clear oo e1 e2 e3
                      go_wp2_with fail
                      refine (requal_b (.slice sa d sc) (.slice (some ⟨gx, 0, none⟩) xl xcap) s2 sx wo ISo.out OXo.out.isB).mono ?_
                      rintro e wp ⟨rfl, kp⟩
                      rw [decide_eq_true E123.out.1]
                      have HP := Lib.hid kp
                      have a0 : wp.cell? ⟨w.heap.size, 0, none⟩ = some (.slice ka 32 kc) := (BAo.out.below kp BAo.out.lt).cell 0
                      clear kp
                      go_wp2_with fail
                      refine (requal_b (.slice ka2 k2.length kc2) (.slice ka 32 kc) k2 key wp (IKo.out.below HP.out) (HKo.out.below HP.out)).mono ?_
                      rintro e wq ⟨rfl, kq⟩
                      clear a0
                      rw [decide_eq_true E123.out.2.1]
                      have HPQ := Lib.hid (HP.out.trans (kq.mono HP.out.size))
                      have a2 : wq.cell? ⟨w.heap.size, 2, none⟩ = some (.slice xa xn xc) := (BAo.out.below HPQ.out BAo.out.lt).cell 2
                      clear kq
                      go_wp2_with fail
                      refine (requal_b (.slice xa2 x2.length xc2) (.slice xa xn xc) x2 ctx wq (IXo.out.below HPQ.out) (HXo.out.below HPQ.out)).mono ?_
                      rintro e wr ⟨rfl, kr⟩
                      clear a2
                      rw [decide_eq_true E123.out.2.2]
                      have HPR := Lib.hid (HPQ.out.trans (kr.mono HPQ.out.size))
                      have a3 : wr.cell? ⟨w.heap.size, 3, none⟩ = some (.slice la ln lc) := (BAo.out.below HPR.out BAo.out.lt).cell 3
                      clear kr
                      go_wp2_with fail
                      refine (requal_b _ (.slice la ln lc) layer layer wr (OO.out.isB.below HPR.out) (HLo.out.below HPR.out)).mono ?_
                      rintro e wt ⟨rfl, kt⟩
                      clear a3
                      rw [decide_eq_true rfl]
                      have KT : Hid (Below w.heap.size w wt) := Ko.out.trans ((HPR.out.trans (kt.mono HPR.out.size)).mono Ko.out.size)
                      clear kt
                      go_wp2
                      go_ret
                      exact ⟨rfl, KT.out⟩
                    · have HNO := Lib.hid hno
                      clear hno
                      go_wp2_with fail
                      refine (requal_b (.slice sa d sc) (.slice (some ⟨gx, 0, none⟩) xl xcap) s2 sx wo ISo.out OXo.out.isB).mono ?_
                      rintro e wp ⟨rfl, kp⟩
                      have HP := Lib.hid kp
                      clear kp
                      by_cases q1 : s2 = sx
                      · rw [decide_eq_true q1]
                        have HNO2 : Hid (¬ (k2 = key ∧ x2 = ctx)) := fun h => HNO.out ⟨q1, h⟩
                        clear q1 HNO
                        have a0 : wp.cell? ⟨w.heap.size, 0, none⟩ = some (.slice ka 32 kc) := (BAo.out.below HP.out BAo.out.lt).cell 0
                        go_wp2_with fail
                        refine (requal_b (.slice ka2 k2.length kc2) (.slice ka 32 kc) k2 key wp (IKo.out.below HP.out) (HKo.out.below HP.out)).mono ?_
                        rintro e wq ⟨rfl, kq⟩
                        clear a0
                        have HPQ := Lib.hid (HP.out.trans (kq.mono HP.out.size))
                        clear kq
                        by_cases q2 : k2 = key
                        · rw [decide_eq_true q2]
                          have a2 : wq.cell? ⟨w.heap.size, 2, none⟩ = some (.slice xa xn xc) := (BAo.out.below HPQ.out BAo.out.lt).cell 2
                          have HNO3 : Hid (¬ x2 = ctx) := fun h => HNO2.out ⟨q2, h⟩
                          clear q2 HNO2
                          go_wp2_with fail
                          refine (requal_b (.slice xa2 x2.length xc2) (.slice xa xn xc) x2 ctx wq (IXo.out.below HPQ.out) (HXo.out.below HPQ.out)).mono ?_
                          rintro e wr ⟨rfl, kr⟩
                          clear a2
                          rw [decide_eq_false HNO3.out]
                          have KT : Hid (Below w.heap.size w wr) := Ko.out.trans ((HPQ.out.trans (kr.mono HPQ.out.size)).mono Ko.out.size)
                          clear kr
                          rcases hc with rfl | rfl
                          · go_wp2
                            go_ret
                            exact ⟨rfl, KT.out⟩
                          · go_wp2
                            go_ret
                            exact ⟨rfl, KT.out⟩
                        · rw [decide_eq_false q2]
                          have KT : Hid (Below w.heap.size w wq) := Ko.out.trans (HPQ.out.mono Ko.out.size)
                          clear q2
                          rcases hc with rfl | rfl
                          · go_wp2
                            go_ret
                            exact ⟨rfl, KT.out⟩
                          · go_wp2
                            go_ret
                            exact ⟨rfl, KT.out⟩
                      · rw [decide_eq_false q1]
                        have KT : Hid (Below w.heap.size w wp) := Ko.out.trans (HP.out.mono Ko.out.size)
                        clear q1
                        rcases hc with rfl | rfl
                        · go_wp2
                          go_ret
                          exact ⟨rfl, KT.out⟩
                        · go_wp2
                          go_ret
                          exact ⟨rfl, KT.out⟩
                  · by_cases r6 : r = 6
                    · have v3b : (ck : Int).tmod 9 = 6 := by rw [v3, r6]; rfl
                      have HNS : Hid (s ≠ M.sealB (M.np layer.length sz) pq layer sz) := M.not_second HNN.out.2.1.symm HQ.out.1 HQ.out.2 (.inl HST.out)
                      clear v3 r4 r5 HB4
                      obtain ⟨k2, hk2⟩ : ∃ l, l = key := ⟨_, rfl⟩
                      obtain ⟨x2, hx2⟩ : ∃ l, l = ctx := ⟨_, rfl⟩
                      rw [← hk2] at O14b O14
                      rw [← hx2] at O15
                      have LK2 : Hid (k2.length = 32 ∧ x2.length ≤ 900 ∧ s.length ≤ 200000) := ⟨by rw [hk2]; exact HNN.out.1.symm, by rw [hx2]; have := HNN.out; have := HSZ.out; omega, HSE.out.2.1⟩
                      clear hk2 hx2 r6
                      obtain ⟨sa, sc, rfl⟩ := HS15.out.shape'
                      obtain ⟨ka2, kc2, rfl⟩ := O14b.out.shape'
                      obtain ⟨bb, hbb⟩ : ∃ l, l = [UInt8.ofNat cb] := ⟨_, rfl⟩
                      have hbc : Lib.byteCells bb = [.int .u8 (cb : Int)] := by
                        have : (UInt8.ofNat cb).toNat = cb := by have := HCC.out.2.2; simp; omega
                        rw [hbb]
                        simp [Lib.byteCells, this]
                      have hb1 : bb.length = 1 := by rw [hbb]; rfl
                      have kA : Below w15.heap.size w15 (w15.alloc (.cells #[.int .u8 (cb : Int)] 5)) := (Below.refl _ _).alloc (Nat.le_refl _) _
                      have IBB : Hid (IsB (w15.alloc (.cells #[.int .u8 (cb : Int)] 5)) (.slice (some ⟨w15.heap.size, 0, none⟩) 1 1) bb) := by
                        have h := isB_lit17 w15 bb 5 (0, 0) (by omega)
                        rw [hbc, hb1] at h
                        exact h
                      have IBN : Hid (∀ n c, Value.slice (some ⟨w15.heap.size, 0, none⟩) 1 1 = .slice none n c → c = 0) := fun n c e => by injection e with e; cases e
                      have OXA := Lib.hid (O15.out.below kA)
                      have LL : Hid (x2.length + bb.length ≤ 140737488355328) := by have := LK2.out; rw [Hid]; omega
                      have ZA : Hid (w14.heap.size ≤ (w15.alloc (.cells #[.int .u8 (cb : Int)] 5)).heap.size) := Nat.le_trans ZZ15.out.2.2.1 kA.size
                      have HB1 := Lib.hid hb1
                      have KA := Lib.hid kA
                      clear hbb hbc hb1 kA
                      go_wp2_with (at_builtin; go_must (refine wpList_app _ rfl _ _ rfl w14.heap.size v15 x2 rfl OXA.out _ bb rfl IBB.out IBN.out LL.out ZA.out ?_))
                      intro vF wF oF bF _
                      have kF0 : Below w14.heap.size w15 wF := (KA.out.mono ZZ15.out.2.2.1).trans bF
                      have k14F : Below w14.heap.size w14 wF := K1415.out.trans kF0
                      have k10F : Below w10.heap.size w10 wF := KW1015.out.trans (kF0.mono (by have := ZZ15.out; omega))
                      obtain ⟨x3, hx3⟩ : ∃ l, l = x2 ++ bb := ⟨_, rfl⟩
                      rw [← hx3] at oF
                      have LK : Hid (k2.length = 32 ∧ x3.length ≤ 1000 ∧ s.length ≤ 200000) := ⟨LK2.out.1, by rw [hx3, List.length_append]; have := LK2.out; have := HB1.out; omega, LK2.out.2.2⟩
                      obtain ⟨xa2, xc2, rfl⟩ := oF.shape'
                      have IS : Hid (IsB wF (.slice sa s.length sc) s) := (HS14.out.below k14F).isB
                      have IK : Hid (IsB wF (.slice ka2 k2.length kc2) k2) := (O14.out.below k14F).isB
                      have IX : Hid (IsB wF (.slice xa2 x3.length xc2) x3) := oF.isB
                      have HXN2 : Hid (∀ n c, Value.slice xa2 x3.length xc2 = .slice none n c → c = 0) := oF.nil0
                      clear k14F kF0 oF bF hx3 IBB IBN OXA LL ZA HB1 KA LK2
                      clear HK15 HX15 HL15 BA15 OX15 K15 B15 BC15 c0 c1 c2
                      have HK15 := Lib.hid (HK10.out.below k10F)
                      have HX15 := Lib.hid (HX10.out.below k10F)
                      have HL15 := Lib.hid (HL10.out.below k10F)
                      have BA15 := Lib.hid (BA10.out.below k10F BA10.out.lt)
                      have B15 := Lib.hid (B10.out.below k10F)
                      have OX15 := Lib.hid (OX10.out.below k10F)
                      have K15 := Lib.hid (K10.out.trans (k10F.mono K10.out.size))
                      clear k10F HK10 HX10 HL10 BA10 BC10 B10 OX10 K10 KW1015 K1415 HS14 O14 HS12 HS15 O14b O15 HST HSE
                      go_upto_region 29 with fail
                      clear v3b
                      have CO := Lib.hid (sopen_any B15.out (.slice ka2 k2.length kc2) (.slice xa2 x3.length xc2) (.slice sa s.length sc) k2 x3 s IK.out IX.out IS.out HXN2.out LK.out.1 (by have := LK.out; omega) (by have := LK.out; omega) HBT.out)
                      go_wp2_with fail
                      refine CO.out.mono ?_
                      intro e wo ho
                      have hend := cuts_end (key := key) (p := pre) (q := pq) (ctx := ctx) (layer := layer) (size := sz) HNN.out.2.1.symm HQ.out.1 HQ.out.2 HSZ.out.1 HSZ.out.2.1 (by have := HNN.out; have := HSZ.out; omega) (by have := LK.out; omega) HNS.out ho
                      rw [show M.sealB 0 pre layer sz = sx from HSX.out.symm] at hend
                      obtain ⟨ko, hend⟩ := hend
                      have ISo := Lib.hid (IS.out.below ko)
                      have IKo := Lib.hid (IK.out.below ko)
                      have IXo := Lib.hid (IX.out.below ko)
                      have HKo := Lib.hid (HK15.out.below ko)
                      have HXo := Lib.hid (HX15.out.below ko)
                      have HLo := Lib.hid (HL15.out.below ko)
                      have BAo := Lib.hid (BA15.out.below ko BA15.out.lt)
                      have OXo := Lib.hid (OX15.out.below ko)
                      have Ko := Lib.hid (K15.out.trans (ko.mono K15.out.size))
                      clear ho CO IS IK IX HK15 HX15 HL15 BA15 OX15 K15 B15
                      rcases hend with ⟨ro, rfl, oo, e1, e2, e3⟩ | ⟨c, hc, rfl, hno⟩
                      · obtain ⟨roa, roc, rfl⟩ := oo.shape'
                        have OO := Lib.hid oo
                        have E123 : Hid (s = sx ∧ k2 = key ∧ x3 = ctx) := ⟨e3, e1, e2⟩
                        clear oo e1 e2 e3
                        go_wp2_with fail
                        refine (requal_b (.slice sa s.length sc) (.slice (some ⟨gx, 0, none⟩) xl xcap) s sx wo ISo.out OXo.out.isB).mono ?_
                        rintro e wp ⟨rfl, kp⟩
                        rw [decide_eq_true E123.out.1]
                        have HP := Lib.hid kp
                        have a0 : wp.cell? ⟨w.heap.size, 0, none⟩ = some (.slice ka 32 kc) := (BAo.out.below kp BAo.out.lt).cell 0
                        clear kp
                        go_wp2_with fail
                        refine (requal_b (.slice ka2 k2.length kc2) (.slice ka 32 kc) k2 key wp (IKo.out.below HP.out) (HKo.out.below HP.out)).mono ?_
                        rintro e wq ⟨rfl, kq⟩
                        clear a0
                        rw [decide_eq_true E123.out.2.1]
                        have HPQ := Lib.hid (HP.out.trans (kq.mono HP.out.size))
                        have a2 : wq.cell? ⟨w.heap.size, 2, none⟩ = some (.slice xa xn xc) := (BAo.out.below HPQ.out BAo.out.lt).cell 2
                        clear kq
                        go_wp2_with fail
                        refine (requal_b (.slice xa2 x3.length xc2) (.slice xa xn xc) x3 ctx wq (IXo.out.below HPQ.out) (HXo.out.below HPQ.out)).mono ?_
                        rintro e wr ⟨rfl, kr⟩
                        clear a2
                        rw [decide_eq_true E123.out.2.2]
                        have HPR := Lib.hid (HPQ.out.trans (kr.mono HPQ.out.size))
                        have a3 : wr.cell? ⟨w.heap.size, 3, none⟩ = some (.slice la ln lc) := (BAo.out.below HPR.out BAo.out.lt).cell 3
                        clear kr
                        go_wp2_with fail
                        refine (requal_b _ (.slice la ln lc) layer layer wr (OO.out.isB.below HPR.out) (HLo.out.below HPR.out)).mono ?_
                        rintro e wt ⟨rfl, kt⟩
                        clear a3
                        rw [decide_eq_true rfl]
                        have KT : Hid (Below w.heap.size w wt) := Ko.out.trans ((HPR.out.trans (kt.mono HPR.out.size)).mono Ko.out.size)
                        clear kt
                        go_wp2
                        go_ret
                        exact ⟨rfl, KT.out⟩
                      · have HNO := Lib.hid hno
                        clear hno
                        go_wp2_with fail
                        refine (requal_b (.slice sa s.length sc) (.slice (some ⟨gx, 0, none⟩) xl xcap) s sx wo ISo.out OXo.out.isB).mono ?_
                        rintro e wp ⟨rfl, kp⟩
                        have HP := Lib.hid kp
                        clear kp
                        by_cases q1 : s = sx
                        · rw [decide_eq_true q1]
                          have HNO2 : Hid (¬ (k2 = key ∧ x3 = ctx)) := fun h => HNO.out ⟨q1, h⟩
                          clear q1 HNO
                          have a0 : wp.cell? ⟨w.heap.size, 0, none⟩ = some (.slice ka 32 kc) := (BAo.out.below HP.out BAo.out.lt).cell 0
                          go_wp2_with fail
                          refine (requal_b (.slice ka2 k2.length kc2) (.slice ka 32 kc) k2 key wp (IKo.out.below HP.out) (HKo.out.below HP.out)).mono ?_
                          rintro e wq ⟨rfl, kq⟩
                          clear a0
                          have HPQ := Lib.hid (HP.out.trans (kq.mono HP.out.size))
                          clear kq
                          by_cases q2 : k2 = key
                          · rw [decide_eq_true q2]
                            have a2 : wq.cell? ⟨w.heap.size, 2, none⟩ = some (.slice xa xn xc) := (BAo.out.below HPQ.out BAo.out.lt).cell 2
                            have HNO3 : Hid (¬ x3 = ctx) := fun h => HNO2.out ⟨q2, h⟩
                            clear q2 HNO2
                            go_wp2_with fail
                            refine (requal_b (.slice xa2 x3.length xc2) (.slice xa xn xc) x3 ctx wq (IXo.out.below HPQ.out) (HXo.out.below HPQ.out)).mono ?_
                            rintro e wr ⟨rfl, kr⟩
                            clear a2
                            rw [decide_eq_false HNO3.out]
                            have KT : Hid (Below w.heap.size w wr) := Ko.out.trans ((HPQ.out.trans (kr.mono HPQ.out.size)).mono Ko.out.size)
                            clear kr
                            rcases hc with rfl | rfl
                            · go_wp2
                              go_ret
                              exact ⟨rfl, KT.out⟩
                            · go_wp2
                              go_ret
                              exact ⟨rfl, KT.out⟩
                          · rw [decide_eq_false q2]
                            have KT : Hid (Below w.heap.size w wq) := Ko.out.trans (HPQ.out.mono Ko.out.size)
                            clear q2
                            rcases hc with rfl | rfl
                            · go_wp2
                              go_ret
                              exact ⟨rfl, KT.out⟩
                            · go_wp2
                              go_ret
                              exact ⟨rfl, KT.out⟩
                        · rw [decide_eq_false q1]
                          have KT : Hid (Below w.heap.size w wp) := Ko.out.trans (HP.out.mono Ko.out.size)
                          clear q1
                          rcases hc with rfl | rfl
                          · go_wp2
                            go_ret
                            exact ⟨rfl, KT.out⟩
                          · go_wp2
                            go_ret
                            exact ⟨rfl, KT.out⟩
                    · by_cases r7 : r = 7
                      · have HNS : Hid (s ≠ M.sealB (M.np layer.length sz) pq layer sz) := M.not_second HNN.out.2.1.symm HQ.out.1 HQ.out.2 (.inl HST.out)
                        have v3b : (ck : Int).tmod 9 = 7 := by rw [v3, r7]; rfl
                        clear v3 r4 r5 r6 r7 HB4
                        obtain ⟨k2, hk2⟩ : ∃ l, l = key := ⟨_, rfl⟩
                        obtain ⟨x2, hx2⟩ : ∃ l, l = ctx := ⟨_, rfl⟩
                        rw [← hk2] at O14b O14
                        rw [← hx2] at O15
                        have LK0 : Hid (k2.length = 32 ∧ x2.length ≤ 900 ∧ s.length ≤ 200000) := ⟨by rw [hk2]; exact HNN.out.1.symm, by rw [hx2]; have := HNN.out; have := HSZ.out; omega, HSE.out.2.1⟩
                        clear hk2 hx2
                        have hcb : (UInt8.ofNat cb).toNat = cb := by have := HCC.out.2.2; simp; omega
                        have w1 : IntKind.i64.wrap (ca : Int) = (ca : Int) := by have := HCC.out.2.1; rw [IntKind.wrap_i64]; omega
                        obtain ⟨sa, sc, rfl⟩ := HS15.out.shape'
                        obtain ⟨xa2, xc2, rfl⟩ := O15.out.shape'
                        obtain ⟨gk, kcap, rfl, hgk⟩ := O14b.out.shape (by have := LK0.out; omega)
                        have hgk2 := (O14.out.row.lt gk rfl).2
                        obtain ⟨m, hm⟩ : ∃ n, n = ca % 32 := ⟨_, rfl⟩
                        have hml : m < 32 := by rw [hm]; exact Nat.mod_lt _ (by omega)
                        obtain ⟨c, hc⟩ : ∃ c, c = (k2.getD m 0).toNat := ⟨_, rfl⟩
                        obtain ⟨y, hy⟩ : ∃ y, y = (k2.getD m 0 ^^^ UInt8.ofNat cb) := ⟨_, rfl⟩
                        have yx : bits BinOp.xor IntKind.u8 (c : Int) (cb : Int) = (y.toNat : Int) := by
                          rw [hc, hy, UInt8.toNat_xor, hcb]
                          exact u8_xor_nat _ _ (UInt8.toNat_lt _) HCC.out.2.2
                        have hck : w15.cell? ⟨gk, m, none⟩ = some (.int .u8 (c : Int)) := by
                          have h := O14b.out.isB.cellB (i := m) (by have := LK0.out; omega)
                          rw [Nat.zero_add] at h
                          rw [hc]; exact h
                        have hfz : w15.frozen? ⟨gk, m, none⟩ = false := O14b.out.nofz (by have := LK0.out; omega)
                        have hfz' : w15.drew.frozen? ⟨gk, m, none⟩ = false := hfz
                        have h0 := O14b.out.row
                        rw [LK0.out.1] at h0 ⊢
                        have hst := (h0.stored m (.int .u8 (y.toNat : Int))).1
                        have v5 : (ca : Int).tmod 32 = (m : Int) := by rw [hm]; rfl
                        have i0 : (0 : Int) ≤ (m : Int) := by omega
                        have i1 : (m : Int) < 32 := by omega
                        have c1d : w15.drew.cell? ⟨w.heap.size + 1, 1, none⟩ = some (.int .u16 (ca : Int)) := c1
                        have c2d : w15.drew.cell? ⟨w.heap.size + 1, 2, none⟩ = some (.int .u8 (cb : Int)) := c2
                        have hckd : w15.drew.cell? ⟨gk, m, none⟩ = some (.int .u8 (c : Int)) := hck
                        have HST2 := Lib.hid hst
                        have HGK : Hid (wz.heap.size ≤ gk ∧ gk < w14.heap.size) := ⟨hgk, hgk2⟩
                        clear hgk hgk2 hm hml hc hy h0 hst hcb
                        go_upto_region 28 with fail
                        refine wp_region_still 11 (by kernel_rfl) (by kernel_rfl) ?_
                        simp only [List.take_succ_cons, List.take_zero, List.drop_succ_cons, List.drop_zero]
                        repeat still_step
                        refine wpStill_nil ?_
                        go_upto_region 29 with fail
                        obtain ⟨wF, hwF⟩ : ∃ x, x = (w15.setCell ⟨gk, m, none⟩ (.int .u8 (y.toNat : Int))).drew := ⟨_, rfl⟩
                        rw [← hwF]
                        have cF : Chg (fun b => b = gk) w15 wF := by rw [hwF]; exact ((Chg.refl (fun b => b = gk) w15).cell m _).drew
                        have k10F : Below w10.heap.size w10 wF := KW1015.out.trans (cF.below KW1015.out.size (fun k e => by subst e; have := HGK.out; have := ZZ15.out; omega))
                        obtain ⟨k3, hk3⟩ : ∃ l, l = k2.set m y := ⟨_, rfl⟩
                        have IS : Hid (IsB wF (.slice sa s.length sc) s) := Own.isB (B := w10.heap.size) (own_chg HS15.out cF (fun b hb e => by have := (HS12.out.row.lt b hb).2; have := HGK.out; subst e; omega))
                        have IX : Hid (IsB wF (.slice xa2 x2.length xc2) x2) := Own.isB (B := w14.heap.size) (own_chg O15.out cF (fun b hb e => by have := (O15.out.row.lt b hb).1; have := HGK.out; subst e; omega))
                        have OK3 : Own wF wz.heap.size (.slice (some ⟨gk, 0, none⟩) 32 kcap) k3 := by
                          rw [hwF, Own, hk3, List.length_set, LK0.out.1, bcSet]
                          exact HST2.out.drew
                        have IK : Hid (IsB wF (.slice (some ⟨gk, 0, none⟩) 32 kcap) k3) := OK3.isB
                        have HXN2 : Hid (∀ n c, Value.slice xa2 x2.length xc2 = .slice none n c → c = 0) := O15.out.nil0
                        have LK : Hid (k3.length = 32 ∧ x2.length ≤ 1000 ∧ s.length ≤ 200000) := ⟨by rw [hk3, List.length_set]; exact LK0.out.1, by have := LK0.out; omega, LK0.out.2.2⟩
                        clear cF OK3 HST2 HGK hwF hk3 yx hck hfz hfz' c1d c2d hckd v5 i0 i1 w1 v3b LK0
                        clear HK15 HX15 HL15 BA15 OX15 K15 B15 BC15 c0 c1 c2
                        have HK15 := Lib.hid (HK10.out.below k10F)
                        have HX15 := Lib.hid (HX10.out.below k10F)
                        have HL15 := Lib.hid (HL10.out.below k10F)
                        have BA15 := Lib.hid (BA10.out.below k10F BA10.out.lt)
                        have B15 := Lib.hid (B10.out.below k10F)
                        have OX15 := Lib.hid (OX10.out.below k10F)
                        have K15 := Lib.hid (K10.out.trans (k10F.mono K10.out.size))
                        clear k10F HK10 HX10 HL10 BA10 BC10 B10 OX10 K10 KW1015 K1415 HS14 O14 HS12 HS15 O14b O15 HST HSE
                        have CO := Lib.hid (sopen_any B15.out (.slice (some ⟨gk,0,none⟩) 32 kcap) (.slice xa2 x2.length xc2) (.slice sa s.length sc) k3 x2 s IK.out IX.out IS.out HXN2.out LK.out.1 (by have := LK.out; omega) (by have := LK.out; omega) HBT.out)
                        go_wp2_with fail
                        refine CO.out.mono ?_
                        intro e wo ho
                        have hend := cuts_end (key := key) (p := pre) (q := pq) (ctx := ctx) (layer := layer) (size := sz) HNN.out.2.1.symm HQ.out.1 HQ.out.2 HSZ.out.1 HSZ.out.2.1 (by have := HNN.out; have := HSZ.out; omega) (by have := LK.out; omega) HNS.out ho
                        rw [show M.sealB 0 pre layer sz = sx from HSX.out.symm] at hend
                        obtain ⟨ko, hend⟩ := hend
                        have ISo := Lib.hid (IS.out.below ko)
                        have IKo := Lib.hid (IK.out.below ko)
                        have IXo := Lib.hid (IX.out.below ko)
                        have HKo := Lib.hid (HK15.out.below ko)
                        have HXo := Lib.hid (HX15.out.below ko)
                        have HLo := Lib.hid (HL15.out.below ko)
                        have BAo := Lib.hid (BA15.out.below ko BA15.out.lt)
                        have OXo := Lib.hid (OX15.out.below ko)
                        have Ko := Lib.hid (K15.out.trans (ko.mono K15.out.size))
                        clear ho CO IS IK IX HK15 HX15 HL15 BA15 OX15 K15 B15
                        rcases hend with ⟨ro, rfl, oo, e1, e2, e3⟩ | ⟨c, hc, rfl, hno⟩
                        · obtain ⟨roa, roc, rfl⟩ := oo.shape'
                          have OO := Lib.hid oo
                          have E123 : Hid (s = sx ∧ k3 = key ∧ x2 = ctx) := ⟨e3, e1, e2⟩
                          clear oo e1 e2 e3
                          go_wp2_with fail
                          refine (requal_b (.slice sa s.length sc) (.slice (some ⟨gx, 0, none⟩) xl xcap) s sx wo ISo.out OXo.out.isB).mono ?_
                          rintro e wp ⟨rfl, kp⟩
                          rw [decide_eq_true E123.out.1]
                          have HP := Lib.hid kp
                          have a0 : wp.cell? ⟨w.heap.size, 0, none⟩ = some (.slice ka 32 kc) := (BAo.out.below kp BAo.out.lt).cell 0
                          clear kp
                          go_wp2_with fail
                          refine (requal_b (.slice (some ⟨gk,0,none⟩) 32 kcap) (.slice ka 32 kc) k3 key wp (IKo.out.below HP.out) (HKo.out.below HP.out)).mono ?_
                          rintro e wq ⟨rfl, kq⟩
                          clear a0
                          rw [decide_eq_true E123.out.2.1]
                          have HPQ := Lib.hid (HP.out.trans (kq.mono HP.out.size))
                          have a2 : wq.cell? ⟨w.heap.size, 2, none⟩ = some (.slice xa xn xc) := (BAo.out.below HPQ.out BAo.out.lt).cell 2
                          clear kq
                          go_wp2_with fail
                          refine (requal_b (.slice xa2 x2.length xc2) (.slice xa xn xc) x2 ctx wq (IXo.out.below HPQ.out) (HXo.out.below HPQ.out)).mono ?_
                          rintro e wr ⟨rfl, kr⟩
                          clear a2
                          rw [decide_eq_true E123.out.2.2]
                          have HPR := Lib.hid (HPQ.out.trans (kr.mono HPQ.out.size))
                          have a3 : wr.cell? ⟨w.heap.size, 3, none⟩ = some (.slice la ln lc) := (BAo.out.below HPR.out BAo.out.lt).cell 3
                          clear kr
                          go_wp2_with fail
                          refine (requal_b _ (.slice la ln lc) layer layer wr (OO.out.isB.below HPR.out) (HLo.out.below HPR.out)).mono ?_
                          rintro e wt ⟨rfl, kt⟩
                          clear a3
                          rw [decide_eq_true rfl]
                          have KT : Hid (Below w.heap.size w wt) := Ko.out.trans ((HPR.out.trans (kt.mono HPR.out.size)).mono Ko.out.size)
                          clear kt
                          go_wp2
                          go_ret
                          exact ⟨rfl, KT.out⟩
                        · have HNO := Lib.hid hno
                          clear hno
                          go_wp2_with fail
                          refine (requal_b (.slice sa s.length sc) (.slice (some ⟨gx, 0, none⟩) xl xcap) s sx wo ISo.out OXo.out.isB).mono ?_
                          rintro e wp ⟨rfl, kp⟩
                          have HP := Lib.hid kp
                          clear kp
                          by_cases q1 : s = sx
                          · rw [decide_eq_true q1]
                            have HNO2 : Hid (¬ (k3 = key ∧ x2 = ctx)) := fun h => HNO.out ⟨q1, h⟩
                            clear q1 HNO
                            have a0 : wp.cell? ⟨w.heap.size, 0, none⟩ = some (.slice ka 32 kc) := (BAo.out.below HP.out BAo.out.lt).cell 0
                            go_wp2_with fail
                            refine (requal_b (.slice (some ⟨gk,0,none⟩) 32 kcap) (.slice ka 32 kc) k3 key wp (IKo.out.below HP.out) (HKo.out.below HP.out)).mono ?_
                            rintro e wq ⟨rfl, kq⟩
                            clear a0
                            have HPQ := Lib.hid (HP.out.trans (kq.mono HP.out.size))
                            clear kq
                            by_cases q2 : k3 = key
                            · rw [decide_eq_true q2]
                              have a2 : wq.cell? ⟨w.heap.size, 2, none⟩ = some (.slice xa xn xc) := (BAo.out.below HPQ.out BAo.out.lt).cell 2
                              have HNO3 : Hid (¬ x2 = ctx) := fun h => HNO2.out ⟨q2, h⟩
                              clear q2 HNO2
                              go_wp2_with fail
                              refine (requal_b (.slice xa2 x2.length xc2) (.slice xa xn xc) x2 ctx wq (IXo.out.below HPQ.out) (HXo.out.below HPQ.out)).mono ?_
                              rintro e wr ⟨rfl, kr⟩
                              clear a2
                              rw [decide_eq_false HNO3.out]
                              have KT : Hid (Below w.heap.size w wr) := Ko.out.trans ((HPQ.out.trans (kr.mono HPQ.out.size)).mono Ko.out.size)
                              clear kr
                              rcases hc with rfl | rfl
                              · go_wp2
                                go_ret
                                exact ⟨rfl, KT.out⟩
                              · go_wp2
                                go_ret
                                exact ⟨rfl, KT.out⟩
                            · rw [decide_eq_false q2]
                              have KT : Hid (Below w.heap.size w wq) := Ko.out.trans (HPQ.out.mono Ko.out.size)
                              clear q2
                              rcases hc with rfl | rfl
                              · go_wp2
                                go_ret
                                exact ⟨rfl, KT.out⟩
                              · go_wp2
                                go_ret
                                exact ⟨rfl, KT.out⟩
                          · rw [decide_eq_false q1]
                            have KT : Hid (Below w.heap.size w wp) := Ko.out.trans (HP.out.mono Ko.out.size)
                            clear q1
                            rcases hc with rfl | rfl
                            · go_wp2
                              go_ret
                              exact ⟨rfl, KT.out⟩
                            · go_wp2
                              go_ret
                              exact ⟨rfl, KT.out⟩
                      · have y4 : ((r : Int) == 4) = false := beq_false_of_ne (by omega)
                        have y5 : ((r : Int) == 5) = false := beq_false_of_ne (by omega)
                        have y6 : ((r : Int) == 6) = false := beq_false_of_ne (by omega)
                        have y7 : ((r : Int) == 7) = false := beq_false_of_ne (by omega)
                        have HNS : Hid (s ≠ M.sealB (M.np layer.length sz) pq layer sz) := M.not_second HNN.out.2.1.symm HQ.out.1 HQ.out.2 (.inl HST.out)
                        clear r4 r5 r6 r7
                        obtain ⟨k2, hk2⟩ : ∃ l, l = key := ⟨_, rfl⟩
                        obtain ⟨x2, hx2⟩ : ∃ l, l = ctx := ⟨_, rfl⟩
                        rw [← hk2] at O14b
                        rw [← hx2] at O15
                        have LK : Hid (k2.length = 32 ∧ x2.length ≤ 1000 ∧ s.length ≤ 200000) := ⟨by rw [hk2]; exact HNN.out.1.symm, by rw [hx2]; have := HNN.out; have := HSZ.out; omega, HSE.out.2.1⟩
                        clear hk2 hx2
                        obtain ⟨sa, sc, rfl⟩ := HS15.out.shape'
                        obtain ⟨ka2, kc2, rfl⟩ := O14b.out.shape'
                        obtain ⟨xa2, xc2, rfl⟩ := O15.out.shape'
                        go_upto_region 29 with fail
                        obtain ⟨wF, rfl⟩ : ∃ x, x = w15 := ⟨_, rfl⟩
                        have IS : Hid (IsB wF (.slice sa s.length sc) s) := HS15.out.isB
                        have IK : Hid (IsB wF (.slice ka2 k2.length kc2) k2) := O14b.out.isB
                        have IX : Hid (IsB wF (.slice xa2 x2.length xc2) x2) := O15.out.isB
                        have HXN2 : Hid (∀ n c, Value.slice xa2 x2.length xc2 = .slice none n c → c = 0) := O15.out.nil0
                        clear HS15 O14b O15 HST HSE HB4 BC15 c0 c1 c2 KW1015 K1415 HK10 HX10 HL10 BA10 BC10 B10 OX10 K10 O14 HS14 HS12
                        have CO := Lib.hid (sopen_any B15.out (.slice ka2 k2.length kc2) (.slice xa2 x2.length xc2) (.slice sa s.length sc) k2 x2 s IK.out IX.out IS.out HXN2.out LK.out.1 (by have := LK.out; omega) (by have := LK.out; omega) HBT.out)
                        go_wp2_with fail
                        refine CO.out.mono ?_
                        intro e wo ho
                        have hend := cuts_end (key := key) (p := pre) (q := pq) (ctx := ctx) (layer := layer) (size := sz) HNN.out.2.1.symm HQ.out.1 HQ.out.2 HSZ.out.1 HSZ.out.2.1 (by have := HNN.out; have := HSZ.out; omega) (by have := LK.out; omega) HNS.out ho
                        rw [show M.sealB 0 pre layer sz = sx from HSX.out.symm] at hend
                        obtain ⟨ko, hend⟩ := hend
                        have ISo := Lib.hid (IS.out.below ko)
                        have IKo := Lib.hid (IK.out.below ko)
                        have IXo := Lib.hid (IX.out.below ko)
                        have HKo := Lib.hid (HK15.out.below ko)
                        have HXo := Lib.hid (HX15.out.below ko)
                        have HLo := Lib.hid (HL15.out.below ko)
                        have BAo := Lib.hid (BA15.out.below ko BA15.out.lt)
                        have OXo := Lib.hid (OX15.out.below ko)
                        have Ko := Lib.hid (K15.out.trans (ko.mono K15.out.size))
                        clear ho CO IS IK IX HK15 HX15 HL15 BA15 OX15 K15 B15
                        rcases hend with ⟨ro, rfl, oo, e1, e2, e3⟩ | ⟨c, hc, rfl, hno⟩
                        · obtain ⟨roa, roc, rfl⟩ := oo.shape'
                          have OO := Lib.hid oo
                          have E123 : Hid (s = sx ∧ k2 = key ∧ x2 = ctx) := ⟨e3, e1, e2⟩
                          clear oo e1 e2 e3
                          go_wp2_with fail
                          refine (requal_b (.slice sa s.length sc) (.slice (some ⟨gx, 0, none⟩) xl xcap) s sx wo ISo.out OXo.out.isB).mono ?_
                          rintro e wp ⟨rfl, kp⟩
                          rw [decide_eq_true E123.out.1]
                          have HP := Lib.hid kp
                          have a0 : wp.cell? ⟨w.heap.size, 0, none⟩ = some (.slice ka 32 kc) := (BAo.out.below kp BAo.out.lt).cell 0
                          clear kp
                          go_wp2_with fail
                          refine (requal_b (.slice ka2 k2.length kc2) (.slice ka 32 kc) k2 key wp (IKo.out.below HP.out) (HKo.out.below HP.out)).mono ?_
                          rintro e wq ⟨rfl, kq⟩
                          clear a0
                          rw [decide_eq_true E123.out.2.1]
                          have HPQ := Lib.hid (HP.out.trans (kq.mono HP.out.size))
                          have a2 : wq.cell? ⟨w.heap.size, 2, none⟩ = some (.slice xa xn xc) := (BAo.out.below HPQ.out BAo.out.lt).cell 2
                          clear kq
                          go_wp2_with fail
                          refine (requal_b (.slice xa2 x2.length xc2) (.slice xa xn xc) x2 ctx wq (IXo.out.below HPQ.out) (HXo.out.below HPQ.out)).mono ?_
                          rintro e wr ⟨rfl, kr⟩
                          clear a2
                          rw [decide_eq_true E123.out.2.2]
                          have HPR := Lib.hid (HPQ.out.trans (kr.mono HPQ.out.size))
                          have a3 : wr.cell? ⟨w.heap.size, 3, none⟩ = some (.slice la ln lc) := (BAo.out.below HPR.out BAo.out.lt).cell 3
                          clear kr
                          go_wp2_with fail
                          refine (requal_b _ (.slice la ln lc) layer layer wr (OO.out.isB.below HPR.out) (HLo.out.below HPR.out)).mono ?_
                          rintro e wt ⟨rfl, kt⟩
                          clear a3
                          rw [decide_eq_true rfl]
                          have KT : Hid (Below w.heap.size w wt) := Ko.out.trans ((HPR.out.trans (kt.mono HPR.out.size)).mono Ko.out.size)
                          clear kt
                          go_wp2
                          go_ret
                          exact ⟨rfl, KT.out⟩
                        · have HNO := Lib.hid hno
                          clear hno
                          go_wp2_with fail
                          refine (requal_b (.slice sa s.length sc) (.slice (some ⟨gx, 0, none⟩) xl xcap) s sx wo ISo.out OXo.out.isB).mono ?_
                          rintro e wp ⟨rfl, kp⟩
                          have HP := Lib.hid kp
                          clear kp
                          by_cases q1 : s = sx
                          · rw [decide_eq_true q1]
                            have HNO2 : Hid (¬ (k2 = key ∧ x2 = ctx)) := fun h => HNO.out ⟨q1, h⟩
                            clear q1 HNO
                            have a0 : wp.cell? ⟨w.heap.size, 0, none⟩ = some (.slice ka 32 kc) := (BAo.out.below HP.out BAo.out.lt).cell 0
                            go_wp2_with fail
                            refine (requal_b (.slice ka2 k2.length kc2) (.slice ka 32 kc) k2 key wp (IKo.out.below HP.out) (HKo.out.below HP.out)).mono ?_
                            rintro e wq ⟨rfl, kq⟩
                            clear a0
                            have HPQ := Lib.hid (HP.out.trans (kq.mono HP.out.size))
                            clear kq
                            by_cases q2 : k2 = key
                            · rw [decide_eq_true q2]
                              have a2 : wq.cell? ⟨w.heap.size, 2, none⟩ = some (.slice xa xn xc) := (BAo.out.below HPQ.out BAo.out.lt).cell 2
                              have HNO3 : Hid (¬ x2 = ctx) := fun h => HNO2.out ⟨q2, h⟩
                              clear q2 HNO2
                              go_wp2_with fail
                              refine (requal_b (.slice xa2 x2.length xc2) (.slice xa xn xc) x2 ctx wq (IXo.out.below HPQ.out) (HXo.out.below HPQ.out)).mono ?_
                              rintro e wr ⟨rfl, kr⟩
                              clear a2
                              rw [decide_eq_false HNO3.out]
                              have KT : Hid (Below w.heap.size w wr) := Ko.out.trans ((HPQ.out.trans (kr.mono HPQ.out.size)).mono Ko.out.size)
                              clear kr
                              rcases hc with rfl | rfl
                              · go_wp2
                                go_ret
                                exact ⟨rfl, KT.out⟩
                              · go_wp2
                                go_ret
                                exact ⟨rfl, KT.out⟩
                            · rw [decide_eq_false q2]
                              have KT : Hid (Below w.heap.size w wq) := Ko.out.trans (HPQ.out.mono Ko.out.size)
                              clear q2
                              rcases hc with rfl | rfl
                              · go_wp2
                                go_ret
                                exact ⟨rfl, KT.out⟩
                              · go_wp2
                                go_ret
                                exact ⟨rfl, KT.out⟩
                          · rw [decide_eq_false q1]
                            have KT : Hid (Below w.heap.size w wp) := Ko.out.trans (HP.out.mono Ko.out.size)
                            clear q1
                            rcases hc with rfl | rfl
                            · go_wp2
                              go_ret
                              exact ⟨rfl, KT.out⟩
                            · go_wp2
                              go_ret
                              exact ⟨rfl, KT.out⟩
          · have q : ((pn : Int) != 7) = true := bne_iff_ne.2 (by omega)
            clear h7
            go_wp2
            go_ret
            exact ⟨rfl, K2.out⟩
        · have q : ((kn : Int) != 32) = true := bne_iff_ne.2 (by omega)
          clear h32
          go_wp2
          go_ret
          exact ⟨rfl, K2.out⟩

end Go.Proofs.Ytdojalhaklkegaa
