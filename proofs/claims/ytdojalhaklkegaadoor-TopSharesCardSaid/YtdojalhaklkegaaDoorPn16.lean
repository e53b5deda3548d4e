/-
  CONTRACTS OF aead.Seal AND aead.Open. Conditions: layer 4's table of places lies as it was laid; what is sealed, and said beside, has up to 2^46 - 64 bytes together; what is nil has no spare room; keys and nonces of whatever lengths (refused, if they aren't 32 and 12).
  orloplaw06.awake RETURNS true (what the document fixes as an example). Conditions: layer 4's table of places lies as it was laid.
  orloptop.sealing RETURNS true (what was sealed is opened; a box that is too short isn't). Conditions: layer 4's table of places lies as it was laid.
-/
import Derived.Test.YtdojalhaklkegaaDoorPn14
import Derived.Test.YtdojalhaklkegaaDoorPn15
import Derived.Deep.QuietTactic
import Derived.BigQuiet
import Derived.Laws.BytesArg
import Derived.Lib.SlBytesConst

set_option maxRecDepth 100000
namespace Go.Proofs.YtdojalhaklkegaaDoor
open Go.RowKit
set_option linter.unusedVariables false

set_option maxHeartbeats 1000000 in
theorem aseal_any (kv nv bv tv : Value) (key nonce beside text : List UInt8) (w : World) (hL : LaidP w) (hk : IsB w kv key) (hn : IsB w nv nonce) (hb : IsB w bv beside) (ht : IsB w tv text) (hkl : key.length = 32) (hnl : nonce.length = 12)
    (zb : ∀ n c, bv = .slice none n c → c = 0) (hlen : beside.length + text.length ≤ 70368744177600) :
    Calls Tryd.prog 10 #[kv, nv, bv, tv] w fun e w' => ∃ r, e = .returned (.tuple #[r, .int .i64 0]) ∧ Own w' w.heap.size r (M.box key nonce beside text) ∧ Below w.heap.size w w' := by
  obtain ⟨H, hH⟩ : ∃ H, Hid (H = M.hide key nonce text) := ⟨_, rfl⟩
  have HHL : Hid (H.length = text.length) := by rw [hH.out]; exact M.hide_length _ _ _
  obtain ⟨T, hT⟩ : ∃ T, Hid (T = M.boxTag key nonce beside H) := ⟨_, rfl⟩
  have HTL : Hid (T.length = 16) := by rw [hT.out]; exact M.boxTag_length _ _ _ _
  obtain ⟨X, hX⟩ : ∃ X, Hid (X = M.box key nonce beside text) := ⟨_, rfl⟩
  have HX : Hid (H ++ T = X) := by rw [hX.out, hT.out, hH.out]; rfl
  have C1 := Lib.hid (xor_any kv nv tv key nonce text 1 w hL hk hn ht hkl hnl (by omega))
  rw [show M.xo (M.strm key nonce 1) text text.length = M.hide key nonce text from rfl, ← hH.out] at C1
  have C2 := Lib.hid (fun w' hv (k : Below w.heap.size w w') (hh : IsB w' hv H) zh => tagOf_any kv nv bv hv key nonce beside H w' (hL.below k hL.size) (hk.below k) (hn.below k) (hb.below k) hh hkl hnl zb zh (by rw [HHL.out]; exact hlen))
  rw [← hT.out] at C2
  rw [← hX.out]
  have HS : Hid (H.length + T.length ≤ 140737488355328) := by rw [Hid, HHL.out, HTL.out]; omega
  clear hL hk hn hb ht hkl hnl zb hlen hH hT hX
  go_enter Tryd.func10, Tryd.ntmps10
  go_wp2_with fail
  refine C1.out.mono ?_
  rintro e w1 ⟨r1, rfl, o1, k1⟩
  have O1 := Lib.hid o1
  have K1 := Lib.hid k1
  clear o1 k1
  go_wp2_with fail
  refine (C2.out w1 _ K1.out O1.out.isB O1.out.nil0).mono ?_
  rintro e w2 ⟨r2, rfl, o2, k2⟩
  have O2 := Lib.hid o2
  have O12 : Hid (Own w2 w.heap.size r1 H) := O1.out.below k2
  have K2 : Hid (Below w.heap.size w w2) := K1.out.trans (k2.mono K1.out.size)
  clear o2 k2
  go_wp2_with (at_builtin; go_must (refine wpList_app _ rfl _ _ rfl w.heap.size _ H rfl O12.out _ T rfl O2.out.isB O2.out.nil0 HS.out K2.out.size ?_))
  intro r3 w3 o3 k3 _
  rw [HX.out] at o3
  have O3 := Lib.hid o3
  have K3 : Hid (Below w.heap.size w w3) := K2.out.trans k3
  clear o3 k3
  go_wp2
  go_ret2
  exact ⟨_, rfl, O3.out, K3.out⟩

/-- 'b[m:]'. -/
theorem IsB.from_ {w : World} {ao : Option Addr} {n cap : Nat} {bs : List UInt8} (h : IsB w (.slice ao n cap) bs) (m : Nat) (hm : m ≤ n) : ∃ a, (∀ W : World, (Instr.slice 24 (.slice ao n cap) (some (.int .i64 (m : Int))) none none).run Tryd.prog W = .ok (.slice a (n - m) (cap - m)) W) ∧ IsB w (.slice a (n - m) (cap - m)) (bs.drop m) := by
  have hel : Tryd.prog.elem 24 = 5 := by simp [Program.elem, Tryd.underlying24]
  refine ⟨if cap = m then ao else ao.map (·.add m), fun W => ?_, ?_⟩
  · rw [run_slice_l W 24 ao n cap (by rw [hel]; exact Tryd.underlying24) .i64 (m : Int) (by omega) (by omega), hel, Tryd.sizeOf5]
    simp only [Result.andThen_ok, sliced, Int.toNat_natCast, Nat.mul_one]
  · obtain ⟨ao', cap', e, h1, h2, h3⟩ := h
    injection e with e1 e2 e3
    subst e1 e2 e3
    have hl : (bs.drop m).length = bs.length - m := by rw [List.length_drop]
    refine ⟨_, cap - m, by rw [hl], by rw [hl]; omega, by omega, ?_⟩
    by_cases hc : cap = m
    · exact .inl (List.eq_nil_of_length_eq_zero (by rw [hl]; omega))
    · rw [if_neg hc]
      rcases h3 with h | ⟨b, off, rfl, h⟩
      · exact .inl (by rw [h]; simp)
      · refine .inr ⟨b, off + m, by rw [Option.map_some, Addr.add_lit], fun i hi => ?_⟩
        rw [hl] at hi
        rw [Nat.add_assoc, h (m + i) (by omega)]
        simp [List.getD_eq_getElem?_getD]

set_option maxHeartbeats 2000000 in
theorem open_any (kv nv bv tv : Value) (key nonce beside box : List UInt8) (w : World) (hL : LaidP w) (hk : IsB w kv key) (hn : IsB w nv nonce) (hb : IsB w bv beside) (ht : IsB w tv box) (hkl : key.length = 32) (hnl : nonce.length = 12)
    (zb : ∀ n c, bv = .slice none n c → c = 0) (zt : ∀ n c, tv = .slice none n c → c = 0) (hlen : beside.length + box.length ≤ 70368744177600) (q : Nat) (hq : q + 16 = box.length) :
    Calls Tryd.prog 11 #[kv, nv, bv, tv] w fun e w' => (M.boxTag key nonce beside (box.take q) = box.drop q → ∃ r, e = .returned (.tuple #[r, .int .i64 0]) ∧ Own w' w.heap.size r (M.hide key nonce (box.take q))) ∧
      (¬ M.boxTag key nonce beside (box.take q) = box.drop q → e = .returned (.tuple #[.slice none 0 0, .int .i64 7])) ∧ Below w.heap.size w w' := by
  obtain ⟨a4, c4, rfl⟩ := ht.shape
  have hc4 : box.length ≤ c4 := by obtain ⟨_, _, e, h1, _⟩ := ht; injection e with _ _ e; omega
  have hqn : q ≤ box.length := by omega
  obtain ⟨a5, hsl, ht5⟩ := ht.from_ q hqn
  have hn16 : box.length - q = 16 := by omega
  rw [hn16] at hsl ht5
  obtain ⟨c5, hc5⟩ : ∃ c, c = c4 - q := ⟨_, rfl⟩
  rw [← hc5] at hsl ht5
  have ht6 := ht.take q hqn
  have z6 : ∀ n c, Value.slice a4 q c4 = .slice none n c → c = 0 := fun n c e => by injection e with e1 e2 e3; subst e1; exact e3 ▸ zt _ _ rfl
  obtain ⟨H, hH⟩ : ∃ H, Hid (H = box.take q) := ⟨_, rfl⟩
  have HHL : Hid (H.length = q) := by rw [Hid, hH.out, List.length_take]; omega
  obtain ⟨T, hT⟩ : ∃ T, Hid (T = box.drop q) := ⟨_, rfl⟩
  obtain ⟨R, hR⟩ : ∃ R, Hid (R = M.boxTag key nonce beside H) := ⟨_, rfl⟩
  obtain ⟨X, hX⟩ : ∃ X, Hid (X = M.hide key nonce H) := ⟨_, rfl⟩
  rw [← hH.out] at ht6 ⊢
  rw [← hT.out] at ht5 ⊢
  rw [← hR.out, ← hX.out]
  have C1 := Lib.hid (fun w' (k : Below w.heap.size w w') => tagOf_any kv nv bv (.slice a4 q c4) key nonce beside H w' (hL.below k hL.size) (hk.below k) (hn.below k) (hb.below k) (ht6.below k) hkl hnl zb z6 (by rw [HHL.out]; omega))
  have C2 := Lib.hid (fun w' (k : Below w.heap.size w w') => xor_any kv nv (.slice a4 q c4) key nonce H 1 w' (hL.below k hL.size) (hk.below k) (hn.below k) (ht6.below k) hkl hnl (by rw [HHL.out]; omega))
  rw [← hR.out] at C1
  simp only [show M.xo (M.strm key nonce 1) H H.length = M.hide key nonce H from rfl] at C2
  rw [← hX.out] at C2
  have HT5 := Lib.hid ht5
  obtain ⟨n, hn4⟩ : ∃ n, n = box.length := ⟨_, rfl⟩
  rw [← hn4] at hlen hc4 hqn hq hsl ⊢
  have s1 : (n : Int) - 16 = (q : Int) := by omega
  have hqc : (q : Int) ≤ (c4 : Int) := by omega
  have hqn' : (q : Int) ≤ (n : Int) := by omega
  clear hc5 hq hn16 hn4 hL hk hn hb ht hkl hnl zb zt ht5 ht6 z6 hH hT hR hX
  go_enter Tryd.func11, Tryd.ntmps11
  go_wp2
  go_quiet (fail)
  obtain ⟨w1, hw1⟩ : ∃ W, Hid (W = w.drewN nq) := ⟨_, rfl⟩
  have K1 : Hid (Below w.heap.size w w1) := by rw [hw1.out]; exact below_draws w nq
  have T1 : Hid (IsB w1 (.slice a5 16 c5) T) := HT5.out.below K1.out
  rw [← hw1.out]
  clear hw1 HT5 hsl
  go_wp2_with fail
  refine (C1.out w1 K1.out).mono ?_
  rintro e w2 ⟨r2, rfl, o2, k2⟩
  have O2 := Lib.hid o2
  have T2 : Hid (IsB w2 (.slice a5 16 c5) T) := T1.out.below k2
  have K2 : Hid (Below w.heap.size w w2) := K1.out.trans (k2.mono K1.out.size)
  clear o2 k2 T1 C1 K1
  by_cases hyes : R = T
  · have HY := Lib.hid hyes
    have C3 := Lib.hid (wequal_yes (.slice a5 16 c5) r2 T w2 T2.out (hyes ▸ O2.out.isB))
    clear hyes
    go_wp2_with fail
    refine C3.out.mono ?_
    rintro e w3 ⟨rfl, k3⟩
    have K3 : Hid (Below w.heap.size w w3) := K2.out.trans (k3.mono K2.out.size)
    clear k3 C3 O2 T2 K2
    go_wp2_with fail
    refine (C2.out w3 K3.out).mono ?_
    rintro e w4 ⟨r4, rfl, o4, k4⟩
    have K4 : Hid (Below w.heap.size w w4) := K3.out.trans (k4.mono K3.out.size)
    have O4 : Hid (Own w4 w.heap.size r4 X) := o4.mono K3.out.size
    clear o4 k4 C2 K3
    go_wp2
    go_ret2
    exact ⟨fun _ => ⟨_, rfl, O4.out⟩, fun h => absurd HY.out h, K4.out⟩
  · have HY := Lib.hid hyes
    have C3 := Lib.hid (wequal_no (.slice a5 16 c5) r2 T R w2 T2.out O2.out.isB (fun e => hyes e.symm))
    clear hyes
    go_wp2_with fail
    refine C3.out.mono ?_
    rintro e w3 ⟨rfl, k3⟩
    have K3 : Hid (Below w.heap.size w w3) := K2.out.trans (k3.mono K2.out.size)
    clear k3 C3 O2 T2 K2
    go_wp2
    go_ret2
    exact ⟨fun h => absurd h HY.out, fun _ => rfl, K3.out⟩

/-- Fewer bytes than a tag's. -/
theorem open_short (kv nv bv tv : Value) (key nonce beside box : List UInt8) (w : World) (hL : LaidP w) (hk : IsB w kv key) (hn : IsB w nv nonce) (hb : IsB w bv beside) (ht : IsB w tv box) (hkl : key.length = 32) (hnl : nonce.length = 12)
    (zb : ∀ n c, bv = .slice none n c → c = 0) (zt : ∀ n c, tv = .slice none n c → c = 0) (hlen : beside.length ≤ 70368744177600) (hq : box.length < 16) :
    Calls Tryd.prog 11 #[kv, nv, bv, tv] w fun e w' => e = .returned (.tuple #[.slice none 0 0, .int .i64 8]) ∧ Below w.heap.size w w' := by
  obtain ⟨a4, c4, rfl⟩ := ht.shape
  have ht6 := ht.take 0 (Nat.zero_le _)
  have z6 : ∀ n c, Value.slice a4 0 c4 = .slice none n c → c = 0 := fun n c e => by injection e with e1 e2 e3; subst e1; exact e3 ▸ zt _ _ rfl
  have C1 := Lib.hid (fun w' (k : Below w.heap.size w w') => tagOf_any kv nv bv (.slice a4 0 c4) key nonce beside (box.take 0) w' (hL.below k hL.size) (hk.below k) (hn.below k) (hb.below k) (ht6.below k) hkl hnl zb z6 (by simpa using hlen))
  obtain ⟨n, hn4⟩ : ∃ n, n = box.length := ⟨_, rfl⟩
  rw [← hn4] at hq ⊢
  have s1 : (n : Int) - 16 < 0 := by omega
  have s2 : (n : Int) < 16 := by omega
  obtain ⟨R, hR⟩ : ∃ R, Hid (R = M.boxTag key nonce beside (box.take 0)) := ⟨_, rfl⟩
  rw [← hR.out] at C1
  clear hn4 hL hk hn hb ht hkl hnl zb zt ht6 z6 hR hlen
  go_enter Tryd.func11, Tryd.ntmps11
  go_wp2
  go_quiet (fail)
  have K1 : Hid (Below w.heap.size w (w.drewN nq)) := below_draws w nq
  go_wp2_with fail
  refine (C1.out _ K1.out).mono ?_
  rintro e w2 ⟨r2, rfl, o2, k2⟩
  have K2 : Hid (Below w.heap.size w w2) := K1.out.trans (k2.mono K1.out.size)
  clear k2 o2
  go_wp2
  go_ret2
  exact ⟨rfl, K2.out⟩

end Go.Proofs.YtdojalhaklkegaaDoor

set_option maxRecDepth 100000
namespace Go.Proofs.YtdojalhaklkegaaDoor
open Go.RowKit
set_option linter.unusedVariables false

theorem isB_one6 (w : World) (t : TypeId) (fr : Nat × Nat) : IsB (w.alloc (.cells #[.int .u8 120] t fr)) (.slice (some ⟨w.heap.size, 0, none⟩) 1 1) [120] := by
  refine ⟨_, 1, rfl, Nat.le_refl _, by unfold maxLen; omega, .inr ⟨w.heap.size, 0, rfl, fun i hi => ?_⟩⟩
  rw [World.cell?_alloc_mark]
  match i, hi with
  | 0, _ => rfl

/-- A text that was sealed, opened. -/
theorem open_box (kv nv bv tv : Value) (key nonce beside text : List UInt8) (w : World) (hL : LaidP w) (hk : IsB w kv key) (hn : IsB w nv nonce) (hb : IsB w bv beside) (ht : IsB w tv (M.box key nonce beside text)) (hkl : key.length = 32) (hnl : nonce.length = 12)
    (zb : ∀ n c, bv = .slice none n c → c = 0) (zt : ∀ n c, tv = .slice none n c → c = 0) (hlen : beside.length + text.length + 16 ≤ 70368744177600) :
    Calls Tryd.prog 11 #[kv, nv, bv, tv] w fun e w' => ∃ r, e = .returned (.tuple #[r, .int .i64 0]) ∧ Own w' w.heap.size r text ∧ Below w.heap.size w w' := by
  refine (open_any kv nv bv tv key nonce beside _ w hL hk hn hb ht hkl hnl zb zt (by rw [M.box_length]; omega) text.length (by rw [M.box_length])).mono ?_
  rintro e w' ⟨h, _, k⟩
  obtain ⟨r, rfl, o⟩ := h (by rw [M.box_take, M.box_drop])
  rw [M.box_opens] at o
  exact ⟨r, rfl, o, k⟩

end Go.Proofs.YtdojalhaklkegaaDoor

namespace Go.Proofs.YtdojalhaklkegaaDoor
open Go.RowKit
set_option linter.unusedVariables false
set_option maxRecDepth 100000

set_option maxHeartbeats 1000000 in
theorem sealing_any (w : World) (hL : LaidP w) :
    Calls Tryd.prog 9 #[] w fun e w' => e = .returned (.bool true) ∧ Below w.heap.size w w' := by
  obtain ⟨Z, hZ⟩ : ∃ Z, Hid (Z = List.replicate 32 (0 : UInt8)) := ⟨_, rfl⟩
  obtain ⟨Y, hY⟩ : ∃ Y, Hid (Y = List.replicate 12 (0 : UInt8)) := ⟨_, rfl⟩
  have HZL : Hid (Z.length = 32) := by rw [hZ.out]; exact List.length_replicate
  have HYL : Hid (Y.length = 12) := by rw [hY.out]; exact List.length_replicate
  obtain ⟨X, hX⟩ : ∃ X, Hid (X = M.box Z Y [] [120]) := ⟨_, rfl⟩
  have HXL : Hid (X.length = 17) := by rw [hX.out]; exact M.box_length _ _ _ _
  have HL := Lib.hid hL
  have C1 := Lib.hid (fun w' kv nv tv (k : Below w.heap.size w w') (h1 : IsB w' kv Z) (h2 : IsB w' nv Y) (h3 : IsB w' tv [120]) => aseal_any kv nv (.slice none 0 0) tv Z Y [] [120] w' (hL.below k hL.size) h1 h2 (IsB.nil w') h3 HZL.out HYL.out (fun n c e => by cases e; rfl) (by decide))
  have C2 := Lib.hid (fun w' kv nv tv (k : Below w.heap.size w w') (h1 : IsB w' kv Z) (h2 : IsB w' nv Y) (h3 : IsB w' tv (M.box Z Y [] [120])) z => open_box kv nv (.slice none 0 0) tv Z Y [] [120] w' (hL.below k hL.size) h1 h2 (IsB.nil w') h3 HZL.out HYL.out (fun n c e => by cases e; rfl) z (by decide))
  have C3 := Lib.hid (fun w' kv nv (k : Below w.heap.size w w') (h1 : IsB w' kv Z) (h2 : IsB w' nv Y) => open_short kv nv (.slice none 0 0) (.slice none 0 0) Z Y [] [] w' (hL.below k hL.size) h1 h2 (IsB.nil w') (IsB.nil w') HZL.out HYL.out (fun n c e => by cases e; rfl) (fun n c e => by cases e; rfl) (by decide) (by decide))
  rw [← hX.out] at C1 C2
  have kc := fun (w : World) (C : Array Value) (n c : Nat) => Lib.run_convert_bytes_const (P := Tryd.prog) w 24 5 C n c Tryd.underlying24 Tryd.underlying5
  clear hX hL
  go_enter Tryd.func9, Tryd.ntmps9
  go_wp2_with (refine wpList_make_cap _ rfl _ _ rfl .i64 .i64 _ _ 32 32 rfl rfl rfl rfl (by omega) (by omega) ?_; intro w1 o1 k1)
  have Z1 : Hid (IsB w1 (.slice (some ⟨w.heap.size, 0, none⟩) 32 32) Z) := by rw [hZ.out]; exact o1.isB
  have Y1 : Hid (IsB w1 (.slice (some ⟨w.heap.size, 0, none⟩) 12 32) Y) := by
    have := o1.isB.take 12 (by decide)
    rw [hY.out]
    exact this
  have K1 := Lib.hid k1
  clear o1 k1 hZ hY
  obtain ⟨g, hg⟩ : ∃ g, g = w.heap.size := ⟨_, rfl⟩
  rw [← hg] at Z1 Y1 ⊢
  clear hg
  go_wp2_with fail
  have KA : Hid (Below w1.heap.size w1 (w1.alloc (.cells #[.int .u8 120] 5 (1, 2)))) := (Below.refl _ _).alloc (Nat.le_refl _) _
  refine (C1.out _ _ _ _ (K1.out.trans (KA.out.mono K1.out.size)) (Z1.out.below KA.out) (Y1.out.below KA.out) (isB_one6 w1 5 _)).mono ?_
  rintro e w2 ⟨r2, rfl, o2, k2⟩
  have K12 : Hid (Below w1.heap.size w1 w2) := KA.out.trans (k2.mono KA.out.size)
  have K2 : Hid (Below w.heap.size w w2) := K1.out.trans (K12.out.mono K1.out.size)
  have Z2 : Hid (IsB w2 (.slice (some ⟨g, 0, none⟩) 32 32) Z) := Z1.out.below K12.out
  have Y2 : Hid (IsB w2 (.slice (some ⟨g, 0, none⟩) 12 32) Y) := Y1.out.below K12.out
  obtain ⟨g2, c2, rfl, _⟩ := o2.shape (by rw [HXL.out]; decide)
  rw [HXL.out] at o2 ⊢
  have O2 := Lib.hid o2
  clear o2 k2 KA K12 Z1 Y1 K1 C1 kc
  go_wp2_with fail
  refine (C2.out w2 _ _ _ K2.out Z2.out Y2.out O2.out.isB O2.out.nil0).mono ?_
  rintro e w3 ⟨r3, rfl, o3, k3⟩
  have K3 : Hid (Below w.heap.size w w3) := K2.out.trans (k3.mono K2.out.size)
  have Z3 : Hid (IsB w3 (.slice (some ⟨g, 0, none⟩) 32 32) Z) := Z2.out.below k3
  have Y3 : Hid (IsB w3 (.slice (some ⟨g, 0, none⟩) 12 32) Y) := Y2.out.below k3
  obtain ⟨g3, c3, rfl, _⟩ := o3.shape (by decide)
  have O3 : Hid (Own w3 w2.heap.size (.slice (some ⟨g3, 0, none⟩) 1 c3) [120]) := o3
  clear o3 k3 K2 Z2 Y2 O2 C2
  go_wp2_with fail
  refine (C3.out w3 _ _ K3.out Z3.out Y3.out).mono ?_
  rintro e w4 ⟨rfl, k34⟩
  have K4 : Hid (Below w.heap.size w w4) := K3.out.trans (k34.mono K3.out.size)
  have O4 : Hid (Own w4 w2.heap.size (.slice (some ⟨g3, 0, none⟩) 1 c3) [120]) := O3.out.below k34
  have hcv := run_convert_bytes_arg (P := Tryd.prog) w4 24 5 Tryd.underlying24 Tryd.underlying5 g3 0 1 c3 [120] rfl (fun i hi => by
    rw [Nat.zero_add, O4.out.row.cellAt i (by simpa using hi), byteCells_getElem? _ _ (by simpa using hi)]
    match i, hi with
    | 0, _ => rfl) 9 Tryd.underlying9
  rw [show strOfNums [120] = ⟨#[120]⟩ from rfl] at hcv
  clear k34 K3 Z3 Y3 O3 C3
  go_wp2
  go_ret
  exact ⟨rfl, K4.out⟩

end Go.Proofs.YtdojalhaklkegaaDoor
