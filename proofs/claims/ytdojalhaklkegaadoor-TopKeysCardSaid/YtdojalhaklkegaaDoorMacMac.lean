/-
  CONTRACTS OF mac.Mac, mac.Extract, mac.Expand AND mac.Derive. Conditions: the program's two tables of layer 2 lie as they were laid.
-/
import Derived.Test.YtdojalhaklkegaaDoorMacUnder
import Derived.Test.YtdojalhaklkegaaDoorApart
set_option maxRecDepth 100000
namespace Go.Proofs.YtdojalhaklkegaaDoor
open Go.RowKit
set_option linter.unusedVariables false

theorem mac_any (kv mv : Value) (key m : List UInt8) (w : World) (hL : Laid w) (hk : IsB w kv key) (hm : IsB w mv m) (hlen : key.length ≤ 281474976710656) (hlen2 : m.length ≤ 281474976710656) :
    Calls Tryd.prog 72 #[kv, mv] w (Makes w (M.mac key m)) := by
  obtain ⟨ao, cap, rfl⟩ := hm.shape
  have HM : Hid (IsB w (.slice ao m.length cap) m) := hm
  have HL : Hid (Laid w) := hL
  have HC := Lib.hid (under_any kv key w hL hk (by omega))
  clear hL hk hm
  go_enter Tryd.func72, Tryd.ntmps72
  go_wp2_with fail
  refine HC.out.mono ?_
  rintro e w1 ⟨r, rfl, hc, k1⟩
  have hcc := hc
  obtain ⟨g3, g4, rfl, -⟩ := hcc
  have HCO : Hid (Coder w1 (.func (.func 104) #[] #[.pointer (some ⟨g4, 0, none⟩)]) (M.block key)) := hc
  clear hc
  go_wp2_with fail
  have k2 : Below w.heap.size w (w1.alloc (.cells #[.slice ao m.length cap] 24)) := k1.alloc k1.size _
  refine (coder_any _ (M.block key) _ [m] _ (HL.out.below k2 HL.out.size) (HCO.out.below ((Below.refl _ _).alloc (Nat.le_refl _) _)) (parts_one (HM.out.below k1)) (by simpa using hlen2)).mono ?_
  rintro e w3 ⟨r3, rfl, o3, k3⟩
  go_wp2
  go_ret
  refine ⟨_, rfl, ?_, k2.trans (k3.mono k2.size)⟩
  have := o3.mono k2.size
  simpa [M.mac] using this

theorem extract_any (kv mv : Value) (key m : List UInt8) (w : World) (hL : Laid w) (hk : IsB w kv key) (hm : IsB w mv m) (hlen : key.length ≤ 281474976710656) (hlen2 : m.length ≤ 281474976710656) :
    Calls Tryd.prog 49 #[kv, mv] w (Makes w (M.mac key m)) := by
  have HC := Lib.hid (mac_any kv mv key m w hL hk hm hlen hlen2)
  clear hL hk hm
  go_enter Tryd.func49, Tryd.ntmps49
  go_wp2_with fail
  refine HC.out.mono ?_
  rintro e w1 ⟨r, rfl, o, k1⟩
  go_wp2
  go_ret
  exact ⟨r, rfl, o, k1⟩

theorem parts_three {w' : World} {t : TypeId} {fr : Nat × Nat} {x y z : Value} {a b c : List UInt8} (hx : IsB w' x a) (hy : IsB w' y b) (hz : IsB w' z c) : Parts (w'.alloc (.cells #[x, y, z] t fr)) (.slice (some ⟨w'.heap.size, 0, none⟩) 3 3) [a, b, c] := by
  refine ⟨_, 3, rfl, by simp [maxLen], .inr ⟨w'.heap.size, 0, rfl, fun i hi => ?_⟩⟩
  match i, hi with
  | 0, _ => exact ⟨x, by rw [World.cell?_alloc_mark]; rfl, hx.below ((Below.refl _ _).alloc (Nat.le_refl _) _)⟩
  | 1, _ => exact ⟨y, by rw [World.cell?_alloc_mark]; rfl, hy.below ((Below.refl _ _).alloc (Nat.le_refl _) _)⟩
  | 2, _ => exact ⟨z, by rw [World.cell?_alloc_mark]; rfl, hz.below ((Below.refl _ _).alloc (Nat.le_refl _) _)⟩

/-- The lengths that are refused. -/
theorem expand_no (kv iv : Value) (n : Int) (w : World) (hn : n < 0 ∨ 8160 < n) :
    Calls Tryd.prog 48 #[kv, iv, .int .i64 n] w fun e w' => e = .returned (.tuple #[.slice none 0 0, .int .i64 1]) ∧ w' = w := by
  rcases hn with hn | hn
  · go_enter Tryd.func48, Tryd.ntmps48
    go_wp2
    go_ret2
    exact ⟨rfl, rfl⟩
  · have hn0 : ¬ n < 0 := by omega
    go_enter Tryd.func48, Tryd.ntmps48
    go_wp2
    go_ret2
    exact ⟨rfl, rfl⟩

set_option maxHeartbeats 1000000 in
theorem expand_any (kv iv : Value) (key info : List UInt8) (n : Nat) (w : World) (hL : Laid w) (hk : IsB w kv key) (hi : IsB w iv info) (hlen : key.length ≤ 281474976710656) (hlen2 : info.length ≤ 140737488355328) (hn : n ≤ 8160) :
    Calls Tryd.prog 48 #[kv, iv, .int .i64 (n : Int)] w fun e w' => ∃ r, e = .returned (.tuple #[r, .int .i64 0]) ∧ Own w' w.heap.size r (M.expd (M.block key) info n) ∧ Below w.heap.size w w' := by
  obtain ⟨ao, cap, rfl⟩ := hi.shape
  have HI : Hid (IsB w (.slice ao info.length cap) info) := hi
  have HL : Hid (Laid w) := hL
  have HC := Lib.hid (under_any kv key w hL hk (by omega))
  obtain ⟨b, hb⟩ : ∃ b, b = M.block key := ⟨_, rfl⟩
  rw [← hb] at HC ⊢
  have hn0 : ¬ (n : Int) < 0 := by omega
  have hn1 : ¬ (8160 : Int) < (n : Int) := by omega
  clear hL hk hi hb
  go_enter Tryd.func48, Tryd.ntmps48
  go_wp2_with fail
  refine HC.out.mono ?_
  rintro e w1 ⟨r, rfl, hc, k1⟩
  have hcc := hc
  obtain ⟨g3, g4, rfl, -⟩ := hcc
  have HCO : Hid (Coder w1 (.func (.func 104) #[] #[.pointer (some ⟨g4, 0, none⟩)]) b) := hc
  clear hc
  go_wp2_with (refine wpList_make_cap _ rfl _ _ rfl .i64 .i64 _ _ 0 n rfl rfl rfl rfl (by omega) (by omega) ?_; intro w4 o4 k4)
  have k14 : Below w1.heap.size w1 w4 := k4
  have O4 : Hid (Own w4 w1.heap.size (.slice (some ⟨w1.heap.size, 0, none⟩) 0 n) ((M.stream b info 0).take n)) := by
    simpa [Hid, M.stream] using o4
  clear o4 k4
  go_loopw [9, 10, 11] (fun x l i wr => ∃ k : Nat, 32 * k < n + 32 ∧ i = .int .i64 ((k + 1 : Nat) : Int) ∧ Hid (Own wr w1.heap.size x ((M.stream b info k).take n)) ∧ Hid (IsB wr l (M.piece b info k)) ∧ Below w1.heap.size w1 wr)
    (fun x _ _ _ => n - lenOf x)
  case atStart => exact ⟨0, by omega, rfl, O4, IsB.nil w4, k14⟩
  case round =>
    clear O4 k14
    rename_i wr
    obtain ⟨k, hk, rfl, oo, pp, kk⟩ := hrel
    obtain ⟨ao1, c1, rfl⟩ := oo.out.shape'
    obtain ⟨ao2, c2, rfl⟩ := pp.out.shape
    obtain ⟨S, hS⟩ : ∃ S, S = (M.stream b info k).take n := ⟨_, rfl⟩
    obtain ⟨L, hLL⟩ : ∃ L, L = S.length := ⟨_, rfl⟩
    have hL2 : L = min n (32 * k) := by rw [hLL, hS, List.length_take, M.stream_length]
    obtain ⟨P, hP⟩ : ∃ P, P = M.piece b info k := ⟨_, rfl⟩
    obtain ⟨N2, hN2⟩ : ∃ N2, N2 = P.length := ⟨_, rfl⟩
    have hPl : P.length ≤ 32 := by rw [hP]; exact M.piece_le b info k
    rw [← hS] at oo ⊢
    rw [← hP] at pp ⊢
    rw [← hLL] at oo ⊢
    rw [← hN2] at pp ⊢
    have HS : Hid (S = (M.stream b info k).take n) := hS
    have HP : Hid (P = M.piece b info k) := hP
    have HLS : Hid (L = S.length) := hLL
    have HPL : Hid (P.length ≤ 32) := hPl
    have kw : Below w.heap.size w wr := k1.trans (kk.mono k1.size)
    clear hS hLL hP hPl hN2
    by_cases hlt : 32 * k < n
    · have HL3 : Hid (L = 32 * k) := by rw [Hid]; omega
      have hLn : L < n := by omega
      have hLn' : (L : Int) < (n : Int) := by omega
      have hk255 : k < 255 := by omega
      have HLT : Hid (32 * k < n) := hlt
      clear hL2 hlt hk
      go_wp2_with fail
      have b1 : Below wr.heap.size wr (wr.alloc (.cells #[.int .u8 ((k : Int) + 1)] 5)) := (Below.refl _ _).alloc (Nat.le_refl _) _
      have b2 : Below wr.heap.size wr ((wr.alloc (.cells #[.int .u8 ((k : Int) + 1)] 5)).alloc (.cells #[.slice ao2 N2 c2, .slice ao info.length cap, .slice (some ⟨wr.heap.size, 0, none⟩) 1 1] 24)) := b1.alloc b1.size _
      have b2' : Below w.heap.size w ((wr.alloc (.cells #[.int .u8 ((k : Int) + 1)] 5)).alloc (.cells #[.slice ao2 N2 c2, .slice ao info.length cap, .slice (some ⟨wr.heap.size, 0, none⟩) 1 1] 24)) := kw.trans (b2.mono kw.size)
      have PP : Parts ((wr.alloc (.cells #[.int .u8 ((k : Int) + 1)] 5)).alloc (.cells #[.slice ao2 N2 c2, .slice ao info.length cap, .slice (some ⟨wr.heap.size, 0, none⟩) 1 1] 24)) (.slice (some ⟨wr.heap.size + 1, 0, none⟩) 3 3) [P, info, [UInt8.ofNat (k + 1)]] := by
        have := parts_three (t := 24) (fr := (0, 0)) (pp.out.below b1) ((HI.out.below kw).below b1) (isB_one wr 5 (UInt8.ofNat (k + 1)) ((k : Int) + 1) (by simp; omega))
        rwa [show (wr.alloc (.cells #[.int .u8 ((k : Int) + 1)] 5)).heap.size = wr.heap.size + 1 by simp] at this
      refine (coder_any _ b _ [P, info, [UInt8.ofNat (k + 1)]] _ (HL.out.below b2' HL.out.size) ((HCO.out.below kk).below b2) PP (by have := HPL.out; simp; omega)).mono ?_
      rintro e w5 ⟨r5, rfl, o5, k5⟩
      obtain ⟨Q, hQ⟩ : ∃ Q, Q = M.piece b info (k + 1) := ⟨_, rfl⟩
      have hQl : Q.length = 32 := by rw [hQ]; exact M.piece_length b info k
      have o5' : Own w5 w.heap.size r5 Q := by
        have := o5.mono b2'.size
        rw [hQ, M.piece, ← HP.out]
        simpa using this
      obtain ⟨g5, c5, rfl, hg5⟩ := o5.shape (by rw [M.hm_length]; omega)
      have hg5' : wr.heap.size ≤ g5 := Nat.le_trans b2.size hg5
      rw [M.hm_length] at o5' ⊢
      have O5 : Hid (Own w5 w.heap.size (.slice (some ⟨g5, 0, none⟩) 32 c5) Q) := o5'
      have k5r : Below wr.heap.size wr w5 := b2.trans (k5.mono b2.size)
      have hne5 : (Value.slice ao1 L c1).ownBlock ≠ some g5 := fun e => by have := (oo.out.block_lt g5 e).2; omega
      have HNE := Lib.hid hne5
      have OS : Hid (Own w5 w1.heap.size (.slice ao1 L c1) S) := oo.out.below k5r
      have k5w : Below w.heap.size w w5 := kw.trans (k5r.mono kw.size)
      have k51 : Below w1.heap.size w1 w5 := kk.trans (k5r.mono kk.size)
      have HQ : Hid (Q = M.piece b info (k + 1)) := hQ
      have hc5 : 32 ≤ c5 := by
        obtain ⟨_, _, e, h1, _⟩ := o5'.isB
        injection e with _ _ e
        omega
      have HQL : Hid (Q.length = 32) := hQl
      clear o5 o5' hQ hQl k5 b1 b2 b2' oo pp k5r hg5 hg5' hne5
      obtain ⟨q, hq⟩ : ∃ q : Nat, (n : Int) - (L : Int) = (q : Int) := ⟨n - L, by omega⟩
      have hq0 : q = n - L := by omega
      obtain ⟨m, hm⟩ : ∃ m, m = min 32 q := ⟨_, rfl⟩
      have hm32 : m ≤ 32 := by omega
      have IQ : Hid (IsB w5 (.slice (some ⟨g5, 0, none⟩) m c5) (Q.take m)) := O5.out.isB.take m hm32
      have HNEXT : Hid (S ++ Q.take m = (M.stream b info (k + 1)).take n) := by
        rw [Hid, HS.out, HQ.out, hm, hq0, HL3.out]
        exact M.expd_next b info n k HLT.out
      have HM0 : Hid ((Q.take m).length = m) := by rw [Hid, List.length_take, HQL.out]; omega
      obtain ⟨Y, hY⟩ : ∃ Y, Y = Q.take m := ⟨_, rfl⟩
      rw [← hY] at IQ HNEXT HM0
      have HM : Hid (m = min 32 q) := hm
      have HQ0 : Hid (q = n - L) := hq0
      have hb0 : w1.heap.size ≤ w5.heap.size := k51.size
      have HSUM : Hid (S.length + Y.length ≤ 140737488355328) := by
        have e1 := HLS.out
        have e2 := HM0.out
        rw [Hid]
        omega
      have hq1 : (1 : Int) ≤ (q : Int) := by omega
      clear hm hq0 hY
      by_cases hle : 32 ≤ q
      · obtain rfl : m = 32 := by have := HM.out; omega
        have hle' : (32 : Int) ≤ (q : Int) := by omega
        go_wp2_with (at_builtin; go_must (refine wpList_app2 _ rfl _ _ rfl w1.heap.size _ S rfl ?c1 _ Y rfl ?c2 (fun _ _ e => by cases e) HSUM.out hb0 ?_))
        case c1 => exact OS.out
        case c2 => exact IQ.out
        intro r6 w6 o6 g6
        rw [HNEXT.out] at o6
        have O6 : Hid (Own w6 w1.heap.size r6 ((M.stream b info (k + 1)).take n)) := o6
        have k6w : Below w1.heap.size w1 w6 := k51.trans ((Below.refl _ _).grown g6 hb0 fun k hk => (OS.out.block_lt k hk).1)
        have Q6 : Hid (IsB w6 (.slice (some ⟨g5, 0, none⟩) 32 c5) (M.piece b info (k + 1))) := by
          rw [Hid, ← HQ.out]
          exact (O5.out.far g6 HNE.out).isB
        have hlx : lenOf r6 = L + Y.length := by
          obtain ⟨a6, c6, rfl⟩ := o6.shape'
          have e1 := congrArg List.length HNEXT.out
          rw [List.length_append, ← HLS.out] at e1
          exact e1.symm
        have HX : Hid (lenOf r6 = L + Y.length) := hlx
        clear o6 g6 hlx
        go_wp2
        go_roundw
        case rel => exact ⟨k + 1, by have := HLT.out; omega, by go_num, O6, Q6, k6w⟩
        case measure =>
          have e1 := HX.out
          have e2 := HM0.out
          show _ - lenOf r6 < _ - lenOf (.slice ao1 L c1)
          rw [e1, e2]
          show n - (L + _) < n - L
          omega
      · obtain rfl : m = q := by have := HM.out; omega
        have hle' : (m : Int) < 32 := by omega
        go_wp2_with (at_builtin; go_must (refine wpList_app2 _ rfl _ _ rfl w1.heap.size _ S rfl ?d1 _ Y rfl ?d2 (fun _ _ e => by cases e) HSUM.out hb0 ?_))
        case d1 => exact OS.out
        case d2 => exact IQ.out
        intro r6 w6 o6 g6
        rw [HNEXT.out] at o6
        have O6 : Hid (Own w6 w1.heap.size r6 ((M.stream b info (k + 1)).take n)) := o6
        have k6w : Below w1.heap.size w1 w6 := k51.trans ((Below.refl _ _).grown g6 hb0 fun k hk => (OS.out.block_lt k hk).1)
        have Q6 : Hid (IsB w6 (.slice (some ⟨g5, 0, none⟩) 32 c5) (M.piece b info (k + 1))) := by
          rw [Hid, ← HQ.out]
          exact (O5.out.far g6 HNE.out).isB
        have hlx : lenOf r6 = L + Y.length := by
          obtain ⟨a6, c6, rfl⟩ := o6.shape'
          have e1 := congrArg List.length HNEXT.out
          rw [List.length_append, ← HLS.out] at e1
          exact e1.symm
        have HX : Hid (lenOf r6 = L + Y.length) := hlx
        clear o6 g6 hlx
        go_wp2
        go_roundw
        case rel => exact ⟨k + 1, by have := HLT.out; omega, by go_num, O6, Q6, k6w⟩
        case measure =>
          have e1 := HX.out
          have e2 := HM0.out
          show _ - lenOf r6 < _ - lenOf (.slice ao1 L c1)
          rw [e1, e2]
          show n - (L + _) < n - L
          omega
    · have hLn : L = n := by omega
      have hS2 : S = M.expd b info n := by rw [HS.out]; exact M.stream_expd b info n k (by omega)
      have hge : ¬ (L : Int) < (n : Int) := by omega
      clear hL2 hlt hk hLn
      go_wp2
      go_ret2
      refine ⟨_, rfl, ?_, kw⟩
      rw [← hS2]
      exact oo.out.mono k1.size

theorem derive_no (sv kv iv : Value) (sec salt : List UInt8) (n : Int) (w : World) (hL : Laid w) (hs : IsB w sv sec) (hk : IsB w kv salt) (hlen : sec.length ≤ 281474976710656) (hlen2 : salt.length ≤ 281474976710656) (hn : n < 0 ∨ 8160 < n) :
    Calls Tryd.prog 21 #[sv, kv, iv, .int .i64 n] w fun e w' => e = .returned (.tuple #[.slice none 0 0, .int .i64 1]) ∧ Below w.heap.size w w' := by
  have HC := Lib.hid (extract_any kv sv salt sec w hL hk hs hlen2 hlen)
  have HN := Lib.hid hn
  clear hL hs hk hn
  go_enter Tryd.func21, Tryd.ntmps21
  go_wp2_with fail
  refine HC.out.mono ?_
  rintro e w1 ⟨r, rfl, o, k1⟩
  go_wp2_with fail
  refine (expand_no r iv n w1 HN.out).mono ?_
  rintro e w2 ⟨rfl, rfl⟩
  go_wp2
  go_ret2
  exact ⟨rfl, k1⟩

theorem derive_any (sv kv iv : Value) (sec salt info : List UInt8) (n : Nat) (w : World) (hL : Laid w) (hs : IsB w sv sec) (hk : IsB w kv salt) (hi : IsB w iv info) (hlen : sec.length ≤ 281474976710656) (hlen2 : salt.length ≤ 281474976710656)
    (hlen3 : info.length ≤ 140737488355328) (hn : n ≤ 8160) :
    Calls Tryd.prog 21 #[sv, kv, iv, .int .i64 (n : Int)] w fun e w' => ∃ r, e = .returned (.tuple #[r, .int .i64 0]) ∧ Own w' w.heap.size r (M.expd (M.block (M.mac salt sec)) info n) ∧ Below w.heap.size w w' := by
  have HC := Lib.hid (extract_any kv sv salt sec w hL hk hs hlen2 hlen)
  have HL := Lib.hid hL
  have HI := Lib.hid hi
  clear hL hs hk hi
  go_enter Tryd.func21, Tryd.ntmps21
  go_wp2_with fail
  refine HC.out.mono ?_
  rintro e w1 ⟨r, rfl, o, k1⟩
  go_wp2_with fail
  refine (expand_any r iv (M.mac salt sec) info n w1 (HL.out.below k1 HL.out.size) o.isB (HI.out.below k1) (by rw [M.mac_length]; omega) hlen3 hn).mono ?_
  rintro e w2 ⟨r2, rfl, o2, k2⟩
  go_wp2
  go_ret2
  exact ⟨r2, rfl, o2.mono k1.size, k1.trans (k2.mono k1.size)⟩

end Go.Proofs.YtdojalhaklkegaaDoor
