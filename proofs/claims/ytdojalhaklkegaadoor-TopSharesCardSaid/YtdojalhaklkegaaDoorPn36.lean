/-
  CONTRACTS OF mac.Mac, mac.Extract, mac.Expand AND mac.Derive. Conditions: the program's two tables of layer 2 lie as they were laid.
  CONTRACTS OF wrap.cut, wrap.read, wrap.nonce AND (wrap.parts).key: a packet's parts, and its key. Conditions: the packet lies at its block's begin; the program's tables of layer 2 lie as they were laid.
  A PACKET AS IT IS PUT TOGETHER IN ITS BLOCK, AND THE REAL CRYPT's Seal AND Open. Conditions: the program's table of places lies as it was laid; texts, boxes and what is said beside of up to 2^46 - 64 bytes together.
-/
import Derived.Test.YtdojalhaklkegaaDoorPn35
import Derived.Test.YtdojalhaklkegaaDoorPn13
import Derived.Test.YtdojalhaklkegaaDoorPn15
import Derived.Lib.SlBytesConst
import Derived.Test.YtdojalhaklkegaaDoorPn16

set_option maxRecDepth 100000
namespace Go.Proofs.YtdojalhaklkegaaDoor
open Go.RowKit
set_option linter.unusedVariables false

theorem mac_any (kv mv : Value) (key m : List UInt8) (w : World) (hL : Laid w) (hk : IsB w kv key) (hm : IsB w mv m) (hlen : key.length ≤ 281474976710656) (hlen2 : m.length ≤ 281474976710656) :
    Calls Tryd.prog 72 #[kv, mv] w (Makes w (M.mac key m)) := by
  obtain ⟨ao, cap, rfl⟩ := hm.shape
  have HM : Hid (IsB w (.slice ao m.length cap) m) := hm
  have HL : Hid (Laid w) := hL
  have HC := Lib.hid (under_any kv key w hL hk (by omega))
  clear hL hk hm
  go_enter Tryd.func72, Tryd.ntmps72
  go_wp2_with fail
  refine HC.out.mono ?_
  rintro e w1 ⟨r, rfl, hc, k1⟩
  have hcc := hc
  obtain ⟨g3, g4, rfl, -⟩ := hcc
  have HCO : Hid (Coder w1 (.func (.func 104) #[] #[.pointer (some ⟨g4, 0, none⟩)]) (M.block key)) := hc
  clear hc
  go_wp2_with fail
  have k2 : Below w.heap.size w (w1.alloc (.cells #[.slice ao m.length cap] 24)) := k1.alloc k1.size _
  refine (coder_any _ (M.block key) _ [m] _ (HL.out.below k2 HL.out.size) (HCO.out.below ((Below.refl _ _).alloc (Nat.le_refl _) _)) (parts_one (HM.out.below k1)) (by simpa using hlen2)).mono ?_
  rintro e w3 ⟨r3, rfl, o3, k3⟩
  go_wp2
  go_ret
  refine ⟨_, rfl, ?_, k2.trans (k3.mono k2.size)⟩
  have := o3.mono k2.size
  simpa [M.mac] using this

theorem extract_any (kv mv : Value) (key m : List UInt8) (w : World) (hL : Laid w) (hk : IsB w kv key) (hm : IsB w mv m) (hlen : key.length ≤ 281474976710656) (hlen2 : m.length ≤ 281474976710656) :
    Calls Tryd.prog 49 #[kv, mv] w (Makes w (M.mac key m)) := by
  have HC := Lib.hid (mac_any kv mv key m w hL hk hm hlen hlen2)
  clear hL hk hm
  go_enter Tryd.func49, Tryd.ntmps49
  go_wp2_with fail
  refine HC.out.mono ?_
  rintro e w1 ⟨r, rfl, o, k1⟩
  go_wp2
  go_ret
  exact ⟨r, rfl, o, k1⟩

theorem parts_three {w' : World} {t : TypeId} {fr : Nat × Nat} {x y z : Value} {a b c : List UInt8} (hx : IsB w' x a) (hy : IsB w' y b) (hz : IsB w' z c) : Parts (w'.alloc (.cells #[x, y, z] t fr)) (.slice (some ⟨w'.heap.size, 0, none⟩) 3 3) [a, b, c] := by
  refine ⟨_, 3, rfl, by simp [maxLen], .inr ⟨w'.heap.size, 0, rfl, fun i hi => ?_⟩⟩
  match i, hi with
  | 0, _ => exact ⟨x, by rw [World.cell?_alloc_mark]; rfl, hx.below ((Below.refl _ _).alloc (Nat.le_refl _) _)⟩
  | 1, _ => exact ⟨y, by rw [World.cell?_alloc_mark]; rfl, hy.below ((Below.refl _ _).alloc (Nat.le_refl _) _)⟩
  | 2, _ => exact ⟨z, by rw [World.cell?_alloc_mark]; rfl, hz.below ((Below.refl _ _).alloc (Nat.le_refl _) _)⟩

set_option maxHeartbeats 1000000 in
theorem expand_any (kv iv : Value) (key info : List UInt8) (n : Nat) (w : World) (hL : Laid w) (hk : IsB w kv key) (hi : IsB w iv info) (hlen : key.length ≤ 281474976710656) (hlen2 : info.length ≤ 140737488355328) (hn : n ≤ 8160) :
    Calls Tryd.prog 48 #[kv, iv, .int .i64 (n : Int)] w fun e w' => ∃ r, e = .returned (.tuple #[r, .int .i64 0]) ∧ Own w' w.heap.size r (M.expd (M.block key) info n) ∧ Below w.heap.size w w' := by
  obtain ⟨ao, cap, rfl⟩ := hi.shape
  have HI : Hid (IsB w (.slice ao info.length cap) info) := hi
  have HL : Hid (Laid w) := hL
  have HC := Lib.hid (under_any kv key w hL hk (by omega))
  obtain ⟨b, hb⟩ : ∃ b, b = M.block key := ⟨_, rfl⟩
  rw [← hb] at HC ⊢
  have hn0 : ¬ (n : Int) < 0 := by omega
  have hn1 : ¬ (8160 : Int) < (n : Int) := by omega
  clear hL hk hi hb
  go_enter Tryd.func48, Tryd.ntmps48
  go_wp2_with fail
  refine HC.out.mono ?_
  rintro e w1 ⟨r, rfl, hc, k1⟩
  have hcc := hc
  obtain ⟨g3, g4, rfl, -⟩ := hcc
  have HCO : Hid (Coder w1 (.func (.func 104) #[] #[.pointer (some ⟨g4, 0, none⟩)]) b) := hc
  clear hc
  go_wp2_with (refine wpList_make_cap _ rfl _ _ rfl .i64 .i64 _ _ 0 n rfl rfl rfl rfl (by omega) (by omega) ?_; intro w4 o4 k4)
  have k14 : Below w1.heap.size w1 w4 := k4
  have O4 : Hid (Own w4 w1.heap.size (.slice (some ⟨w1.heap.size, 0, none⟩) 0 n) ((M.stream b info 0).take n)) := by
    simpa [Hid, M.stream] using o4
  clear o4 k4
  go_loopw [9, 10, 11] (fun x l i wr => ∃ k : Nat, 32 * k < n + 32 ∧ i = .int .i64 ((k + 1 : Nat) : Int) ∧ Hid (Own wr w1.heap.size x ((M.stream b info k).take n)) ∧ Hid (IsB wr l (M.piece b info k)) ∧ Below w1.heap.size w1 wr)
    (fun x _ _ _ => n - lenOf x)
  case atStart => exact ⟨0, by omega, rfl, O4, IsB.nil w4, k14⟩
  case round =>
    clear O4 k14
    rename_i wr
    obtain ⟨k, hk, rfl, oo, pp, kk⟩ := hrel
    obtain ⟨ao1, c1, rfl⟩ := oo.out.shape'
    obtain ⟨ao2, c2, rfl⟩ := pp.out.shape
    obtain ⟨S, hS⟩ : ∃ S, S = (M.stream b info k).take n := ⟨_, rfl⟩
    obtain ⟨L, hLL⟩ : ∃ L, L = S.length := ⟨_, rfl⟩
    have hL2 : L = min n (32 * k) := by rw [hLL, hS, List.length_take, M.stream_length]
    obtain ⟨P, hP⟩ : ∃ P, P = M.piece b info k := ⟨_, rfl⟩
    obtain ⟨N2, hN2⟩ : ∃ N2, N2 = P.length := ⟨_, rfl⟩
    have hPl : P.length ≤ 32 := by rw [hP]; exact M.piece_le b info k
    rw [← hS] at oo ⊢
    rw [← hP] at pp ⊢
    rw [← hLL] at oo ⊢
    rw [← hN2] at pp ⊢
    have HS : Hid (S = (M.stream b info k).take n) := hS
    have HP : Hid (P = M.piece b info k) := hP
    have HLS : Hid (L = S.length) := hLL
    have HPL : Hid (P.length ≤ 32) := hPl
    have kw : Below w.heap.size w wr := k1.trans (kk.mono k1.size)
    clear hS hLL hP hPl hN2
    by_cases hlt : 32 * k < n
    · have HL3 : Hid (L = 32 * k) := by rw [Hid]; omega
      have hLn : L < n := by omega
      have hLn' : (L : Int) < (n : Int) := by omega
      have hk255 : k < 255 := by omega
      have HLT : Hid (32 * k < n) := hlt
      clear hL2 hlt hk
      go_wp2_with fail
      have b1 : Below wr.heap.size wr (wr.alloc (.cells #[.int .u8 ((k : Int) + 1)] 5)) := (Below.refl _ _).alloc (Nat.le_refl _) _
      have b2 : Below wr.heap.size wr ((wr.alloc (.cells #[.int .u8 ((k : Int) + 1)] 5)).alloc (.cells #[.slice ao2 N2 c2, .slice ao info.length cap, .slice (some ⟨wr.heap.size, 0, none⟩) 1 1] 24)) := b1.alloc b1.size _
      have b2' : Below w.heap.size w ((wr.alloc (.cells #[.int .u8 ((k : Int) + 1)] 5)).alloc (.cells #[.slice ao2 N2 c2, .slice ao info.length cap, .slice (some ⟨wr.heap.size, 0, none⟩) 1 1] 24)) := kw.trans (b2.mono kw.size)
      have PP : Parts ((wr.alloc (.cells #[.int .u8 ((k : Int) + 1)] 5)).alloc (.cells #[.slice ao2 N2 c2, .slice ao info.length cap, .slice (some ⟨wr.heap.size, 0, none⟩) 1 1] 24)) (.slice (some ⟨wr.heap.size + 1, 0, none⟩) 3 3) [P, info, [UInt8.ofNat (k + 1)]] := by
        have := parts_three (t := 24) (fr := (0, 0)) (pp.out.below b1) ((HI.out.below kw).below b1) (isB_one wr 5 (UInt8.ofNat (k + 1)) ((k : Int) + 1) (by simp; omega))
        rwa [show (wr.alloc (.cells #[.int .u8 ((k : Int) + 1)] 5)).heap.size = wr.heap.size + 1 by simp] at this
      refine (coder_any _ b _ [P, info, [UInt8.ofNat (k + 1)]] _ (HL.out.below b2' HL.out.size) ((HCO.out.below kk).below b2) PP (by have := HPL.out; simp; omega)).mono ?_
      rintro e w5 ⟨r5, rfl, o5, k5⟩
      obtain ⟨Q, hQ⟩ : ∃ Q, Q = M.piece b info (k + 1) := ⟨_, rfl⟩
      have hQl : Q.length = 32 := by rw [hQ]; exact M.piece_length b info k
      have o5' : Own w5 w.heap.size r5 Q := by
        have := o5.mono b2'.size
        rw [hQ, M.piece, ← HP.out]
        simpa using this
      obtain ⟨g5, c5, rfl, hg5⟩ := o5.shape (by rw [M.hm_length]; omega)
      have hg5' : wr.heap.size ≤ g5 := Nat.le_trans b2.size hg5
      rw [M.hm_length] at o5' ⊢
      have O5 : Hid (Own w5 w.heap.size (.slice (some ⟨g5, 0, none⟩) 32 c5) Q) := o5'
      have k5r : Below wr.heap.size wr w5 := b2.trans (k5.mono b2.size)
      have hne5 : (Value.slice ao1 L c1).ownBlock ≠ some g5 := fun e => by have := (oo.out.block_lt g5 e).2; omega
      have HNE := Lib.hid hne5
      have OS : Hid (Own w5 w1.heap.size (.slice ao1 L c1) S) := oo.out.below k5r
      have k5w : Below w.heap.size w w5 := kw.trans (k5r.mono kw.size)
      have k51 : Below w1.heap.size w1 w5 := kk.trans (k5r.mono kk.size)
      have HQ : Hid (Q = M.piece b info (k + 1)) := hQ
      have hc5 : 32 ≤ c5 := by
        obtain ⟨_, _, e, h1, _⟩ := o5'.isB
        injection e with _ _ e
        omega
      have HQL : Hid (Q.length = 32) := hQl
      clear o5 o5' hQ hQl k5 b1 b2 b2' oo pp k5r hg5 hg5' hne5
      obtain ⟨q, hq⟩ : ∃ q : Nat, (n : Int) - (L : Int) = (q : Int) := ⟨n - L, by omega⟩
      have hq0 : q = n - L := by omega
      obtain ⟨m, hm⟩ : ∃ m, m = min 32 q := ⟨_, rfl⟩
      have hm32 : m ≤ 32 := by omega
      have IQ : Hid (IsB w5 (.slice (some ⟨g5, 0, none⟩) m c5) (Q.take m)) := O5.out.isB.take m hm32
      have HNEXT : Hid (S ++ Q.take m = (M.stream b info (k + 1)).take n) := by
        rw [Hid, HS.out, HQ.out, hm, hq0, HL3.out]
        exact M.expd_next b info n k HLT.out
      have HM0 : Hid ((Q.take m).length = m) := by rw [Hid, List.length_take, HQL.out]; omega
      obtain ⟨Y, hY⟩ : ∃ Y, Y = Q.take m := ⟨_, rfl⟩
      rw [← hY] at IQ HNEXT HM0
      have HM : Hid (m = min 32 q) := hm
      have HQ0 : Hid (q = n - L) := hq0
      have hb0 : w1.heap.size ≤ w5.heap.size := k51.size
      have HSUM : Hid (S.length + Y.length ≤ 140737488355328) := by
        have e1 := HLS.out
        have e2 := HM0.out
        rw [Hid]
        omega
      have hq1 : (1 : Int) ≤ (q : Int) := by omega
      clear hm hq0 hY
      by_cases hle : 32 ≤ q
      · obtain rfl : m = 32 := by have := HM.out; omega
        have hle' : (32 : Int) ≤ (q : Int) := by omega
        go_wp2_with (at_builtin; go_must (refine wpList_app2 _ rfl _ _ rfl w1.heap.size _ S rfl ?c1 _ Y rfl ?c2 (fun _ _ e => by cases e) HSUM.out hb0 ?_))
        case c1 => exact OS.out
        case c2 => exact IQ.out
        intro r6 w6 o6 g6
        rw [HNEXT.out] at o6
        have O6 : Hid (Own w6 w1.heap.size r6 ((M.stream b info (k + 1)).take n)) := o6
        have k6w : Below w1.heap.size w1 w6 := k51.trans ((Below.refl _ _).grown g6 hb0 fun k hk => (OS.out.block_lt k hk).1)
        have Q6 : Hid (IsB w6 (.slice (some ⟨g5, 0, none⟩) 32 c5) (M.piece b info (k + 1))) := by
          rw [Hid, ← HQ.out]
          exact (O5.out.far g6 HNE.out).isB
        have hlx : lenOf r6 = L + Y.length := by
          obtain ⟨a6, c6, rfl⟩ := o6.shape'
          have e1 := congrArg List.length HNEXT.out
          rw [List.length_append, ← HLS.out] at e1
          exact e1.symm
        have HX : Hid (lenOf r6 = L + Y.length) := hlx
        clear o6 g6 hlx
        go_wp2
        go_roundw
        case rel => exact ⟨k + 1, by have := HLT.out; omega, by go_num, O6, Q6, k6w⟩
        case measure =>
          have e1 := HX.out
          have e2 := HM0.out
          show _ - lenOf r6 < _ - lenOf (.slice ao1 L c1)
          rw [e1, e2]
          show n - (L + _) < n - L
          omega
      · obtain rfl : m = q := by have := HM.out; omega
        have hle' : (m : Int) < 32 := by omega
        go_wp2_with (at_builtin; go_must (refine wpList_app2 _ rfl _ _ rfl w1.heap.size _ S rfl ?d1 _ Y rfl ?d2 (fun _ _ e => by cases e) HSUM.out hb0 ?_))
        case d1 => exact OS.out
        case d2 => exact IQ.out
        intro r6 w6 o6 g6
        rw [HNEXT.out] at o6
        have O6 : Hid (Own w6 w1.heap.size r6 ((M.stream b info (k + 1)).take n)) := o6
        have k6w : Below w1.heap.size w1 w6 := k51.trans ((Below.refl _ _).grown g6 hb0 fun k hk => (OS.out.block_lt k hk).1)
        have Q6 : Hid (IsB w6 (.slice (some ⟨g5, 0, none⟩) 32 c5) (M.piece b info (k + 1))) := by
          rw [Hid, ← HQ.out]
          exact (O5.out.far g6 HNE.out).isB
        have hlx : lenOf r6 = L + Y.length := by
          obtain ⟨a6, c6, rfl⟩ := o6.shape'
          have e1 := congrArg List.length HNEXT.out
          rw [List.length_append, ← HLS.out] at e1
          exact e1.symm
        have HX : Hid (lenOf r6 = L + Y.length) := hlx
        clear o6 g6 hlx
        go_wp2
        go_roundw
        case rel => exact ⟨k + 1, by have := HLT.out; omega, by go_num, O6, Q6, k6w⟩
        case measure =>
          have e1 := HX.out
          have e2 := HM0.out
          show _ - lenOf r6 < _ - lenOf (.slice ao1 L c1)
          rw [e1, e2]
          show n - (L + _) < n - L
          omega
    · have hLn : L = n := by omega
      have hS2 : S = M.expd b info n := by rw [HS.out]; exact M.stream_expd b info n k (by omega)
      have hge : ¬ (L : Int) < (n : Int) := by omega
      clear hL2 hlt hk hLn
      go_wp2
      go_ret2
      refine ⟨_, rfl, ?_, kw⟩
      rw [← hS2]
      exact oo.out.mono k1.size

theorem derive_any (sv kv iv : Value) (sec salt info : List UInt8) (n : Nat) (w : World) (hL : Laid w) (hs : IsB w sv sec) (hk : IsB w kv salt) (hi : IsB w iv info) (hlen : sec.length ≤ 281474976710656) (hlen2 : salt.length ≤ 281474976710656)
    (hlen3 : info.length ≤ 140737488355328) (hn : n ≤ 8160) :
    Calls Tryd.prog 21 #[sv, kv, iv, .int .i64 (n : Int)] w fun e w' => ∃ r, e = .returned (.tuple #[r, .int .i64 0]) ∧ Own w' w.heap.size r (M.expd (M.block (M.mac salt sec)) info n) ∧ Below w.heap.size w w' := by
  have HC := Lib.hid (extract_any kv sv salt sec w hL hk hs hlen2 hlen)
  have HL := Lib.hid hL
  have HI := Lib.hid hi
  clear hL hs hk hi
  go_enter Tryd.func21, Tryd.ntmps21
  go_wp2_with fail
  refine HC.out.mono ?_
  rintro e w1 ⟨r, rfl, o, k1⟩
  go_wp2_with fail
  refine (expand_any r iv (M.mac salt sec) info n w1 (HL.out.below k1 HL.out.size) o.isB (HI.out.below k1) (by rw [M.mac_length]; omega) hlen3 hn).mono ?_
  rintro e w2 ⟨r2, rfl, o2, k2⟩
  go_wp2
  go_ret2
  exact ⟨r2, rfl, o2.mono k1.size, k1.trans (k2.mono k1.size)⟩

end Go.Proofs.YtdojalhaklkegaaDoor

namespace Go.Proofs.YtdojalhaklkegaaDoor
open Go.RowKit
set_option linter.unusedVariables false
set_option maxRecDepth 100000

theorem results_cell2w {P : Program} {fn : Func} {p u : Tmp} {ty : TypeId} (h : fn.results = #[.cell p ty, .tmp u]) (tmps : Array Value) (w : World) (g : Nat) (t : TypeId) (cs : Array Value) (fr : Nat × Nat) (d : TypeDesc)
    (hp : tmps.getD p undef = .pointer (some ⟨g, 0, none⟩)) (hg : w.heap[g]? = some (.cells cs t fr))
    (hu : P.underlying ty = some d) (hd : (match d with | .struct _ | .array _ _ => true | _ => false) = true) (hi : (P.info? ty).map (·.size) = some cs.size) :
    (results fn tmps).run P w = .ok (.tuple #[.agg cs, tmps.getD u undef]) w := by
  have hp' : tmps[p]?.getD undef = .pointer (some ⟨g, 0, none⟩) := by simpa using hp
  simp [results, h, hp', asAddr, run_loadVar_row w g t ty cs fr d hg hu hd hi]

/-- A packet's parts. -/
def ptsL (b : Nat) : List Value := [.slice (some ⟨b, 0, none⟩) 1 1, .slice (some ⟨b, 1, none⟩) 32 32, .slice (some ⟨b, 33, none⟩) 32 32, .slice (some ⟨b, 65, none⟩) 48 48]

set_option maxHeartbeats 1000000 in
theorem cut18_any (b cap : Nat) (hc : 113 ≤ cap) (w : World) :
    Calls Tryd.prog 34 #[.slice (some ⟨b, 0, none⟩) 113 cap] w fun e w' => e = .returned (.agg (ptsL b).toArray) ∧ Below w.heap.size w w' := by
  have hcI : (113 : Int) ≤ (cap : Int) := by omega
  have he : Tryd.prog.underlying 24 = some (.slice (Tryd.prog.elem 24)) := by
    rw [show Tryd.prog.elem 24 = 5 by simp [Program.elem, Tryd.underlying24]]
    exact Tryd.underlying24
  have hs0 : ∀ W : World, (Instr.slice 24 (.slice (some ⟨b, 0, none⟩) 113 cap) none (some (.int .i64 1)) (some (.int .i64 1))).run Tryd.prog W = .ok (.slice (some ⟨b, 0, none⟩) 1 1) W := fun W => by
    rw [run_slice_hm W 24 _ 113 cap he .i64 .i64 1 1 (by omega) (by omega) (by omega), show Tryd.prog.elem 24 = 5 by simp [Program.elem, Tryd.underlying24], Tryd.sizeOf5]
    rfl
  have hs1 : ∀ W : World, (Instr.slice 24 (.slice (some ⟨b, 0, none⟩) 113 cap) (some (.int .i64 1)) (some (.int .i64 33)) (some (.int .i64 33))).run Tryd.prog W = .ok (.slice (some ⟨b, 1, none⟩) 32 32) W := fun W => by
    rw [run_slice_lhm W 24 _ 113 cap he .i64 .i64 .i64 1 33 33 (by omega) (by omega) (by omega) (by omega), show Tryd.prog.elem 24 = 5 by simp [Program.elem, Tryd.underlying24], Tryd.sizeOf5]
    rfl
  have hs2 : ∀ W : World, (Instr.slice 24 (.slice (some ⟨b, 0, none⟩) 113 cap) (some (.int .i64 33)) (some (.int .i64 65)) (some (.int .i64 65))).run Tryd.prog W = .ok (.slice (some ⟨b, 33, none⟩) 32 32) W := fun W => by
    rw [run_slice_lhm W 24 _ 113 cap he .i64 .i64 .i64 33 65 65 (by omega) (by omega) (by omega) (by omega), show Tryd.prog.elem 24 = 5 by simp [Program.elem, Tryd.underlying24], Tryd.sizeOf5]
    rfl
  have hs3 : ∀ W : World, (Instr.slice 24 (.slice (some ⟨b, 0, none⟩) 113 cap) (some (.int .i64 65)) (some (.int .i64 113)) (some (.int .i64 113))).run Tryd.prog W = .ok (.slice (some ⟨b, 65, none⟩) 48 48) W := fun W => by
    rw [run_slice_lhm W 24 _ 113 cap he .i64 .i64 .i64 65 113 113 (by omega) (by omega) (by omega) (by omega), show Tryd.prog.elem 24 = 5 by simp [Program.elem, Tryd.underlying24], Tryd.sizeOf5]
    rfl
  clear he hcI
  go_enter Tryd.func34, Tryd.ntmps34
  go_upto_region 1 with fail
  refine wp_region_still 9 (by kernel_rfl) (by kernel_rfl) ?_
  simp only [List.take_succ_cons, List.take_zero, List.drop_succ_cons, List.drop_zero]
  repeat still_step
  refine wpStill_nil ?_
  have HB0 : Hid (Blk ((w.alloc (.cells (List.replicate 4 (.slice none 0 0)).toArray 78)).drew) w.heap.size 78 (List.replicate 4 (.slice none 0 0))) := (Blk.newAt w _ _ w.heap.size (List.replicate 4 (.slice none 0 0)) rfl rfl).drew
  clear hs0 hs1 hs2 hs3
  go_wp2_with (refine wpList_store_blk rfl 78 (.tmp 2) (.tmp 11) rfl w.heap.size (ptsL b).toArray rfl rfl 78 (List.replicate 4 (.slice none 0 0)) HB0.out (by kernel_rfl) rfl (by intro v hv; simp [ptsL] at hv; rcases hv with rfl | rfl | rfl | rfl <;> rfl) ?_; intro w2 hb2 ho2)
  have K : Below w.heap.size w w2 := ((Below.refl _ _).alloc (Nat.le_refl _) _).drew.trans (ho2.below (by simp) (Nat.le_refl _))
  exact bodyPost_ret (results_cell_row rfl _ _ w.heap.size _ _ _ _ rfl hb2 Tryd.underlying78 rfl (by kernel_rfl)) rfl ⟨by rw [Array.toArray_toList], K⟩

set_option maxHeartbeats 1000000 in
/-- A packet that begins with 1. -/
theorem read18_any (b cap : Nat) (hc : 113 ≤ cap) (w : World) (h0 : w.cell? ⟨b, 0, none⟩ = some (.int .u8 1)) :
    Calls Tryd.prog 37 #[.slice (some ⟨b, 0, none⟩) 113 cap] w fun e w' => e = .returned (.tuple #[.agg (ptsL b).toArray, .bool true]) ∧ Below w.heap.size w w' := by
  have HC : Hid (∀ W, Calls Tryd.prog 34 #[.slice (some ⟨b, 0, none⟩) 113 cap] W fun e w' => e = .returned (.agg (ptsL b).toArray) ∧ Below W.heap.size W w') := fun W => cut18_any b cap hc W
  have hca : (w.alloc (.cells #[.slice none 0 0, .slice none 0 0, .slice none 0 0, .slice none 0 0] 78)).cell? ⟨b, 0, none⟩ = some (.int .u8 1) := by
    refine ((Below.refl w.heap.size w).alloc (Nat.le_refl _) _).cell (World.block_lt_of_cell? w _ h0) |>.trans h0
  have HB0 : Hid (Blk (w.alloc (.cells #[.slice none 0 0, .slice none 0 0, .slice none 0 0, .slice none 0 0] 78)) w.heap.size 78 (List.replicate 4 (.slice none 0 0))) := Blk.newAt w _ _ w.heap.size (List.replicate 4 (.slice none 0 0)) rfl rfl
  have KA : Hid (Below w.heap.size w (w.alloc (.cells #[.slice none 0 0, .slice none 0 0, .slice none 0 0, .slice none 0 0] 78))) := (Below.refl _ _).alloc (Nat.le_refl _) _
  clear h0 hc
  go_enter Tryd.func37, Tryd.ntmps37
  go_wp2_with fail
  refine (HC.out _).mono ?_
  rintro e w2 ⟨rfl, k2⟩
  have HB2 : Hid (Blk w2 w.heap.size 78 (List.replicate 4 (.slice none 0 0))) := HB0.out.below k2 HB0.out.lt
  have K2 : Hid (Below w.heap.size w w2) := KA.out.trans (k2.mono KA.out.size)
  clear k2 HB0 KA hca HC
  go_wp2_with (refine wpList_store_blk rfl 78 (.tmp 2) (.tmp 15) rfl w.heap.size (ptsL b).toArray rfl rfl 78 (List.replicate 4 (.slice none 0 0)) HB2.out (by kernel_rfl) rfl (by intro v hv; simp [ptsL] at hv; rcases hv with rfl | rfl | rfl | rfl <;> rfl) ?_; intro w3 hb3 ho3)
  have K : Below w.heap.size w w3 := K2.out.trans (ho3.below K2.out.size (Nat.le_refl _))
  exact bodyPost_ret (results_cell2w rfl _ _ w.heap.size _ _ _ _ rfl hb3 Tryd.underlying78 rfl (by kernel_rfl)) rfl ⟨by rw [Array.toArray_toList]; rfl, K⟩

theorem wnonce_any (w : World) : Calls Tryd.prog 36 #[] w (Makes w (List.replicate 12 0)) := by
  go_enter Tryd.func36, Tryd.ntmps36
  go_wp2_with (refine wpList_make_cap _ rfl _ _ rfl .i64 .i64 _ _ 12 12 rfl rfl rfl rfl (by omega) (by omega) ?_; intro w1 o1 k1)
  have O1 := Lib.hid o1
  have K1 := Lib.hid k1
  clear o1 k1
  go_wp2
  go_ret
  exact ⟨_, rfl, O1.out, K1.out⟩

namespace M
/-- What a packet's key is derived for. -/
def winfo : List UInt8 := [111, 114, 108, 111, 112, 32, 119, 114, 97, 112]
/-- A packet's key, of the secret that both points share. -/
def wkey (sec once point : List UInt8) : List UInt8 := expd (block (mac (once ++ point) sec)) winfo 32
theorem wkey_len (sec once point : List UInt8) : (wkey sec once point).length = 32 := expd_length _ _ _
end M

theorem isB_winfo (w : World) (t : TypeId) (fr : Nat × Nat) : IsB (w.alloc (.cells #[.int .u8 111, .int .u8 114, .int .u8 108, .int .u8 111, .int .u8 112, .int .u8 32, .int .u8 119, .int .u8 114, .int .u8 97, .int .u8 112] t fr)) (.slice (some ⟨w.heap.size, 0, none⟩) 10 10) M.winfo := by
  refine ⟨_, 10, rfl, Nat.le_refl _, by unfold maxLen; omega, .inr ⟨w.heap.size, 0, rfl, fun i hi => ?_⟩⟩
  rw [World.cell?_alloc_mark]
  match i, hi with
  | 0, _ => rfl
  | 1, _ => rfl
  | 2, _ => rfl
  | 3, _ => rfl
  | 4, _ => rfl
  | 5, _ => rfl
  | 6, _ => rfl
  | 7, _ => rfl
  | 8, _ => rfl
  | 9, _ => rfl

/-- 'append' onto a row that has no room behind it. -/
theorem wpList_appFull (w : World) {ops : Array Oper} {rest : List Oper} {o : Oper} {a : Act} {Q : Exit → Act → World → Prop} (hg : o.guard = none) (s x : Operand)
    (ho : o.op = .call { callee := .builtin .append, args := #[s, x], argTypes := #[24, 24] })
    (ad : Addr) (n : Nat) (bs : List UInt8) (hs : a.eval s = .slice (some ad) n n) (hi : IsB w (.slice (some ad) n n) bs) (ad2 : Addr) (m c : Nat) (ys : List UInt8) (hx : a.eval x = .slice (some ad2) m c) (hi2 : IsB w (.slice (some ad2) m c) ys)
    (hm : 0 < m) (hlen : n + m ≤ 140737488355328)
    (h : ∀ v' w', Own w' w.heap.size v' (bs ++ ys) → Below w.heap.size w w' → wpList Tryd.prog ops Q rest (a.put o.dst v') w') : wpList Tryd.prog ops Q (o :: rest) a w := by
  obtain ⟨i0, h0, hz0, hz1, hz2⟩ := info_parts Tryd.info5
  obtain ⟨hn1, _, hc1⟩ := hi.cells
  obtain ⟨hn2, _, hc2⟩ := hi2.cells
  subst hn1 hn2
  refine wpList_append_grows w hg s x _ ho 5 i0 (.int .u8 0) 1 1 Tryd.underlying24 h0 hz0 hz1 hz2 rfl (by decide) (some ad) bs.length bs.length (Lib.byteCells bs) hs (fun hh => by cases hh) (by rw [byteCells_length, Nat.mul_one]) (fun b hb => by cases hb; exact hc1 ad rfl)
    ad2 ys.length c (Lib.byteCells ys) hx (by rw [byteCells_length, Nat.mul_one]) (hc2 ad2 rfl) (byteCells_oneCell _) (by omega) (by unfold maxLen; omega) (by omega) ?_
  intro v' w' hown' hgrow
  refine h v' w' ?_ ((Below.refl _ w).grown hgrow (Nat.le_refl _) fun k hk => by cases hk)
  rw [Own, List.length_append, byteCells_append]
  exact hown'

set_option maxHeartbeats 1000000 in
theorem wkey_any (b : Nat) (sv : Value) (sec once point : List UInt8) (w : World) (hL : Laid w) (hp : IsB w (.slice (some ⟨b, 1, none⟩) 32 32) point) (ho : IsB w (.slice (some ⟨b, 33, none⟩) 32 32) once) (hs : IsB w sv sec) (hsl : sec.length = 32) :
    Calls Tryd.prog 35 #[.agg (ptsL b).toArray, sv] w (Makes w (M.wkey sec once point)) := by
  obtain ⟨W, hW⟩ : ∃ x, x = w.alloc (.cells (ptsL b).toArray 78) := ⟨_, rfl⟩
  have KW : Hid (Below w.heap.size w W) := by rw [Hid, hW]; exact (Below.refl _ _).alloc (Nat.le_refl _) _
  have BW : Blk W w.heap.size 78 (ptsL b) := by rw [hW]; exact Blk.newAt _ _ _ _ _ rfl (by simp)
  have c1 : W.cell? ⟨w.heap.size, 1, none⟩ = some (.slice (some ⟨b, 1, none⟩) 32 32) := BW.cell 1
  have c2 : W.cell? ⟨w.heap.size, 2, none⟩ = some (.slice (some ⟨b, 33, none⟩) 32 32) := BW.cell 2
  have HP := Lib.hid (hp.below KW.out)
  have HO := Lib.hid (ho.below KW.out)
  have HS := Lib.hid (hs.below KW.out)
  have HL : Hid (Laid W) := hL.below KW.out hL.size
  have E := Lib.hid hW
  have HOL : Hid (once.length = 32 ∧ point.length = 32 ∧ sec.length = 32) := ⟨ho.cells.1.symm, hp.cells.1.symm, hsl⟩
  have kc := fun (w : World) (C : Array Value) (n c : Nat) => Lib.run_convert_bytes_const (P := Tryd.prog) w 24 5 C n c Tryd.underlying24 Tryd.underlying5
  obtain ⟨X, hX⟩ : ∃ X, Hid (X = (ptsL b).toArray) := ⟨_, rfl⟩
  rw [← hX.out] at E ⊢
  clear hW BW hp ho hs hL hsl hX
  go_enter Tryd.func35, Tryd.ntmps35
  go_upto_region 1 with fail
  rw [← E.out]
  go_wp2_with (at_builtin; go_must (refine wpList_appFull _ rfl _ _ rfl _ _ _ rfl HO.out _ _ _ _ rfl HP.out (by decide) (by decide) ?_))
  intro v2 w2 o2 k2
  have O2 := Lib.hid o2
  have K2 := Lib.hid k2
  clear o2 k2 c1 c2
  go_wp2_with fail
  have KA : Hid (Below w2.heap.size w2 (w2.alloc (.cells #[.int .u8 111, .int .u8 114, .int .u8 108, .int .u8 111, .int .u8 112, .int .u8 32, .int .u8 119, .int .u8 114, .int .u8 97, .int .u8 112] 5 (10, 11)))) := (Below.refl _ _).alloc (Nat.le_refl _) _
  have hk := KA.out
  refine (derive_any _ _ _ sec (once ++ point) M.winfo 32 _ ((HL.out.below K2.out HL.out.size).below hk (Nat.le_trans HL.out.size K2.out.size)) ((HS.out.below K2.out).below hk) (O2.out.isB.below hk) (isB_winfo w2 5 _) (by have := HOL.out; omega) (by have := HOL.out; rw [List.length_append]; omega) (by decide) (by decide)).mono ?_
  rintro e w3 ⟨r3, rfl, o3, k3⟩
  have K3 : Hid (Below w.heap.size w w3) := KW.out.trans ((K2.out.trans ((KA.out.trans (k3.mono KA.out.size)).mono K2.out.size)).mono KW.out.size)
  have HZ : Hid (w.heap.size ≤ (w2.alloc (.cells #[.int .u8 111, .int .u8 114, .int .u8 108, .int .u8 111, .int .u8 112, .int .u8 32, .int .u8 119, .int .u8 114, .int .u8 97, .int .u8 112] 5 (10, 11))).heap.size) := Nat.le_trans KW.out.size (Nat.le_trans K2.out.size KA.out.size)
  have O3 := Lib.hid (o3.mono HZ.out)
  clear o3 k3 hk kc
  go_wp2
  go_ret
  exact ⟨_, rfl, O3.out, K3.out⟩

end Go.Proofs.YtdojalhaklkegaaDoor

namespace Go.Proofs.YtdojalhaklkegaaDoor
open Go.RowKit
set_option linter.unusedVariables false
set_option maxRecDepth 100000

namespace M
/-- A packet. -/
def pkt (point pub box : List UInt8) : List UInt8 := [1] ++ (point ++ (pub ++ box))
theorem pkt_len {point pub box : List UInt8} (h1 : point.length = 32) (h2 : pub.length = 32) (h3 : box.length = 48) : (pkt point pub box).length = 113 := by
  unfold pkt; simp [h1, h2, h3]
end M

theorem splice_bytes (xs bs ys : List UInt8) (off : Nat) (ho : xs.length = off) : splice (Lib.byteCells (xs ++ ys)) off (Lib.byteCells bs) = Lib.byteCells (xs ++ (bs ++ ys.drop bs.length)) := by
  have h1 : (Lib.byteCells xs).length = off := by rw [byteCells_length, ho]
  rw [splice, byteCells_append, byteCells_append, byteCells_append, List.take_append_of_le_length (by omega), List.take_of_length_le (by omega), List.drop_append, List.drop_eq_nil_of_le (by omega), List.nil_append, h1, byteCells_length, Nat.add_sub_cancel_left]
  rw [show Lib.byteCells (ys.drop bs.length) = (Lib.byteCells ys).drop bs.length by simp [Lib.byteCells, List.map_drop]]

/-- Bytes in the middle of a block. -/
theorem isB_mid {w : World} {g : Nat} {t : TypeId} (xs bs ys : List UInt8) (off n : Nat) (h : Blk w g t (Lib.byteCells (xs ++ (bs ++ ys)))) (ho : xs.length = off) (hn : bs.length = n) (hm : n ≤ 1000) : IsB w (.slice (some ⟨g, off, none⟩) n n) bs := by
  refine ⟨_, n, by rw [hn], by rw [hn]; exact Nat.le_refl _, by unfold maxLen; omega, .inr ⟨g, off, rfl, fun i hi => ?_⟩⟩
  rw [h.cell, byteCells_append, List.getElem?_append_right (by rw [byteCells_length]; omega), byteCells_length, ho, Nat.add_sub_cancel_left, byteCells_append, List.getElem?_append_left (by rw [byteCells_length]; exact hi), byteCells_getElem? bs i hi]

theorem isB_there {w : World} {a : Option Addr} {n c : Nat} {bs : List UInt8} (h : IsB w (.slice a n c) bs) (hl : 0 < bs.length) : ∃ ad, a = some ad ∧ ∀ j v, (Lib.byteCells bs)[j]? = some v → w.cell? (ad.add j) = some v := by
  obtain ⟨_, h2, h3⟩ := h.cells
  cases a with
  | none => rw [h2 rfl] at hl; exact absurd hl (by decide)
  | some ad => exact ⟨ad, rfl, h3 ad rfl⟩

/-- A block as a row of the call's own. -/
theorem own_blk {w : World} {B g n : Nat} {bs : List UInt8} (h : Blk w g 5 (Lib.byteCells bs)) (hB : B ≤ g) (hn : bs.length = n) (hm : n ≤ 1000) : Own w B (.slice (some ⟨g, 0, none⟩) n n) bs := by
  rw [Own, hn]
  refine ⟨by rw [byteCells_length, hn, Nat.mul_one], .inr ⟨g, n, _, rfl, hB, h, Nat.le_refl _, by unfold maxLen; omega, ?_, ?_⟩⟩
  · simp [byteCells_length, hn]
  · simp only [Nat.mul_one]
    exact List.take_of_length_le (by rw [byteCells_length, hn]; exact Nat.le_refl _)

theorem make113 (w : World) : (Instr.makeSlice 24 (.int .i64 113) (.int .i64 113)).run Tryd.prog w = .ok (.slice (some ⟨w.heap.size, 0, none⟩) 113 113) (w.alloc (.cells (Lib.byteCells (List.replicate 113 0)).toArray 5)) := by
  obtain ⟨i0, h0, hz0, hz1, hz2⟩ := info_parts Tryd.info5
  have hrun := run_make (P := Tryd.prog) w 24 5 i0 (.int .u8 0) Tryd.underlying24 h0 hz0 .i64 .i64 113 113 (by omega) (by omega) (by rw [hz2]; omega) (by omega)
  rw [hrun]
  have e : madeCells (Value.int IntKind.u8 0).cells (Int.toNat 113 * i0.size) = (Lib.byteCells (List.replicate 113 0)).toArray := by
    apply Array.ext'
    rw [hz1]
    exact (toList_madeCells_one _ _).trans (by simp [Lib.byteCells])
  rw [e]
  rfl

theorem meth_rseal (w : World) : (method 278 71 (.agg #[]) "Seal").run Tryd.prog w = .ok (133, .agg #[]) w := by kernel_rfl
theorem meth_ropen (w : World) : (method 278 71 (.agg #[]) "Open").run Tryd.prog w = .ok (132, .agg #[]) w := by kernel_rfl

theorem meth_bseal (w : World) (a : Addr) : (method 278 72 (.pointer (some a)) "Seal").run Tryd.prog w = .ok (136, .pointer (some a)) w := by kernel_rfl
theorem meth_bopen (w : World) (a : Addr) : (method 278 72 (.pointer (some a)) "Open").run Tryd.prog w = .ok (135, .pointer (some a)) w := by kernel_rfl
theorem nil_rseal (w : World) : (nilAhead 278 71 (.agg #[]) "Seal").run Tryd.prog w = .ok (some false) w := by kernel_rfl
theorem nil_ropen (w : World) : (nilAhead 278 71 (.agg #[]) "Open").run Tryd.prog w = .ok (some false) w := by kernel_rfl
theorem nil_bseal (w : World) (a : Addr) : (nilAhead 278 72 (.pointer (some a)) "Seal").run Tryd.prog w = .ok (some false) w := by kernel_rfl
theorem nil_bopen (w : World) (a : Addr) : (nilAhead 278 72 (.pointer (some a)) "Open").run Tryd.prog w = .ok (some false) w := by kernel_rfl

theorem cryptReal_any (w : World) : Calls Tryd.prog 15 #[] w fun e w' => e = .returned (.iface 71 (.agg #[])) ∧ w' = w := by
  go_enter Tryd.func15, Tryd.ntmps15
  go_wp2
  go_ret
  exact ⟨rfl, rfl⟩

set_option maxHeartbeats 1000000 in
theorem realSeal_any (kv nv bv tv : Value) (key nonce beside text : List UInt8) (w : World) (hL : LaidP w) (hk : IsB w kv key) (hn : IsB w nv nonce) (hb : IsB w bv beside) (ht : IsB w tv text) (hkl : key.length = 32) (hnl : nonce.length = 12)
    (zb : ∀ n c, bv = .slice none n c → c = 0) (hlen : beside.length + text.length ≤ 70368744177600) :
    Calls Tryd.prog 133 #[.agg #[], kv, nv, bv, tv] w fun e w' => ∃ r, e = .returned (.tuple #[r, .int .i64 0]) ∧ Own w' w.heap.size r (M.box key nonce beside text) ∧ Below w.heap.size w w' := by
  obtain ⟨W, hW⟩ : ∃ x, Hid (x = w.alloc (.cells #[] 71)) := ⟨_, rfl⟩
  have KW : Below w.heap.size w W := by rw [hW.out]; exact (Below.refl _ _).alloc (Nat.le_refl _) _
  have C := Lib.hid (aseal_any kv nv bv tv key nonce beside text W (hL.below KW hL.size) (hk.below KW) (hn.below KW) (hb.below KW) (ht.below KW) hkl hnl zb hlen)
  have K := Lib.hid KW
  clear hL hk hn hb ht zb hlen hkl hnl KW
  go_enter Tryd.func133, Tryd.ntmps133
  go_wp2_with (first | (go_at_call 10; rw [← hW.out]; go_must (refine C.out.mono ?_)))
  rintro e w' ⟨r, rfl, o, k⟩
  have O := Lib.hid o
  have K2 := Lib.hid k
  clear C o k
  go_wp2
  go_ret2
  exact ⟨r, rfl, O.out.mono K.out.size, K.out.trans (K2.out.mono K.out.size)⟩

namespace M
/-- What the real crypt opens. -/
def ropn (key nonce beside box : List UInt8) : Option (List UInt8) := if boxTag key nonce beside (box.take (box.length - 16)) = box.drop (box.length - 16) then some (hide key nonce (box.take (box.length - 16))) else none
theorem ropn_box (key nonce beside text : List UInt8) : ropn key nonce beside (box key nonce beside text) = some text := by
  unfold ropn
  rw [box_length, Nat.add_sub_cancel, if_pos (by rw [box_take, box_drop]), box_opens]
end M

/-- How a crypt's Open ends. -/
def OpensTo (w : World) (o : Option (List UInt8)) (e : Ending) (w' : World) : Prop := Below w.heap.size w w' ∧ match o with
  | none => e = .returned (.tuple #[.slice none 0 0, .int .i64 7])
  | some t => ∃ r, e = .returned (.tuple #[r, .int .i64 0]) ∧ Own w' w.heap.size r t
theorem OpensTo.no {w w' : World} {o : Option (List UInt8)} (h : o = none) (k : Below w.heap.size w w') : OpensTo w o (.returned (.tuple #[.slice none 0 0, .int .i64 7])) w' := by subst h; exact ⟨k, rfl⟩
theorem OpensTo.yes {w w' : World} {o : Option (List UInt8)} {t : List UInt8} {r : Value} (h : o = some t) (k : Below w.heap.size w w') (hr : Own w' w.heap.size r t) : OpensTo w o (.returned (.tuple #[r, .int .i64 0])) w' := by subst h; exact ⟨k, r, rfl, hr⟩

set_option maxHeartbeats 1000000 in
theorem realOpen_any (kv nv bv tv : Value) (key nonce beside box : List UInt8) (w : World) (hL : LaidP w) (hk : IsB w kv key) (hn : IsB w nv nonce) (hb : IsB w bv beside) (ht : IsB w tv box) (hkl : key.length = 32) (hnl : nonce.length = 12)
    (zb : ∀ n c, bv = .slice none n c → c = 0) (zt : ∀ n c, tv = .slice none n c → c = 0) (hlen : beside.length + box.length ≤ 70368744177600) (h16 : 16 ≤ box.length) :
    Calls Tryd.prog 132 #[.agg #[], kv, nv, bv, tv] w (OpensTo w (M.ropn key nonce beside box)) := by
  obtain ⟨W, hW⟩ : ∃ x, Hid (x = w.alloc (.cells #[] 71)) := ⟨_, rfl⟩
  have KW : Below w.heap.size w W := by rw [hW.out]; exact (Below.refl _ _).alloc (Nat.le_refl _) _
  have C := Lib.hid (open_any kv nv bv tv key nonce beside box W (hL.below KW hL.size) (hk.below KW) (hn.below KW) (hb.below KW) (ht.below KW) hkl hnl zb zt hlen (box.length - 16) (by omega))
  have K := Lib.hid KW
  clear hL hk hn hb ht zb zt hlen hkl hnl KW
  go_enter Tryd.func132, Tryd.ntmps132
  by_cases hd : M.boxTag key nonce beside (box.take (box.length - 16)) = box.drop (box.length - 16)
  · have HR : Hid (M.ropn key nonce beside box = some (M.hide key nonce (box.take (box.length - 16)))) := by rw [Hid, M.ropn, if_pos hd]
    have HD := Lib.hid hd
    clear hd
    go_wp2_with (first | (go_at_call 11; rw [← hW.out]; go_must (refine C.out.mono ?_)))
    rintro e w' ⟨h, _, k⟩
    obtain ⟨r, rfl, o⟩ := h HD.out
    have O := Lib.hid o
    have K2 := Lib.hid k
    clear C o k h
    go_wp2
    go_ret2
    exact OpensTo.yes HR.out (K.out.trans (K2.out.mono K.out.size)) (O.out.mono K.out.size)
  · have HR : Hid (M.ropn key nonce beside box = none) := by rw [Hid, M.ropn, if_neg hd]
    have HD := Lib.hid hd
    clear hd
    go_wp2_with (first | (go_at_call 11; rw [← hW.out]; go_must (refine C.out.mono ?_)))
    rintro e w' ⟨_, h, k⟩
    obtain rfl := h HD.out
    have K2 := Lib.hid k
    clear C k h
    go_wp2
    go_ret2
    exact OpensTo.no HR.out (K.out.trans (K2.out.mono K.out.size))

end Go.Proofs.YtdojalhaklkegaaDoor
