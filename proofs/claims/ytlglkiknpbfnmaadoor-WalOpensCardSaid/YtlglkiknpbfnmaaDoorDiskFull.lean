/-
  CONTRACT OF orloplaw09.Full: bytes filled up to a block. Conditions: at most 1000 bytes; what is nil has no spare room.
-/
import Derived.Test.YtlglkiknpbfnmaaDoorPkRefDisk
namespace Go.Proofs.YtlglkiknpbfnmaaDoor
open Go.RowKit
set_option linter.unusedVariables false

namespace M
/-- What a block is filled up with. -/
def fillx (b : List UInt8) : UInt8 := if b.length = 0 then 0 else b.getD (b.length - 1) 0
def full (b : List UInt8) : List UInt8 := (b ++ List.replicate (256 - b.length) (fillx b)).take 256
theorem full_length (b : List UInt8) : (full b).length = 256 := by
  rw [full]
  simp only [List.length_take, List.length_append, List.length_replicate]
  omega
end M

/-- How long a slice is. -/
def lenOf9 : Value → Nat
  | .slice _ n _ => n
  | _ => 0

theorem Own.short {w : World} {B n cap : Nat} {ao : Option Addr} {bs : List UInt8} (h : Own w B (.slice ao bs.length cap) bs) (k : Nat) (hk : k ≤ bs.length) (h0 : 0 < bs.length) : Own w B (.slice ao k cap) (bs.take k) := by
  have hl : (bs.take k).length = k := by rw [List.length_take]; omega
  rcases h.2 with ⟨_, hn⟩ | ⟨g, cap', cur, e, hb, hg, hn, hm, hs, ht⟩
  · omega
  · injection e with e1 e2 e3
    subst e1 e3
    refine ⟨by rw [byteCells_length, hl, Nat.mul_one], .inr ⟨g, cap, cur, by rw [hl], hb, hg, by rw [hl]; omega, hm, hs, ?_⟩⟩
    rw [hl, Nat.mul_one]
    rw [Nat.mul_one] at ht
    have := congrArg (List.take k) ht
    rw [List.take_take, Nat.min_eq_left hk] at this
    rw [this]
    simp [Lib.byteCells, List.map_take]

set_option maxRecDepth 100000 in
set_option maxHeartbeats 4000000 in
theorem full_any (v : Value) (bs : List UInt8) (w : World) (hb : IsB w v bs) (hnil : ∀ n c, v = .slice none n c → c = 0) (hlen : bs.length ≤ 1000) :
    Calls Tryd.prog 27 #[v] w (Makes w (M.full bs)) := by
  have HB := Lib.hid hb
  have HNIL := Lib.hid hnil
  obtain ⟨ao, cap, rfl⟩ := hb.shape
  obtain ⟨l, hl⟩ : ∃ l, l = bs.length := ⟨_, rfl⟩
  rw [← hl] at HB HNIL hlen ⊢
  have HL : Hid (l = bs.length) := hl
  have HM : Hid (l ≤ 1000) := hlen
  obtain ⟨x, hx⟩ : ∃ x, Hid (x = M.fillx bs) := ⟨_, rfl⟩
  clear hb hnil hl hlen
  go_enter Tryd.func27, Tryd.ntmps27
  go_wp2_with (at_builtin; go_must (refine wpList_app _ rfl _ _ rfl w.heap.size _ [] rfl ?c1 _ bs rfl ?c2 HNIL.out (by have := HM.out; have := HL.out; simp; omega) (by simp) ?_))
  case c1 => exact own_empty w
  case c2 => exact HB.out.below ((Below.refl _ _).alloc (Nat.le_refl _) _)
  intro r1 w1 o1 k1 z1
  have o1' : Own w1 w.heap.size r1 (bs ++ List.replicate 0 x) := by rw [List.replicate_zero, List.append_nil]; exact o1
  obtain ⟨ra, rc, rfl⟩ := o1.shape'
  have O1 := Lib.hid o1'
  have K1 : Hid (Below w.heap.size w w1) := ((Below.refl _ _).alloc (Nat.le_refl _) (.cells #[] 5)).trans k1
  clear z1 k1 o1 o1'
  go_wp2
  go_loopw [3] (fun v wr => ∃ (k : Nat), (k = 0 ∨ l + k ≤ 256) ∧ (∃ a c, v = .slice a (l + k) c) ∧ Hid (Own wr w.heap.size v (bs ++ List.replicate k x)) ∧ Hid (Below w.heap.size w wr))
    (fun v _ => 256 - lenOf9 v)
  case atStart => exact ⟨0, .inl rfl, ⟨ra, rc, by rw [Nat.add_zero, HL.out]⟩, O1, K1⟩
  case round =>
    clear O1 K1
    obtain ⟨wz, rfl⟩ : ∃ x, x = wr := ⟨_, rfl⟩
    obtain ⟨k, hk, ⟨va, vc, rfl⟩, oo, kk⟩ := hrel
    obtain ⟨q, hq⟩ : ∃ q, q = l + k := ⟨_, rfl⟩
    rw [← hq] at oo ⊢
    have HQ := Lib.hid hq
    have HK := Lib.hid hk
    have hol : (bs ++ List.replicate k x).length = q := by rw [List.length_append, List.length_replicate, ← HL.out, hq]
    have HOL := Lib.hid hol
    by_cases hlt : q < 256
    · have b1 : (q : Int) < 256 := by omega
      by_cases h0 : l = 0
      · have x0 : Hid ((0 : Int) = (x.toNat : Int)) := by rw [Hid, hx.out, M.fillx, ← HL.out, if_pos h0]; rfl
        have I1 : IsB (wz.alloc (.cells #[.int .u8 (x.toNat : Int)] 5)) (.slice (some ⟨wz.heap.size, 0, none⟩) 1 1) [x] := isB_one wz 5 x _ rfl
        rw [← x0.out] at I1
        have g0 : ¬ (0 : Int) < (l : Int) := by omega
        clear hk hq hol hlt
        go_wp2_with (at_builtin; go_must (refine wpList_app _ rfl _ _ rfl w.heap.size _ (bs ++ List.replicate k x) rfl (oo.out.below ((Below.refl _ _).alloc (Nat.le_refl _) _)) _ [x] rfl I1 (by intro n c e; cases e) (by have := HOL.out; rw [this]; simp; omega) (kk.out.alloc kk.out.size _).size ?_))
        intro v2 w2 o2 k2 _
        have e2 : bs ++ (List.replicate k x ++ [x]) = bs ++ List.replicate (k + 1) x := by rw [← List.replicate_succ']
        rw [e2] at o2
        obtain ⟨a2, c2, e3⟩ := o2.shape'
        rw [List.length_append, List.length_replicate, ← HL.out] at e3
        subst e3
        have O2 := Lib.hid o2
        have K2 : Hid (Below w.heap.size w w2) := (kk.out.alloc kk.out.size (.cells #[.int .u8 (0 : Int)] 5)).trans k2
        have hq3 : l + (k + 1) ≤ 256 := by have := HQ.out; omega
        clear o2 k2 e2 I1 oo kk
        go_wp2
        go_roundw
        case rel => exact ⟨_, _, _, _, _, _, _, _, _, _, _, _, _, _, _, _, _, _, ⟨k + 1, .inr hq3, ⟨a2, c2, rfl⟩, O2, K2⟩, by rw [h0]⟩
        case measure =>
          have := HQ.out
          show 256 - (l + (k + 1)) < 256 - q
          omega
      · obtain ⟨lm, hlm⟩ : ∃ m, m = l - 1 := ⟨_, rfl⟩
        have g0 : (0 : Int) < (l : Int) := by omega
        have g1 : wrap64 ((l : Int) - 1) = (lm : Int) := by have := HM.out; unfold wrap64; omega
        have ib := HB.out.below kk.out
        obtain ⟨ao', cap', e, hc1, hc2, hat⟩ := ib
        injection e with e1 e2 e3
        subst e1 e3
        obtain ⟨bb, bo, rfl, ckk⟩ : ∃ b off, ao = some ⟨b, off, none⟩ ∧ wz.cell? ⟨b, off + lm, none⟩ = some (.int .u8 (x.toNat : Int)) := by
          rcases hat with h | ⟨b, off, e, h⟩
          · rw [h] at e2; simp at e2; omega
          · refine ⟨b, off, e, ?_⟩
            rw [h lm (by omega), hx.out, M.fillx, ← e2, if_neg h0, ← hlm]
        have I1 : IsB (wz.alloc (.cells #[.int .u8 (x.toNat : Int)] 5)) (.slice (some ⟨wz.heap.size, 0, none⟩) 1 1) [x] := isB_one wz 5 x _ rfl
        have g2 : (lm : Int) < (l : Int) := by omega
        have g3 : (0 : Int) ≤ (lm : Int) := by omega
        have g4 : ((lm : Int)).toNat = lm := by omega
        clear hk hq hol hlt hlm e2 hc1 hc2 hat
        go_wp2_with (at_builtin; go_must (refine wpList_app _ rfl _ _ rfl w.heap.size _ (bs ++ List.replicate k x) rfl (oo.out.below ((Below.refl _ _).alloc (Nat.le_refl _) _)) _ [x] rfl I1 (by intro n c e; cases e) (by have := HOL.out; rw [this]; simp; omega) (kk.out.alloc kk.out.size _).size ?_))
        intro v2 w2 o2 k2 _
        have e2 : bs ++ (List.replicate k x ++ [x]) = bs ++ List.replicate (k + 1) x := by rw [← List.replicate_succ']
        rw [e2] at o2
        obtain ⟨a2, c2, e3⟩ := o2.shape'
        rw [List.length_append, List.length_replicate, ← HL.out] at e3
        subst e3
        have O2 := Lib.hid o2
        have K2 : Hid (Below w.heap.size w w2) := (kk.out.alloc kk.out.size (.cells #[.int .u8 (x.toNat : Int)] 5)).trans k2
        have hq3 : l + (k + 1) ≤ 256 := by have := HQ.out; omega
        clear o2 k2 e2 I1 oo kk
        go_wp2
        go_roundw
        case rel => exact ⟨k + 1, .inr hq3, ⟨a2, c2, rfl⟩, O2, K2⟩
        case measure =>
          have := HQ.out
          show 256 - (l + (k + 1)) < 256 - q
          omega
    · have b1 : ¬ (q : Int) < 256 := by omega
      have hf : M.full bs = (bs ++ List.replicate k x).take 256 := by
        rw [M.full, ← hx.out, ← HL.out]
        rcases hk with rfl | hk
        · rw [show 256 - l = 0 by omega]
        · rw [show 256 - l = k by omega]
      have os : Own wz w.heap.size (.slice va 256 vc) (M.full bs) := by
        rw [hf]
        exact Own.short (n := 0) (by rw [hol]; exact oo.out) 256 (by rw [hol]; omega) (by rw [hol]; omega)
      have OS := Lib.hid os
      have b2 : (256 : Int) ≤ (vc : Int) := by
        rcases oo.out.2 with ⟨e, hn⟩ | ⟨g, cap', cur, e, hb, hg, hn, hm, hs, ht⟩
        · rw [hol] at hn; omega
        · injection e with e1 e2 e3
          rw [hol] at hn
          omega
      clear hk hq hol hlt hf os
      go_wp2
      go_ret
      exact ⟨_, rfl, OS.out, kk.out⟩

end Go.Proofs.YtlglkiknpbfnmaaDoor
