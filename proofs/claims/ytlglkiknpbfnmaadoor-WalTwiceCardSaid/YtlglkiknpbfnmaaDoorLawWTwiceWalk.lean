/-
  orloplaw10.WalTwice, under the journal's face: it returns true. Conditions: WalCalls, WalMath (proved of the code elsewhere).
-/
import Derived.Test.YtlglkiknpbfnmaaDoorPkRefWal
namespace Go.Proofs.YtlglkiknpbfnmaaDoor
open Go.RowKit
set_option linter.unusedVariables false

namespace M
theorem seen_twice (i : Nat) : ∀ (c : List (Nat × List UInt8)) (b : List UInt8), seen i (seen i b c) c = seen i b c
  | [], _ => rfl
  | x :: c, b => by
    rw [seen, seen]
    by_cases h : x.1 = i
    · rw [if_pos h, if_pos h]
    · rw [if_neg h, if_neg h]
      exact seen_twice i c b

theorem laid_twice (s : List (List UInt8)) (c : List (Nat × List UInt8)) : laid (laid s c) c = laid s c := by
  apply List.ext_getElem
  · rw [laid_len]
  · intro i h1 h2
    have hi : i < s.length := by rwa [laid_len] at h2
    have e1 := laid_get i c (laid s c) (by rw [laid_len]; exact hi)
    have e2 := laid_get i c s hi
    rw [e2, seen_twice, ← e2, List.getD_eq_getElem?_getD, List.getD_eq_getElem?_getD, List.getElem?_eq_getElem h1, List.getElem?_eq_getElem h2] at e1
    exact e1

theorem done_laid (l : CL) : ∀ L : List (List UInt8), done L l = laid L (l.map fun c => (c.1.toNat, c.2)) := by
  induction l with
  | nil => intro L; rfl
  | cons y l ih => intro L; exact ih _

theorem done_twice (L : List (List UInt8)) (l : CL) : done (done L l) l = done L l := by rw [done_laid, done_laid, laid_twice]

theorem May.append {n : Nat} {l k : CL} (h : May n l) (h' : May n k) (hl : l.length + k.length ≤ 40) : May n (l ++ k) :=
  ⟨by rw [List.length_append]; exact hl, fun c hc => by rcases List.mem_append.1 hc with hc | hc; exact h.2 c hc; exact h'.2 c hc⟩
end M

theorem Blk.all {w : World} {g : Nat} {t : TypeId} {cs : List Value} (h : Blk w g t cs) : w.rangeAt g 0 cs := h.range 0 cs [] (by simp)

section
variable {Ld : World → Prop} {Wl : World → Nat → Nat → Prop} {O : M.Dsk → M.Dsk × Int} {C : M.Dsk → M.CL → M.Dsk × Int} {Clean : List (List UInt8) → Prop} {Rec : List (List UInt8) → List (List UInt8)}

/-- A commit that fits, on a settled journal whose power isn't armed. -/
theorem WalMath.done0 (X : WalMath O C Clean Rec) {s : List (List UInt8)} {l : M.CL} (hok : (M.lit s 0).Ok) (h42 : 42 < s.length) (hc : Clean s) (hm : M.May (s.length - 42) l) :
    ∃ s', C (M.lit s 0) l = (M.lit s' 0, 0) ∧ s'.length = s.length ∧ s'.drop 42 = M.done (s.drop 42) l ∧ Clean s' := by
  rcases X.commits s 0 l hok h42 hc hm with ⟨h0, s2, k2, e1, hk, e2, e3, e4⟩ | ⟨_, hne, _⟩
  · obtain rfl : k2 = 0 := by omega
    exact ⟨s2, Prod.ext e1 h0, e2, e3, e4⟩
  · exact absurd rfl hne

set_option maxRecDepth 100000 in
set_option maxHeartbeats 16000000 in
theorem wtwice_walk (W : WalCalls Ld Wl O C) (X : WalMath O C Clean Rec) (w : World) (hL : Ld w) (cs : List Value) (a : M.Tx) (ha : TxCells w cs a) (ds : List Value) (b : M.Tx) (hb : TxCells w ds b) :
    Calls Tryd.prog 6 #[.agg cs.toArray, .agg ds.toArray] w fun e w' => e = .returned (.bool true) ∧ Below w.heap.size w w' := by
  obtain ⟨ao, ac, an, a1, a2, a3, a4, a5, a6, a7, a8, a9, ax, ay, rfl, hAN⟩ : ∃ ao ac n yo yc yn f ko kc kn g jo jc jn, cs = [.slice ao n ac, .slice yo yn yc, .int .i64 f, .slice ko kn kc, .int .i64 g, .slice jo jn jc] ∧ n = a.blocks.length := by
    obtain ⟨bo, bc, yo, yc, ko, kc, jo, jc, rfl, _⟩ := ha
    exact ⟨_, _, _, _, _, _, _, _, _, _, _, _, _, _, rfl, rfl⟩
  obtain ⟨bo, bc, bn, b1, b2, b3, b4, b5, b6, b7, b8, b9, bx, by_, rfl, hBN⟩ : ∃ ao ac n yo yc yn f ko kc kn g jo jc jn, ds = [.slice ao n ac, .slice yo yn yc, .int .i64 f, .slice ko kn kc, .int .i64 g, .slice jo jn jc] ∧ n = b.blocks.length := by
    obtain ⟨bo, bc, yo, yc, ko, kc, jo, jc, rfl, _⟩ := hb
    exact ⟨_, _, _, _, _, _, _, _, _, _, _, _, _, _, rfl, rfl⟩
  obtain ⟨W1, hW1⟩ : ∃ x, Hid (x = w.alloc (.cells #[.slice ao an ac, .slice a1 a3 a2, .int .i64 a4, .slice a5 a7 a6, .int .i64 a8, .slice a9 ay ax] 37)) := ⟨_, rfl⟩
  obtain ⟨g1, hg1⟩ : ∃ g, Hid (g = w.heap.size) := ⟨_, rfl⟩
  have k01 : Below w.heap.size w W1 := by rw [hW1.out]; exact (Below.refl _ _).alloc (Nat.le_refl _) _
  have BA1 : Blk W1 g1 37 [.slice ao an ac, .slice a1 a3 a2, .int .i64 a4, .slice a5 a7 a6, .int .i64 a8, .slice a9 ay ax] := by rw [hW1.out]; exact Blk.newAt _ _ _ _ _ hg1.out rfl
  obtain ⟨W2, hW2⟩ : ∃ x, Hid (x = W1.alloc (.cells #[.slice bo bn bc, .slice b1 b3 b2, .int .i64 b4, .slice b5 b7 b6, .int .i64 b8, .slice b9 by_ bx] 37)) := ⟨_, rfl⟩
  obtain ⟨g2, hg2⟩ : ∃ g, Hid (g = g1 + 1) := ⟨_, rfl⟩
  have hg2' : g2 = W1.heap.size := by rw [hg2.out, hg1.out, hW1.out]; simp
  have k12 : Below W1.heap.size W1 W2 := by rw [hW2.out]; exact (Below.refl _ _).alloc (Nat.le_refl _) _
  have BB : Hid (Blk W2 g2 37 [.slice bo bn bc, .slice b1 b3 b2, .int .i64 b4, .slice b5 b7 b6, .int .i64 b8, .slice b9 by_ bx]) := by rw [hW2.out]; exact Blk.newAt _ _ _ _ _ hg2' rfl
  have BA := Lib.hid (BA1.below k12 BA1.lt)
  have K02 : Hid (Below w.heap.size w W2) := k01.trans (k12.mono k01.size)
  have HA : Hid (TxCells W2 _ a) := ha.below K02.out
  have HB : Hid (TxCells W2 _ b) := hb.below K02.out
  have HL : Hid (Ld W2) := W.ld hL K02.out
  have HAN := Lib.hid hAN
  have HBN := Lib.hid hBN
  clear ha hb hL k01 k12 BA1 hAN hBN hg2'
  go_enter Tryd.func6, Tryd.ntmps6
  go_upto_region 1 with fail
  rw [← hg1.out, ← hW1.out, ← hW2.out, ← hg2.out]
  clear hg1 hg2 hW1 hW2
  go_wp2_with fail
  refine (awake10_any W X W2 HL.out).mono ?_
  rintro e w1 ⟨rfl, k1⟩
  have K1 := Lib.hid k1
  have cA : w1.cell? ⟨g1, 0, none⟩ = some (.slice ao an ac) := (BA.out.below k1 BA.out.lt).cell 0
  have cB : w1.cell? ⟨g2, 0, none⟩ = some (.slice bo bn bc) := (BB.out.below k1 BB.out.lt).cell 0
  clear k1
  by_cases hA : an ≤ 60
  · have tA : ¬ (60 : Int) < (an : Int) := by omega
    by_cases hB : bn ≤ 60
    · have tB : ¬ (60 : Int) < (bn : Int) := by omega
      have R1 := Lib.hid (BA.out.below K1.out BA.out.lt).all
      have XA := Lib.hid (changes10_any _ a w1 (HA.out.below K1.out) (by rw [← HAN.out]; exact hA))
      go_wp2_with (refine wpList_load_mid rfl 37 (.tmp 2) rfl g1 0 rfl _ _ R1.out Tryd.underlying37 rfl (by kernel_rfl) ?_)
      refine XA.out.mono ?_
      rintro e w2 ⟨lv, xs, rfl, ol, k2⟩
      have OL := Lib.hid ol
      have NL := Lib.hid ol.nil0
      have K2 : Hid (Below W2.heap.size W2 w2) := K1.out.trans (k2.mono K1.out.size)
      have R2 := Lib.hid (BB.out.below K2.out BB.out.lt).all
      have XB := Lib.hid (changes10_any _ b w2 (HB.out.below K2.out) (by rw [← HBN.out]; exact hB))
      clear hA hB ol k2 XA K1 R1 cA cB
      go_wp2_with (refine wpList_load_mid rfl 37 (.tmp 3) rfl g2 0 rfl _ _ R2.out Tryd.underlying37 rfl (by kernel_rfl) ?_)
      refine XB.out.mono ?_
      rintro e w3 ⟨kv, ys, rfl, ok, k3⟩
      have OK := Lib.hid ok
      have NK := Lib.hid ok.nil0
      have OL3 := Lib.hid (OL.out.below k3)
      have K3 : Hid (Below W2.heap.size W2 w3) := K2.out.trans (k3.mono K2.out.size)
      obtain ⟨l, hl⟩ : ∃ l, Hid (l = a.changes) := ⟨_, rfl⟩
      obtain ⟨k, hk⟩ : ∃ l, Hid (l = b.changes) := ⟨_, rfl⟩
      rw [← hl.out] at OL3
      rw [← hk.out] at OK
      have hll : l.length ≤ 60 := by rw [hl.out, M.Tx.changes, List.length_map, List.length_range, ← HAN.out]; omega
      have hkl : k.length ≤ 60 := by rw [hk.out, M.Tx.changes, List.length_map, List.length_range, ← HBN.out]; omega
      have HLL := Lib.hid hll
      have HKL := Lib.hid hkl
      clear ok k3 XB K2 R2 OL hl hk hll hkl BA BB HA HB HAN HBN tA tB
      go_wp2_with fail
      refine (st_new (w0 := W2) (K := fun x => IsCL x lv l xs ∧ IsCL x kv k ys) 50 (by decide) K3.out (fun x c => ⟨(OL3.out.below c).isCL, (OK.out.below c).isCL⟩)).mono ?_
      rintro e w4 ⟨g, rfl, s4⟩
      obtain ⟨S, hS⟩ : ∃ S, S = List.replicate 50 M.zero256 := ⟨_, rfl⟩
      have SL : Hid (S.length = 50) := by rw [Hid, hS]; exact List.length_replicate
      have e4 : M.dnew (Int.toNat 50) = M.lit S 0 := by rw [hS]; exact M.dnew_lit 50 (by decide)
      rw [e4] at s4
      have S4 := Lib.hid s4
      have E4 := Lib.hid e4
      clear s4 e4 hS OL3 OK K3
      go_wp2_with fail
      refine (open_new W X HL.out S4.out (by rw [SL.out]; decide)).mono ?_
      rintro e w5 ⟨gw, s1, rfl, s5, l1, r1, c1⟩
      have S5 := Lib.hid s5
      have L1 := Lib.hid l1
      have D1 := Lib.hid r1
      have C1 := Lib.hid c1
      clear s5 l1 r1 c1 S4
      go_wp2_with fail
      refine (st2_new S5.out 50 (by decide)).mono ?_
      rintro e w6 ⟨h, rfl, s6⟩
      rw [E4.out] at s6
      have S6 := Lib.hid s6.swap
      clear s6 S5
      go_wp2_with fail
      refine (St2.open_new W X HL.out S6.out (by rw [SL.out]; decide)).mono ?_
      rintro e w7 ⟨gv, s2, rfl, s7, l2, r2, c2⟩
      have S7 : Hid (St2 W2 w7 g (M.lit s1 0) h (M.lit s2 0) (fun x => (IsCL x lv l xs ∧ IsCL x kv k ys) ∧ Wl x gw g ∧ Wl x gv h)) := s7.swap.mono fun x hx => ⟨hx.1.1, hx.1.2, hx.2⟩
      have L2 := Lib.hid l2
      have D2 : Hid (s2.drop 42 = s1.drop 42) := r2.trans D1.out.symm
      have C2 := Lib.hid c2
      have LS1 : Hid (s1.length = 50) := L1.out.trans SL.out
      have LS2 : Hid (s2.length = 50) := L2.out.trans SL.out
      have RL := Lib.hid (rmay_any 8 (by decide) lv l xs w7 S7.out.first.now.1.1)
      have RK := Lib.hid (rmay_any 8 (by decide) kv k ys w7 S7.out.first.now.1.2)
      have n0 : (((8 : Nat) : Int)) = 8 := rfl
      rw [n0] at RL RK
      obtain ⟨la, lc, elv⟩ := S7.out.first.now.1.1.shape
      obtain ⟨ka, kc, ekv⟩ := S7.out.first.now.1.2.shape
      obtain ⟨ln, hln⟩ : ∃ n, n = l.length := ⟨_, rfl⟩
      obtain ⟨kn, hkn⟩ : ∃ n, n = k.length := ⟨_, rfl⟩
      rw [← hln] at elv HLL
      rw [← hkn] at ekv HKL
      subst elv ekv
      have HLN := Lib.hid hln
      have HKN := Lib.hid hkn
      clear s7 l2 r2 c2 S6 L1 L2 D1 SL E4 n0 hln hkn
      by_cases hml : M.May 8 l
      · rw [decide_eq_true hml] at RL
        by_cases hmk : M.May 8 k
        · rw [decide_eq_true hmk] at RK
          have w1 : wrap64 ((ln : Int) + (kn : Int)) = ((ln + kn : Nat) : Int) := by have := HLL.out; have := HKL.out; unfold wrap64; omega
          by_cases hlk : ln + kn ≤ 40
          · have t1 : ¬ (40 : Int) < ((ln + kn : Nat) : Int) := by clear w1; omega
            have HML := Lib.hid hml
            have HMK := Lib.hid hmk
            have HLK := Lib.hid hlk
            obtain ⟨t1', z1, z2, z3, z4⟩ := X.done0 S7.out.first.okay (by rw [LS1.out]; decide) C1.out (l := l) (by rw [LS1.out]; exact hml)
            have Z1 := Lib.hid z1
            have Z2 : Hid (t1'.length = 50) := z2.trans LS1.out
            have Z3 := Lib.hid z3
            have Z4 := Lib.hid z4
            have CM1 := Lib.hid (S7.out.commit W HL.out (fun x h => h.2.1) (by show 42 < s1.length; rw [LS1.out]; decide) (by show 0 < 100000; decide) _ l xs (fun x h => h.1.1) (by show M.May (s1.length - 42) l; rw [LS1.out]; exact hml))
            rw [Z1.out] at CM1
            clear hml hmk hlk z1 z2 z3 z4 Z1
            go_wp2_with fail
            refine RL.out.mono ?_
            rintro e w8 ⟨rfl, rfl⟩
            go_wp2_with fail
            refine RK.out.mono ?_
            rintro e w9 ⟨rfl, rfl⟩
            clear RL RK
            go_wp2_with fail
            refine CM1.out.mono ?_
            rintro e w10 ⟨rfl, s10⟩
            have S10 := Lib.hid s10
            obtain ⟨t2', z1, z2, z3, z4⟩ := X.done0 s10.first.okay (by rw [Z2.out]; decide) Z4.out (l := l) (by rw [Z2.out]; exact HML.out)
            have Y1 := Lib.hid z1
            have Y2 : Hid (t2'.length = 50) := z2.trans Z2.out
            have Y3 : Hid (t2'.drop 42 = M.done (s1.drop 42) l) := by rw [Hid, z3, Z3.out, M.done_twice]
            have Y4 := Lib.hid z4
            have CM2 := Lib.hid (s10.commit W HL.out (fun x h => h.2.1) (by show 42 < t1'.length; rw [Z2.out]; decide) (by show 0 < 100000; decide) (.slice la ln lc) l xs (fun x h => h.1.1) (by show M.May (t1'.length - 42) l; rw [Z2.out]; exact HML.out))
            rw [Y1.out] at CM2
            clear s10 z1 z2 z3 z4 CM1 S7 Y1 Z4 Z3
            go_wp2_with fail
            refine CM2.out.mono ?_
            rintro e w11 ⟨rfl, s11⟩
            have S11 := Lib.hid s11
            obtain ⟨t3', z1, z2, z3, z4⟩ := X.done0 s11.first.okay (by rw [Y2.out]; decide) Y4.out (l := k) (by rw [Y2.out]; exact HMK.out)
            have Q1 := Lib.hid z1
            have Q2 : Hid (t3'.length = 50) := z2.trans Y2.out
            have Q3 : Hid (t3'.drop 42 = M.done (s1.drop 42) (l ++ k)) := by rw [Hid, z3, Y3.out, M.done_append]
            have CM3 := Lib.hid (s11.commit W HL.out (fun x h => h.2.1) (by show 42 < t2'.length; rw [Y2.out]; decide) (by show 0 < 100000; decide) (.slice ka kn kc) k ys (fun x h => h.1.2) (by show M.May (t2'.length - 42) k; rw [Y2.out]; exact HMK.out))
            rw [Q1.out] at CM3
            clear s11 z1 z2 z3 z4 CM2 S10 Q1 Y3 Y4 Z2
            go_wp2_with fail
            refine CM3.out.mono ?_
            rintro e w12 ⟨rfl, s12⟩
            have S12 := Lib.hid s12
            clear s12 CM3 S11 Y2
            have k13 : Below w12.heap.size w12 (w12.alloc (.cells #[] 56)) := (Below.refl _ _).alloc (Nat.le_refl _) _
            have s13 := S12.out.below k13
            have R13 : Hid ((w12.alloc (.cells #[] 56)).ownsRow w12.heap.size 56 2 (.slice (some ⟨w12.heap.size, 0, none⟩) 0 0) ([] : M.CL).length (chcs [] [])) :=
              ⟨rfl, .inr ⟨w12.heap.size, 0, #[], rfl, Nat.le_refl _, Blk.newAt w12 _ #[] _ [] rfl rfl, Nat.le_refl _, Nat.zero_le _, rfl, rfl⟩⟩
            have I13 := Lib.hid s13.first.now.1.1
            have K13 := Lib.hid k13
            clear k13 s13
            go_wp2_with (at_builtin; go_must (refine wpList_unguard rfl (wpList_app_cl _ rfl _ _ rfl w12.heap.size _ [] [] rfl R13.out rfl _ l xs rfl I13.out NL.out ?e1 K13.out.size ?_)))
            case e1 => have := HLL.out; simp only [List.length_nil]; rw [← HLN.out]; omega
            intro v14 w14 o14 g14 a14
            have K14 : Hid (Below w12.heap.size w12 w14) := K13.out.grown g14 K13.out.size fun j hj => by
              simp only [Value.ownBlock] at hj
              have : j = w12.heap.size := by simpa using hj.symm
              omega
            have O14 := Lib.hid o14
            have I14 := Lib.hid ((S12.out.below K14.out).first.now.1.2)
            have X14 := Lib.hid ((S12.out.below K14.out).first.now.1.1)
            have HXS : Hid (xs.length = l.length) := by obtain ⟨_, _, _, _, _, hh, _⟩ := X14.out; exact hh
            clear o14 g14 a14 R13 I13 K13
            go_wp2_with (at_builtin; go_must (refine wpList_unguard rfl (wpList_app_cl _ rfl _ _ rfl w12.heap.size _ l xs rfl O14.out HXS.out _ k ys rfl I14.out NK.out ?e2 K14.out.size ?_)))
            case e2 => have := HLL.out; have := HKL.out; rw [← HLN.out, ← HKN.out]; omega
            intro v15 w15 o15 g15 a15
            rw [← List.length_append] at o15
            have k15 : Below w12.heap.size w12 w15 := K14.out.grown g15 K14.out.size fun j hj => (O14.out.lt j hj).1
            have s15 := S12.out.gain k15 ((cl_joined (lv := .slice la ln lc) (kv := .slice ka kn kc) (l := l) (k := k) (Nat.le_refl _) o15).mono (J := fun x => (IsCL x (.slice la ln lc) l xs ∧ IsCL x (.slice ka kn kc) k ys) ∧ Wl x gw g ∧ Wl x gv h) (fun x hx => hx.1) (fun x hx => hx))
            have S15 := Lib.hid s15.swap
            obtain ⟨t4', z1, z2, z3, z4⟩ := X.done0 s15.swap.first.okay (by rw [LS2.out]; decide) C2.out (l := l ++ k) (by rw [LS2.out]; exact HML.out.append HMK.out (by rw [← HLN.out, ← HKN.out]; exact HLK.out))
            have P1 := Lib.hid z1
            have P2 : Hid (t4'.length = 50) := z2.trans LS2.out
            have P3 : Hid (t4'.drop 42 = M.done (s1.drop 42) (l ++ k)) := by rw [Hid, z3, D2.out]
            have CM4 := Lib.hid (s15.swap.commit W HL.out (fun x h => h.1.2.2) (by show 42 < s2.length; rw [LS2.out]; decide) (by show 0 < 100000; decide) v15 (l ++ k) (xs ++ ys) (fun x h => h.2) (by show M.May (s2.length - 42) _; rw [LS2.out]; exact HML.out.append HMK.out (by rw [← HLN.out, ← HKN.out]; exact HLK.out)))
            rw [P1.out] at CM4
            clear s15 z1 z2 z3 z4 k15 o15 g15 a15 S12 O14 I14 X14 HXS K14 P1
            go_wp2_with fail
            refine CM4.out.mono ?_
            rintro e w16 ⟨rfl, s16⟩
            have S16 : Hid (St2 W2 w16 g (M.lit t3' 0) h (M.lit t4' 0) (fun x => Wl x gw g ∧ Wl x gv h)) := s16.swap.mono fun x hx => hx.1.2
            have SE1 := Lib.hid (seen10_any W S16.out.first (fun x h => h.1) (by show 42 < t3'.length; rw [Q2.out]; decide) (by show 0 < 1000000; decide))
            rw [M.shows_lit, Q3.out] at SE1
            obtain ⟨D, hD⟩ : ∃ D, D = M.done (s1.drop 42) (l ++ k) := ⟨_, rfl⟩
            rw [← hD] at SE1 P3
            clear s16 CM4 S15 w1 hD Q3 t1
            go_wp2_with fail
            refine SE1.out.mono ?_
            rintro e w17 ⟨v17, r17, rfl, o17, k17⟩
            have S17 := Lib.hid (S16.out.gain k17 (o17.gains (K := fun x => Wl x gw g ∧ Wl x gv h)))
            have SE2 := Lib.hid (seen10_any W S17.out.swap.first (fun x h => h.1.2) (by show 42 < t4'.length; rw [P2.out]; decide) (by show 0 < 1000000; decide))
            rw [M.shows_lit, P3.out] at SE2
            clear o17 k17 SE1 S16 P3
            go_wp2_with fail
            refine SE2.out.mono ?_
            rintro e w18 ⟨v18, r18, rfl, o18, k18⟩
            have S18 := Lib.hid (S17.out.below k18)
            have SM := Lib.hid (rsame10_any v17 v18 D D r17 r18 w18 S18.out.first.now.2 o18.isLL)
            rw [decide_eq_true rfl] at SM
            clear o18 k18 SE2 S17
            go_wp2_with fail
            refine SM.out.mono ?_
            rintro e w19 ⟨rfl, k19⟩
            have K19 := (S18.out.below k19).first.under
            clear k19 SM S18
            go_wp2
            go_ret
            exact ⟨rfl, K02.out.trans (K19.mono K02.out.size)⟩
          · have t1 : (40 : Int) < ((ln + kn : Nat) : Int) := by clear w1; omega
            clear hml hmk hlk
            go_wp2_with fail
            refine RL.out.mono ?_
            rintro e w8 ⟨rfl, rfl⟩
            go_wp2_with fail
            refine RK.out.mono ?_
            rintro e w9 ⟨rfl, rfl⟩
            go_wp2
            go_ret
            exact ⟨rfl, K02.out.trans (S7.out.first.under.mono K02.out.size)⟩
        · rw [decide_eq_false hmk] at RK
          clear hml hmk
          go_wp2_with fail
          refine RL.out.mono ?_
          rintro e w8 ⟨rfl, rfl⟩
          go_wp2_with fail
          refine RK.out.mono ?_
          rintro e w9 ⟨rfl, rfl⟩
          go_wp2
          go_ret
          exact ⟨rfl, K02.out.trans (S7.out.first.under.mono K02.out.size)⟩
      · rw [decide_eq_false hml] at RL
        clear hml
        go_wp2_with fail
        refine RL.out.mono ?_
        rintro e w8 ⟨rfl, rfl⟩
        go_wp2
        go_ret
        exact ⟨rfl, K02.out.trans (S7.out.first.under.mono K02.out.size)⟩
    · have tB : (60 : Int) < (bn : Int) := by omega
      clear hA hB
      go_wp2
      go_ret
      exact ⟨rfl, K02.out.trans (K1.out.mono K02.out.size)⟩
  · have tA : (60 : Int) < (an : Int) := by omega
    clear hA
    go_wp2
    go_ret
    exact ⟨rfl, K02.out.trans (K1.out.mono K02.out.size)⟩

end

end Go.Proofs.YtlglkiknpbfnmaaDoor
