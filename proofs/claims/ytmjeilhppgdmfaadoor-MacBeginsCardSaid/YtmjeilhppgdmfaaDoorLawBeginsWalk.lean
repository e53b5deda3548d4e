/-
  THE WALK OF orloplaw03.MacBegins: it returns true, and writes nothing that was there. Conditions: the program's two tables of layer 2 lie as they were laid.
-/
import Derived.Test.YtmjeilhppgdmfaaDoorMacAwake
namespace Go.Proofs.YtmjeilhppgdmfaaDoor
open Go.RowKit
set_option linter.unusedVariables false

set_option maxHeartbeats 1000000 in
theorem macBegins_walk (w : World) (hL : Laid w) (v1 : Value) (xs : List UInt8) (h1 : IsB w v1 xs) (v2 : Value) (ys : List UInt8) (h2 : IsB w v2 ys) (n0 n1 : Nat) (u0 : n0 < 65536) (u1 : n1 < 65536) :
    Calls Tryd.prog 5 #[v1, v2, .agg #[.int .u16 n0, .int .u16 n1]] w fun e w' => e = .returned (.bool true) ∧ Below w.heap.size w w' := by
  obtain ⟨ao1, cap1, rfl⟩ := h1.shape
  obtain ⟨ao2, cap2, rfl⟩ := h2.shape
  have hl1 : xs.length ≤ maxLen := by obtain ⟨_, _, _, h1, h2, _⟩ := h1; omega
  have hl2 : ys.length ≤ maxLen := by obtain ⟨_, _, _, h1, h2, _⟩ := h2; omega
  unfold maxLen at hl1 hl2
  have H1 := Lib.hid h1
  have H2 := Lib.hid h2
  have HL := Lib.hid hL
  clear h1 h2 hL
  have kB : Below w.heap.size w (w.alloc (.cells #[.int .u16 n0, .int .u16 n1] 34)) := (Below.refl _ _).alloc (Nat.le_refl _) _
  have KB := Lib.hid kB
  clear kB
  by_cases hb : 500 < xs.length
  · go_enter Tryd.func5, Tryd.ntmps5
    go_wp2_with fail
    refine (macAwake_any _ (HL.out.below KB.out HL.out.size)).mono ?_
    rintro e w1 ⟨rfl, k⟩
    go_wp2
    go_ret
    exact ⟨rfl, KB.out.trans (k.mono KB.out.size)⟩
  · by_cases hb2 : 500 < ys.length
    · go_enter Tryd.func5, Tryd.ntmps5
      go_wp2_with fail
      refine (macAwake_any _ (HL.out.below KB.out HL.out.size)).mono ?_
      rintro e w1 ⟨rfl, k⟩
      go_wp2
      go_ret
      exact ⟨rfl, KB.out.trans (k.mono KB.out.size)⟩
    · have hx : xs.length ≤ 500 := by omega
      have hy : ys.length ≤ 500 := by omega
      go_enter Tryd.func5, Tryd.ntmps5
      go_wp2_with fail
      refine (macAwake_any _ (HL.out.below KB.out HL.out.size)).mono ?_
      rintro e w1 ⟨rfl, b1⟩
      have k1 : Below w.heap.size w w1 := KB.out.trans (b1.mono KB.out.size)
      have c0 : w1.cell? ⟨w.heap.size, 0, none⟩ = some (.int .u16 (n0 : Int)) := by
        rw [b1.cell (by show w.heap.size < _; simp), (Blk.newAt w _ _ w.heap.size _ rfl rfl).cell]
        rfl
      have c1 : w1.cell? ⟨w.heap.size, 1, none⟩ = some (.int .u16 (n1 : Int)) := by
        rw [b1.cell (by show w.heap.size < _; simp), (Blk.newAt w _ _ w.heap.size _ rfl rfl).cell]
        rfl
      obtain ⟨a, ha⟩ : ∃ a : Nat, (n0 : Int) % 400 = (a : Int) := ⟨n0 % 400, by omega⟩
      have ha4 : a < 400 := by omega
      obtain ⟨c, hc⟩ : ∃ c : Nat, (401 : Int) - (a : Int) = (c : Int) := ⟨401 - a, by omega⟩
      have hc1 : 0 < c := by omega
      have hcne : ¬ (c : Int) = 0 := by omega
      obtain ⟨d, hd⟩ : ∃ d : Nat, (n1 : Int) % (c : Int) = (d : Int) := ⟨n1 % c, by simp⟩
      have hdc : d < c := by
        have : n1 % c < c := Nat.mod_lt _ hc1
        have e : ((n1 % c : Nat) : Int) = (d : Int) := by rw [← hd]; simp
        omega
      have hdt : (n1 : Int).tmod (c : Int) = (d : Int) := by rw [Int.tmod_eq_emod_of_nonneg (by omega), hd]
      obtain ⟨b, hbb⟩ : ∃ b : Nat, (a : Int) + (d : Int) = (b : Int) := ⟨a + d, by omega⟩
      have hb4 : b ≤ 400 := by omega
      have hab : a ≤ b := by omega
      clear b1
      go_wp2_with fail
      refine (expand_any _ _ xs ys a w1 (HL.out.below k1 HL.out.size) (H1.out.below k1) (H2.out.below k1) (by omega) (by omega) (by omega)).mono ?_
      rintro e w2 ⟨r2, rfl, o2, b2⟩
      have k2 : Below w.heap.size w w2 := k1.trans (b2.mono k1.size)
      obtain ⟨ao3, c3, rfl⟩ := o2.shape'
      rw [M.expd_length] at o2 ⊢
      have O2 := Lib.hid o2
      clear o2 b2 k1 c0 c1
      go_wp2_with fail
      refine (expand_any _ _ xs ys b w2 (HL.out.below k2 HL.out.size) (H1.out.below k2) (H2.out.below k2) (by omega) (by omega) (by omega)).mono ?_
      rintro e w3 ⟨r3, rfl, o3, b3⟩
      have k3 : Below w.heap.size w w3 := k2.trans (b3.mono k2.size)
      obtain ⟨ao4, c4, rfl⟩ := o3.shape'
      rw [M.expd_length] at o3 ⊢
      have hc4 : b ≤ c4 := by
        obtain ⟨_, _, e, h1, _⟩ := o3.isB
        injection e with _ e1 e
        omega
      have hac4 : (a : Int) ≤ (c4 : Int) := by omega
      have I3 : Hid (IsB w3 (.slice ao4 a c4) (M.expd (M.block xs) ys a)) := by
        have := o3.isB.take a hab
        rwa [M.expd_take _ _ _ _ hab] at this
      have O2' := Lib.hid (O2.out.below b3).isB
      clear o3 b3 k2 O2 hc4
      go_wp2_with fail
      refine (requal_yes _ _ (M.expd (M.block xs) ys a) w3 I3.out O2'.out).mono ?_
      rintro e w4 ⟨rfl, b4⟩
      have k4 : Below w.heap.size w w4 := k3.trans (b4.mono k3.size)
      go_wp2
      go_ret
      exact ⟨rfl, k4⟩

end Go.Proofs.YtmjeilhppgdmfaaDoor
