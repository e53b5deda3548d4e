/-
  THE WALK OF orloplaw04.ChachaBlocks: it returns true, and writes nothing that was there. Conditions: the program's table of places lies as it was laid.
-/
import Derived.Test.YtaechnhnhfgloaaDoorChaRef
import Derived.Test.YtaechnhnhfgloaaDoorChaAsk
namespace Go.Proofs.YtaechnhnhfgloaaDoor
open Go.RowKit
set_option linter.unusedVariables false

theorem chachaBlocks_walk (w : World) (hL : LaidP w) (v1 : Value) (key : List UInt8) (h1 : IsB w v1 key) (v2 : Value) (nonce : List UInt8) (h2 : IsB w v2 nonce) (n : Nat) (hn : n < 4294967296) :
    Calls Tryd.prog 3 #[v1, v2, .int .u32 n] w fun e w' => e = .returned (.bool true) ∧ Below w.heap.size w w' := by
  obtain ⟨c, rfl⟩ : ∃ c : UInt32, n = c.toNat := ⟨UInt32.ofNat n, by rw [UInt32.toNat_ofNat', Nat.mod_eq_of_lt hn]⟩
  have H1 := Lib.hid h1
  have H2 := Lib.hid h2
  have HL := Lib.hid hL
  obtain ⟨a1, c1, rfl, _, _, _⟩ := h1
  obtain ⟨a2, c2, rfl, _, _, _⟩ := h2
  clear hL hn
  obtain ⟨L1, hL1⟩ : ∃ L, L = key.length := ⟨_, rfl⟩
  obtain ⟨L2, hL2⟩ : ∃ L, L = nonce.length := ⟨_, rfl⟩
  have E1 := Lib.hid hL1
  have E2 := Lib.hid hL2
  rw [← hL1] at H1 ⊢
  rw [← hL2] at H2 ⊢
  clear hL1 hL2
  by_cases hy : L1 = 32 ∧ L2 = 12
  · obtain ⟨rfl, rfl⟩ := hy
    go_enter Tryd.func3, Tryd.ntmps3
    go_wp2_with fail
    refine (chaAwake_any w HL.out).mono ?_
    rintro e w1 ⟨rfl, k1⟩
    go_wp2_with fail
    refine (block_any _ _ key nonce c w1 (HL.out.below k1 HL.out.size) (H1.out.below k1) (H2.out.below k1) E1.out.symm E2.out.symm).mono ?_
    rintro e w2 ⟨g, rfl, hg, hB, b2⟩
    have k2 : Below w.heap.size w w2 := k1.trans (b2.mono k1.size)
    have HB := Lib.hid hB
    clear hB b2 k1
    go_wp2_with fail
    refine (rblock_any _ _ key nonce c w2 (H1.out.below k2) (H2.out.below k2) E1.out.symm E2.out.symm).mono ?_
    rintro e w3 ⟨r3, rfl, o3, b3⟩
    have k3 : Below w.heap.size w w3 := k2.trans (b3.mono k2.size)
    have O3 := Lib.hid o3
    have HB' := Lib.hid (HB.out.below b3)
    clear o3 b3 k2 HB
    go_wp2_with fail
    refine (chaEqual_yes _ _ (M.cblk key nonce c) w3 HB'.out O3.out.isB).mono ?_
    rintro e w4 ⟨rfl, b4⟩
    have k4 : Below w.heap.size w w4 := k3.trans (b4.mono k3.size)
    go_wp2
    go_ret
    exact ⟨rfl, k4⟩
  · have HNO : Hid (¬ (key.length = 32 ∧ nonce.length = 12)) := by rw [Hid, ← E1.out, ← E2.out]; exact hy
    by_cases h32 : L1 = 32
    · have h12 : ((L2 : Int) != 12) = true := by simp; omega
      subst h32
      go_enter Tryd.func3, Tryd.ntmps3
      go_wp2_with fail
      refine (chaAwake_any w HL.out).mono ?_
      rintro e w1 ⟨rfl, k1⟩
      go_wp2_with fail
      refine (block_no _ _ key nonce c w1 (H1.out.below k1) (H2.out.below k1) HNO.out).mono ?_
      rintro e w2 ⟨rfl, rfl⟩
      go_wp2
      go_ret
      exact ⟨rfl, k1⟩
    · have h12 : ((L1 : Int) != 32) = true := by simp; omega
      clear hy
      go_enter Tryd.func3, Tryd.ntmps3
      go_wp2_with fail
      refine (chaAwake_any w HL.out).mono ?_
      rintro e w1 ⟨rfl, k1⟩
      go_wp2_with fail
      refine (block_no _ _ key nonce c w1 (H1.out.below k1) (H2.out.below k1) HNO.out).mono ?_
      rintro e w2 ⟨rfl, rfl⟩
      go_wp2
      go_ret
      exact ⟨rfl, k1⟩

end Go.Proofs.YtaechnhnhfgloaaDoor
