/-
  orloplaw01.awake RETURNS true (what the document fixes as examples). Conditions: none.
-/
import Derived.Test.YtcablmipgckfnaaHexA
import Derived.Test.YtcablmipgckfnaaWordB
namespace Go.Proofs.Ytcablmipgckfnaa
open Go.RowKit

theorem isB_two (w : World) (t : TypeId) (a b : UInt8) (x y : Int) (ha : x = a.toNat) (hb : y = b.toNat) : IsB (w.alloc (.cells #[.int .u8 x, .int .u8 y] t)) (.slice (some ⟨w.heap.size, 0, none⟩) 2 2) [a, b] := by
  subst ha hb
  refine ⟨_, 2, rfl, Nat.le_refl _, by unfold maxLen; omega, .inr ⟨w.heap.size, 0, rfl, fun i hi => ?_⟩⟩
  match i, hi with
  | 0, _ => simp
  | 1, _ => simp

theorem awake_any (w : World) :
    Calls Try.prog 8 #[] w fun e w' => e = .returned (.bool true) ∧ Below w.heap.size w w' := by
  have hu : M.unhex (ByteArray.mk #[48, 65, 70, 70]).data.toList = none := by decide
  have hg : M.gb [1, 2] 4 = 16908288 := by decide
  have hx : M.hex [10, 255] = [48, 97, 102, 102] := by decide
  have HU : Hid (M.unhex (ByteArray.mk #[48, 65, 70, 70]).data.toList = none) := hu
  have HG : Hid (M.gb [1, 2] 4 = 16908288) := hg
  have HX : Hid (M.hex [10, 255] = [48, 97, 102, 102]) := hx
  clear hu hg hx
  go_enter Try.func8, Try.ntmps8
  go_wp2_with fail
  refine (unhex_any ⟨#[48, 65, 70, 70]⟩ _ (by decide)).mono ?_
  rintro e w1 ⟨r, rfl, _, hb1⟩
  rw [HU.out]
  simp only [Option.isSome]
  go_wp2_with fail
  refine (getBig32_any _ [1, 2] _ (isB_two w1 5 1 2 1 2 rfl rfl)).mono ?_
  rintro e w2 ⟨rfl, rfl⟩
  rw [HG.out]
  go_wp2_with fail
  have h2 : IsB ((w1.alloc (.cells #[.int .u8 1, .int .u8 2] 5)).alloc (.cells #[.int .u8 10, .int .u8 255] 5)) (.slice (some ⟨w1.heap.size + 1, 0, none⟩) 2 2) [10, 255] := by
    have := isB_two (w1.alloc (.cells #[.int .u8 1, .int .u8 2] 5)) 5 10 255 10 255 rfl rfl
    simpa using this
  refine (hex_any _ [10, 255] _ h2 (by decide)).mono ?_
  rintro e w2 ⟨rfl, hb2⟩
  rw [HX.out]
  go_wp2
  go_ret
  refine ⟨rfl, hb1.trans ?_⟩
  have hs := hb1.size
  exact (((Below.refl _ _).alloc hs _).alloc (by simp; omega) _).trans (hb2.mono (by simp; omega))

end Go.Proofs.Ytcablmipgckfnaa
