/-
  THE WALK OF orloplaw01.WordGets: it returns true, and writes nothing that was there. Conditions: none.
-/
import Derived.Test.YtcablmipgckfnaaAwake
import Derived.Test.YtcablmipgckfnaaRefA
namespace Go.Proofs.Ytcablmipgckfnaa
open Go.RowKit

theorem wordGets_walk (w : World) (v : Value) (bs : List UInt8) (h : IsB w v bs) :
    Calls Try.prog 4 #[v] w fun e w' => e = .returned (.bool true) ∧ Below w.heap.size w w' := by
  obtain ⟨a4, ha4⟩ : ∃ a, M.gl bs 4 = a := ⟨_, rfl⟩
  obtain ⟨a8, ha8⟩ : ∃ a, M.gl bs 8 = a := ⟨_, rfl⟩
  obtain ⟨b4, hb4⟩ : ∃ a, M.gb bs 4 = a := ⟨_, rfl⟩
  obtain ⟨b8, hb8⟩ : ∃ a, M.gb bs 8 = a := ⟨_, rfl⟩
  have la : a4 ≤ 4294967295 := by have := M.gl_lt bs 4; omega
  have lb : b4 ≤ 4294967295 := by have := M.gb_lt bs 4; omega
  have A4 : Hid (M.gl bs 4 = a4) := ha4
  have A8 : Hid (M.gl bs 8 = a8) := ha8
  have B4 : Hid (M.gb bs 4 = b4) := hb4
  have B8 : Hid (M.gb bs 8 = b8) := hb8
  clear ha4 ha8 hb4 hb8
  go_enter Try.func4, Try.ntmps4
  -- BEGIN WALK
  go_wp2_with fail
  refine (awake_any _).mono ?_
  rintro e w1 ⟨rfl, k⟩
  have h := h.below k
  go_wp2_with fail
  refine (get32_any _ _ _ h).mono ?_
  rintro e w2 ⟨rfl, rfl⟩
  rw [A4.out]
  go_wp2_with fail
  refine (rget_any _ _ 4 _ (by omega) h).mono ?_
  rintro e w2 ⟨rfl, rfl⟩
  rw [A4.out]
  go_wp2_with fail
  refine (get64_any _ _ _ h).mono ?_
  rintro e w2 ⟨rfl, rfl⟩
  rw [A8.out]
  go_wp2_with fail
  refine (rget_any _ _ 8 _ (by omega) h).mono ?_
  rintro e w2 ⟨rfl, rfl⟩
  rw [A8.out]
  go_wp2_with fail
  refine (getBig32_any _ _ _ h).mono ?_
  rintro e w2 ⟨rfl, rfl⟩
  rw [B4.out]
  go_wp2_with fail
  refine (rgetBig_any _ _ 4 _ (by omega) h).mono ?_
  rintro e w2 ⟨rfl, rfl⟩
  rw [B4.out]
  go_wp2_with fail
  refine (getBig64_any _ _ _ h).mono ?_
  rintro e w2 ⟨rfl, rfl⟩
  rw [B8.out]
  go_wp2_with fail
  refine (rgetBig_any _ _ 8 _ (by omega) h).mono ?_
  rintro e w2 ⟨rfl, rfl⟩
  rw [B8.out]
  go_wp2
  go_ret
  exact ⟨rfl, k⟩
  -- END WALK

end Go.Proofs.Ytcablmipgckfnaa
