/-
  THE WALK OF orloplaw02.ShaEnds: it returns true, and writes nothing that was there. Conditions: the program's two tables lie as they were laid.
-/
import Derived.Test.YtaageadgkncjjaaDoorLawDigestsWalk
namespace Go.Proofs.YtaageadgkncjjaaDoor
open Go.RowKit
set_option linter.unusedVariables false

theorem shaEnds_walk (w : World) (hL : Laid w) (x : Nat) (hx : x < 256) (n : Nat) (hn : n < 256) :
    Calls Tryd.prog 5 #[.int .u8 x, .int .u8 n] w fun e w' => e = .returned (.bool true) ∧ Below w.heap.size w w' := by
  have HL : Hid (Laid w) := hL
  clear hL
  obtain ⟨u, hu⟩ : ∃ u : UInt8, u.toNat = x := ⟨UInt8.ofNat x, by simp; omega⟩
  have HU : Hid (u.toNat = x) := hu
  clear hu
  go_enter Tryd.func5, Tryd.ntmps5
  go_wp2_with fail
  refine (shaAwake_any w HL.out).mono ?_
  rintro e w1 ⟨rfl, k1⟩
  go_wp2_with (refine wpList_make_cap _ rfl (.tmp 10) (.tmp 10) rfl .i64 .i64 _ _ n n rfl rfl rfl rfl (by omega) (by omega) ?_)
  intro w2 o2 b2
  have k2 : Below w.heap.size w w2 := k1.trans (b2.mono k1.size)
  have hs : w.heap.size ≤ w1.heap.size := k1.size
  have O2 : Hid (w2.ownsRow w1.heap.size 5 1 (.slice (some ⟨w1.heap.size, 0, none⟩) n n) n (Lib.byteCells (List.replicate 0 u) ++ List.replicate (n - 0) (.int .u8 0))) := by
    have e : Lib.byteCells (List.replicate 0 u) ++ List.replicate (n - 0) (Value.int .u8 0) = Lib.byteCells (List.replicate n 0) := by simp [Lib.byteCells]
    have h := o2
    rw [Own, List.length_replicate] at h
    rw [Hid, e]
    exact h
  clear o2 b2 k1
  go_wp2
  go_loopw [6] (fun i wr => ∃ k : Nat, k ≤ n ∧ i = .int .i64 k ∧ Hid (wr.ownsRow w1.heap.size 5 1 (.slice (some ⟨w1.heap.size, 0, none⟩) n n) n (Lib.byteCells (List.replicate k u) ++ List.replicate (n - k) (.int .u8 0))) ∧ Below w.heap.size w wr)
    (fun i _ => n - (intOf i).toNat)
  case atStart => exact ⟨0, Nat.zero_le _, rfl, O2, k2⟩
  case round =>
    clear O2 k2
    obtain ⟨wz, rfl⟩ : ∃ y, y = wr := ⟨_, rfl⟩
    obtain ⟨k, hk, rfl, hown, kk⟩ := hrel
    by_cases hlt : k < n
    · have hc : wz.cell? ⟨w1.heap.size, k, none⟩ = some (.int .u8 0) := by
        rw [hown.out.cellAt k (by omega), List.getElem?_append_right (by simp [byteCells_length]), byteCells_length, List.length_replicate, Nat.sub_self, List.getElem?_replicate, if_pos (by omega)]
      have hf : wz.frozen? ⟨w1.heap.size, k, none⟩ = false := hown.out.frozenAt k
      go_wp2
      go_roundw
      case rel =>
        refine ⟨k + 1, by omega, by go_num, ?_, kk.setCell hs _⟩
        have h := (hown.out.stored k (Value.int .u8 (x : Int))).1
        rw [set_next _ _ _ k (n - k) (by simp [byteCells_length]) (by omega), ← HU.out] at h
        rw [Hid, List.replicate_succ', byteCells_append, Nat.sub_add_eq, ← HU.out]
        exact h
      case measure => simp [intOf]; omega
    · obtain rfl : k = n := by omega
      have o3 : Own wz w1.heap.size (.slice (some ⟨w1.heap.size, 0, none⟩) k k) (List.replicate k u) := by
        have h := hown.out
        rw [Nat.sub_self, List.replicate_zero, List.append_nil] at h
        rw [Own, List.length_replicate]
        exact h
      obtain ⟨bs, hbs⟩ : ∃ bs, bs = List.replicate k u := ⟨_, rfl⟩
      have hbl : bs.length ≤ 255 := by rw [hbs, List.length_replicate]; omega
      rw [← hbs] at o3
      have O3 : Hid (Own wz w1.heap.size (.slice (some ⟨w1.heap.size, 0, none⟩) k k) bs) := o3
      clear o3 hbs hown
      go_wp2_with fail
      refine (of_any _ bs wz (HL.out.below kk HL.out.size) O3.out.isB (by omega)).mono ?_
      rintro e w4 ⟨r4, rfl, o4, k4⟩
      have O3' : Hid (Own w4 w1.heap.size (.slice (some ⟨w1.heap.size, 0, none⟩) k k) bs) := O3.out.below k4
      have O4 : Hid (Own w4 wz.heap.size r4 (M.sha bs)) := o4
      have kk4 : Below w.heap.size w w4 := kk.trans (k4.mono kk.size)
      clear o4 k4 kk O3
      go_wp2_with fail
      refine (rof_any _ bs w4 O3'.out.isB O3'.out.nil0 (by omega)).mono ?_
      rintro e w5 ⟨r5, rfl, o5, k5⟩
      have O4' : Hid (Own w5 wz.heap.size r4 (M.sha bs)) := O4.out.below k5
      have O5 : Hid (Own w5 w4.heap.size r5 (M.sha bs)) := o5
      have kk5 : Below w.heap.size w w5 := kk4.trans (k5.mono kk4.size)
      clear o5 k5 kk4 O4
      go_wp2_with fail
      refine (requal_yes _ _ (M.sha bs) w5 O4'.out.isB O5.out.isB).mono ?_
      rintro e w6 ⟨rfl, k6⟩
      have kk6 : Below w.heap.size w w6 := kk5.trans (k6.mono kk5.size)
      clear k6 kk5
      go_wp2
      go_ret
      exact ⟨rfl, kk6⟩

end Go.Proofs.YtaageadgkncjjaaDoor
