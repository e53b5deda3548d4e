/-
  CONTRACTS OF THE REFERENCE'S DISK: what Write and Sync refuse; Image, Same. Conditions: the disk lies so.
-/
import Derived.Test.YthmamdlhgfkckaaRefDiskY
import Derived.Test.YthmamdlhgfkckaaRefA
namespace Go.Proofs.Ythmamdlhgfkckaa
open Go.RowKit
set_option linter.unusedVariables false

set_option maxHeartbeats 2000000 in
theorem rsync_down {T : Nat → Prop} {w : World} {g : Nat} {sv wv : Value} {rows dvs : List Value} {m : M.Dsk} (h : RefAt T w g sv wv rows dvs m) (hd : m.down = true) :
    Calls Try.prog 16 #[.pointer (some ⟨g, 0, none⟩)] w fun e w' => e = .returned (.int .i64 11) ∧ w' = w := by
  have c3 : w.cell? ⟨g, 3, none⟩ = some (.bool true) := by rw [← hd]; exact h.blk.cell 3
  clear h hd
  go_enter Try.func16, Try.ntmps16
  go_wp2
  go_ret
  exact ⟨rfl, rfl⟩

set_option maxHeartbeats 2000000 in
theorem rsync_goes {T : Nat → Prop} {w : World} {g : Nat} {sv wv : Value} {rows dvs : List Value} {m : M.Dsk} (h : RefAt T w g sv wv rows dvs m) (hd : m.down = false) (hg : m.goes.2 = true) :
    Calls Try.prog 16 #[.pointer (some ⟨g, 0, none⟩)] w fun e w' => e = .returned (.int .i64 11) ∧ Chg T w w' ∧ RefAt T w' g sv wv rows dvs m.goes.1 := by
  have c3 : w.cell? ⟨g, 3, none⟩ = some (.bool false) := by rw [← hd]; exact h.blk.cell 3
  have G := Lib.hid (rgoes_any h)
  have TG := Lib.hid h.tg
  rw [hg] at G
  clear h hd hg
  go_enter Try.func16, Try.ntmps16
  go_wp2_with fail
  refine G.out.mono ?_
  rintro e w1 ⟨rfl, r1, k1⟩
  have R1 := Lib.hid r1
  have K1 : Hid (Chg T w w1) := k1.one TG.out
  clear r1 k1 G c3
  go_wp2
  go_ret
  exact ⟨rfl, K1.out, R1.out⟩

set_option maxHeartbeats 2000000 in
theorem rwrite_down {T : Nat → Prop} {w : World} {g : Nat} {sv wv : Value} {rows dvs : List Value} {m : M.Dsk} (h : RefAt T w g sv wv rows dvs m) (i : Nat) (hi : i < m.safe.length) (bv : Value) (bs : List UInt8) (hbv : IsB w bv bs) (hl : bs.length = 256) (hd : m.down = true) :
    Calls Try.prog 14 #[.pointer (some ⟨g, 0, none⟩), .int .i64 (i : Int), bv] w fun e w' => e = .returned (.int .i64 11) ∧ w' = w := by
  have c0 : w.cell? ⟨g, 0, none⟩ = some sv := h.blk.cell 0
  have c3 : w.cell? ⟨g, 3, none⟩ = some (.bool true) := by rw [← hd]; exact h.blk.cell 3
  obtain ⟨n, hn⟩ : ∃ n, n = m.safe.length := ⟨_, rfl⟩
  obtain ⟨sa, sc, es⟩ := ownShape h.srow
  obtain ⟨ba, bc, eb⟩ := hbv.shape
  rw [← hn] at es hi
  rw [hl] at eb
  subst es eb
  have t1 : ¬ (i : Int) < 0 := by omega
  have t2 : ¬ ((n : Int) ≤ (i : Int)) := by omega
  clear h hbv hl hd hn hi
  go_enter Try.func14, Try.ntmps14
  go_wp2
  go_ret
  exact ⟨rfl, rfl⟩

set_option maxHeartbeats 2000000 in
theorem rwrite_no {T : Nat → Prop} {w : World} {g : Nat} {sv wv : Value} {rows dvs : List Value} {m : M.Dsk} (h : RefAt T w g sv wv rows dvs m) (i : Int) (bv : Value) (bs : List UInt8) (hbv : IsB w bv bs) (hno : ¬ (0 ≤ i ∧ i < m.safe.length ∧ bs.length = 256)) :
    Calls Try.prog 14 #[.pointer (some ⟨g, 0, none⟩), .int .i64 i, bv] w fun e w' => e = .returned (.int .i64 1) ∧ w' = w := by
  have c0 : w.cell? ⟨g, 0, none⟩ = some sv := h.blk.cell 0
  obtain ⟨n, hn⟩ : ∃ n, n = m.safe.length := ⟨_, rfl⟩
  obtain ⟨l, hl⟩ : ∃ l, l = bs.length := ⟨_, rfl⟩
  obtain ⟨sa, sc, es⟩ := ownShape h.srow
  obtain ⟨ba, bc, eb⟩ := hbv.shape
  rw [← hn] at es hno
  rw [← hl] at eb hno
  subst es eb
  clear h hbv hl hn
  by_cases h1 : i < 0
  · clear hno
    go_enter Try.func14, Try.ntmps14
    go_wp2
    go_ret
    exact ⟨rfl, rfl⟩
  · by_cases h2 : (n : Int) ≤ i
    · clear hno
      go_enter Try.func14, Try.ntmps14
      go_wp2
      go_ret
      exact ⟨rfl, rfl⟩
    · have h3 : ¬ (l : Int) = 256 := by omega
      have h4 : ((l : Int) == 256) = false := by simpa using h3
      have h5 : ((l : Int) != 256) = true := by simpa using h3
      clear hno
      go_enter Try.func14, Try.ntmps14
      go_wp2
      go_ret
      exact ⟨rfl, rfl⟩

end Go.Proofs.Ythmamdlhgfkckaa
