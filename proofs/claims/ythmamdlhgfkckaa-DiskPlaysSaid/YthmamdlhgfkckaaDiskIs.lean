/-
  PACKAGE disk OWES WHAT THE FACE SAYS (disk_ok). Conditions: none.
-/
import Derived.Test.YthmamdlhgfkckaaDiskSeen
namespace Go.Proofs.Ythmamdlhgfkckaa
open Go.RowKit
set_option linter.unusedVariables false

/-- The code's disk of the state m lies in the blocks T, its struct in block g. -/
def CodeDk (T : Nat → Prop) (w : World) (g : Nat) (m : M.Dsk) : Prop := ∃ sv wv dvs, DkAt T w g sv wv dvs m

theorem M.goes_wait (m : M.Dsk) : m.goes.1.wait = m.wait := by rw [M.Dsk.goes]; split; rfl; split <;> rfl

theorem disk_ok : DiskOk CodeDk where
  chg := fun ⟨sv, wv, dvs, h⟩ k hF => ⟨sv, wv, dvs, h.chg k hF⟩
  there := fun ⟨sv, wv, dvs, h⟩ => h.there
  ok := fun ⟨sv, wv, dvs, h⟩ => h.ok
  new_any := fun n hn w => (new9_any n hn w).mono fun e w' ⟨g, sv, T, he, h, ht, k⟩ => ⟨g, T, he, ⟨sv, _, _, h⟩, ht, k⟩
  load_ok := fun hb h1 h2 => (load9_ok _ _ _ hb h1 h2).mono fun e w' ⟨g, sv, T, he, h, ht, k⟩ => ⟨g, T, he, ⟨sv, _, _, h⟩, ht, k⟩
  load_no := fun hb hno => (load9_no _ _ _ hb hno).mono fun e w' ⟨he, hw⟩ => ⟨he, hw ▸ Below.refl _ _⟩
  write := by
    intro T w g m hD i bv bs hi hb hl hfew
    obtain ⟨sv, wv, dvs, h⟩ := hD
    by_cases hok : 0 ≤ i ∧ i < m.safe.length ∧ bs.length = 256
    · obtain ⟨j, rfl⟩ := Int.eq_ofNat_of_zero_le hok.1
      have hj : j < m.safe.length := by have := hok.2.1; omega
      by_cases hd : m.down = true
      · refine (write9_down h j hj bv bs hb hok.2.2 hd).mono ?_
        rintro e w' ⟨rfl, rfl⟩
        rw [M.Dsk.doWrite, if_pos hok, if_pos hd]
        exact ⟨rfl, Chg.refl _ _, T, ⟨sv, wv, dvs, h⟩, fun k hk => .inl hk⟩
      · have hd' : m.down = false := by simpa using hd
        refine (write9_ok h j hj bv bs hb hok.2.2 hd' hfew).mono ?_
        rintro e w' ⟨rfl, k, wv', dvs', T', r', ht⟩
        rw [M.Dsk.doWrite, if_pos hok, if_neg hd, Int.toNat_natCast]
        exact ⟨rfl, k, T', ⟨sv, wv', dvs', r'⟩, ht⟩
    · refine (write9_no h i bv bs hb hok).mono ?_
      rintro e w' ⟨rfl, rfl⟩
      rw [M.Dsk.doWrite, if_neg hok]
      exact ⟨rfl, Chg.refl _ _, T, ⟨sv, wv, dvs, h⟩, fun k hk => .inl hk⟩
  sync := by
    intro T w g m hD hfew
    obtain ⟨sv, wv, dvs, h⟩ := hD
    by_cases hd : m.down = true
    · refine (sync9_down h hd).mono ?_
      rintro e w' ⟨rfl, rfl⟩
      rw [M.Dsk.doSync, if_pos hd]
      exact ⟨rfl, Chg.refl _ _, T, ⟨sv, wv, dvs, h⟩, fun k hk => .inl hk⟩
    · have hd' : m.down = false := by simpa using hd
      by_cases hg : m.goes.2 = true
      · refine (sync9_goes h hd' hg).mono ?_
        rintro e w' ⟨rfl, k, r'⟩
        rw [M.Dsk.doSync, if_neg hd, if_pos hg]
        exact ⟨rfl, k, T, ⟨sv, wv, dvs, r'⟩, fun k hk => .inl hk⟩
      · refine (sync9_ok h hd' (by simpa using hg)).mono ?_
        rintro e w' ⟨rfl, k, r'⟩
        rw [M.Dsk.doSync, if_neg hd, if_neg hg]
        exact ⟨rfl, k, T, ⟨sv, _, _, r'⟩, fun k hk => .inl hk⟩
  arm := fun ⟨sv, wv, dvs, h⟩ n hn => (arm9_any h n hn).mono fun e w' ⟨he, r, k⟩ => ⟨he, k, _, ⟨sv, wv, dvs, r⟩, fun k hk => .inl hk⟩
  crash := fun ⟨sv, wv, dvs, h⟩ kv kp hk hl _ => (crash9_any h kv kp hk hl).mono fun e w' ⟨he, k, r⟩ => ⟨he, k, _, ⟨sv, _, _, r⟩, fun k hk => .inl hk⟩
  tamper := by
    intro T w g m hD at_ hat bv bs hb hl hlen
    obtain ⟨sv, wv, dvs, h⟩ := hD
    by_cases hin : at_ < 256 * (m.safe.length : Int) ∧ -(bs.length : Int) < at_
    · refine (tamper9_yes h at_ bv bs hb hlen hin).mono ?_
      rintro e w' ⟨rfl, k, r⟩
      exact ⟨rfl, k, T, ⟨sv, wv, dvs, r⟩, fun k hk => .inl hk⟩
    · refine (tamper9_no h at_ bv bs hb hlen (by omega)).mono ?_
      rintro e w' ⟨rfl, rfl, r⟩
      exact ⟨rfl, Chg.refl _ _, T, ⟨sv, wv, dvs, r⟩, fun k hk => .inl hk⟩
  read := by
    intro T w g m hD hfew i hi
    obtain ⟨sv, wv, dvs, h⟩ := hD
    by_cases hok : 0 ≤ i ∧ i < m.safe.length
    · obtain ⟨j, rfl⟩ := Int.eq_ofNat_of_zero_le hok.1
      refine (read9_ok h j (by have := hok.2; omega) hfew).mono ?_
      rintro e w' ⟨v, rfl, o, k⟩
      rw [M.Dsk.doRead, if_pos hok, Int.toNat_natCast]
      exact ⟨v, rfl, o.isB, fun ad n c ev => (o.block_lt ad.block (by rw [ev]; rfl)).1, o.nil0, k⟩
    · refine (read9_no h i hok).mono ?_
      rintro e w' ⟨rfl, rfl⟩
      rw [M.Dsk.doRead, if_neg hok]
      exact ⟨_, rfl, IsB.nil _, fun ad n c ev => (by cases ev), fun n c ev => (by cases ev; rfl), Below.refl _ _⟩
  image := fun ⟨sv, wv, dvs, h⟩ => image9_any h
  down := fun ⟨sv, wv, dvs, h⟩ => (down9_any h).mono fun e w' ⟨he, hw⟩ => ⟨he, hw ▸ Below.refl _ _⟩
  waiting := fun ⟨sv, wv, dvs, h⟩ => (waiting9_any h).mono fun e w' ⟨he, hw⟩ => ⟨he, hw ▸ Below.refl _ _⟩
  blocks := fun ⟨sv, wv, dvs, h⟩ => (blocks9_any h).mono fun e w' ⟨he, hw⟩ => ⟨he, hw ▸ Below.refl _ _⟩

end Go.Proofs.Ythmamdlhgfkckaa
