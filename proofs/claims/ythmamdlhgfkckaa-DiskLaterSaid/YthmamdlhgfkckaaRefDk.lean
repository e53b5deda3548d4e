/-
  THE REFERENCE'S DISK AS ONE THING (RefDk: what lies where is hidden), and its calls as one contract each, every case in it. Conditions: each contract's.
-/
import Derived.Test.YthmamdlhgfkckaaRefDiskL
import Derived.Test.YthmamdlhgfkckaaRefDiskR
import Derived.Test.YthmamdlhgfkckaaRefDiskT
import Derived.Test.YthmamdlhgfkckaaRefDiskC
namespace Go.Proofs.Ythmamdlhgfkckaa
open Go.RowKit
set_option linter.unusedVariables false

namespace M
/-- A Write: what is behind it, and its answer. -/
def Dsk.doWrite (m : Dsk) (i : Int) (b : List UInt8) : Dsk × Int :=
  if 0 ≤ i ∧ i < m.safe.length ∧ b.length = 256 then
    if m.down = true then (m, 11) else (m.write i.toNat b, if (({ m with wait := m.wait ++ [(i.toNat, b)] } : Dsk).goes).2 then 11 else 0)
  else (m, 1)
/-- A Sync: what is behind it, and its answer. -/
def Dsk.doSync (m : Dsk) : Dsk × Int :=
  if m.down = true then (m, 11) else if m.goes.2 = true then (m.goes.1, 11) else (m.goes.1.synced, 0)
/-- What a Read hands back: bytes, and its answer. -/
def Dsk.doRead (m : Dsk) (i : Int) : List UInt8 × Int := if 0 ≤ i ∧ i < m.safe.length then (m.read i.toNat, 0) else ([], 1)
end M

/-- The reference's disk of the state m lies in the blocks T, its struct in block g. -/
def RefDk (T : Nat → Prop) (w : World) (g : Nat) (m : M.Dsk) : Prop := ∃ sv wv rows dvs, RefAt T w g sv wv rows dvs m

theorem RefDk.chg {T F : Nat → Prop} {w w' : World} {g : Nat} {m : M.Dsk} (h : RefDk T w g m) (k : Chg F w w') (hF : ∀ b, T b → ¬ F b) : RefDk T w' g m := by
  obtain ⟨sv, wv, rows, dvs, r⟩ := h
  exact ⟨sv, wv, rows, dvs, r.chg k hF⟩

theorem RefDk.there {T : Nat → Prop} {w : World} {g : Nat} {m : M.Dsk} (h : RefDk T w g m) : ∀ k, T k → k < w.heap.size := by
  obtain ⟨sv, wv, rows, dvs, r⟩ := h
  exact r.there

theorem RefDk.ok {T : Nat → Prop} {w : World} {g : Nat} {m : M.Dsk} (h : RefDk T w g m) : m.Ok := by
  obtain ⟨sv, wv, rows, dvs, r⟩ := h
  exact r.ok

theorem refDk_write {T : Nat → Prop} {w : World} {g : Nat} {m : M.Dsk} (h : RefDk T w g m) (i : Int) (bv : Value) (bs : List UInt8) (hb : IsB w bv bs) (hl : bs ≠ [] → Lies (fun b => ¬ T b) bv) (hfew : m.wait.length < 1000000) :
    Calls Try.prog 14 #[.pointer (some ⟨g, 0, none⟩), .int .i64 i, bv] w fun e w' =>
      e = .returned (.int .i64 (m.doWrite i bs).2) ∧ Chg T w w' ∧ ∃ T', RefDk T' w' g (m.doWrite i bs).1 ∧ ∀ k, T' k → T k ∨ w.heap.size ≤ k := by
  obtain ⟨sv, wv, rows, dvs, r⟩ := h
  by_cases hok : 0 ≤ i ∧ i < m.safe.length ∧ bs.length = 256
  · obtain ⟨j, rfl⟩ := Int.eq_ofNat_of_zero_le hok.1
    have hj : j < m.safe.length := by have := hok.2.1; omega
    by_cases hd : m.down = true
    · refine (rwrite_down r j hj bv bs hb hok.2.2 hd).mono ?_
      rintro e w' ⟨rfl, rfl⟩
      rw [M.Dsk.doWrite, if_pos hok, if_pos hd]
      exact ⟨rfl, Chg.refl _ _, T, ⟨sv, wv, rows, dvs, r⟩, fun k hk => .inl hk⟩
    · have hd' : m.down = false := by simpa using hd
      refine (rwrite_ok r j hj bv bs hb hok.2.2 (hl (by intro e; rw [e] at hok; simp at hok)) hd' hfew).mono ?_
      rintro e w' ⟨rfl, k, wv', dvs', T', r', ht⟩
      rw [M.Dsk.doWrite, if_pos hok, if_neg hd, Int.toNat_natCast]
      exact ⟨rfl, k, T', ⟨sv, wv', rows, dvs', r'⟩, ht⟩
  · refine (rwrite_no r i bv bs hb hok).mono ?_
    rintro e w' ⟨rfl, rfl⟩
    rw [M.Dsk.doWrite, if_neg hok]
    exact ⟨rfl, Chg.refl _ _, T, ⟨sv, wv, rows, dvs, r⟩, fun k hk => .inl hk⟩

theorem refDk_sync {T : Nat → Prop} {w : World} {g : Nat} {m : M.Dsk} (h : RefDk T w g m) :
    Calls Try.prog 16 #[.pointer (some ⟨g, 0, none⟩)] w fun e w' => e = .returned (.int .i64 m.doSync.2) ∧ Chg T w w' ∧ RefDk T w' g m.doSync.1 := by
  obtain ⟨sv, wv, rows, dvs, r⟩ := h
  by_cases hd : m.down = true
  · refine (rsync_down r hd).mono ?_
    rintro e w' ⟨rfl, rfl⟩
    rw [M.Dsk.doSync, if_pos hd]
    exact ⟨rfl, Chg.refl _ _, sv, wv, rows, dvs, r⟩
  · have hd' : m.down = false := by simpa using hd
    by_cases hg : m.goes.2 = true
    · refine (rsync_goes r hd' hg).mono ?_
      rintro e w' ⟨rfl, k, r'⟩
      rw [M.Dsk.doSync, if_neg hd, if_pos hg]
      exact ⟨rfl, k, sv, wv, rows, dvs, r'⟩
    · refine (rsync_ok r hd' (by simpa using hg)).mono ?_
      rintro e w' ⟨rfl, k, rows', r'⟩
      rw [M.Dsk.doSync, if_neg hd, if_neg hg]
      exact ⟨rfl, k, sv, _, rows', _, r'⟩

theorem refDk_arm {T : Nat → Prop} {w : World} {g : Nat} {m : M.Dsk} (h : RefDk T w g m) (n : Int) (hn : -9223372036854775808 ≤ n ∧ n < 9223372036854775808) :
    Calls Try.prog 18 #[.pointer (some ⟨g, 0, none⟩), .int .i64 n] w fun e w' => e = .returned (.tuple #[]) ∧ Chg T w w' ∧ RefDk T w' g (m.arm n) := by
  obtain ⟨sv, wv, rows, dvs, r⟩ := h
  refine (rarm_any r n hn).mono ?_
  rintro e w' ⟨rfl, r', k⟩
  exact ⟨rfl, k, sv, wv, rows, dvs, r'⟩

theorem refDk_crash {T : Nat → Prop} {w : World} {g : Nat} {m : M.Dsk} (h : RefDk T w g m) (kv : Value) (kp : List Bool) (hk : IsZ w kv kp) (hl : kp ≠ [] → Lies (fun b => ¬ T b) kv) :
    Calls Try.prog 20 #[.pointer (some ⟨g, 0, none⟩), kv] w fun e w' => e = .returned (.tuple #[]) ∧ Chg T w w' ∧ RefDk T w' g (m.crash kp) := by
  obtain ⟨sv, wv, rows, dvs, r⟩ := h
  refine (rcrash_any r kv kp hk hl).mono ?_
  rintro e w' ⟨rfl, k, rows', r'⟩
  exact ⟨rfl, k, sv, _, rows', _, r'⟩

theorem refDk_tamper {T : Nat → Prop} {w : World} {g : Nat} {m : M.Dsk} (h : RefDk T w g m) (at_ : Int) (hat : -9223372036854775808 ≤ at_ ∧ at_ < 9223372036854775808) (bv : Value) (bs : List UInt8) (hb : IsB w bv bs) (hl : bs ≠ [] → Lies (fun b => ¬ T b) bv) (hlen : bs.length < 1099511627776) :
    Calls Try.prog 22 #[.pointer (some ⟨g, 0, none⟩), .int .i64 at_, bv] w fun e w' => e = .returned (.tuple #[]) ∧ Chg T w w' ∧ ∃ T', RefDk T' w' g (m.tamper at_ bs) ∧ ∀ k, T' k → T k ∨ w.heap.size ≤ k := by
  obtain ⟨sv, wv, rows, dvs, r⟩ := h
  refine (rtamper_any r at_ hat bv bs hb hl hlen).mono ?_
  rintro e w' ⟨rfl, k, rows', T', r', ht⟩
  exact ⟨rfl, k, T', ⟨sv, wv, rows', dvs, r'⟩, ht⟩

theorem refDk_load {bv : Value} {bs : List UInt8} {w : World} (hb : IsB w bv bs) (h256 : bs.length % 256 = 0) (hmax : bs.length ≤ 557056) :
    Calls Try.prog 11 #[bv] w fun e w' => ∃ g T, e = .returned (.tuple #[.pointer (some ⟨g, 0, none⟩), .int .i64 0]) ∧ RefDk T w' g (M.dload bs) ∧ (∀ k, T k → w.heap.size ≤ k) ∧ Below w.heap.size w w' := by
  refine (rload_ok bv bs w hb h256 hmax).mono ?_
  rintro e w' ⟨g, sv, rows, T, rfl, r, ht, k⟩
  exact ⟨g, T, rfl, ⟨sv, _, rows, _, r⟩, ht, k⟩

theorem refDk_read {T : Nat → Prop} {w : World} {g : Nat} {m : M.Dsk} (h : RefDk T w g m) (i : Int) :
    Calls Try.prog 29 #[.pointer (some ⟨g, 0, none⟩), .int .i64 i] w fun e w' => ∃ r, e = .returned (.tuple #[r, .int .i64 (m.doRead i).2]) ∧ IsB w' r (m.doRead i).1 ∧ Below w.heap.size w w' := by
  obtain ⟨sv, wv, rows, dvs, r⟩ := h
  by_cases hok : 0 ≤ i ∧ i < m.safe.length
  · obtain ⟨j, rfl⟩ := Int.eq_ofNat_of_zero_le hok.1
    refine (rread_ok r j (by have := hok.2; omega)).mono ?_
    rintro e w' ⟨v, rfl, o, k⟩
    rw [M.Dsk.doRead, if_pos hok, Int.toNat_natCast]
    exact ⟨v, rfl, o.isB, k⟩
  · refine (rread_no r i hok).mono ?_
    rintro e w' ⟨rfl, rfl⟩
    rw [M.Dsk.doRead, if_neg hok]
    exact ⟨_, rfl, IsB.nil _, Below.refl _ _⟩

theorem refDk_no {bv : Value} {bs : List UInt8} {w : World} (hb : IsB w bv bs) (hno : ¬ (bs.length % 256 = 0 ∧ bs.length ≤ 557056)) :
    Calls Try.prog 11 #[bv] w fun e w' => e = .returned (.tuple #[.pointer none, .int .i64 1]) ∧ w' = w := rload_no bv bs w hb hno

/-- What a law reads of the struct itself. -/
theorem RefDk.cells {T : Nat → Prop} {w : World} {g : Nat} {m : M.Dsk} (h : RefDk T w g m) :
    ∃ sa sc wa wc, w.cell? ⟨g, 0, none⟩ = some (.slice sa m.safe.length sc) ∧ w.cell? ⟨g, 1, none⟩ = some (.slice wa m.wait.length wc) ∧ w.cell? ⟨g, 3, none⟩ = some (.bool m.down) := by
  obtain ⟨sv, wv, rows, dvs, r⟩ := h
  have c0 : w.cell? ⟨g, 0, none⟩ = some sv := r.blk.cell 0
  have c1 : w.cell? ⟨g, 1, none⟩ = some wv := r.blk.cell 1
  have c3 : w.cell? ⟨g, 3, none⟩ = some (.bool m.down) := r.blk.cell 3
  obtain ⟨sa, sc, es⟩ := ownShape r.srow
  obtain ⟨wa, wc, ew⟩ := ownShape r.wrow
  rw [es] at c0
  rw [ew] at c1
  exact ⟨sa, sc, wa, wc, c0, c1, c3⟩

theorem refDk_image {T : Nat → Prop} {w : World} {g : Nat} {m : M.Dsk} (h : RefDk T w g m) : Calls Try.prog 38 #[.pointer (some ⟨g, 0, none⟩)] w (Makes w m.image) := by
  obtain ⟨sv, wv, rows, dvs, r⟩ := h
  exact rimage_any r

theorem refDk_same {T : Nat → Prop} {w : World} {g : Nat} {m : M.Dsk} (h : RefDk T w g m) (av : Value) (a : List UInt8) (ha : IsB w av a) :
    Calls Try.prog 25 #[av, .pointer (some ⟨g, 0, none⟩)] w fun e w' => e = .returned (.bool (decide (a = m.image))) ∧ Below w.heap.size w w' := by
  obtain ⟨sv, wv, rows, dvs, r⟩ := h
  exact rsame_any r av a ha

end Go.Proofs.Ythmamdlhgfkckaa
