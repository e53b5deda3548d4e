/-
  'string(b)' OF BYTES. Conditions: none.
  THE PROGRAM'S READER: blanks, took, must, take, over what of the text hasn't been read. Conditions: texts of up to 2^40 bytes.
-/
import Derived.Test.YtbgadfaiehkanaaGreatDoorPj2
import Derived.Laws.BytesArg
import Derived.Test.YtbgadfaiehkanaaGreatDoorPj1
import Derived.Test.YtbgadfaiehkanaaGreatDoorPj3
import Derived.WalkSpells
import Derived.Lib.Hide
import Derived.Lib.Strings
import Derived.Deep.Cut
import Derived.WalkLawsBesides

namespace Go.Proofs.YtbgadfaiehkanaaGreatDoor
open Go.RowKit
set_option linter.unusedVariables false

/-- The number of an integer, for a measure. -/
def natOf : Value → Nat
  | .int _ n => n.toNat
  | _ => 0

theorem str_of (bs : List UInt8) : strOfNums (bs.map fun c => (c.toNat : Int)) = ⟨bs.toArray⟩ := by
  rw [strOfNums]
  congr 2
  rw [List.map_map]
  conv => rhs; rw [← List.map_id bs]
  apply List.map_congr_left
  intro c _
  simp

theorem str_run {w : World} {v : Value} {bs : List UInt8} (h : IsB w v bs) (hn : bs ≠ []) : (convert 22 9 v).run Tryz.prog w = .ok (.string ⟨bs.toArray⟩) w := by
  obtain ⟨ao, cap, rfl, h1, h2, h3⟩ := h
  obtain ⟨b, off, rfl, hc⟩ := h3.resolve_left hn
  have := run_convert_bytes_arg (P := Tryz.prog) (w := w) 22 5 Tryz.underlying22 Tryz.underlying5 b off bs.length cap (bs.map fun c => (c.toNat : Int)) (by simp) (fun i hi => by
    rw [hc i hi]
    simp [List.getD_eq_getElem?_getD, hi]) 9 Tryz.underlying9
  rw [str_of] at this
  exact this

/-- 'string(b)'. -/
theorem str_any {w : World} {v : Value} {bs : List UInt8} (h : IsB w v bs) : (convert 22 9 v).run Tryz.prog w = .ok (.string ⟨bs.toArray⟩) w := by
  by_cases hn : bs = []
  · subst hn
    obtain ⟨ao, cap, rfl, h1, h2, h3⟩ := h
    rw [run_convert_bytes_string w 22 9 5 ao _ cap Tryz.underlying22 Tryz.underlying5 Tryz.underlying9]
    cases ao <;> simp [Conv.bytesToString, loadCells] <;> rfl
  · exact str_run h hn

/-- One byte, made. -/
theorem isB_one0 (w : World) (x : Int) (c : UInt8) (h : x = c.toNat) : IsB (w.alloc (.cells #[.int .u8 x] 5)) (.slice (some ⟨w.heap.size, 0, none⟩) 1 1) [c] := by
  subst h
  refine ⟨_, 1, rfl, Nat.le_refl _, by unfold maxLen; omega, .inr ⟨w.heap.size, 0, rfl, fun i hi => ?_⟩⟩
  match i, hi with
  | 0, _ => exact one_new w _ _ 0 _ rfl

theorem str_one (w : World) (x : Int) (c : UInt8) (h : x = c.toNat) : (convert 22 9 (.slice (some ⟨w.heap.size, 0, none⟩) 1 1)).run Tryz.prog (w.alloc (.cells #[.int .u8 x] 5)) = .ok (.string ⟨#[c]⟩) (w.alloc (.cells #[.int .u8 x] 5)) :=
  str_any (isB_one0 w x c h)

end Go.Proofs.YtbgadfaiehkanaaGreatDoor

namespace Go.Proofs.YtbgadfaiehkanaaGreatDoor
open Go.RowKit Go.Proofs Go.Shelf
set_option linter.unusedVariables false
set_option maxRecDepth 100000

theorem ascii_all {cs : List UInt8} (h : ∀ b ∈ cs, b.toNat < 128) : ∀ (j : Nat) b, (⟨cs.toArray⟩ : ByteArray).data.toList[j]? = some b → b.toNat < 128 := fun j b hb => h b (List.mem_of_getElem? hb)

/-- strings.TrimLeft, of some signs of ASCII. -/
theorem jtrim_any (s cs : List UInt8) (w : World) (hl : cs.length < 4294967281) (hcs : ∀ b ∈ cs, b.toNat < 128) :
    Calls Tryz.prog 127 #[.string ⟨s.toArray⟩, .string ⟨cs.toArray⟩] w fun e w' => e = .returned (.string ⟨(s.dropWhile (cs.contains ·)).toArray⟩) ∧ Below w.heap.size w w' :=
  Any.strings_TrimLeft_laid lay_lays161 (by kernel_rfl) ⟨s.toArray⟩ ⟨cs.toArray⟩ w hl (ascii_all hcs)

theorem ext_take (s : List UInt8) (n : Nat) : (⟨s.toArray⟩ : ByteArray).extract 0 n = ⟨(s.take n).toArray⟩ := by
  apply ByteArray.ext
  simp
theorem ext_drop (s : List UInt8) (n : Nat) : (⟨s.toArray⟩ : ByteArray).extract n s.length = ⟨(s.drop n).toArray⟩ := by
  apply ByteArray.ext
  simp [List.take_of_length_le]

set_option maxHeartbeats 2000000 in
theorem jcut_any (s t : List UInt8) (w : World) :
    Calls Tryz.prog 161 #[.string ⟨s.toArray⟩, .string ⟨t.toArray⟩] w fun e w' => e = .returned (.tuple #[.string ⟨(if t <+: s then s.drop t.length else s).toArray⟩, .bool (decide (t <+: s))]) ∧ w' = w := by
  obtain ⟨S, hS⟩ : ∃ S : ByteArray, S = ⟨s.toArray⟩ := ⟨_, rfl⟩
  obtain ⟨T, hT⟩ : ∃ T : ByteArray, T = ⟨t.toArray⟩ := ⟨_, rfl⟩
  have zS : S.size = s.length := by rw [hS]; rfl
  have zT : T.size = t.length := by rw [hT]; rfl
  have hx : S.extract 0 T.size = ⟨(s.take t.length).toArray⟩ := by rw [hS, zT, ext_take]
  have hy : S.extract T.size S.size = ⟨(s.drop t.length).toArray⟩ := by rw [zS, zT, hS, ext_drop]
  by_cases hp : t <+: s
  · rw [if_pos hp, decide_eq_true hp]
    have h1 : T.size ≤ S.size := by rw [zS, zT]; exact hp.length_le
    have h2 : ((S.extract 0 T.size).toList == T.toList) = true := by
      rw [hx, hT, ← List.prefix_iff_eq_take.1 hp]
      exact beq_self_eq_true _
    rw [← hy, ← hS, ← hT]
    clear hS hT zS zT hx hy hp
    go_enter Tryz.func161, Tryz.ntmps161
    go_wp2
    go_ret2
    exact ⟨rfl, rfl⟩
  · rw [if_neg hp, decide_eq_false hp]
    by_cases h1 : T.size ≤ S.size
    · have h2 : ((S.extract 0 T.size).toList == T.toList) = false := by
        rw [hx, hT]
        have : ¬ s.take t.length = t := fun e => hp (List.prefix_iff_eq_take.2 e.symm)
        rw [Lib.toList_data, Lib.toList_data]
        simpa using this
      rw [← hS, ← hT]
      clear hS hT zS zT hx hy hp
      go_enter Tryz.func161, Tryz.ntmps161
      go_wp2
      go_ret2
      exact ⟨rfl, rfl⟩
    · rw [← hS, ← hT]
      clear hS hT zS zT hx hy hp
      go_enter Tryz.func161, Tryz.ntmps161
      go_wp2
      go_ret2
      exact ⟨rfl, rfl⟩

/-- A reader in block g, before which the text s stands. -/
def Rd (w : World) (g : Nat) (s : List UInt8) : Prop := Blk w g 67 [.string ⟨s.toArray⟩]

theorem Rd.below {w w' : World} {g : Nat} {s : List UInt8} {B : Nat} (h : Rd w g s) (k : Below B w w') (hg : g < B) : Rd w' g s := Blk.below h k hg
theorem Rd.cell {w : World} {g : Nat} {s : List UInt8} (h : Rd w g s) : w.cell? ⟨g, 0, none⟩ = some (.string ⟨s.toArray⟩) := Blk.cell h 0
theorem Rd.frozen {w : World} {g : Nat} {s : List UInt8} (h : Rd w g s) : w.frozen? ⟨g, 0, none⟩ = false := Blk.frozen h 0
theorem Rd.put {w : World} {g : Nat} {s : List UInt8} (h : Rd w g s) (r : List UInt8) : Rd (w.setCell ⟨g, 0, none⟩ (.string ⟨r.toArray⟩)) g r := Blk.set_ h 0 _
theorem Rd.lt {w : World} {g : Nat} {s : List UInt8} (h : Rd w g s) : g < w.heap.size := Blk.lt h

/-- What a call of the reader's leaves: r, and nothing else has turned. -/
def Reads (w : World) (g : Nat) (r : List UInt8) (w' : World) : Prop := Rd w' g r ∧ Chg (fun b => b = g) w w'

/-- The reader's panic: malformed. -/
abbrev BadP : Ending := .panicked [{ v := .iface 69 (.agg #[]), recovered := false }]
abbrev DeepP : Ending := .panicked [{ v := .iface 65 (.agg #[]), recovered := false }]

theorem isBl_contains (s : List UInt8) : s.dropWhile ([9, 10, 13, 32].contains ·) = M.blk s := by
  unfold M.blk
  congr 1
  funext c
  unfold M.isBl
  simp [List.contains, List.elem]
  cases c == 9 <;> cases c == 10 <;> cases c == 13 <;> cases c == 32 <;> rfl

set_option maxHeartbeats 2000000 in
theorem blanks_any (g : Nat) (s : List UInt8) (w : World) (h : Rd w g s) :
    Calls Tryz.prog 88 #[.pointer (some ⟨g, 0, none⟩)] w fun e w' => e = .returned (.tuple #[]) ∧ Reads w g (M.blk s) w' := by
  have C := jtrim_any s [9, 10, 13, 32] w (by decide) (by decide)
  rw [isBl_contains] at C
  have HC := Lib.hid C
  have c0 := h.cell
  have HH := Lib.hid h
  clear C h
  go_enter Tryz.func88, Tryz.ntmps88
  go_wp2_with fail
  refine HC.out.mono ?_
  rintro e w1 ⟨rfl, k1⟩
  have h1 := HH.out.below k1 HH.out.lt
  have c1 := h1.cell
  have z1 := h1.frozen
  have H1 := Lib.hid h1
  have K1 := Lib.hid k1
  clear h1 k1
  go_wp2
  go_end0
  exact ⟨rfl, H1.out.put _, (Chg.of_below K1.out).cell 0 _⟩

set_option maxHeartbeats 2000000 in
/-- took: whether these signs come; they are read. -/
theorem took_any (g : Nat) (s t : List UInt8) (w : World) (h : Rd w g s) :
    Calls Tryz.prog 128 #[.pointer (some ⟨g, 0, none⟩), .string ⟨t.toArray⟩] w fun e w' => e = .returned (.bool (decide (t <+: s))) ∧ Reads w g (if t <+: s then s.drop t.length else s) w' := by
  have HC := Lib.hid (jcut_any s t w)
  have c0 := h.cell
  have z0 := h.frozen
  have HH := Lib.hid h
  clear h
  obtain ⟨r, hr⟩ : ∃ r, r = (if t <+: s then s.drop t.length else s) := ⟨_, rfl⟩
  obtain ⟨b, hb⟩ : ∃ b, b = decide (t <+: s) := ⟨_, rfl⟩
  rw [← hr, ← hb] at HC ⊢
  clear hr hb
  go_enter Tryz.func128, Tryz.ntmps128
  go_wp2_with fail
  refine HC.out.mono ?_
  rintro e w1 ⟨rfl, rfl⟩
  go_wp2
  go_ret
  exact ⟨rfl, HH.out.put _, (Chg.refl _ _).cell 0 _⟩

theorem took_yes (g : Nat) (t r : List UInt8) (w : World) (h : Rd w g (t ++ r)) :
    Calls Tryz.prog 128 #[.pointer (some ⟨g, 0, none⟩), .string ⟨t.toArray⟩] w fun e w' => e = .returned (.bool true) ∧ Reads w g r w' := by
  have := took_any g (t ++ r) t w h
  rw [if_pos ⟨r, rfl⟩, decide_eq_true ⟨r, rfl⟩, List.drop_left] at this
  exact this
theorem took_no (g : Nat) (s t : List UInt8) (w : World) (h : Rd w g s) (hn : ¬ t <+: s) :
    Calls Tryz.prog 128 #[.pointer (some ⟨g, 0, none⟩), .string ⟨t.toArray⟩] w fun e w' => e = .returned (.bool false) ∧ Reads w g s w' := by
  have := took_any g s t w h
  rw [if_neg hn, decide_eq_false hn] at this
  exact this

set_option maxHeartbeats 2000000 in
theorem must_yes (g : Nat) (t r : List UInt8) (w : World) (h : Rd w g (t ++ r)) :
    Calls Tryz.prog 167 #[.pointer (some ⟨g, 0, none⟩), .string ⟨t.toArray⟩] w fun e w' => e = .returned (.tuple #[]) ∧ Reads w g r w' := by
  have HC := Lib.hid (took_yes g t r w h)
  clear h
  go_enter Tryz.func167, Tryz.ntmps167
  go_wp2_with fail
  refine HC.out.mono ?_
  rintro e w1 ⟨rfl, h1⟩
  have H1 := Lib.hid h1
  clear h1
  go_wp2
  go_end0
  exact ⟨rfl, H1.out⟩
set_option maxHeartbeats 2000000 in
theorem must_no (g : Nat) (s t : List UInt8) (w : World) (h : Rd w g s) (hn : ¬ t <+: s) :
    Calls Tryz.prog 167 #[.pointer (some ⟨g, 0, none⟩), .string ⟨t.toArray⟩] w fun e w' => e = BadP ∧ Chg (fun b => b = g) w w' := by
  have HC := Lib.hid (took_no g s t w h hn)
  clear h hn
  go_enter Tryz.func167, Tryz.ntmps167
  go_wp2_with fail
  refine HC.out.mono ?_
  rintro e w1 ⟨rfl, h1⟩
  have H1 := Lib.hid h1
  clear h1
  go_wp2
  exact ⟨rfl, rfl, H1.out.2⟩

set_option maxHeartbeats 2000000 in
theorem take_yes (g : Nat) (s : List UInt8) (n : Nat) (w : World) (h : Rd w g s) (hn : n ≤ s.length) (hl : s.length ≤ 1099511627776) :
    Calls Tryz.prog 168 #[.pointer (some ⟨g, 0, none⟩), .int .i64 (n : Int)] w fun e w' => e = .returned (.string ⟨(s.take n).toArray⟩) ∧ Reads w g (s.drop n) w' := by
  have c0 := h.cell
  have z0 := h.frozen
  have HH := Lib.hid h
  obtain ⟨S, hS⟩ : ∃ S : ByteArray, S = ⟨s.toArray⟩ := ⟨_, rfl⟩
  have hx : S.extract 0 n = ⟨(s.take n).toArray⟩ := by rw [hS, ext_take]
  have zS : S.size = s.length := by rw [hS]; rfl
  have hy : S.extract n S.size = ⟨(s.drop n).toArray⟩ := by rw [zS, hS, ext_drop]
  have hle : n ≤ S.size := by rw [zS]; exact hn
  have b1 : ((n : Nat) : Int) ≤ (S.size : Int) := by omega
  have b2 : (S.size : Int) ≤ 1099511627776 := by omega
  have w1 : ((n : Int)).toNat = n := Int.toNat_natCast n
  rw [← hS] at c0
  rw [← hx]
  have HY := Lib.hid hy
  clear hS hx hy zS hn hl h
  go_enter Tryz.func168, Tryz.ntmps168
  go_wp2
  go_ret
  refine ⟨rfl, ?_, (Chg.refl _ _).cell 0 _⟩
  rw [HY.out]
  exact HH.out.put _
set_option maxHeartbeats 2000000 in
theorem take_no (g : Nat) (s : List UInt8) (n : Nat) (w : World) (h : Rd w g s) (hn : s.length < n) :
    Calls Tryz.prog 168 #[.pointer (some ⟨g, 0, none⟩), .int .i64 (n : Int)] w fun e w' => e = BadP ∧ Chg (fun b => b = g) w w' := by
  have c0 := h.cell
  obtain ⟨S, hS⟩ : ∃ S : ByteArray, S = ⟨s.toArray⟩ := ⟨_, rfl⟩
  have zS : S.size = s.length := by rw [hS]; rfl
  have b1 : ¬ ((n : Nat) : Int) ≤ (S.size : Int) := by omega
  rw [← hS] at c0
  clear hS zS hn h
  go_enter Tryz.func168, Tryz.ntmps168
  go_wp2
  exact ⟨rfl, rfl, Chg.refl _ _⟩

end Go.Proofs.YtbgadfaiehkanaaGreatDoor
