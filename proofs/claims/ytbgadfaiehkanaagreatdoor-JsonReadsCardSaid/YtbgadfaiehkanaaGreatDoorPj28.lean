/-
  HOW THE PROGRAM WRITES INTO A BUILDER: WriteString, WriteByte, part, number, FormatBool. Conditions: less than 2^47 bytes; the library's variables lie as laid.
  HOW A TEXT IS WRITTEN: writeText. Conditions: less than 2^47 bytes.
  HOW A VALUE IS WRITTEN, IN PLAIN MATHEMATICS; write, of what is no list and no map. Conditions: less than 2^47 bytes; the library's variables lie as laid.
-/
import Derived.Test.YtbgadfaiehkanaaGreatDoorPj27
import Derived.Lib.OthersKept
import Derived.Shelf.Strings.BuilderK

namespace Go.Proofs.YtbgadfaiehkanaaGreatDoor
open Go.RowKit Go.Proofs Go.Shelf
set_option linter.unusedVariables false
set_option maxRecDepth 100000

/-- Something was written: the builder's bytes now, and what else may have turned. -/
structure Puts (B b : Nat) (o : List UInt8) (w w' : World) : Prop where
  bf : Bf B b o w'
  bel : Below B w w'
  oth : Lib.OthersKept 5 (some b) w w'

theorem Puts.go {B b : Nat} {o o2 : List UInt8} {w w1 w2 : World} (h : Puts B b o w w1) (k : Puts B b o2 w1 w2) : Puts B b o2 w w2 := ⟨k.bf, h.bel.trans k.bel, h.oth.trans k.oth⟩
theorem Puts.refl {B b : Nat} {o : List UInt8} {w : World} (h : Bf B b o w) : Puts B b o w w := ⟨h, Below.refl _ _, Lib.OthersKept.refl _ _ _⟩

theorem oth_below {b : Option Nat} {w w' : World} (h : Below w.heap.size w w') : Lib.OthersKept 5 b w w' := by
  intro k x hk _ _
  have hlt : k < w.heap.size := (Array.getElem?_eq_some_iff.1 hk).1
  rw [h.block k hlt]
  exact hk

theorem Bf.below {B b : Nat} {o : List UInt8} {w w' : World} (h : Bf B b o w) (k : Below w.heap.size w w') : Bf B b o w' := by
  have go : ∀ p, Lib.BuilderAtF 78 5 B b p (Lib.byteCells o) w → Lib.BuilderAtF 78 5 B b p (Lib.byteCells o) w' := by
    rintro p ⟨hB, v, hb, hown, hne⟩
    have hlt : b < w.heap.size := (Array.getElem?_eq_some_iff.1 hb).1
    refine ⟨hB, v, (k.block b hlt).trans hb, ?_, hne⟩
    have hgr : w.grownBy w' none := ⟨k.os, k.tape, k.output, k.size, fun i hi e => k.block i hi⟩
    refine hown.kept hgr ?_
    cases ho : v.ownBlock with
    | none => exact .inl rfl
    | some x => exact .inr fun e => by cases e
  exact h.elim (fun x => .inl (go _ x)) (fun x => .inr (go _ x))

theorem Puts.deep {B b : Nat} {o : List UInt8} {w w1 w2 : World} (h : Puts B b o w w1) (k : Below w1.heap.size w1 w2) (hB : B ≤ w1.heap.size) : Puts B b o w w2 :=
  ⟨h.bf.below k, h.bel.trans (k.mono hB), h.oth.trans (oth_below k)⟩

/-- What is no row of bytes, and isn't the builder, stays. -/
theorem Puts.blk {B b : Nat} {o : List UInt8} {w w' : World} (h : Puts B b o w w') {g : Nat} {t : TypeId} {cs : List Value} (hb : Blk w g t cs) (hg : g ≠ b) (ht : t ≠ 5) : Blk w' g t cs :=
  h.oth g _ hb (fun e => hg (Option.some.inj e)) fun c fz e => by
    injection e with _ e _
    exact ht e

theorem bString_any (B b : Nat) (bs s : List UInt8) (w : World) (h : Bf B b bs w) (hlen : bs.length + s.length ≤ 140737488355328) (hBw : B ≤ w.heap.size) :
    Calls Tryz.prog 99 #[.pointer (some ⟨b, 0, none⟩), .string ⟨s.toArray⟩] w fun e w' => (∃ n, e = .returned (.tuple #[.int .i64 n, .nilIface])) ∧ Puts B b (bs ++ s) w w' :=
  (Any.Builder_WriteString_k blay166 bextra15 B b _ ⟨s.toArray⟩ w h (by rw [Lib.byteCells, List.length_map]; exact hlen) hBw).mono fun e w' ⟨h1, h2, h3, h4⟩ => ⟨⟨_, h1⟩, .inr (by rw [Lib.byteCells_append]; exact h2), h3, h4⟩

theorem bByte_any (B b : Nat) (bs : List UInt8) (c : UInt8) (w : World) (h : Bf B b bs w) (hlen : bs.length + 1 ≤ 140737488355328) (hBw : B ≤ w.heap.size) :
    Calls Tryz.prog 141 #[.pointer (some ⟨b, 0, none⟩), .int .u8 (c.toNat : Int)] w fun e w' => e = .returned .nilIface ∧ Puts B b (bs ++ [c]) w w' :=
  (Any.Builder_WriteByte_k blay167 bextra15 B b _ _ w h (by rw [Lib.byteCells, List.length_map]; exact hlen) hBw).mono fun e w' ⟨h1, h2, h3, h4⟩ => ⟨h1, .inr (by rw [Lib.byteCells_append]; exact h2), h3, h4⟩

set_option maxHeartbeats 1000000 in
theorem part_any (B b : Nat) (bs : List UInt8) (j : Nat) (w : World) (h : Bf B b bs w) (hlen : bs.length + 1 ≤ 140737488355328) (hBw : B ≤ w.heap.size) :
    Calls Tryz.prog 103 #[.pointer (some ⟨b, 0, none⟩), .int .i64 (j : Int)] w fun e w' => e = .returned (.tuple #[]) ∧ Puts B b (bs ++ if j = 0 then [] else [44]) w w' := by
  by_cases h0 : j = 0
  · subst h0
    have HP := Lib.hid (Puts.refl h)
    clear h
    go_enter Tryz.func103, Tryz.ntmps103
    go_wp2
    go_end0
    exact ⟨rfl, HP.out⟩
  · have b0 : (0 : Int) < (j : Int) := by omega
    have HC := Lib.hid (bString_any B b bs [44] w h hlen hBw)
    have H0 := Lib.hid h0
    clear h h0 hlen
    go_enter Tryz.func103, Tryz.ntmps103
    go_wp2_with fail
    refine HC.out.mono ?_
    rintro e w1 ⟨⟨n, rfl⟩, p1⟩
    have HP := Lib.hid p1
    clear p1
    go_wp2
    go_end0
    exact ⟨rfl, HP.out⟩

set_option maxHeartbeats 1000000 in
theorem jnumber_any (n : Int) (h0 : -9223372036854775808 ≤ n) (h1 : n ≤ 9223372036854775807) (w : World) (hL : JLaid w) :
    Calls Tryz.prog 101 #[.int .i64 n] w fun e w' => e = .returned (.string ⟨(Lib.itoa n).toArray⟩) ∧ Below w.heap.size w w' := by
  have HF := Lib.hid (jfmt_any n h0 h1 w hL)
  clear h0 h1 hL
  go_enter Tryz.func101, Tryz.ntmps101
  go_wp2_with fail
  refine HF.out.mono ?_
  rintro e w1 ⟨rfl, k1⟩
  have HK := Lib.hid k1
  clear k1
  go_wp2
  go_ret
  exact ⟨rfl, HK.out⟩

set_option maxHeartbeats 1000000 in
theorem fbool0 (c : Bool) (w : World) :
    Calls Tryz.prog 139 #[.bool c] w fun e w' => e = .returned (.string ⟨(if c then M.wTrue else M.wFalse).toArray⟩) ∧ w' = w := by
  cases c
  · go_enter Tryz.func139, Tryz.ntmps139
    go_wp2
    go_ret
    exact ⟨rfl, rfl⟩
  · go_enter Tryz.func139, Tryz.ntmps139
    go_wp2
    go_ret
    exact ⟨rfl, rfl⟩

set_option maxHeartbeats 1000000 in
theorem fbool_any (c : Bool) (w : World) :
    Calls Tryz.prog 100 #[.bool c] w fun e w' => e = .returned (.string ⟨(if c then M.wTrue else M.wFalse).toArray⟩) ∧ w' = w := by
  have HF := Lib.hid (fbool0 c w)
  obtain ⟨s, hs⟩ : ∃ s, s = (if c then M.wTrue else M.wFalse) := ⟨_, rfl⟩
  rw [← hs] at HF ⊢
  clear hs
  go_enter Tryz.func100, Tryz.ntmps100
  go_wp2_with fail
  refine HF.out.mono ?_
  rintro e w1 ⟨rfl, rfl⟩
  go_wp2
  go_ret
  exact ⟨rfl, rfl⟩

end Go.Proofs.YtbgadfaiehkanaaGreatDoor

namespace Go.Proofs.YtbgadfaiehkanaaGreatDoor
open Go.RowKit Go.Proofs Go.Shelf
set_option linter.unusedVariables false
set_option maxRecDepth 100000

/-- A byte of a text, written. -/
def M.wch (c : UInt8) : List UInt8 := if c = 34 ∨ c = 92 then [92, c] else if c.toNat < 32 then [92, 117, 48, 48] ++ M.hex [c] else [c]
/-- A text, written. -/
def M.wtext (t : List UInt8) : List UInt8 := 34 :: (t.flatMap M.wch ++ [34])

theorem M.wch_le (c : UInt8) : (M.wch c).length ≤ 6 := by
  unfold M.wch
  split
  · show 2 ≤ 6; omega
  split
  · rw [List.length_append, M.hex_length]; show 4 + 2 * 1 ≤ 6; omega
  · show 1 ≤ 6; omega
theorem M.flat_le (t : List UInt8) : (t.flatMap M.wch).length ≤ 6 * t.length := by
  induction t with
  | nil => exact Nat.le_refl _
  | cons c r ih => rw [List.flatMap_cons, List.length_append, List.length_cons]; have := M.wch_le c; omega

theorem bstr_at (t : List UInt8) (S : ByteArray) (hS : S = ⟨t.toArray⟩) (j : Nat) (h : j < S.size) : t.take (j + 1) = t.take j ++ [S[j]] := by
  subst hS
  have h2 : j < t.length := h
  rw [List.take_add_one, List.getElem?_eq_getElem h2]
  rfl
theorem M.flat_next {t : List UInt8} {j : Nat} {c : UInt8} (h : t.take (j + 1) = t.take j ++ [c]) : (t.take (j + 1)).flatMap M.wch = (t.take j).flatMap M.wch ++ M.wch c := by
  rw [h, List.flatMap_append, List.flatMap_cons, List.flatMap_nil, List.append_nil]

set_option maxHeartbeats 16000000 in
theorem wtext_any (B b : Nat) (bs t : List UInt8) (w : World) (h : Bf B b bs w) (hlen : bs.length + 6 * t.length + 2 ≤ 140737488355328) (hBw : B ≤ w.heap.size) :
    Calls Tryz.prog 102 #[.pointer (some ⟨b, 0, none⟩), .string ⟨t.toArray⟩] w fun e w' => e = .returned (.tuple #[]) ∧ Puts B b (bs ++ M.wtext t) w w' := by
  have HC := Lib.hid (bString_any B b bs [34] w h (by simp; omega) hBw)
  obtain ⟨S, hS⟩ : ∃ S : ByteArray, S = ⟨t.toArray⟩ := ⟨_, rfl⟩
  obtain ⟨n, hn⟩ : ∃ n, n = t.length := ⟨_, rfl⟩
  have hz : S.size = n := by rw [hS, hn]; rfl
  have HS := Lib.hid hS
  have HN := Lib.hid hn
  have HLN := Lib.hid hlen
  have HB := Lib.hid hBw
  have hnl : (n : Int) ≤ 140737488355328 := by omega
  rw [← hS]
  clear h hS hn hlen hBw
  go_enter Tryz.func102, Tryz.ntmps102
  go_wp2_with fail
  refine HC.out.mono ?_
  rintro e w1 ⟨⟨n1, rfl⟩, p1⟩
  have HP1 := Lib.hid p1
  clear p1 HC
  go_wp2_with fail
  go_loopw [10] (fun i wr => ∃ j : Nat, i = .int .i64 (j : Int) ∧ Hid (j ≤ n) ∧ Hid (Puts B b (bs ++ 34 :: (t.take j).flatMap M.wch) w wr)) (fun i _ => n - (intOf i).toNat)
  case atStart => exact ⟨0, rfl, Nat.zero_le _, HP1⟩
  case round =>
    obtain ⟨wz, rfl⟩ : ∃ x, x = wr := ⟨_, rfl⟩
    obtain ⟨j, rfl, hj, PZ⟩ := hrel
    by_cases hlt : j < n
    · have b1 : (j : Int) < (n : Int) := by omega
      have b2 : j < S.size := by omega
      have hj0 : (0 : Int) ≤ (j : Int) := Int.natCast_nonneg j
      have HLT := Lib.hid hlt
      clear hlt hj
      go_upto_region 6 with fail
      obtain ⟨c, hc⟩ : ∃ c, c = S[j] := ⟨_, rfl⟩
      have htk := M.flat_next (bstr_at t S HS.out j b2)
      rw [← hc] at htk ⊢
      have HTK := Lib.hid htk
      have HLE : Hid ((bs ++ 34 :: (t.take j).flatMap M.wch).length + 6 ≤ 140737488355328) := by
        have h1 := M.flat_le (t.take j)
        have h2 := HLN.out
        have h3 := HLT.out
        have h4 := HN.out
        rw [List.length_take] at h1
        rw [Hid, List.length_append, List.length_cons]
        omega
      have HBZ : Hid (B ≤ wz.heap.size) := Nat.le_trans HB.out PZ.out.bel.size
      have HJ : Hid (∀ w2, Puts B b ((bs ++ 34 :: (t.take j).flatMap M.wch) ++ M.wch c) wz w2 → Puts B b (bs ++ 34 :: (t.take (j + 1)).flatMap M.wch) w w2) := by
        intro w2 h
        have := PZ.out.go h
        rw [List.append_assoc, List.cons_append, ← HTK.out] at this
        exact this
      obtain ⟨o, ho⟩ : ∃ o, o = bs ++ 34 :: (t.take j).flatMap M.wch := ⟨_, rfl⟩
      have HPZ : Hid (Bf B b o wz) := by rw [ho]; exact PZ.out.bf
      rw [← ho] at HJ HLE
      clear hc htk ho b2 PZ HTK
      by_cases h1 : c = 34
      · subst h1
        have HW : Hid (M.wch 34 = [92, 34]) := rfl
        have HC1 : Hid (Calls Tryz.prog 141 #[.pointer (some ⟨b, 0, none⟩), .int .u8 92] wz fun e w' => e = .returned .nilIface ∧ Puts B b (o ++ [92]) wz w') := bByte_any B b o 92 wz HPZ.out (by have := HLE.out; omega) HBZ.out
        go_wp2_with fail
        refine HC1.out.mono ?_
        rintro e w2 ⟨rfl, p2⟩
        have HP2 := Lib.hid p2
        have HC2 : Hid (Calls Tryz.prog 141 #[.pointer (some ⟨b, 0, none⟩), .int .u8 34] w2 fun e w' => e = .returned .nilIface ∧ Puts B b ((o ++ [92]) ++ [34]) w2 w') := bByte_any B b (o ++ [92]) 34 w2 p2.bf (by rw [List.length_append]; have := HLE.out; show _ + 1 + 1 ≤ _; omega) (Nat.le_trans HBZ.out p2.bel.size)
        clear p2 HC1
        go_wp2_with fail
        refine HC2.out.mono ?_
        rintro e w3 ⟨rfl, p3⟩
        have HP3 : Hid (Puts B b (o ++ [92, 34]) wz w3) := by
          have := HP2.out.go p3
          rw [List.append_assoc] at this
          exact this
        clear p3 HC2
        go_wp2
        go_roundw
        case rel => exact ⟨j + 1, by go_num, HLT.out, HJ.out _ HP3.out⟩
        case measure => have := HLT.out; simp [intOf]; omega
      have HN34 := Lib.hid h1
      by_cases h1 : c = 92
      · subst h1
        have HW : Hid (M.wch 92 = [92, 92]) := rfl
        have HC1 : Hid (Calls Tryz.prog 141 #[.pointer (some ⟨b, 0, none⟩), .int .u8 92] wz fun e w' => e = .returned .nilIface ∧ Puts B b (o ++ [92]) wz w') := bByte_any B b o 92 wz HPZ.out (by have := HLE.out; omega) HBZ.out
        go_wp2_with fail
        refine HC1.out.mono ?_
        rintro e w2 ⟨rfl, p2⟩
        have HP2 := Lib.hid p2
        have HC2 : Hid (Calls Tryz.prog 141 #[.pointer (some ⟨b, 0, none⟩), .int .u8 92] w2 fun e w' => e = .returned .nilIface ∧ Puts B b ((o ++ [92]) ++ [92]) w2 w') := bByte_any B b (o ++ [92]) 92 w2 p2.bf (by rw [List.length_append]; have := HLE.out; show _ + 1 + 1 ≤ _; omega) (Nat.le_trans HBZ.out p2.bel.size)
        clear p2 HC1
        go_wp2_with fail
        refine HC2.out.mono ?_
        rintro e w3 ⟨rfl, p3⟩
        have HP3 : Hid (Puts B b (o ++ [92, 92]) wz w3) := by
          have := HP2.out.go p3
          rw [List.append_assoc] at this
          exact this
        clear p3 HC2
        go_wp2
        go_roundw
        case rel => exact ⟨j + 1, by go_num, HLT.out, HJ.out _ HP3.out⟩
        case measure => have := HLT.out; simp [intOf]; omega
      have HN92 := Lib.hid h1
      have e1 : ((c.toNat : Int) == 34) = false := beq_false_of_ne fun e => HN34.out (UInt8.toNat_inj.1 (by show c.toNat = 34; omega))
      have e2 : ((c.toNat : Int) == 92) = false := beq_false_of_ne fun e => HN92.out (UInt8.toNat_inj.1 (by show c.toNat = 92; omega))
      clear h1
      by_cases h32 : c.toNat < 32
      · have e3 : decide ((c.toNat : Int) < 32) = true := decide_eq_true (by omega)
        have HW : Hid (M.wch c = [92, 117, 48, 48] ++ M.hex [c]) := by rw [Hid]; unfold M.wch; rw [if_neg (by rintro (h | h); exact HN34.out h; exact HN92.out h), if_pos h32]
        clear h32
        go_wp2_with fail
        have k1 : Below wz.heap.size wz (wz.alloc (.cells #[.int .u8 (c.toNat : Int)] 5)) := (Below.refl _ _).alloc (Nat.le_refl _) _
        have HPA : Hid (Puts B b o wz (wz.alloc (.cells #[.int .u8 (c.toNat : Int)] 5))) := (Puts.refl HPZ.out).deep k1 HBZ.out
        refine (hex_any _ [c] _ (isB_one0 wz (c.toNat : Int) c rfl) (by show 1 ≤ _; omega)).mono ?_
        rintro e w2 ⟨rfl, k2⟩
        have HP2 : Hid (Puts B b o wz w2) := HPA.out.deep k2 (Nat.le_trans HBZ.out k1.size)
        obtain ⟨hx, hhx⟩ : ∃ l, l = M.hex [c] := ⟨_, rfl⟩
        have hxl : hx.length = 2 := by rw [hhx, M.hex_length]; rfl
        have HC1 : Hid (Calls Tryz.prog 99 #[.pointer (some ⟨b, 0, none⟩), .string ⟨(([92, 117, 48, 48] : List UInt8) ++ hx).toArray⟩] w2 fun e w' => (∃ n, e = .returned (.tuple #[.int .i64 n, .nilIface])) ∧ Puts B b (o ++ ([92, 117, 48, 48] ++ hx)) w2 w') := bString_any B b o ([92, 117, 48, 48] ++ hx) w2 HP2.out.bf (by rw [List.length_append, hxl]; have := HLE.out; show _ + (4 + 2) ≤ _; omega) (Nat.le_trans HBZ.out HP2.out.bel.size)
        have happ : (⟨#[92, 117, 48, 48]⟩ : ByteArray) ++ (⟨hx.toArray⟩ : ByteArray) = ⟨(([92, 117, 48, 48] : List UInt8) ++ hx).toArray⟩ := by
          apply ByteArray.ext
          simp
        have HHX : Hid (hx.length = 2) := hxl
        rw [← hhx]
        rw [HW.out, ← hhx] at HJ
        obtain ⟨S2, hS2⟩ : ∃ S2 : ByteArray, S2 = ⟨(([92, 117, 48, 48] : List UInt8) ++ hx).toArray⟩ := ⟨_, rfl⟩
        rw [← hS2] at happ HC1
        have hbig : ¬ 9223372036854775807 < 4 + hx.length := by omega
        clear k1 k2 hhx hS2 hxl HPA HW
        go_wp2_with fail
        refine HC1.out.mono ?_
        rintro e w3 ⟨⟨m3, rfl⟩, p3⟩
        have HP3 := Lib.hid (HP2.out.go p3)
        clear p3 HC1 HP2
        go_wp2
        go_roundw
        case rel => exact ⟨j + 1, by go_num, HLT.out, HJ.out _ HP3.out⟩
        case measure => have := HLT.out; simp [intOf]; omega
      · have e3 : decide ((c.toNat : Int) < 32) = false := decide_eq_false (by omega)
        have HW : Hid (M.wch c = [c]) := by rw [Hid]; unfold M.wch; rw [if_neg (by rintro (h | h); exact HN34.out h; exact HN92.out h), if_neg h32]
        have HC1 := Lib.hid (bByte_any B b o c wz HPZ.out (by have := HLE.out; omega) HBZ.out)
        rw [HW.out] at HJ
        clear h32
        go_wp2_with fail
        refine HC1.out.mono ?_
        rintro e w2 ⟨rfl, p2⟩
        have HP2 := Lib.hid p2
        clear p2 HC1
        go_wp2
        go_roundw
        case rel => exact ⟨j + 1, by go_num, HLT.out, HJ.out _ HP2.out⟩
        case measure => have := HLT.out; simp [intOf]; omega
    · have b1 : ¬ (j : Int) < (n : Int) := by omega
      have HF : Hid (Puts B b (bs ++ 34 :: t.flatMap M.wch) w wz) := by
        have := PZ.out
        rw [List.take_of_length_le (by rw [← HN.out]; omega)] at this
        exact this
      have HC1 := Lib.hid (bString_any B b _ [34] wz HF.out.bf (by
        have h1 := M.flat_le t
        have h2 := HLN.out
        rw [List.length_append, List.length_cons]
        show _ + 1 ≤ _
        omega) (Nat.le_trans HB.out HF.out.bel.size))
      clear hlt hj PZ
      go_wp2_with fail
      refine HC1.out.mono ?_
      rintro e w2 ⟨⟨m2, rfl⟩, p2⟩
      have HP2 := Lib.hid p2
      clear p2 HC1
      go_wp2
      go_end0
      refine ⟨rfl, ?_⟩
      have := HF.out.go HP2.out
      rw [List.append_assoc, List.cons_append] at this
      exact this

end Go.Proofs.YtbgadfaiehkanaaGreatDoor

namespace Go.Proofs.YtbgadfaiehkanaaGreatDoor
open Go.RowKit Go.Proofs Go.Shelf
set_option linter.unusedVariables false
set_option maxRecDepth 100000

/-- Parts, with what stands between them. -/
def M.jn : List (List UInt8) → List UInt8
  | [] => []
  | x :: r => x ++ r.flatMap (44 :: ·)
theorem M.jn_snoc (xs : List (List UInt8)) (x : List UInt8) : M.jn (xs ++ [x]) = M.jn xs ++ ((if xs.length = 0 then [] else [44]) ++ x) := by
  cases xs with
  | nil => simp [M.jn]
  | cons y r => simp [M.jn]

/-- A value, written. -/
def M.wr : Nat → M.GV → List UInt8
  | 0, _ => []
  | d + 1, g =>
    if g.k = 0 then M.wNull else if g.k = 1 then (if g.b then M.wTrue else M.wFalse) else if g.k = 2 then Lib.itoa g.n else if g.k = 3 then M.wtext g.t
    else if g.k = 4 then 91 :: (M.jn (g.l.map (M.wr d)) ++ [93]) else 123 :: (M.jn (g.m.map fun p => M.wtext p.1 ++ 58 :: M.wr d p.2) ++ [125])

/-- No more bytes than so many are written. -/
def M.wz : Nat → M.GV → Nat
  | 0, _ => 0
  | d + 1, g => 8 + (Lib.itoa g.n).length + 6 * g.t.length + (g.l.map fun x => 1 + M.wz d x).sum + (g.m.map fun p => 6 * p.1.length + 4 + M.wz d p.2).sum

theorem M.wtext_le (t : List UInt8) : (M.wtext t).length ≤ 6 * t.length + 2 := by
  unfold M.wtext
  have := M.flat_le t
  rw [List.length_cons, List.length_append]
  show _ + 1 + 1 ≤ _
  omega

theorem M.jn_le {α : Type} (f : α → List UInt8) (z : α → Nat) (l : List α) (h : ∀ x, 1 + (f x).length ≤ z x) : (M.jn (l.map f)).length ≤ (l.map z).sum := by
  have go : ∀ l : List α, ((l.map f).flatMap (44 :: ·)).length ≤ (l.map z).sum := by
    intro l
    induction l with
    | nil => exact Nat.le_refl _
    | cons x r ih =>
      rw [List.map_cons, List.flatMap_cons, List.length_append, List.length_cons, List.map_cons, List.sum_cons]
      have := h x
      omega
  cases l with
  | nil => exact Nat.le_refl _
  | cons x r =>
    rw [List.map_cons, M.jn, List.length_append, List.map_cons, List.sum_cons]
    have := h x
    have := go r
    omega

theorem M.wr_le (d : Nat) : ∀ g : M.GV, (M.wr d g).length ≤ M.wz d g := by
  induction d with
  | zero => intro g; exact Nat.le_refl _
  | succ d ih =>
    intro g
    have h1 := M.jn_le (M.wr d) (fun x => 1 + M.wz d x) g.l (fun x => by have := ih x; omega)
    have h2 := M.jn_le (fun p : List UInt8 × M.GV => M.wtext p.1 ++ 58 :: M.wr d p.2) (fun p => 6 * p.1.length + 4 + M.wz d p.2) g.m (fun p => by
      have := ih p.2
      have := M.wtext_le p.1
      rw [List.length_append, List.length_cons]
      omega)
    have h3 := M.wtext_le g.t
    unfold M.wr M.wz
    split
    · show 4 ≤ _; omega
    split
    · split
      · show 4 ≤ _; omega
      · show 5 ≤ _; omega
    split
    · omega
    split
    · omega
    split
    · rw [List.length_cons, List.length_append]; show _ + 1 + 1 ≤ _; omega
    · rw [List.length_cons, List.length_append]; show _ + 1 + 1 ≤ _; omega

/-- write holds, of values d deep. -/
def WrP (d : Nat) : Prop := ∀ (S : Nat → Prop) (cs : List Value) (x : M.GV) (w : World) (B b : Nat) (bs : List UInt8), IsV S w d cs x → M.MayP d x → (∀ k, S k → k < B) → Bf B b bs w → bs.length + M.wz d x ≤ 140737488355328 → B ≤ w.heap.size → 6 ≤ B → JLaid w →
  Calls Tryz.prog 46 #[.pointer (some ⟨b, 0, none⟩), .agg cs.toArray] w fun e w' => e = .returned (.tuple #[]) ∧ Puts B b (bs ++ M.wr d x) w w'

theorem Puts.chg {B b : Nat} {o : List UInt8} {w w' : World} (h : Puts B b o w w') : Chg (fun k => B ≤ k) w w' :=
  ⟨h.bel.os, h.bel.tape, h.bel.output, h.bel.size, fun k hk hf => h.bel.block k (by omega)⟩
theorem Puts.isV {B b : Nat} {o : List UInt8} {w w' : World} (h : Puts B b o w w') {S : Nat → Prop} (hS : ∀ k, S k → k < B) {d : Nat} {cs : List Value} {x : M.GV} (iv : IsV S w d cs x) : IsV S w' d cs x :=
  IsV.chg h.chg (fun k hk e => by have := hS k hk; omega) d iv
theorem Puts.laid {B b : Nat} {o : List UInt8} {w w' : World} (h : Puts B b o w w') (hB : 6 ≤ B) (hL : JLaid w) : JLaid w' := hL.chg h.chg fun k e => by omega

theorem Bf.lt {B b : Nat} {o : List UInt8} {w : World} (h : Bf B b o w) : b < w.heap.size := by
  have go : ∀ p, Lib.BuilderAtF 78 5 B b p (Lib.byteCells o) w → b < w.heap.size := by
    rintro p ⟨hB, v, hb, hown, hne⟩
    exact (Array.getElem?_eq_some_iff.1 hb).1
  exact h.elim (go _) (go _)

/-- What write is asked of, and what it answers, behind its value's box. -/
structure WIn (w : World) (B b : Nat) (bs : List UInt8) (k : Nat) : Prop where
  bf : Bf B b bs w
  len : bs.length + k ≤ 140737488355328
  le : B ≤ w.heap.size
  five : 6 ≤ B
  laid : JLaid w

theorem WIn.box {w : World} {B b : Nat} {bs : List UInt8} {k : Nat} (h : WIn w B b bs k) (o : Obj) : WIn (w.alloc o) B b bs k ∧ Puts B b bs w (w.alloc o) := by
  have kk : Below w.heap.size w (w.alloc o) := (Below.refl _ _).alloc (Nat.le_refl _) _
  exact ⟨⟨h.bf.below kk, h.len, Nat.le_trans h.le kk.size, h.five, h.laid.below kk⟩, (Puts.refl h.bf).deep kk h.le⟩

abbrev bx (k : Int) (b : Bool) (n : Int) (t : List UInt8) (a1 : Option Addr) (n1 e1 : Nat) (a2 : Option Addr) (n2 e2 : Nat) : Array Value := #[.int .i64 k, .bool b, .int .i64 n, .string ⟨t.toArray⟩, .slice a1 n1 e1, .slice a2 n2 e2]

set_option maxHeartbeats 4000000 in
theorem wr_null (b1 : Bool) (n : Int) (t : List UInt8) (a1 : Option Addr) (n1 e1 : Nat) (a2 : Option Addr) (n2 e2 : Nat) (w : World) (B b : Nat) (bs : List UInt8) (h : WIn w B b bs 8) :
    Calls Tryz.prog 46 #[.pointer (some ⟨b, 0, none⟩), .agg (bx 0 b1 n t a1 n1 e1 a2 n2 e2)] w fun e w' => e = .returned (.tuple #[]) ∧ Puts B b (bs ++ M.wNull) w w' := by
  have hb := h.box (.cells (bx 0 b1 n t a1 n1 e1 a2 n2 e2) 27)
  have HB := Lib.hid hb
  have HC : Hid (Calls Tryz.prog 99 #[.pointer (some ⟨b, 0, none⟩), .string ⟨#[110, 117, 108, 108]⟩] (w.alloc (.cells (bx 0 b1 n t a1 n1 e1 a2 n2 e2) 27)) fun e w' => (∃ n, e = .returned (.tuple #[.int .i64 n, .nilIface])) ∧ Puts B b (bs ++ M.wNull) (w.alloc (.cells (bx 0 b1 n t a1 n1 e1 a2 n2 e2) 27)) w') :=
    bString_any B b bs M.wNull _ hb.1.bf (by have := hb.1.len; show _ + 4 ≤ _; omega) hb.1.le
  unfold bx at HC HB ⊢
  clear hb h
  go_enter Tryz.func46, Tryz.ntmps46
  go_wp2_with fail
  refine HC.out.mono ?_
  rintro e w2 ⟨⟨m, rfl⟩, p2⟩
  have HP := Lib.hid (HB.out.2.go p2)
  clear p2 HC HB
  go_wp2
  go_end0
  exact ⟨rfl, HP.out⟩

set_option maxHeartbeats 4000000 in
theorem wr_bool (b1 : Bool) (n : Int) (t : List UInt8) (a1 : Option Addr) (n1 e1 : Nat) (a2 : Option Addr) (n2 e2 : Nat) (w : World) (B b : Nat) (bs : List UInt8) (h : WIn w B b bs 8) :
    Calls Tryz.prog 46 #[.pointer (some ⟨b, 0, none⟩), .agg (bx 1 b1 n t a1 n1 e1 a2 n2 e2)] w fun e w' => e = .returned (.tuple #[]) ∧ Puts B b (bs ++ (if b1 then M.wTrue else M.wFalse)) w w' := by
  obtain ⟨s, hs⟩ : ∃ s, s = (if b1 then M.wTrue else M.wFalse) := ⟨_, rfl⟩
  have hsl : s.length ≤ 5 := by rw [hs]; cases b1 <;> decide
  have hb := h.box (.cells (bx 1 b1 n t a1 n1 e1 a2 n2 e2) 27)
  have HB := Lib.hid hb
  have HF := Lib.hid (fbool_any b1 (w.alloc (.cells (bx 1 b1 n t a1 n1 e1 a2 n2 e2) 27)))
  have HC := Lib.hid (bString_any B b bs s _ hb.1.bf (by have := hb.1.len; omega) hb.1.le)
  rw [← hs] at HF ⊢
  unfold bx at HC HB HF ⊢
  clear hb h hs hsl
  go_enter Tryz.func46, Tryz.ntmps46
  go_wp2_with fail
  refine HF.out.mono ?_
  rintro e w1 ⟨rfl, rfl⟩
  go_wp2_with fail
  refine HC.out.mono ?_
  rintro e w2 ⟨⟨m, rfl⟩, p2⟩
  have HP := Lib.hid (HB.out.2.go p2)
  clear p2 HC HB HF
  go_wp2
  go_end0
  exact ⟨rfl, HP.out⟩

set_option maxHeartbeats 4000000 in
theorem wr_num (b1 : Bool) (n : Int) (hn0 : -9223372036854775808 ≤ n) (hn1 : n ≤ 9223372036854775807) (t : List UInt8) (a1 : Option Addr) (n1 e1 : Nat) (a2 : Option Addr) (n2 e2 : Nat) (w : World) (B b : Nat) (bs : List UInt8) (h : WIn w B b bs (Lib.itoa n).length) :
    Calls Tryz.prog 46 #[.pointer (some ⟨b, 0, none⟩), .agg (bx 2 b1 n t a1 n1 e1 a2 n2 e2)] w fun e w' => e = .returned (.tuple #[]) ∧ Puts B b (bs ++ Lib.itoa n) w w' := by
  have hb := h.box (.cells (bx 2 b1 n t a1 n1 e1 a2 n2 e2) 27)
  have HB := Lib.hid hb
  have HF := Lib.hid (jnumber_any n hn0 hn1 (w.alloc (.cells (bx 2 b1 n t a1 n1 e1 a2 n2 e2) 27)) hb.1.laid)
  unfold bx at HB HF ⊢
  clear hb h hn0 hn1
  go_enter Tryz.func46, Tryz.ntmps46
  go_wp2_with fail
  refine HF.out.mono ?_
  rintro e w1 ⟨rfl, k1⟩
  have HP1 := Lib.hid (HB.out.2.deep k1 HB.out.1.le)
  have HC := Lib.hid (bString_any B b bs (Lib.itoa n) w1 HP1.out.bf HB.out.1.len (Nat.le_trans HB.out.1.le k1.size))
  clear k1 HF
  go_wp2_with fail
  refine HC.out.mono ?_
  rintro e w2 ⟨⟨m, rfl⟩, p2⟩
  have HP := Lib.hid (HP1.out.go p2)
  clear p2 HC HB
  go_wp2
  go_end0
  exact ⟨rfl, HP.out⟩

set_option maxHeartbeats 4000000 in
theorem wr_text (b1 : Bool) (n : Int) (t : List UInt8) (a1 : Option Addr) (n1 e1 : Nat) (a2 : Option Addr) (n2 e2 : Nat) (w : World) (B b : Nat) (bs : List UInt8) (h : WIn w B b bs (6 * t.length + 2)) :
    Calls Tryz.prog 46 #[.pointer (some ⟨b, 0, none⟩), .agg (bx 3 b1 n t a1 n1 e1 a2 n2 e2)] w fun e w' => e = .returned (.tuple #[]) ∧ Puts B b (bs ++ M.wtext t) w w' := by
  have hb := h.box (.cells (bx 3 b1 n t a1 n1 e1 a2 n2 e2) 27)
  have HB := Lib.hid hb
  have HC := Lib.hid (wtext_any B b bs t _ hb.1.bf (by have := hb.1.len; omega) hb.1.le)
  unfold bx at HC HB ⊢
  clear hb h
  go_enter Tryz.func46, Tryz.ntmps46
  go_wp2_with fail
  refine HC.out.mono ?_
  rintro e w2 ⟨rfl, p2⟩
  have HP := Lib.hid (HB.out.2.go p2)
  clear p2 HC HB
  go_wp2
  go_end0
  exact ⟨rfl, HP.out⟩

end Go.Proofs.YtbgadfaiehkanaaGreatDoor
