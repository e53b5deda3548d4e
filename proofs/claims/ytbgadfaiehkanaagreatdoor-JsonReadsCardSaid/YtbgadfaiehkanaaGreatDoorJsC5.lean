/-
  THE PROGRAM'S READER: text. Conditions: texts of up to 2^40 bytes; the library's variables lie as laid.
-/
import Derived.Test.YtbgadfaiehkanaaGreatDoorPj20
namespace Go.Proofs.YtbgadfaiehkanaaGreatDoor
open Go.RowKit Go.Proofs Go.Shelf
set_option linter.unusedVariables false
set_option maxRecDepth 100000

theorem M.sgn_less {s r : List UInt8} {v : Nat} (h : M.sgn s = some (v, r)) : r.length < s.length ∧ (v < 55296 ∨ 57344 ≤ v ∧ v ≤ 1114111) := by
  cases s with
  | nil => cases h
  | cons c q =>
    unfold M.sgn at h
    dsimp only at h
    by_cases c92 : c = 92
    · rw [if_pos c92] at h
      obtain ⟨_, k, h1, h2, h3⟩ := M.esc_some h
      refine ⟨?_, M.esc_valid h⟩
      rw [h3, List.length_drop, List.length_cons]
      omega
    rw [if_neg c92] at h
    by_cases h32 : c.toNat < 32
    · rw [if_pos h32] at h; cases h
    rw [if_neg h32] at h
    by_cases h0 : (M.rune (c :: q)).2 = 0
    · rw [if_pos h0] at h; cases h
    rw [if_neg h0] at h
    injection h with h
    injection h with h1 h2
    have ok := M.rune_ok c q (M.rune (c :: q)).1 (M.rune (c :: q)).2 rfl h0
    rw [h1] at ok
    refine ⟨?_, ok.great⟩
    rw [← h2, List.length_drop, List.length_cons]
    have := ok.one
    have := ok.len
    omega

theorem M.txtU_sgn (s o : List UInt8) (hn : ¬ [34] <+: s) : M.txtU s o = match M.sgn s with | none => none | some (v, r) => M.txtU r (o ++ M.rbytes v) := by
  cases s with
  | nil => rfl
  | cons c q =>
    have c34 : c ≠ 34 := fun e => hn ⟨q, by rw [e]; rfl⟩
    unfold M.sgn
    dsimp only
    by_cases c92 : c = 92
    · rw [if_pos c92, c92]
      exact M.txtU_esc q o
    rw [if_neg c92]
    by_cases h32 : c.toNat < 32
    · rw [if_pos h32]
      exact M.txtU_low c q o c34 h32
    rw [if_neg h32]
    by_cases h0 : (M.rune (c :: q)).2 = 0
    · rw [if_pos h0]
      exact M.txtU_bad c q o c34 h32 c92 h0
    · rw [if_neg h0]
      dsimp only
      have ok := M.rune_ok c q (M.rune (c :: q)).1 (M.rune (c :: q)).2 rfl h0
      rw [M.txtU_rune c q o c34 h32 c92 h0, ok.bytes]

/-- What is new since w may have turned. -/
theorem Chg.deep {F : Nat → Prop} {w w1 w2 : World} {B : Nat} (h : Chg F w w1) (k : Below B w1 w2) (hB : w.heap.size ≤ B) : Chg F w w2 :=
  ⟨k.os.trans h.os, k.tape.trans h.tape, k.output.trans h.output, Nat.le_trans h.size k.size, fun i hi hf => (k.block i (by omega)).trans (h.block i hi hf)⟩

/-- How a text is read. -/
def TextEnds (w : World) (g : Nat) (o : Option (List UInt8 × List UInt8)) (e : Ending) (w' : World) : Prop :=
  match o with
  | some (t, r) => e = .returned (.string ⟨t.toArray⟩) ∧ Reads w g r w'
  | none => e = BadP ∧ Chg (fun b => b = g) w w'

/-- How much is left to be read. -/
def restLen (w : World) (g : Nat) : Nat := match w.cell? ⟨g, 0, none⟩ with | some (.string s) => s.size | _ => 0
theorem Rd.rest {w : World} {g : Nat} {s : List UInt8} (h : Rd w g s) : restLen w g = s.length := by
  unfold restLen
  rw [h.cell]
  rfl

abbrev Bf (B b : Nat) (bs : List UInt8) (w : World) : Prop := Lib.IsBuilderF 78 5 B b (Lib.byteCells bs) w

theorem bat_chg {B b g : Nat} {p : Value} {bs : List Value} {w w' : World} (h : Lib.BuilderAtF 78 5 B b p bs w) (k : Chg (fun x => x = g) w w') (hg : g < B) : Lib.BuilderAtF 78 5 B b p bs w' := by
  obtain ⟨hB, v, hb, hown, hne⟩ := h
  have hlt : b < w.heap.size := (Array.getElem?_eq_some_iff.1 hb).1
  refine ⟨hB, v, (k.block b hlt (by omega)).trans hb, ?_, hne⟩
  have hgr : w.grownBy w' (some g) := ⟨k.os, k.tape, k.output, k.size, fun i hi e => k.block i hi fun e2 => e (by rw [e2])⟩
  refine hown.kept hgr ?_
  cases ho : v.ownBlock with
  | none => exact .inl rfl
  | some x =>
    refine .inr fun e => ?_
    injection e with e
    have := (hown.lt x ho).1
    omega
theorem Bf.chg {B b g : Nat} {bs : List UInt8} {w w' : World} (h : Bf B b bs w) (k : Chg (fun x => x = g) w w') (hg : g < B) : Bf B b bs w' := h.elim (fun x => .inl (bat_chg x k hg)) (fun x => .inr (bat_chg x k hg))

theorem Bf.fresh (w : World) (b : Nat) (hb : b = w.heap.size) : Bf b b [] (w.alloc (.cells #[.pointer none, .slice none 0 0] 78)) := by
  subst hb
  refine .inl ⟨Nat.le_refl _, .slice none 0 0, Blk.newAt w _ _ _ _ rfl rfl, World.ownsRowF_nil _ _ _ _, by simp [Value.ownBlock]⟩

/-- (*strings.Builder).WriteRune. -/
theorem bRune_any (B b : Nat) (bs : List UInt8) (v : Nat) (hv : v < 55296 ∨ 57344 ≤ v ∧ v ≤ 1114111) (w : World) (h : Bf B b bs w) (hlen : bs.length + 4 ≤ 140737488355328) (hBw : B ≤ w.heap.size) :
    Calls Tryz.prog 162 #[.pointer (some ⟨b, 0, none⟩), .int .i32 (v : Int)] w fun e w' => (∃ n, e = .returned (.tuple #[.int .i64 n, .nilIface])) ∧ Bf B b (bs ++ M.rbytes v) w' ∧ Below B w w' :=
  (Any.Builder_WriteRune_k blay168 bextra15 B b _ (v : Int) (by omega) (by omega) w h (by rw [Lib.byteCells, List.length_map]; exact hlen) hBw).mono fun e w' ⟨h1, h2, h3, _⟩ => ⟨⟨_, h1⟩, .inr (by rw [Lib.byteCells_append, ← M.rune_cells v hv]; exact h2), h3⟩

/-- (*strings.Builder).String. -/
theorem bStr_any (B b : Nat) (bs : List UInt8) (w : World) (h : Bf B b bs w) (hBw : B ≤ w.heap.size) :
    Calls Tryz.prog 47 #[.pointer (some ⟨b, 0, none⟩)] w fun e w' => e = .returned (.string ⟨bs.toArray⟩) ∧ Bf B b bs w' ∧ Below B w w' :=
  (Any.Builder_String_any_k blay169 bextra15 B b bs w h hBw).mono fun e w' ⟨h1, h2, h3, _⟩ => ⟨h1, h2, h3⟩

set_option maxHeartbeats 8000000 in
theorem text_any (g : Nat) (s : List UInt8) (w : World) (h : Rd w g s) (hl : s.length ≤ 1099511627776) (hL : JLaid w) (hg : 6 ≤ g) :
    Calls Tryz.prog 129 #[.pointer (some ⟨g, 0, none⟩)] w (TextEnds w g (M.txtU s [])) := by
  obtain ⟨T, hT⟩ : ∃ T, T = M.txtU s [] := ⟨_, rfl⟩
  have HT := Lib.hid hT
  rw [← hT]
  obtain ⟨b, hb⟩ : ∃ b, b = w.heap.size := ⟨_, rfl⟩
  have HBF : Hid (Bf b b [] (w.alloc (.cells #[.pointer none, .slice none 0 0] 78))) := Bf.fresh w b hb
  have hgb : g < b := by rw [hb]; exact h.lt
  have R0 : Hid (Rd (w.alloc (.cells #[.pointer none, .slice none 0 0] 78)) g s) := h.below ((Below.refl _ _).alloc (Nat.le_refl _) _) h.lt
  have K0 : Hid (Chg (fun x => x = g) w (w.alloc (.cells #[.pointer none, .slice none 0 0] 78))) := (Chg.refl _ _).alloc _
  have Z0 : Hid (b ≤ (w.alloc (.cells #[.pointer none, .slice none 0 0] 78)).heap.size) := by rw [Hid, hb]; simp
  obtain ⟨W0, hW0⟩ : ∃ W, Hid (W = w.alloc (.cells #[.pointer none, .slice none 0 0] 78)) := ⟨_, rfl⟩
  rw [← hW0.out] at HBF R0 K0 Z0
  have HL := Lib.hid hL
  have HSL := Lib.hid hl
  have HB := Lib.hid hb
  clear hT h hl hL
  go_enter Tryz.func129, Tryz.ntmps129
  go_upto_region 2 with fail
  rw [← hW0.out, ← hb]
  clear hb hW0
  go_loopw [4] (fun _ wr => ∃ (r o : List UInt8), Hid (Rd wr g r) ∧ Hid (Bf b b o wr) ∧ Hid (M.txtU r o = T) ∧ Hid (o.length + 4 * r.length ≤ 4 * s.length) ∧ Hid (Chg (fun x => x = g) w wr) ∧ Hid (b ≤ wr.heap.size)) (fun _ wr => restLen wr g)
  case atStart => exact ⟨s, [], R0, HBF, Lib.hid HT.out.symm, Lib.hid (by simp), K0, Z0⟩
  case round =>
    obtain ⟨wz, rfl⟩ : ∃ x, x = wr := ⟨_, rfl⟩
    obtain ⟨r, o, RZ, BZ, TZ, LZ, KZ, ZZ⟩ := hrel
    have hm : restLen wz g = r.length := RZ.out.rest
    have HM := Lib.hid hm
    clear hm
    by_cases h34 : [34] <+: r
    · obtain ⟨q, hq⟩ := h34
      have HC : Hid (Calls Tryz.prog 128 #[.pointer (some ⟨g, 0, none⟩), .string ⟨#[34]⟩] wz fun e w' => e = .returned (.bool true) ∧ Reads wz g q w') := by
        have := RZ.out
        rw [← hq] at this
        exact took_yes g [34] q wz this
      have HE : Hid (T = some (o, q)) := by rw [Hid, ← TZ.out, ← hq]; exact M.txtU_end q o
      clear hq
      go_wp2_with fail
      refine HC.out.mono ?_
      rintro e w1 ⟨rfl, k1⟩
      have K1 := Lib.hid k1
      have B1 := Lib.hid (BZ.out.chg k1.2 hgb)
      have Z1 : Hid (b ≤ w1.heap.size) := Nat.le_trans ZZ.out k1.2.size
      clear k1
      have HS := Lib.hid (bStr_any b b o w1 B1.out Z1.out)
      go_wp2_with fail
      refine HS.out.mono ?_
      rintro e w2 ⟨rfl, _, k2⟩
      have K2 := Lib.hid k2
      clear k2
      go_wp2
      go_ret
      show TextEnds _ _ _ _ _
      rw [HE.out]
      exact ⟨rfl, K1.out.1.below K2.out hgb, (KZ.out.go K1.out.2).deep K2.out (by rw [HB.out]; exact Nat.le_refl _)⟩
    · have HC : Hid (Calls Tryz.prog 128 #[.pointer (some ⟨g, 0, none⟩), .string ⟨#[34]⟩] wz fun e w' => e = .returned (.bool false) ∧ Reads wz g r w') := took_no g r [34] wz RZ.out h34
      have HE : Hid (T = match M.sgn r with | none => none | some (v, q) => M.txtU q (o ++ M.rbytes v)) := by rw [Hid, ← TZ.out]; exact M.txtU_sgn r o h34
      clear h34
      go_wp2_with fail
      refine HC.out.mono ?_
      rintro e w1 ⟨rfl, k1⟩
      have K1 := Lib.hid (KZ.out.go k1.2)
      have R1 := Lib.hid k1.1
      have B1 := Lib.hid (BZ.out.chg k1.2 hgb)
      have Z1 : Hid (b ≤ w1.heap.size) := Nat.le_trans ZZ.out k1.2.size
      have HS := Lib.hid (sign_any g r w1 k1.1 (by have := LZ.out; have := HSL.out; omega) (HL.out.reads K1.out hg) hg)
      clear k1
      go_wp2_with fail
      cases ho : M.sgn r with
      | none =>
        rw [ho] at HS
        rw [Hid, ho] at HE
        have HE1 := Lib.hid HE
        clear HE ho
        refine HS.out.mono ?_
        rintro e w2 ⟨rfl, k2⟩
        have K2 := Lib.hid k2
        clear k2
        go_wp2
        refine ⟨rfl, ?_⟩
        rw [HE1.out]
        exact ⟨rfl, K1.out.go K2.out⟩
      | some p =>
        obtain ⟨v, q⟩ := p
        rw [ho] at HS
        rw [Hid, ho] at HE
        have HE1 : Hid (T = M.txtU q (o ++ M.rbytes v)) := HE
        obtain ⟨hq, hv⟩ := M.sgn_less ho
        have HQ := Lib.hid hq
        clear HE ho hq
        refine HS.out.mono ?_
        rintro e w2 ⟨rfl, k2⟩
        have K2 := Lib.hid (K1.out.go k2.2)
        have R2 := Lib.hid k2.1
        have B2 := Lib.hid (B1.out.chg k2.2 hgb)
        have Z2 : Hid (b ≤ w2.heap.size) := Nat.le_trans Z1.out k2.2.size
        clear k2
        have HW := Lib.hid (bRune_any b b o v hv w2 B2.out (by have := LZ.out; have := HSL.out; omega) Z2.out)
        clear hv
        go_wp2_with fail
        refine HW.out.mono ?_
        rintro e w3 ⟨⟨n, rfl⟩, k3, k4⟩
        have B3 := Lib.hid k3
        have K3 := Lib.hid k4
        clear k3 k4
        go_wp2
        have R3 := R2.out.below K3.out hgb
        refine ⟨⟨q, o ++ M.rbytes v, R3, B3, HE1.out.symm, ?_, K2.out.deep K3.out (by rw [HB.out]; exact Nat.le_refl _), Nat.le_trans Z2.out K3.out.size⟩, ?_⟩
        · have h1 := M.rbytes_le v
          have h2 := LZ.out
          have h3 := HQ.out
          show (o ++ M.rbytes v).length + 4 * q.length ≤ 4 * s.length
          rw [List.length_append]
          omega
        · rw [R3.rest, HM.out]
          exact HQ.out

end Go.Proofs.YtbgadfaiehkanaaGreatDoor
