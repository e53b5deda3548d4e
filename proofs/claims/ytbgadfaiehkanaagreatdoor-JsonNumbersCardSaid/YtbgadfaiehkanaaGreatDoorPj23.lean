/-
  THE PROGRAM'S READER: parts up to a bracket, whatever reads a part. Conditions: none.
  THE PROGRAM'S READER: list, if value holds. Conditions: texts of up to 65536 bytes; the library's variables lie as laid.
  THE PROGRAM'S NAMES: what is asked of each name of a map, in order, whether it is new. Conditions: fewer than 100000 names.
  THE PROGRAM'S READER: a map's members in memory, as they are read. Conditions: none.
  THE PROGRAM'S READER: a member that isn't one. Conditions: texts of up to 65536 bytes; the library's variables lie as laid.
-/
import Derived.Test.YtbgadfaiehkanaaGreatDoorJsD2
import Derived.Laws.EntriesVeiled
import Derived.Test.YtbgadfaiehkanaaGreatDoorPj5
import Derived.Test.YtbgadfaiehkanaaGreatDoorRefJsR
import Derived.Test.YtbgadfaiehkanaaGreatDoorPj22

namespace Go.Proofs.YtbgadfaiehkanaaGreatDoor
open Go.RowKit Go.Proofs Go.Shelf
set_option linter.unusedVariables false
set_option maxRecDepth 100000

/-- Behind a part. -/
def M.afterG {α : Type} (step : List UInt8 → α → M.PR α) (shut : UInt8) (f : Nat) (s : List UInt8) (a : α) : M.PR α :=
  match s with
  | [] => .err 8
  | c :: r => if c = shut then .ok a r else if c = 44 then M.loopG step shut f r a else .err 8

theorem M.loopG_step {α : Type} (step : List UInt8 → α → M.PR α) (shut : UInt8) (f : Nat) (s : List UInt8) (a : α) : M.loopG step shut (f + 1) s a = match step s a with | .err c => .err c | .ok a2 r => M.afterG step shut f r a2 := by
  rw [M.loopG]
  cases step s a with
  | err c => rfl
  | ok a2 r => cases r <;> rfl

/-- Ahead of the first part. -/
def M.headG {α : Type} (step : List UInt8 → α → M.PR α) (shut : UInt8) (F : Nat) (s : List UInt8) (a : α) : M.PR α :=
  match s with
  | [] => M.loopG step shut (F + 1) [] a
  | c :: r => if c = shut then .ok a r else M.loopG step shut (F + 1) (c :: r) a
theorem M.partsG_head {α : Type} (step : List UInt8 → α → M.PR α) (shut : UInt8) (s : List UInt8) (a : α) : M.partsG step shut s a = M.headG step shut s.length (M.blk s) a := by
  unfold M.partsG M.headG
  cases M.blk s <;> rfl

/-- What reads a part, and what stands in memory meanwhile: SJ ahead of a part, Sa behind one, Fin at the end, End behind a panic. -/
structure PartOk {α : Type} (N : Nat) (lb : Array Value) (g : Nat) (step : List UInt8 → α → M.PR α) (SJ Sa Fin : World → List UInt8 → α → Prop) (End : World → Prop) : Prop where
  enters : ∀ args w, (callFunc N args).run Tryz.prog w = .ok (.enter N args) w
  rdS : ∀ w s a, SJ w s a → Rd w g s
  rdA : ∀ w s a, Sa w s a → Rd w g s
  move : ∀ w s r a w', SJ w s a → Reads w g r w' → r.length ≤ s.length → SJ w' r a
  comma : ∀ w s r a w', Sa w s a → Reads w g r w' → r.length + 1 ≤ s.length → SJ w' r a
  finS : ∀ w s r a w', SJ w s a → Reads w g r w' → Fin w' r a
  finA : ∀ w s r a w', Sa w s a → Reads w g r w' → Fin w' r a
  endS : ∀ w s a w', SJ w s a → Chg (fun b => b = g) w w' → End w'
  endA : ∀ w s a w', Sa w s a → Chg (fun b => b = g) w w' → End w'
  ok : ∀ w s a a2 r, SJ w s a → step s a = .ok a2 r → Calls Tryz.prog N lb w fun e w' => e = .returned (.tuple #[]) ∧ Sa w' r a2
  err : ∀ w s a c, SJ w s a → step s a = .err c → Calls Tryz.prog N lb w fun e w' => ∃ T, e = PanT T ∧ PanOf T c ∧ End w'
  le : M.StepLe step

/-- How parts ends. -/
def PEnds {α : Type} (Fin : World → List UInt8 → α → Prop) (End : World → Prop) (res : M.PR α) (e : Ending) (w' : World) : Prop :=
  match res with
  | .ok a r => e = .returned (.tuple #[]) ∧ Fin w' r a
  | .err c => ∃ T, e = PanT T ∧ PanOf T c ∧ End w'

theorem pan8 : PanOf 69 8 := .inr ⟨rfl, rfl⟩

set_option maxHeartbeats 8000000 in
theorem parts_any {α : Type} {N : Nat} {lb : Array Value} {g : Nat} {step : List UInt8 → α → M.PR α} {SJ Sa Fin : World → List UInt8 → α → Prop} {End : World → Prop} (X : PartOk N lb g step SJ Sa Fin End)
    (shut : UInt8) (s : List UInt8) (a : α) (w : World) (h : SJ w s a) :
    Calls Tryz.prog 164 #[.pointer (some ⟨g, 0, none⟩), .string ⟨#[shut]⟩, .func (.func N) #[] lb] w (PEnds Fin End (M.partsG step shut s a)) := by
  have eg := X.enters
  have HX := Lib.hid X
  have HB := Lib.hid (blanks_any g s w (X.rdS w s a h))
  obtain ⟨res, hres⟩ : ∃ r, r = M.partsG step shut s a := ⟨_, rfl⟩
  have HS : Hid (∀ w1, Reads w g (M.blk s) w1 → SJ w1 (M.blk s) a) := fun w1 k => X.move w s (M.blk s) a w1 h k (M.blk_le s)
  obtain ⟨s1, hs1⟩ : ∃ t, t = M.blk s := ⟨_, rfl⟩
  have hle : s1.length ≤ s.length := by rw [hs1]; exact M.blk_le s
  have HRES : Hid (res = M.headG step shut s.length s1 a) := by
    rw [Hid, hres, hs1]
    exact M.partsG_head step shut s a
  rw [← hs1] at HB HS
  rw [← hres]
  obtain ⟨F, hF⟩ : ∃ F, F = s.length := ⟨_, rfl⟩
  rw [← hF] at hle HRES
  clear X h hres hs1 hF
  go_enter Tryz.func164, Tryz.ntmps164
  go_wp2_with fail
  refine HB.out.mono ?_
  rintro e w1 ⟨rfl, k1⟩
  have S1 := Lib.hid (HS.out w1 k1)
  clear k1
  by_cases hsh : [shut] <+: s1
  · obtain ⟨r, hr⟩ := hsh
    have HT : Hid (Calls Tryz.prog 128 #[.pointer (some ⟨g, 0, none⟩), .string ⟨#[shut]⟩] w1 fun e w' => e = .returned (.bool true) ∧ Reads w1 g r w') := by
      have := HX.out.rdS _ _ _ S1.out
      rw [← hr] at this
      exact took_yes g [shut] r w1 this
    have HM : Hid (res = .ok a r) := by
      rw [Hid, HRES.out, ← hr]
      unfold M.headG
      dsimp only [List.singleton_append]
      rw [if_pos rfl]
    clear hr
    go_wp2_with fail
    refine HT.out.mono ?_
    rintro e w2 ⟨rfl, k2⟩
    have K2 := Lib.hid k2
    clear k2
    go_wp2
    first | go_end0 | skip
    rw [HM.out]
    exact ⟨rfl, HX.out.finS w1 s1 r a w2 S1.out K2.out⟩
  · have HT : Hid (Calls Tryz.prog 128 #[.pointer (some ⟨g, 0, none⟩), .string ⟨#[shut]⟩] w1 fun e w' => e = .returned (.bool false) ∧ Reads w1 g s1 w') := took_no g s1 [shut] w1 (HX.out.rdS _ _ _ S1.out) hsh
    have HM : Hid (res = M.loopG step shut (F + 1) s1 a) := by
      rw [Hid, HRES.out]
      unfold M.headG
      cases s1 with
      | nil => rfl
      | cons c r =>
        dsimp only
        rw [if_neg (fun e => hsh ⟨r, by rw [e]; rfl⟩)]
    rw [Hid, M.loopG_step] at HM
    have HM1 := Lib.hid HM
    clear hsh HM
    go_wp2_with fail
    refine HT.out.mono ?_
    rintro e w2 ⟨rfl, k2⟩
    have S2 := Lib.hid (HX.out.move w1 s1 s1 a w2 S1.out k2 (Nat.le_refl _))
    clear k2
    cases hst : step s1 a with
    | err c =>
      have HC := Lib.hid (HX.out.err w2 s1 a c S2.out hst)
      rw [Hid, hst] at HM1
      have HM := Lib.hid HM1
      clear HM1 hst
      go_wp2_with fail
      refine HC.out.mono ?_
      rintro e w3 ⟨T, rfl, hT, hE⟩
      go_wp2
      refine ⟨rfl, ?_⟩
      rw [HM.out]
      exact ⟨T, rfl, hT, hE⟩
    | ok a2 r =>
      have HC := Lib.hid (HX.out.ok w2 s1 a a2 r S2.out hst)
      have hrl := HX.out.le s1 a a2 r hst
      rw [Hid, hst] at HM1
      have HM : Hid (res = M.afterG step shut F r a2) := HM1
      have HLE : Hid (r.length ≤ F) := Nat.le_trans hrl hle
      clear HM1 hst hrl hle
      go_wp2_with fail
      refine HC.out.mono ?_
      rintro e w3 ⟨rfl, h3⟩
      have A3 := Lib.hid h3
      clear h3
      go_wp2
      go_loopw [13] (fun _ wr => ∃ (t : List UInt8) (b : α) (f : Nat), Hid (Sa wr t b) ∧ Hid (res = M.afterG step shut f t b) ∧ Hid (t.length ≤ f)) (fun _ wr => restLen wr g)
      case atStart => exact ⟨r, a2, F, A3, HM, HLE⟩
      case round =>
        obtain ⟨wz, rfl⟩ : ∃ x, x = wr := ⟨_, rfl⟩
        obtain ⟨t, b, f, AZ, MZ, LZ⟩ := hrel
        have hm : restLen wz g = t.length := (HX.out.rdA _ _ _ AZ.out).rest
        have HRL := Lib.hid hm
        clear hm
        by_cases hsh : [shut] <+: t
        · obtain ⟨r2, hr⟩ := hsh
          have HT : Hid (Calls Tryz.prog 128 #[.pointer (some ⟨g, 0, none⟩), .string ⟨#[shut]⟩] wz fun e w' => e = .returned (.bool true) ∧ Reads wz g r2 w') := by
            have := HX.out.rdA _ _ _ AZ.out
            rw [← hr] at this
            exact took_yes g [shut] r2 wz this
          have HM2 : Hid (res = .ok b r2) := by
            rw [Hid, MZ.out, ← hr]
            unfold M.afterG
            dsimp only [List.singleton_append]
            rw [if_pos rfl]
          clear hr
          go_wp2_with fail
          refine HT.out.mono ?_
          rintro e w4 ⟨rfl, k4⟩
          have K4 := Lib.hid k4
          clear k4
          go_wp2
          first | go_end0 | skip
          rw [HM2.out]
          exact ⟨rfl, HX.out.finA wz t r2 b w4 AZ.out K4.out⟩
        have HT : Hid (Calls Tryz.prog 128 #[.pointer (some ⟨g, 0, none⟩), .string ⟨#[shut]⟩] wz fun e w' => e = .returned (.bool false) ∧ Reads wz g t w') := took_no g t [shut] wz (HX.out.rdA _ _ _ AZ.out) hsh
        by_cases h44 : [44] <+: t
        · obtain ⟨r2, hr⟩ := h44
          have hne : ¬ (44 : UInt8) = shut := fun e => hsh ⟨r2, by rw [← hr, e]⟩
          have hf : r2.length + 1 ≤ f := by have := LZ.out; rw [← hr] at this; simpa using this
          obtain ⟨f2, rfl⟩ : ∃ f2, f = f2 + 1 := ⟨f - 1, by omega⟩
          have HM2 : Hid (res = M.loopG step shut (f2 + 1) r2 b) := by
            rw [Hid, MZ.out, ← hr]
            unfold M.afterG
            dsimp only [List.singleton_append]
            rw [if_neg hne, if_pos rfl]
          have HMU : Hid (∀ w1, Reads wz g t w1 → Calls Tryz.prog 167 #[.pointer (some ⟨g, 0, none⟩), .string ⟨#[44]⟩] w1 fun e w2 => e = .returned (.tuple #[]) ∧ Reads w1 g r2 w2) := by
            intro w1 h1
            have h1 := h1.1
            rw [← hr] at h1
            exact must_yes g [44] r2 w1 h1
          have hlt : r2.length + 1 = t.length := by rw [← hr]; simp
          have HLT := Lib.hid hlt
          have HF2 : Hid (r2.length ≤ f2) := by rw [Hid]; omega
          rw [Hid, M.loopG_step] at HM2
          have HM3 := Lib.hid HM2
          clear hr hne hf hsh hlt HM2
          go_wp2_with fail
          refine HT.out.mono ?_
          rintro e w4 ⟨rfl, k4⟩
          have K4 := Lib.hid k4
          clear k4
          go_wp2_with fail
          refine (HMU.out w4 K4.out).mono ?_
          rintro e w5 ⟨rfl, k5⟩
          have S5 : Hid (SJ w5 r2 b) := HX.out.comma wz t r2 b w5 AZ.out ⟨k5.1, K4.out.2.go k5.2⟩ (by have := HLT.out; omega)
          clear k5
          cases hst : step r2 b with
          | err c =>
            have HC2 := Lib.hid (HX.out.err w5 r2 b c S5.out hst)
            rw [Hid, hst] at HM3
            have HM4 := Lib.hid HM3
            clear HM3 hst
            go_wp2_with fail
            refine HC2.out.mono ?_
            rintro e w6 ⟨T, rfl, hT, hE⟩
            go_wp2
            refine ⟨rfl, ?_⟩
            rw [HM4.out]
            exact ⟨T, rfl, hT, hE⟩
          | ok b2 r3 =>
            have HC2 := Lib.hid (HX.out.ok w5 r2 b b2 r3 S5.out hst)
            have HL3 := Lib.hid (HX.out.le r2 b b2 r3 hst)
            rw [Hid, hst] at HM3
            have HM4 : Hid (res = M.afterG step shut f2 r3 b2) := HM3
            clear HM3 hst
            go_wp2_with fail
            refine HC2.out.mono ?_
            rintro e w6 ⟨rfl, h6⟩
            have A6 := Lib.hid h6
            clear h6
            go_wp2
            refine ⟨⟨r3, b2, f2, A6, HM4, Nat.le_trans HL3.out HF2.out⟩, ?_⟩
            rw [(HX.out.rdA _ _ _ A6.out).rest, HRL.out]
            have h1 := HL3.out
            have h2 := HLT.out
            omega
        · have HM2 : Hid (res = .err 8) := by
            rw [Hid, MZ.out]
            unfold M.afterG
            cases t with
            | nil => rfl
            | cons c r2 =>
              dsimp only
              rw [if_neg (fun e => hsh ⟨r2, by rw [e]; rfl⟩), if_neg (fun e => h44 ⟨r2, by rw [e]; rfl⟩)]
          have HMU : Hid (∀ w1, Reads wz g t w1 → Calls Tryz.prog 167 #[.pointer (some ⟨g, 0, none⟩), .string ⟨#[44]⟩] w1 fun e w2 => e = BadP ∧ Chg (fun b => b = g) w1 w2) := fun w1 h1 => must_no g t [44] w1 h1.1 h44
          clear hsh h44
          go_wp2_with fail
          refine HT.out.mono ?_
          rintro e w4 ⟨rfl, k4⟩
          have K4 := Lib.hid k4
          clear k4
          go_wp2_with fail
          refine (HMU.out w4 K4.out).mono ?_
          rintro e w5 ⟨rfl, k5⟩
          go_wp2
          refine ⟨rfl, ?_⟩
          rw [HM2.out]
          exact ⟨_, rfl, pan8, HX.out.endA wz t b w5 AZ.out (K4.out.2.go k5)⟩

end Go.Proofs.YtbgadfaiehkanaaGreatDoor

namespace Go.Proofs.YtbgadfaiehkanaaGreatDoor
open Go.RowKit Go.Proofs Go.Shelf
set_option linter.unusedVariables false
set_option maxRecDepth 100000

/-- What was read, as a value. -/
theorem JL.val {w0 : World} {g gR gD gO d : Nat} {q : Int} {wr : World} {L : List M.GV} {lss : List (List Value)} {lv : Value} {Q : Nat → Prop} (S : JL w0 g gR gD gO d q wr L lss lv Q) : IsT (fun x => w0.heap.size ≤ x) wr (d + 1) (vcs 4 false 0 [] lv (.slice none 0 0)) (M.vList L) := by
  have h1 := S.l1; have h2 := S.l2; have h3 := S.l3; have h4 := S.l4
  refine ⟨lv, .slice none 0 0, lss, [], Q, fun _ => False, rfl, S.ln, RowAt.own S.row fun x hx => ?_, S.each, rfl, RowAt.nil _ _ _, Fam.zero _ _, fun x hx => ?_, fun _ h => h.elim, fun _ _ h => by cases h⟩
  · have := (S.row.lt x hx).1
    show w0.heap.size ≤ x
    omega
  · have := (S.q x hx).1
    exact ⟨by show w0.heap.size ≤ x; omega, (S.q x hx).2.2, (fun h => by cases h), fun h => h⟩

/-- The state of a list that is being read. -/
def LSt (w0 : World) (g gR gD gO d : Nat) (q : Int) (K : Nat) (wr : World) (s : List UInt8) (L : List M.GV) : Prop :=
  (∃ lss lv Q, JL w0 g gR gD gO d q wr L lss lv Q) ∧ Rd wr g s ∧ L.length + s.length ≤ K

theorem LSt.move {w0 : World} {g gR gD gO d : Nat} {q : Int} {K K2 : Nat} {wr w' : World} {s r : List UInt8} {L : List M.GV} (h : LSt w0 g gR gD gO d q K wr s L) (k : Reads wr g r w') (hl : L.length + r.length ≤ K2) : LSt w0 g gR gD gO d q K2 w' r L := by
  obtain ⟨⟨lss, lv, Q, S⟩, _, _⟩ := h
  exact ⟨⟨lss, lv, Q, S.goes k.2⟩, k.1, hl⟩

theorem LSt.chg {w0 : World} {g gR gD gO d : Nat} {q : Int} {K : Nat} {wr : World} {s : List UInt8} {L : List M.GV} (h : LSt w0 g gR gD gO d q K wr s L) : Chg (fun b => b = g) w0 wr := by
  obtain ⟨⟨lss, lv, Q, S⟩, _, _⟩ := h
  exact S.chg

def LFin (w0 : World) (g gR gD gO d : Nat) (q : Int) (wr : World) (s : List UInt8) (L : List M.GV) : Prop := (∃ lss lv Q, JL w0 g gR gD gO d q wr L lss lv Q) ∧ Rd wr g s

theorem listPart {w0 : World} {g gR gD gO d : Nat} {q : Int} (K : Nat) (V : JVal d q) (hL : JLaid w0) (hg : 6 ≤ g) (hK : K ≤ 65536) :
    PartOk 165 #[.pointer (some ⟨gO, 0, none⟩), .pointer (some ⟨gR, 0, none⟩), .pointer (some ⟨gD, 0, none⟩)] g (M.lstep (M.val2 d)) (LSt w0 g gR gD gO d q K) (LSt w0 g gR gD gO d q (K + 1)) (LFin w0 g gR gD gO d q) (fun wr => Chg (fun b => b = g) w0 wr) where
  enters := enters_of Tryz.func165 (by kernel_rfl) rfl
  rdS := fun _ _ _ h => h.2.1
  rdA := fun _ _ _ h => h.2.1
  move := fun w s r a w' h k hl => h.move k (by have := h.2.2; omega)
  comma := fun w s r a w' h k hl => h.move k (by have := h.2.2; omega)
  finS := fun w s r a w' h k => ⟨(h.move (K2 := a.length + r.length) k (Nat.le_refl _)).1, k.1⟩
  finA := fun w s r a w' h k => ⟨(h.move (K2 := a.length + r.length) k (Nat.le_refl _)).1, k.1⟩
  endS := fun w s a w' h k => h.chg.go k
  endA := fun w s a w' h k => h.chg.go k
  ok := fun w s a a2 r h hst => by
    have hle := M.lstep_le (M.val2_le d) s a a2 r hst
    unfold M.lstep at hst
    cases hv : M.val2 d s with
    | err c => rw [hv] at hst; cases hst
    | ok x r0 =>
      rw [hv] at hst
      injection hst with e1 e2
      subst e1 e2
      have hc := h.chg
      obtain ⟨⟨lss, lv, Q, S⟩, hR, hb⟩ := h
      refine (list1_ok V S s hR (by omega) (by omega) (hL.reads hc hg) hg x r0 hv).mono ?_
      rintro e w' ⟨rfl, h1, h2⟩
      exact ⟨rfl, h2, h1, by rw [List.length_append, List.length_singleton]; omega⟩
  err := fun w s a c h hst => by
    unfold M.lstep at hst
    cases hv : M.val2 d s with
    | ok x r0 => rw [hv] at hst; cases hst
    | err c2 =>
      rw [hv] at hst
      injection hst with e1
      subst e1
      have hc := h.chg
      obtain ⟨⟨lss, lv, Q, S⟩, hR, hb⟩ := h
      exact list1_err V S s hR (by omega) (hL.reads hc hg) hg c2 hv
  le := M.lstep_le (M.val2_le d)

/-- How list ends. -/
def ListEnds (w : World) (g d : Nat) (res : M.PR (List M.GV)) (e : Ending) (w' : World) : Prop :=
  match res with
  | .ok L r => ∃ lv, e = .returned lv ∧ IsT (fun x => w.heap.size ≤ x) w' (d + 1) (vcs 4 false 0 [] lv (.slice none 0 0)) (M.vList L) ∧ Reads w g r w'
  | .err c => ∃ T, e = PanT T ∧ PanOf T c ∧ Chg (fun b => b = g) w w'

set_option maxHeartbeats 8000000 in
theorem list_any {d : Nat} {q : Int} (V : JVal d q) (g : Nat) (s : List UInt8) (w : World) (h : Rd w g s) (hl : s.length ≤ 65536) (hL : JLaid w) (hg : 6 ≤ g) :
    Calls Tryz.prog 130 #[.pointer (some ⟨g, 0, none⟩), .int .i64 q] w (ListEnds w g d (M.partsG (M.lstep (M.val2 d)) 93 s [])) := by
  have hmf : ∀ (fn : Fn) (first cap : Array Value) (w : World), (Instr.makeFunc fn first cap).run Tryz.prog w = .ok (.func fn first cap) w := fun _ _ _ _ => rfl
  obtain ⟨W1, hW1⟩ : ∃ W, W = w.alloc (.cells #[.pointer (some ⟨g, 0, none⟩)] 127) := ⟨_, rfl⟩
  obtain ⟨gR, hgR⟩ : ∃ x, x = w.heap.size := ⟨_, rfl⟩
  obtain ⟨W2, hW2⟩ : ∃ W, W = W1.alloc (.cells #[.int .i64 q] 3) := ⟨_, rfl⟩
  obtain ⟨gD, hgD⟩ : ∃ x, x = W1.heap.size := ⟨_, rfl⟩
  obtain ⟨W3, hW3⟩ : ∃ W, W = W2.alloc (.cells #[.slice none 0 0] 24) := ⟨_, rfl⟩
  obtain ⟨gO, hgO⟩ : ∃ x, x = W2.heap.size := ⟨_, rfl⟩
  have s1 : W1.heap.size = w.heap.size + 1 := by rw [hW1]; simp
  have s2 : W2.heap.size = W1.heap.size + 1 := by rw [hW2]; simp
  have s3 : W3.heap.size = W2.heap.size + 1 := by rw [hW3]; simp
  have b1 : Blk W1 gR 127 [.pointer (some ⟨g, 0, none⟩)] := by rw [hW1]; exact Blk.newAt _ _ _ _ _ hgR rfl
  have b2 : Blk W2 gD 3 [.int .i64 q] := by rw [hW2]; exact Blk.newAt _ _ _ _ _ hgD rfl
  have b3 : Blk W3 gO 24 [.slice none 0 0] := by rw [hW3]; exact Blk.newAt _ _ _ _ _ hgO rfl
  have k1 : Below w.heap.size w W1 := by rw [hW1]; exact (Below.refl _ _).alloc (Nat.le_refl _) _
  have k2 : Below W1.heap.size W1 W2 := by rw [hW2]; exact (Below.refl _ _).alloc (Nat.le_refl _) _
  have k3 : Below W2.heap.size W2 W3 := by rw [hW3]; exact (Below.refl _ _).alloc (Nat.le_refl _) _
  have k13 : Below w.heap.size w W3 := k1.trans ((k2.trans (k3.mono (by omega))).mono (by omega))
  have hlt := h.lt
  have S3 : JL w g gR gD gO d q W3 [] [] (.slice none 0 0) (fun _ => False) :=
    ⟨((b1.below k2 b1.lt).below k3 (by have := b1.lt; omega)), b2.below k3 b2.lt, b3, World.ownsRow_nil _ _ _ _, rfl, Fam.zero _ _, fun x hx => hx.elim, Chg.of_below k13, hlt, by omega, by omega, by omega⟩
  have X := listPart (w0 := w) (g := g) (gR := gR) (gD := gD) (gO := gO) s.length V hL hg hl
  have HP := Lib.hid (parts_any X 93 s [] W3 ⟨⟨[], _, _, S3⟩, h.below k13 hlt, by simp⟩)
  have HCR : Hid (W3.cell? ⟨gR, 0, none⟩ = some (.pointer (some ⟨g, 0, none⟩))) := S3.kR.cell 0
  obtain ⟨res, hres⟩ : ∃ r, r = M.partsG (M.lstep (M.val2 d)) 93 s [] := ⟨_, rfl⟩
  rw [← hres] at HP ⊢
  have e1 : Hid (gD = w.heap.size + 1) := by rw [Hid, hgD, s1]
  have e2 : Hid (gO = w.heap.size + 1 + 1) := by rw [Hid, hgO, s2, s1]
  have e0 := Lib.hid hgR
  have E1 := Lib.hid hW1
  have E2 := Lib.hid hW2
  have E3 := Lib.hid hW3
  clear hres hgR hgD hgO hW1 hW2 hW3 s1 s2 s3 b1 b2 b3 k1 k2 k3 k13 hlt S3 X V h hl hL
  go_enter Tryz.func130, Tryz.ntmps130
  go_upto_region 2 with fail
  rw [← e2.out, ← e1.out, ← e0.out, ← E1.out, ← E2.out, ← E3.out]
  have c1 := HCR.out
  clear e0 e1 e2 E1 E2 E3
  go_wp2_with fail
  refine HP.out.mono ?_
  intro e w4 h4
  have H4 := Lib.hid h4
  clear h4 c1 HCR HP
  cases res with
  | err c =>
    obtain ⟨T, rfl, hT, k4⟩ := H4.out
    clear H4
    go_wp2
    exact ⟨rfl, T, rfl, hT, k4⟩
  | ok L r =>
    obtain ⟨rfl, ⟨lss, lv, Q, S4⟩, R4⟩ := H4.out
    have c4 : w4.cell? ⟨gO, 0, none⟩ = some lv := S4.kO.cell 0
    have HS := Lib.hid S4
    have HR := Lib.hid R4
    obtain ⟨la, n, lc, rfl⟩ := rowV_shape S4.row
    clear S4 R4 H4
    go_wp2
    go_ret
    exact ⟨_, rfl, HS.out.val, HR.out, HS.out.chg⟩

end Go.Proofs.YtbgadfaiehkanaaGreatDoor

namespace Go.Proofs.YtbgadfaiehkanaaGreatDoor
open Go.RowKit Go.Proofs Go.Shelf
set_option linter.unusedVariables false
set_option maxRecDepth 100000

/-- The names that were there. -/
structure NmAt (w : World) (gB gM : Nat) (ns : List (List UInt8)) : Prop where
  box : Blk w gB 208 [.map (some gM)]
  map : ∃ es, IsMp w gM es ∧ (∀ k, (M.kget es k).isSome = ns.contains k) ∧ es.length ≤ ns.length ∧ ∀ p ∈ es, p.2 = .agg #[]
  ne : gB ≠ gM

theorem NmAt.chg {F : Nat → Prop} {w w' : World} {gB gM : Nat} {ns : List (List UInt8)} (h : NmAt w gB gM ns) (k : Chg F w w') (h1 : ¬ F gB) (h2 : ¬ F gM) : NmAt w' gB gM ns := by
  obtain ⟨hb, ⟨es, hm, h⟩, hn⟩ := h
  exact ⟨hb.chg k h1, ⟨es, hm.chg k h2, h⟩, hn⟩

set_option maxHeartbeats 4000000 in
theorem isNew_any (gB gM : Nat) (ns : List (List UInt8)) (nm : List UInt8) (w : World) (h : NmAt w gB gM ns) (hfew : ns.length < 100000) (hnm : nm.length ≤ maxLen) :
    Calls Tryz.prog 171 #[.string ⟨nm.toArray⟩, .pointer (some ⟨gB, 0, none⟩)] w fun e w' => e = .returned (.bool (!ns.contains nm)) ∧ NmAt w' gB gM (ns ++ [nm]) ∧ Chg (fun b => b = gM) w w' := by
  obtain ⟨hb, ⟨es, hm, hk, hl, hv⟩, hne⟩ := h
  have c0 := hb.cell 0
  have hz : (zeroValue 64).run Tryz.prog w = .ok (.agg #[]) w := by
    have := Tryz.zeroValue64
    first | exact this w | exact this
  have hlk := hm.look_ok (t := 208) (e := 64) Tryz.underlying208 hz nm hnm
  have hget : (M.kget es nm).getD (.agg #[]) = .agg #[] := by
    cases hg : M.kget es nm with
    | none => rfl
    | some v =>
      have := hv _ (M.kget_mem hg)
      exact this
  rw [hget, hk nm] at hlk
  obtain ⟨b, hbb⟩ : ∃ b, b = ns.contains nm := ⟨_, rfl⟩
  rw [← hbb] at hlk ⊢
  obtain ⟨W1, hW1⟩ : ∃ W, W = w.alloc (.cells #[] 64) := ⟨_, rfl⟩
  have k1 : Below w.heap.size w W1 := by rw [hW1]; exact (Below.refl _ _).alloc (Nat.le_refl _) _
  have hb1 := hb.below k1 hb.lt
  have c1 : W1.cell? ⟨gB, 0, none⟩ = some (.map (some gM)) := hb1.cell 0
  have hm1 := hm.below k1
  obtain ⟨w', hr, hm2, hg2, hz2⟩ := hm1.store (t := 208) (e := 64) Tryz.underlying208 nm (.agg #[]) hnm (by omega)
  have HEND : Hid (NmAt w' gB gM (ns ++ [nm]) ∧ Chg (fun b => b = gM) w w') := by
    have hb2 := hb1.grown hg2 (fun e => hne (Option.some.inj e))
    refine ⟨⟨hb2, ⟨_, hm2, fun k => ?_, ?_, ?_⟩, hne⟩, ?_⟩
    · rw [M.kget_kput hm.rise]
      by_cases e : k = nm
      · rw [if_pos e, e]; simp
      · rw [if_neg e, hk k]; simp [e]
    · have := M.kput_le es nm (.agg #[])
      rw [List.length_append, List.length_singleton]
      omega
    · intro p hp
      rcases (M.mem_kput es nm (.agg #[]) p).1 hp with e | ⟨e, _⟩
      · rw [e]
      · exact hv p e
    · exact (Chg.of_below k1).trans (Chg.of_grown (F := fun b => b = gM) hg2 fun k e => (Option.some.inj e).symm) fun _ _ h => h
  have HW := Lib.hid hW1
  have HBB := Lib.hid hbb
  clear hb hne hm hk hl hv hget hbb k1 hb1 hm1 hm2 hg2 hz2 hW1 hfew hnm
  go_enter Tryz.func171, Tryz.ntmps171
  go_upto_region 2 with fail
  rw [← HW.out]
  clear HW c0 hlk hz
  go_wp2
  go_ret
  exact ⟨rfl, HEND.out⟩

end Go.Proofs.YtbgadfaiehkanaaGreatDoor

namespace Go.Proofs.YtbgadfaiehkanaaGreatDoor
open Go.RowKit Go.Proofs Go.Shelf
set_option linter.unusedVariables false
set_option maxRecDepth 100000

theorem M.txtU_len (n : Nat) : ∀ (s o t r : List UInt8), s.length ≤ n → M.txtU s o = some (t, r) → t.length ≤ o.length + 4 * s.length := by
  induction n with
  | zero =>
    intro s o t r hn h
    have e : s = [] := List.eq_nil_of_length_eq_zero (by omega)
    rw [e] at h
    cases h
  | succ n ih =>
    intro s o t r hn h
    by_cases h34 : [34] <+: s
    · obtain ⟨q, rfl⟩ := h34
      rw [List.singleton_append, M.txtU_end] at h
      injection h with h
      injection h with h _
      rw [← h]
      omega
    · rw [M.txtU_sgn s o h34] at h
      cases hs : M.sgn s with
      | none => rw [hs] at h; cases h
      | some p =>
        obtain ⟨v, q⟩ := p
        rw [hs] at h
        have h1 := (M.sgn_less hs).1
        have h2 := ih q _ t r (by omega) h
        have h3 := M.rbytes_le v
        rw [List.length_append] at h2
        omega

/-- Seven cells are a member. -/
def IsM (S : Nat → Prop) (w : World) (d : Nat) (cs : List Value) (p : List UInt8 × M.GV) : Prop := ∃ c, cs = .string ⟨p.1.toArray⟩ :: c ∧ IsT S w d c p.2

theorem IsM.chg {S F : Nat → Prop} {w w' : World} (k : Chg F w w') (hF : ∀ b, S b → ¬ F b) {d : Nat} {cs : List Value} {p : List UInt8 × M.GV} (h : IsM S w d cs p) : IsM S w' d cs p := by
  obtain ⟨c, e, h⟩ := h
  exact ⟨c, e, IsT.chg k hF d h⟩
theorem IsM.mono {S R : Nat → Prop} {w : World} (hs : ∀ b, b < w.heap.size → S b → R b) {d : Nat} {cs : List Value} {p : List UInt8 × M.GV} (h : IsM S w d cs p) : IsM R w d cs p := by
  obtain ⟨c, e, h⟩ := h
  exact ⟨c, e, IsT.mono hs d h⟩

/-- Where a map that is being read lies. -/
structure JPl where
  gR : Nat
  gD : Nat
  gO : Nat
  gM : Nat
  gB : Nat
  gF : Nat
  H : Nat

/-- A map that is being read: what its closure holds, and the members so far. -/
structure JM (w0 : World) (g : Nat) (p : JPl) (d : Nat) (q : Int) (wr : World) (m : List (List UInt8 × M.GV)) (ns : List (List UInt8)) (mss : List (List Value)) (mv : Value) (Q : Nat → Prop) : Prop where
  kR : Blk wr p.gR 127 [.pointer (some ⟨g, 0, none⟩)]
  kD : Blk wr p.gD 3 [.int .i64 q]
  kO : Blk wr p.gO 25 [mv]
  kF : Blk wr p.gF 100 [.func (.func 171) #[] #[.pointer (some ⟨p.gB, 0, none⟩)]]
  nm : NmAt wr p.gB p.gM ns
  row : wr.ownsRow p.H 55 7 mv m.length mss.flatten
  ln : mss.length = m.length
  each : Fam Q (fun i T => IsM T wr d (mss.getD i []) (m.getD i ([], M.vNull))) m.length
  q : ∀ x, Q x → p.H ≤ x ∧ x < wr.heap.size ∧ mv.ownBlock ≠ some x
  chg : Chg (fun b => b = g) w0 wr
  l0 : g < w0.heap.size
  l1 : w0.heap.size ≤ p.gR
  l2 : p.gR < p.gD
  l3 : p.gD < p.gO
  l4 : p.gO < p.gM
  l5 : p.gM < p.gB
  l6 : p.gB < p.gF
  l7 : p.gF < p.H
  l8 : p.H ≤ wr.heap.size

/-- The reader goes on, or a name comes to those that were there. -/
theorem JM.goes {w0 : World} {g : Nat} {p : JPl} {d : Nat} {q : Int} {wr w' : World} {m : List (List UInt8 × M.GV)} {ns ns2 : List (List UInt8)} {mss : List (List Value)} {mv : Value} {Q : Nat → Prop} (S : JM w0 g p d q wr m ns mss mv Q) (k : Chg (fun b => b = g ∨ b = p.gM) wr w') (hn : NmAt w' p.gB p.gM ns2) : JM w0 g p d q w' m ns2 mss mv Q := by
  have h0 := S.l0; have h1 := S.l1; have h2 := S.l2; have h3 := S.l3; have h4 := S.l4; have h5 := S.l5; have h6 := S.l6; have h7 := S.l7; have h8 := S.l8
  have hs := k.size
  refine ⟨S.kR.chg k (by omega), S.kD.chg k (by omega), S.kO.chg k (by omega), S.kF.chg k (by omega), hn, own_chg S.row k ?_, S.ln, S.each.map (fun _ h => h) (fun i T hi hT h => IsM.chg k ?_ h), fun x hx => ?_, ?_, h0, h1, h2, h3, h4, h5, h6, h7, by omega⟩
  · intro b hb e
    have := (S.row.lt b hb).1
    omega
  · intro b hb e
    have := (S.q b (hT b hb)).1
    omega
  · have h9 := S.q x hx
    exact ⟨h9.1, by omega, h9.2.2⟩
  · refine ⟨k.os.trans S.chg.os, k.tape.trans S.chg.tape, k.output.trans S.chg.output, Nat.le_trans S.chg.size k.size, fun i hi hf => ?_⟩
    rw [k.block i (Nat.lt_of_lt_of_le hi S.chg.size) (by rintro (e | e); exact hf e; omega)]
    exact S.chg.block i hi hf

theorem JM.read {w0 : World} {g : Nat} {p : JPl} {d : Nat} {q : Int} {wr w' : World} {m : List (List UInt8 × M.GV)} {ns : List (List UInt8)} {mss : List (List Value)} {mv : Value} {Q : Nat → Prop} (S : JM w0 g p d q wr m ns mss mv Q) (k : Chg (fun b => b = g) wr w') : JM w0 g p d q w' m ns mss mv Q := by
  have h0 := S.l0; have h1 := S.l1; have h2 := S.l2; have h3 := S.l3; have h4 := S.l4; have h5 := S.l5
  exact S.goes (k.mono fun _ _ e => .inl e) (S.nm.chg k (by omega) (by omega))

/-- One member more. -/
theorem JM.add {w0 wz WA w11 w12 : World} {g : Nat} {p : JPl} {d : Nat} {q : Int} {m : List (List UInt8 × M.GV)} {ns : List (List UInt8)} {mss : List (List Value)} {mv v5 : Value} {Q : Nat → Prop} (S : JM w0 g p d q wz m ns mss mv Q) {cs : List Value} {gx : List UInt8 × M.GV}
    (kA : Chg (fun b => b = g) wz WA) (iv : IsM (fun b => wz.heap.size ≤ b) WA d cs gx) (hlt : ∀ b, mv.ownBlock = some b → b < wz.heap.size)
    (g9 : WA.grownBy w11 mv.ownBlock) (a9 : v5.ownBlock = mv.ownBlock ∨ v5.ownBlock = some WA.heap.size)
    (o12 : w12.ownsRow p.H 55 7 v5 (m.length + 1) (mss.flatten ++ cs)) (k12 : Chg (fun b => v5.ownBlock = some b ∨ b = p.gO) w11 w12) (kO : Blk w12 p.gO 25 [v5]) :
    JM w0 g p d q w12 (m ++ [gx]) ns (mss ++ [cs]) v5 (fun x => Q x ∨ (wz.heap.size ≤ x ∧ x < WA.heap.size)) := by
  have h0 := S.l0; have h1 := S.l1; have h2 := S.l2; have h3 := S.l3; have h4 := S.l4; have h5 := S.l5; have h6 := S.l6; have h7 := S.l7; have h8 := S.l8
  have sA := kA.size
  have s11 := g9.size
  have s12 := k12.size
  have hw0 := S.chg.size
  have hz : Chg (fun x => x = g ∨ x = p.gO ∨ mv.ownBlock = some x ∨ WA.heap.size ≤ x) wz w12 := by
    have c1 : Chg (fun x => x = g ∨ x = p.gO ∨ mv.ownBlock = some x ∨ WA.heap.size ≤ x) wz WA := kA.mono fun _ _ h => .inl h
    have c2 : Chg (fun x => x = g ∨ x = p.gO ∨ mv.ownBlock = some x ∨ WA.heap.size ≤ x) WA w11 := Chg.of_grown g9 fun k hk => .inr (.inr (.inl hk))
    refine (c1.trans c2 fun _ _ h => h).trans k12 ?_
    rintro x _ (hx | hx)
    · rcases a9 with a | a
      · exact .inr (.inr (.inl (a ▸ hx)))
      · rw [a] at hx; injection hx with hx; exact .inr (.inr (.inr (by omega)))
    · exact .inr (.inl hx)
  have hA : Chg (fun x => x = p.gO ∨ mv.ownBlock = some x ∨ WA.heap.size ≤ x) WA w12 := by
    have c2 : Chg (fun x => x = p.gO ∨ mv.ownBlock = some x ∨ WA.heap.size ≤ x) WA w11 := Chg.of_grown g9 fun k hk => .inr (.inl hk)
    refine c2.trans k12 ?_
    rintro x _ (hx | hx)
    · rcases a9 with a | a
      · exact .inr (.inl (a ▸ hx))
      · rw [a] at hx; injection hx with hx; exact .inr (.inr (by omega))
    · exact .inl hx
  have hown : ∀ x, mv.ownBlock = some x → p.H ≤ x ∧ x < wz.heap.size := fun x hx => by have := (S.row.lt x hx).1; exact ⟨by omega, hlt x hx⟩
  have hno : ∀ x, x < p.H → x ≠ g → x ≠ p.gO → ¬ (x = g ∨ x = p.gO ∨ mv.ownBlock = some x ∨ WA.heap.size ≤ x) := by
    rintro x hx e1 e2 (h | h | h | h)
    · exact e1 h
    · exact e2 h
    · have := hown _ h; omega
    · omega
  refine ⟨S.kR.chg hz (hno _ (by omega) (by omega) (by omega)), S.kD.chg hz (hno _ (by omega) (by omega) (by omega)), kO, S.kF.chg hz (hno _ (by omega) (by omega) (by omega)), S.nm.chg hz (hno _ (by omega) (by omega) (by omega)) (hno _ (by omega) (by omega) (by omega)), ?_, ?_, ?_, ?_, ?_, h0, h1, h2, h3, h4, h5, h6, h7, by omega⟩
  · rw [List.length_append, List.flatten_append, List.length_singleton, List.flatten_cons, List.flatten_nil, List.append_nil]
    exact o12
  · rw [List.length_append, List.length_append, S.ln]
    rfl
  · rw [List.length_append, List.length_singleton]
    refine Fam.snoc S.each (fun i T h hT hI => ?_) ?_ (fun x hx hr => by have := S.q x hx; omega)
    · rw [getD_snoc_lt _ _ _ _ (by rw [S.ln]; exact h), getD_snoc_lt _ _ _ _ h]
      refine IsM.chg hz ?_ hI
      intro x hx hf
      have h9 := S.q x (hT x hx)
      rcases hf with hf | hf | hf | hf
      · omega
      · omega
      · exact h9.2.2 hf
      · omega
    · rw [getD_snoc_ge _ _ _ _ S.ln.symm, getD_snoc_ge _ _ _ _ rfl]
      refine IsM.chg hA ?_ (IsM.mono (R := fun x => wz.heap.size ≤ x ∧ x < WA.heap.size) (fun x h1 h2 => ⟨h2, h1⟩) iv)
      rintro x hx hf
      rcases hf with hf | hf | hf
      · omega
      · have := hown _ hf; omega
      · omega
  · rintro x (hx | hx)
    · have h9 := S.q x hx
      refine ⟨h9.1, by omega, fun e => ?_⟩
      rcases a9 with a | a
      · exact h9.2.2 (a ▸ e)
      · rw [a] at e
        injection e with e
        omega
    · refine ⟨by omega, by omega, fun e => ?_⟩
      rcases a9 with a | a
      · have := hown x (a ▸ e); omega
      · rw [a] at e
        injection e with e
        omega
  · refine ⟨hz.os.trans S.chg.os, hz.tape.trans S.chg.tape, hz.output.trans S.chg.output, by have := hz.size; omega, fun k hk hf => ?_⟩
    rw [hz.block k (by omega) (hno _ (by omega) hf (by omega))]
    exact S.chg.block k hk hf

theorem rowsM7 : RowTy 25 55 7 104 (.agg #[.string ⟨#[]⟩, .int .i64 0, .bool false, .int .i64 0, .string ⟨#[]⟩, .slice none 0 0, .slice none 0 0]) := ⟨Tryz.underlying25, by kernel_rfl, rfl, by decide⟩
theorem sizeM7 : (Tryz.prog.info? 55).map (·.size) = some 7 := by kernel_rfl

end Go.Proofs.YtbgadfaiehkanaaGreatDoor

namespace Go.Proofs.YtbgadfaiehkanaaGreatDoor
open Go.RowKit Go.Proofs Go.Shelf
set_option linter.unusedVariables false
set_option maxRecDepth 100000

/-- How a member's closure ends in a panic. -/
def MErr (w0 : World) (g : Nat) (c : Int) (e : Ending) (w' : World) : Prop := ∃ T, e = PanT T ∧ PanOf T c ∧ Chg (fun b => b = g) w0 w'

section
variable {w0 : World} {g : Nat} {p : JPl} {d : Nat} {q : Int} {wz : World} {m : List (List UInt8 × M.GV)} {ns : List (List UInt8)} {mss : List (List Value)} {mv : Value} {Q : Nat → Prop}

set_option maxHeartbeats 8000000 in
theorem mem_p1 (S : JM w0 g p d q wz m ns mss mv Q) (s : List UInt8) (h : Rd wz g s) (hL : JLaid wz) (hg : 6 ≤ g) (hn : ¬ [34] <+: M.blk s) :
    Calls Tryz.prog 166 #[.pointer (some ⟨p.gR, 0, none⟩), .pointer (some ⟨p.gF, 0, none⟩), .pointer (some ⟨p.gO, 0, none⟩), .pointer (some ⟨p.gD, 0, none⟩)] wz (MErr w0 g 8) := by
  have HB := Lib.hid (blanks_any g s wz h)
  have HS := Lib.hid S
  have HL := Lib.hid hL
  clear S h hL
  go_enter Tryz.func166, Tryz.ntmps166
  have cR := HS.out.kR.cell 0
  simp only [List.getElem?_cons_zero] at cR
  go_wp2_with fail
  refine HB.out.mono ?_
  rintro e w1 ⟨rfl, k1⟩
  have S1 := Lib.hid (HS.out.read k1.2)
  have R1 := Lib.hid k1.1
  have L1 := Lib.hid (HL.out.reads k1.2 hg)
  clear k1 cR HB HL HS
  have cR := S1.out.kR.cell 0
  simp only [List.getElem?_cons_zero] at cR
  go_wp2_with fail
  refine (must_no g (M.blk s) [34] w1 R1.out hn).mono ?_
  rintro e w2 ⟨rfl, k2⟩
  go_wp2
  exact ⟨rfl, _, rfl, pan8, S1.out.chg.go k2⟩

set_option maxHeartbeats 8000000 in
theorem mem_p2 (S : JM w0 g p d q wz m ns mss mv Q) (s r : List UInt8) (h : Rd wz g s) (hl : s.length ≤ 65536) (hL : JLaid wz) (hg : 6 ≤ g) (hn : M.blk s = 34 :: r) (ht : M.txtU r [] = none) :
    Calls Tryz.prog 166 #[.pointer (some ⟨p.gR, 0, none⟩), .pointer (some ⟨p.gF, 0, none⟩), .pointer (some ⟨p.gO, 0, none⟩), .pointer (some ⟨p.gD, 0, none⟩)] wz (MErr w0 g 8) := by
  have HB := Lib.hid (blanks_any g s wz h)
  have hb := M.blk_le s
  rw [hn] at HB hb
  have hrl : r.length ≤ 65536 := by rw [List.length_cons] at hb; omega
  have HS := Lib.hid S
  have HL := Lib.hid hL
  have HTX := Lib.hid ht
  clear S h hL hn hb ht
  go_enter Tryz.func166, Tryz.ntmps166
  have cR := HS.out.kR.cell 0
  simp only [List.getElem?_cons_zero] at cR
  go_wp2_with fail
  refine HB.out.mono ?_
  rintro e w1 ⟨rfl, k1⟩
  have S1 := Lib.hid (HS.out.read k1.2)
  have R1 := Lib.hid k1.1
  have L1 := Lib.hid (HL.out.reads k1.2 hg)
  clear k1 cR HB HL HS
  have cR := S1.out.kR.cell 0
  simp only [List.getElem?_cons_zero] at cR
  go_wp2_with fail
  refine (must_yes g [34] r w1 R1.out).mono ?_
  rintro e w2 ⟨rfl, k2⟩
  have S2 := Lib.hid (S1.out.read k2.2)
  have R2 := Lib.hid k2.1
  have L2 := Lib.hid (L1.out.reads k2.2 hg)
  clear k2 cR S1 R1 L1
  have cR := S2.out.kR.cell 0
  simp only [List.getElem?_cons_zero] at cR
  have HT := Lib.hid (text_any g r w2 R2.out (by omega) L2.out hg)
  rw [HTX.out] at HT
  go_wp2_with fail
  refine HT.out.mono ?_
  rintro e w3 ⟨rfl, k3⟩
  go_wp2
  exact ⟨rfl, _, rfl, pan8, S2.out.chg.go k3⟩

set_option maxHeartbeats 8000000 in
theorem mem_p3 (S : JM w0 g p d q wz m ns mss mv Q) (s r nm r1 : List UInt8) (h : Rd wz g s) (hl : s.length ≤ 65536) (hns : ns.length ≤ 65536) (hL : JLaid wz) (hg : 6 ≤ g) (hn : M.blk s = 34 :: r) (ht : M.txtU r [] = some (nm, r1)) (hd : ns.contains nm = true) :
    Calls Tryz.prog 166 #[.pointer (some ⟨p.gR, 0, none⟩), .pointer (some ⟨p.gF, 0, none⟩), .pointer (some ⟨p.gO, 0, none⟩), .pointer (some ⟨p.gD, 0, none⟩)] wz (MErr w0 g 8) := by
  have HB := Lib.hid (blanks_any g s wz h)
  have hb := M.blk_le s
  rw [hn] at HB hb
  have hrl : r.length ≤ 65536 := by rw [List.length_cons] at hb; omega
  have HNM : Hid (nm.length ≤ maxLen) := by have := M.txtU_len r.length r [] nm r1 (Nat.le_refl _) ht; rw [Hid]; unfold maxLen; simp at this; omega
  have HS := Lib.hid S
  have HL := Lib.hid hL
  have HTX := Lib.hid ht
  have HNS := Lib.hid hns
  have HDUP := Lib.hid hd
  clear S h hL hn hb ht hd hns
  go_enter Tryz.func166, Tryz.ntmps166
  have cR := HS.out.kR.cell 0
  simp only [List.getElem?_cons_zero] at cR
  go_wp2_with fail
  refine HB.out.mono ?_
  rintro e w1 ⟨rfl, k1⟩
  have S1 := Lib.hid (HS.out.read k1.2)
  have R1 := Lib.hid k1.1
  have L1 := Lib.hid (HL.out.reads k1.2 hg)
  clear k1 cR HB HL HS
  have cR := S1.out.kR.cell 0
  simp only [List.getElem?_cons_zero] at cR
  go_wp2_with fail
  refine (must_yes g [34] r w1 R1.out).mono ?_
  rintro e w2 ⟨rfl, k2⟩
  have S2 := Lib.hid (S1.out.read k2.2)
  have R2 := Lib.hid k2.1
  have L2 := Lib.hid (L1.out.reads k2.2 hg)
  clear k2 cR S1 R1 L1
  have cR := S2.out.kR.cell 0
  simp only [List.getElem?_cons_zero] at cR
  have HT := Lib.hid (text_any g r w2 R2.out (by omega) L2.out hg)
  rw [HTX.out] at HT
  go_wp2_with fail
  refine HT.out.mono ?_
  rintro e w3 ⟨rfl, k3⟩
  have S3 := Lib.hid (S2.out.read k3.2)
  have R3 := Lib.hid k3.1
  have L3 := Lib.hid (L2.out.reads k3.2 hg)
  clear k3 cR S2 R2 L2 HT
  have cF := S3.out.kF.cell 0
  simp only [List.getElem?_cons_zero] at cF
  have HN := Lib.hid (isNew_any p.gB p.gM ns nm w3 S3.out.nm (by have := HNS.out; omega) HNM.out)
  rw [HDUP.out] at HN
  go_wp2_with fail
  refine HN.out.mono ?_
  rintro e w4 ⟨rfl, n4, k4⟩
  have S4 := Lib.hid (S3.out.goes (k4.mono fun _ _ e => .inr e) n4)
  have R4 : Hid (Rd w4 g r1) := Blk.chg R3.out k4 (by have := S3.out.l0; have := S3.out.l1; have := S3.out.l2; have := S3.out.l3; have := S3.out.l4; omega)
  have L4 : Hid (JLaid w4) := L3.out.chg k4 (by rintro b rfl; have := S3.out.l0; have := S3.out.l1; have := S3.out.l2; have := S3.out.l3; have := S3.out.l4; omega)
  clear n4 k4 S3 R3 L3 cF HN
  have cR := S4.out.kR.cell 0
  simp only [List.getElem?_cons_zero] at cR
  go_wp2
  exact ⟨rfl, _, rfl, pan8, S4.out.chg⟩

set_option maxHeartbeats 8000000 in
theorem mem_p4 (S : JM w0 g p d q wz m ns mss mv Q) (s r nm r1 : List UInt8) (h : Rd wz g s) (hl : s.length ≤ 65536) (hns : ns.length ≤ 65536) (hL : JLaid wz) (hg : 6 ≤ g) (hn : M.blk s = 34 :: r) (ht : M.txtU r [] = some (nm, r1)) (hd : ns.contains nm = false) (h58 : ¬ [58] <+: M.blk r1) :
    Calls Tryz.prog 166 #[.pointer (some ⟨p.gR, 0, none⟩), .pointer (some ⟨p.gF, 0, none⟩), .pointer (some ⟨p.gO, 0, none⟩), .pointer (some ⟨p.gD, 0, none⟩)] wz (MErr w0 g 8) := by
  have HB := Lib.hid (blanks_any g s wz h)
  have hb := M.blk_le s
  rw [hn] at HB hb
  have hrl : r.length ≤ 65536 := by rw [List.length_cons] at hb; omega
  have HNM : Hid (nm.length ≤ maxLen) := by have := M.txtU_len r.length r [] nm r1 (Nat.le_refl _) ht; rw [Hid]; unfold maxLen; simp at this; omega
  have HS := Lib.hid S
  have HL := Lib.hid hL
  have HTX := Lib.hid ht
  have HNS := Lib.hid hns
  have HDUP := Lib.hid hd
  clear S h hL hn hb ht hd hns
  go_enter Tryz.func166, Tryz.ntmps166
  have cR := HS.out.kR.cell 0
  simp only [List.getElem?_cons_zero] at cR
  go_wp2_with fail
  refine HB.out.mono ?_
  rintro e w1 ⟨rfl, k1⟩
  have S1 := Lib.hid (HS.out.read k1.2)
  have R1 := Lib.hid k1.1
  have L1 := Lib.hid (HL.out.reads k1.2 hg)
  clear k1 cR HB HL HS
  have cR := S1.out.kR.cell 0
  simp only [List.getElem?_cons_zero] at cR
  go_wp2_with fail
  refine (must_yes g [34] r w1 R1.out).mono ?_
  rintro e w2 ⟨rfl, k2⟩
  have S2 := Lib.hid (S1.out.read k2.2)
  have R2 := Lib.hid k2.1
  have L2 := Lib.hid (L1.out.reads k2.2 hg)
  clear k2 cR S1 R1 L1
  have cR := S2.out.kR.cell 0
  simp only [List.getElem?_cons_zero] at cR
  have HT := Lib.hid (text_any g r w2 R2.out (by omega) L2.out hg)
  rw [HTX.out] at HT
  go_wp2_with fail
  refine HT.out.mono ?_
  rintro e w3 ⟨rfl, k3⟩
  have S3 := Lib.hid (S2.out.read k3.2)
  have R3 := Lib.hid k3.1
  have L3 := Lib.hid (L2.out.reads k3.2 hg)
  clear k3 cR S2 R2 L2 HT
  have cF := S3.out.kF.cell 0
  simp only [List.getElem?_cons_zero] at cF
  have HN := Lib.hid (isNew_any p.gB p.gM ns nm w3 S3.out.nm (by have := HNS.out; omega) HNM.out)
  rw [HDUP.out] at HN
  go_wp2_with fail
  refine HN.out.mono ?_
  rintro e w4 ⟨rfl, n4, k4⟩
  have S4 := Lib.hid (S3.out.goes (k4.mono fun _ _ e => .inr e) n4)
  have R4 : Hid (Rd w4 g r1) := Blk.chg R3.out k4 (by have := S3.out.l0; have := S3.out.l1; have := S3.out.l2; have := S3.out.l3; have := S3.out.l4; omega)
  have L4 : Hid (JLaid w4) := L3.out.chg k4 (by rintro b rfl; have := S3.out.l0; have := S3.out.l1; have := S3.out.l2; have := S3.out.l3; have := S3.out.l4; omega)
  clear n4 k4 S3 R3 L3 cF HN
  have cR := S4.out.kR.cell 0
  simp only [List.getElem?_cons_zero] at cR
  have HB2 := Lib.hid (blanks_any g r1 w4 R4.out)
  go_wp2_with fail
  refine HB2.out.mono ?_
  rintro e w5 ⟨rfl, k5⟩
  have S5 := Lib.hid (S4.out.read k5.2)
  have R5 := Lib.hid k5.1
  have L5 := Lib.hid (L4.out.reads k5.2 hg)
  clear k5 cR S4 R4 L4 HB2
  have cR := S5.out.kR.cell 0
  simp only [List.getElem?_cons_zero] at cR
  go_wp2_with fail
  refine (must_no g (M.blk r1) [58] w5 R5.out h58).mono ?_
  rintro e w6 ⟨rfl, k6⟩
  go_wp2
  exact ⟨rfl, _, rfl, pan8, S5.out.chg.go k6⟩
end

end Go.Proofs.YtbgadfaiehkanaaGreatDoor
