/-
  THE PROGRAM'S READER: coded, escape. Conditions: texts of up to 2^40 bytes; the library's variables lie as laid.
  THE PROGRAM'S READER: escape. Conditions: texts of up to 2^40 bytes; the library's variables lie as laid.
  THE LIBRARY'S DECODER OF UTF-8 TELLS WHAT THE DOCUMENT'S TELLS. Conditions: none.
  A RUNE'S BYTES ARE THOSE THAT IT WAS READ FROM; how the library writes a rune. Conditions: none.
  THE PROGRAM'S READER: sign. Conditions: texts of up to 2^40 bytes; the library's variables lie as laid.
-/
import Derived.Test.YtbgadfaiehkanaaGreatDoorPj19
import Derived.Shelf.Unicode.DecodeAny
import Derived.Lib.DecodeN
import Derived.Lib.RuneBytes

namespace Go.Proofs.YtbgadfaiehkanaaGreatDoor
open Go.RowKit Go.Proofs Go.Shelf
set_option linter.unusedVariables false
set_option maxRecDepth 100000

/-- A rune that is told by digits. -/
def M.cod (r : List UInt8) : Option (Nat × List UInt8) :=
  match M.hex4 r with
  | none => none
  | some v =>
    if 56320 ≤ v ∧ v < 57344 then none
    else if v < 55296 ∨ 57344 ≤ v then some (v, r.drop 4)
    else if [92, 117] <+: r.drop 4 then
      match M.hex4 (r.drop 6) with
      | none => none
      | some x => if 56320 ≤ x ∧ x < 57344 then some ((v - 55296) * 1024 + (x - 56320) + 65536, r.drop 10) else none
    else none

theorem M.esc_cod (r : List UInt8) : M.esc (117 :: r) = M.cod r := by rw [M.esc_u]; rfl

theorem M.cod_none {r : List UInt8} (h : M.hex4 r = none) : M.cod r = none := by unfold M.cod; rw [h]
theorem M.cod_one {r : List UInt8} {v : Nat} (h : M.hex4 r = some v) (hv : v < 55296 ∨ 57344 ≤ v) : M.cod r = some (v, r.drop 4) := by unfold M.cod; rw [h]; dsimp only; rw [if_neg (by omega), if_pos hv]
theorem M.cod_bad {r : List UInt8} {v : Nat} (h : M.hex4 r = some v) (hv : ¬ (v < 55296 ∨ 57344 ≤ v)) (hn : ¬ [92, 117] <+: r.drop 4) : M.cod r = none := by
  unfold M.cod
  rw [h]
  dsimp only
  by_cases hb : 56320 ≤ v ∧ v < 57344
  · rw [if_pos hb]
  · rw [if_neg hb, if_neg hv, if_neg hn]
theorem M.cod_two {r : List UInt8} {v : Nat} (h : M.hex4 r = some v) (hv : ¬ (v < 55296 ∨ 57344 ≤ v)) (hn : [92, 117] <+: r.drop 4) : M.cod r = (match M.hex4 (r.drop 6) with
    | none => none
    | some x => if ¬ (56320 ≤ v ∧ v < 57344) ∧ 56320 ≤ x ∧ x < 57344 then some ((v - 55296) * 1024 + (x - 56320) + 65536, r.drop 10) else none) := by
  unfold M.cod
  rw [h]
  dsimp only
  by_cases hb : 56320 ≤ v ∧ v < 57344
  · rw [if_pos hb]
    cases M.hex4 (r.drop 6) with
    | none => rfl
    | some x => dsimp only; rw [if_neg (fun e => e.1 hb)]
  · rw [if_neg hb, if_neg hv, if_pos hn]
    cases M.hex4 (r.drop 6) with
    | none => rfl
    | some x =>
      dsimp only
      by_cases hx : 56320 ≤ x ∧ x < 57344
      · rw [if_pos hx, if_pos ⟨hb, hx⟩]
      · rw [if_neg hx, if_neg (fun e => hx e.2)]

theorem M.halfM_some {s r : List UInt8} {v : Nat} (h : M.halfM s = some (v, r)) : M.hex4 s = some v ∧ r = s.drop 4 ∧ v < 65536 := by
  unfold M.halfM at h
  cases hx : M.hex4 s with
  | none => rw [hx] at h; cases h
  | some x =>
    rw [hx] at h
    injection h with h
    injection h with h1 h2
    exact ⟨by rw [h1], h2.symm, by rw [← h1]; exact (M.hex4_some hx).2⟩
theorem M.halfM_none {s : List UInt8} (h : M.halfM s = none) : M.hex4 s = none := by
  unfold M.halfM at h
  cases hx : M.hex4 s with
  | none => rfl
  | some x => rw [hx] at h; cases h

set_option maxHeartbeats 8000000 in
theorem coded_any (g : Nat) (s : List UInt8) (w : World) (h : Rd w g s) (hl : s.length ≤ 1099511627776) (hL : JLaid w) (hg : 6 ≤ g) :
    Calls Tryz.prog 213 #[.pointer (some ⟨g, 0, none⟩)] w (SignEnds w g (M.cod s)) := by
  have HT := Lib.hid (half_any g s w h hl hL hg)
  have HL := Lib.hid hL
  have HH := Lib.hid hl
  clear h hL hl
  cases ho : M.halfM s with
  | none =>
    rw [ho] at HT
    have HM : Hid (M.cod s = none) := M.cod_none (M.halfM_none ho)
    clear ho
    go_enter Tryz.func213, Tryz.ntmps213
    go_wp2_with fail
    refine HT.out.mono ?_
    rintro e w1 ⟨rfl, k1⟩
    have K1 := Lib.hid k1
    clear k1
    go_wp2
    refine ⟨rfl, ?_⟩
    rw [HM.out]
    exact ⟨rfl, K1.out⟩
  | some p =>
    obtain ⟨v, r⟩ := p
    rw [ho] at HT
    obtain ⟨hx, hr, hv⟩ := M.halfM_some ho
    have HX := Lib.hid hx
    have HR := Lib.hid hr
    clear ho hx hr
    by_cases hone : v < 55296 ∨ 57344 ≤ v
    · have HM : Hid (M.cod s = some (v, r)) := by rw [Hid, M.cod_one HX.out hone, HR.out]
      go_enter Tryz.func213, Tryz.ntmps213
      go_wp2_with fail
      refine HT.out.mono ?_
      rintro e w1 ⟨rfl, k1⟩
      have K1 := Lib.hid k1
      clear k1
      rcases hone with h1 | h1
      · have b1 : ((v : Nat) : Int) < 55296 := by omega
        go_wp2
        go_ret
        show SignEnds _ _ _ _ _
        rw [HM.out]
        exact ⟨rfl, K1.out⟩
      · have b1 : ¬ ((v : Nat) : Int) < 55296 := by omega
        have b2 : (57344 : Int) ≤ ((v : Nat) : Int) := by omega
        go_wp2
        go_ret
        show SignEnds _ _ _ _ _
        rw [HM.out]
        exact ⟨rfl, K1.out⟩
    · have t1 : decide (((v : Nat) : Int) < 55296) = false := decide_eq_false (by omega)
      have t2 : decide ((57344 : Int) ≤ ((v : Nat) : Int)) = false := decide_eq_false (by omega)
      have HV := Lib.hid hv
      have HONE := Lib.hid hone
      clear hv
      by_cases hp : [92, 117] <+: r
      · obtain ⟨q, hq⟩ := hp
        have hqs : q = s.drop 6 := by
          have : q = r.drop 2 := by rw [← hq]; rfl
          rw [this, HR.out, List.drop_drop]
        have hql : q.length ≤ 1099511627776 := by rw [hqs, List.length_drop]; have := HH.out; omega
        have HMU : Hid (∀ w1, Rd w1 g r → Calls Tryz.prog 167 #[.pointer (some ⟨g, 0, none⟩), .string ⟨#[92, 117]⟩] w1 fun e w2 => e = .returned (.tuple #[]) ∧ Reads w1 g q w2) := by
          intro w1 h1
          rw [← hq] at h1
          exact must_yes g [92, 117] q w1 h1
        have HM : Hid (M.cod s = (match M.hex4 q with
            | none => none
            | some x => if ¬ (56320 ≤ v ∧ v < 57344) ∧ 56320 ≤ x ∧ x < 57344 then some ((v - 55296) * 1024 + (x - 56320) + 65536, s.drop 10) else none)) := by
          rw [Hid, M.cod_two HX.out hone ⟨q, by rw [← HR.out]; exact hq⟩, hqs]
        have HQ := Lib.hid hqs
        clear hq hqs hone
        go_enter Tryz.func213, Tryz.ntmps213
        go_wp2_with fail
        refine HT.out.mono ?_
        rintro e w1 ⟨rfl, k1⟩
        have K1 := Lib.hid k1
        clear k1
        go_wp2_with fail
        refine (HMU.out w1 K1.out.1).mono ?_
        rintro e w2 ⟨rfl, k2⟩
        have K2 := Lib.hid (Chg.go K1.out.2 k2.2)
        have R2 := Lib.hid k2.1
        clear k2
        have HT2 := Lib.hid (half_any g q w2 R2.out hql (HL.out.reads K2.out hg) hg)
        go_wp2_with fail
        cases ho2 : M.halfM q with
        | none =>
          rw [ho2] at HT2
          have HM2 : Hid (M.cod s = none) := by rw [Hid, HM.out, M.halfM_none ho2]
          clear ho2 HM
          refine HT2.out.mono ?_
          rintro e w3 ⟨rfl, k3⟩
          have K3 := Lib.hid k3
          clear k3
          go_wp2
          refine ⟨rfl, ?_⟩
          rw [HM2.out]
          exact ⟨rfl, K2.out.go K3.out⟩
        | some p2 =>
          obtain ⟨x, r3⟩ := p2
          rw [ho2] at HT2
          obtain ⟨hx2, hr3, hv2⟩ := M.halfM_some ho2
          rw [Hid, hx2] at HM
          have HM1 := Lib.hid HM
          have HR3 := Lib.hid hr3
          clear ho2 hx2 hr3 HM
          refine HT2.out.mono ?_
          rintro e w3 ⟨rfl, k3⟩
          have K3 := Lib.hid k3
          clear k3
          by_cases hok : ¬ (56320 ≤ v ∧ v < 57344) ∧ 56320 ≤ x ∧ x < 57344
          · have HM2 : Hid (M.cod s = some ((v - 55296) * 1024 + (x - 56320) + 65536, r3)) := by
              rw [Hid, HM1.out]
              dsimp only
              rw [if_pos hok, HR3.out, HQ.out, List.drop_drop]
            have d1 : decide ((56320 : Int) ≤ ((v : Nat) : Int)) = false := decide_eq_false (by have := HONE.out; omega)
            have d2 : decide (((x : Nat) : Int) < 56320) = false := decide_eq_false (by omega)
            have d3 : decide ((57344 : Int) ≤ ((x : Nat) : Int)) = false := decide_eq_false (by omega)
            have HOK := Lib.hid hok
            clear HM1 hok hv2
            go_upto_region 8 with fail
            have e0 := HONE.out
            have e1 := HOK.out
            have s1 : wrap32 ((v : Int) - 55296) = (v : Int) - 55296 := by unfold wrap32; omega
            have s2 : wrap32 ((x : Int) - 56320) = (x : Int) - 56320 := by unfold wrap32; omega
            have s3 : wrap32 (((v : Int) - 55296) * 1024) = ((v : Int) - 55296) * 1024 := by unfold wrap32; omega
            have s4 : wrap32 (65536 + ((v : Int) - 55296) * 1024) = 65536 + ((v : Int) - 55296) * 1024 := by unfold wrap32; omega
            have s5 : wrap32 (65536 + ((v : Int) - 55296) * 1024 + ((x : Int) - 56320)) = ((((v - 55296) * 1024 + (x - 56320) + 65536 : Nat)) : Int) := by unfold wrap32; omega
            clear e0 e1 d1 d2 d3
            go_wp2
            rw [s5]
            go_ret
            show SignEnds _ _ _ _ _
            rw [HM2.out]
            exact ⟨rfl, K3.out.1, K2.out.go K3.out.2⟩
          · have HM2 : Hid (M.cod s = none) := by
              rw [Hid, HM1.out]
              dsimp only
              rw [if_neg hok]
            clear HM1
            by_cases f1 : 56320 ≤ v
            · have d1 : decide ((56320 : Int) ≤ ((v : Nat) : Int)) = true := decide_eq_true (by omega)
              clear hok hv2 f1
              go_wp2
              refine ⟨rfl, ?_⟩
              rw [HM2.out]
              exact ⟨rfl, K2.out.go K3.out.2⟩
            have d1 : decide ((56320 : Int) ≤ ((v : Nat) : Int)) = false := decide_eq_false (by omega)
            by_cases f2 : x < 56320
            · have d2 : decide (((x : Nat) : Int) < 56320) = true := decide_eq_true (by omega)
              clear hok hv2 f1 f2
              go_wp2
              refine ⟨rfl, ?_⟩
              rw [HM2.out]
              exact ⟨rfl, K2.out.go K3.out.2⟩
            have d2 : decide (((x : Nat) : Int) < 56320) = false := decide_eq_false (by omega)
            have d3 : decide ((57344 : Int) ≤ ((x : Nat) : Int)) = true := decide_eq_true (by have := HONE.out; omega)
            clear hok hv2 f1 f2
            go_wp2
            refine ⟨rfl, ?_⟩
            rw [HM2.out]
            exact ⟨rfl, K2.out.go K3.out.2⟩
      · have HM : Hid (M.cod s = none) := M.cod_bad HX.out hone (by rw [← HR.out]; exact hp)
        have HMU : Hid (∀ w1, Rd w1 g r → Calls Tryz.prog 167 #[.pointer (some ⟨g, 0, none⟩), .string ⟨#[92, 117]⟩] w1 fun e w2 => e = BadP ∧ Chg (fun b => b = g) w1 w2) := fun w1 h1 => must_no g r [92, 117] w1 h1 hp
        clear hone hp
        go_enter Tryz.func213, Tryz.ntmps213
        go_wp2_with fail
        refine HT.out.mono ?_
        rintro e w1 ⟨rfl, k1⟩
        have K1 := Lib.hid k1
        clear k1
        go_wp2_with fail
        refine (HMU.out w1 K1.out.1).mono ?_
        rintro e w2 ⟨rfl, k2⟩
        have K2 := Lib.hid k2
        clear k2
        go_wp2
        refine ⟨rfl, ?_⟩
        rw [HM.out]
        exact ⟨rfl, K1.out.2.go K2.out⟩

end Go.Proofs.YtbgadfaiehkanaaGreatDoor

namespace Go.Proofs.YtbgadfaiehkanaaGreatDoor
open Go.RowKit Go.Proofs Go.Shelf
set_option linter.unusedVariables false
set_option maxRecDepth 100000

set_option maxHeartbeats 8000000 in
theorem escape_any (g : Nat) (s : List UInt8) (w : World) (h : Rd w g s) (hl : s.length ≤ 1099511627776) (hL : JLaid w) (hg : 6 ≤ g) :
    Calls Tryz.prog 195 #[.pointer (some ⟨g, 0, none⟩)] w (SignEnds w g (M.esc s)) := by
  cases s with
  | nil =>
    have HT := Lib.hid (take_no g [] 1 w h (by decide))
    clear h hl hL
    go_enter Tryz.func195, Tryz.ntmps195
    go_wp2_with fail
    refine HT.out.mono ?_
    rintro e w1 ⟨rfl, k1⟩
    have K1 := Lib.hid k1
    clear k1
    go_wp2
    exact ⟨rfl, rfl, K1.out⟩
  | cons c r =>
    have HT : Hid (Calls Tryz.prog 168 #[.pointer (some ⟨g, 0, none⟩), .int .i64 1] w fun e w' => e = .returned (.string ⟨#[c]⟩) ∧ Reads w g r w') := take_yes g (c :: r) 1 w h (by simp) hl
    have HL := Lib.hid hL
    have HRL : Hid (r.length ≤ 1099511627776) := by rw [Hid]; simp at hl; omega
    clear h hl hL
    by_cases c34 : c = 34
    · subst c34
      have HM := Lib.hid (M.esc_34 r)
      have hb : ((⟨#[34]⟩ : ByteArray)[0]'(by decide)).toNat = 34 := rfl
      go_enter Tryz.func195, Tryz.ntmps195
      go_wp2_with fail
      refine HT.out.mono ?_
      rintro e w1 ⟨rfl, k1⟩
      have K1 := Lib.hid k1
      clear k1
      go_wp2
      go_ret
      show SignEnds _ _ _ _ _
      rw [HM.out]
      exact ⟨rfl, K1.out⟩
    by_cases c92 : c = 92
    · subst c92
      have HM := Lib.hid (M.esc_92 r)
      have hb : ((⟨#[92]⟩ : ByteArray)[0]'(by decide)).toNat = 92 := rfl
      go_enter Tryz.func195, Tryz.ntmps195
      go_wp2_with fail
      refine HT.out.mono ?_
      rintro e w1 ⟨rfl, k1⟩
      have K1 := Lib.hid k1
      clear k1
      go_wp2
      go_ret
      show SignEnds _ _ _ _ _
      rw [HM.out]
      exact ⟨rfl, K1.out⟩
    by_cases c47 : c = 47
    · subst c47
      have HM := Lib.hid (M.esc_47 r)
      have hb : ((⟨#[47]⟩ : ByteArray)[0]'(by decide)).toNat = 47 := rfl
      go_enter Tryz.func195, Tryz.ntmps195
      go_wp2_with fail
      refine HT.out.mono ?_
      rintro e w1 ⟨rfl, k1⟩
      have K1 := Lib.hid k1
      clear k1
      go_wp2
      go_ret
      show SignEnds _ _ _ _ _
      rw [HM.out]
      exact ⟨rfl, K1.out⟩
    by_cases c98 : c = 98
    · subst c98
      have HM := Lib.hid (M.esc_98 r)
      go_enter Tryz.func195, Tryz.ntmps195
      go_wp2_with fail
      refine HT.out.mono ?_
      rintro e w1 ⟨rfl, k1⟩
      have K1 := Lib.hid k1
      clear k1
      go_wp2
      go_ret
      show SignEnds _ _ _ _ _
      rw [HM.out]
      exact ⟨rfl, K1.out⟩
    by_cases c102 : c = 102
    · subst c102
      have HM := Lib.hid (M.esc_102 r)
      go_enter Tryz.func195, Tryz.ntmps195
      go_wp2_with fail
      refine HT.out.mono ?_
      rintro e w1 ⟨rfl, k1⟩
      have K1 := Lib.hid k1
      clear k1
      go_wp2
      go_ret
      show SignEnds _ _ _ _ _
      rw [HM.out]
      exact ⟨rfl, K1.out⟩
    by_cases c110 : c = 110
    · subst c110
      have HM := Lib.hid (M.esc_110 r)
      go_enter Tryz.func195, Tryz.ntmps195
      go_wp2_with fail
      refine HT.out.mono ?_
      rintro e w1 ⟨rfl, k1⟩
      have K1 := Lib.hid k1
      clear k1
      go_wp2
      go_ret
      show SignEnds _ _ _ _ _
      rw [HM.out]
      exact ⟨rfl, K1.out⟩
    by_cases c114 : c = 114
    · subst c114
      have HM := Lib.hid (M.esc_114 r)
      go_enter Tryz.func195, Tryz.ntmps195
      go_wp2_with fail
      refine HT.out.mono ?_
      rintro e w1 ⟨rfl, k1⟩
      have K1 := Lib.hid k1
      clear k1
      go_wp2
      go_ret
      show SignEnds _ _ _ _ _
      rw [HM.out]
      exact ⟨rfl, K1.out⟩
    by_cases c116 : c = 116
    · subst c116
      have HM := Lib.hid (M.esc_116 r)
      go_enter Tryz.func195, Tryz.ntmps195
      go_wp2_with fail
      refine HT.out.mono ?_
      rintro e w1 ⟨rfl, k1⟩
      have K1 := Lib.hid k1
      clear k1
      go_wp2
      go_ret
      show SignEnds _ _ _ _ _
      rw [HM.out]
      exact ⟨rfl, K1.out⟩
    by_cases c117 : c = 117
    · subst c117
      have HM := Lib.hid (M.esc_cod r)
      go_enter Tryz.func195, Tryz.ntmps195
      go_wp2_with fail
      refine HT.out.mono ?_
      rintro e w1 ⟨rfl, k1⟩
      have K1 := Lib.hid k1
      clear k1
      have HC := Lib.hid (coded_any g r w1 K1.out.1 HRL.out (HL.out.reads K1.out.2 hg) hg)
      go_wp2_with fail
      refine HC.out.mono ?_
      intro e w2 h2
      have H2 := Lib.hid (SignEnds.on K1.out.2 h2)
      clear h2
      cases ho : M.cod r with
      | none =>
        rw [ho] at H2 HM
        obtain ⟨rfl, k2⟩ := H2.out
        have K2 := Lib.hid k2
        clear k2 H2
        go_wp2
        refine ⟨rfl, ?_⟩
        rw [HM.out]
        exact ⟨rfl, K2.out⟩
      | some p =>
        obtain ⟨v, r2⟩ := p
        rw [ho] at H2 HM
        obtain ⟨rfl, k2⟩ := H2.out
        have K2 := Lib.hid k2
        clear k2 H2
        go_wp2
        go_ret
        show SignEnds _ _ _ _ _
        rw [HM.out]
        exact ⟨rfl, K2.out⟩
    have HM : Hid (M.esc (c :: r) = none) := by
      refine M.esc_no c r ⟨?_, ?_, ?_, ?_, ?_, ?_, ?_, ?_, ?_⟩
      all_goals
        intro e
        first
        | exact c34 (UInt8.toNat_inj.1 e)
        | exact c92 (UInt8.toNat_inj.1 e)
        | exact c47 (UInt8.toNat_inj.1 e)
        | exact c98 (UInt8.toNat_inj.1 e)
        | exact c102 (UInt8.toNat_inj.1 e)
        | exact c110 (UInt8.toNat_inj.1 e)
        | exact c114 (UInt8.toNat_inj.1 e)
        | exact c116 (UInt8.toNat_inj.1 e)
        | exact c117 (UInt8.toNat_inj.1 e)
    have n34 : (c == 34) = false := by simpa using c34
    have n92 : (c == 92) = false := by simpa using c92
    have n47 : (c == 47) = false := by simpa using c47
    have n98 : (c == 98) = false := by simpa using c98
    have n102 : (c == 102) = false := by simpa using c102
    have n110 : (c == 110) = false := by simpa using c110
    have n114 : (c == 114) = false := by simpa using c114
    have n116 : (c == 116) = false := by simpa using c116
    have n117 : (c == 117) = false := by simpa using c117
    clear c34 c92 c47 c98 c102 c110 c114 c116 c117
    go_enter Tryz.func195, Tryz.ntmps195
    go_wp2_with fail
    refine HT.out.mono ?_
    rintro e w1 ⟨rfl, k1⟩
    have K1 := Lib.hid k1
    clear k1
    go_wp2
    refine ⟨rfl, ?_⟩
    rw [HM.out]
    exact ⟨rfl, K1.out.2⟩

end Go.Proofs.YtbgadfaiehkanaaGreatDoor

namespace Go.Proofs.YtbgadfaiehkanaaGreatDoor
set_option linter.unusedVariables false
set_option maxRecDepth 100000

/-- A decoder's answer against the document's. -/
def M.AlikeR (d p : Nat × Nat) : Prop := (∃ v k, k ≠ 0 ∧ p = (v, k) ∧ d = (v, k)) ∨ (p = (0, 0) ∧ d = (65533, 1))

theorem M.AlikeR.eq {d p : Nat × Nat} (h : M.AlikeR d p) : d = if p.2 = 0 then (65533, 1) else p := by
  rcases h with ⟨v, k, hk, rfl, rfl⟩ | ⟨rfl, rfl⟩
  · rw [if_neg hk]
  · rfl

/-- A rune of so many bytes, by its bits. -/
def M.runeK (k m : Nat) : Option Nat → Nat × Nat
  | none => (0, 0)
  | some v => if v < m ∨ 1114111 < v ∨ 55296 ≤ v ∧ v < 57344 then (0, 0) else (v, k)
theorem M.rune_ofK {c : UInt8} {r : List UInt8} (h0 : ¬ c.toNat < 128) {k b m : Nat} (hl : M.lead c.toNat = (k, b, m)) (hk : k ≠ 0) (hn : ¬ r.length + 1 < k) {o : Option Nat} (ho : M.follow (r.take (k - 1)) b = o) :
    M.rune (c :: r) = M.runeK k m o := by
  subst ho
  unfold M.rune
  dsimp only
  rw [if_neg h0, hl]
  dsimp only
  rw [if_neg (by rintro (h | h); exact hk h; exact hn h)]
  rfl
theorem M.rune_fewK {c : UInt8} {r : List UInt8} (h0 : ¬ c.toNat < 128) {k b m : Nat} (hl : M.lead c.toNat = (k, b, m)) (hn : k = 0 ∨ r.length + 1 < k) : M.rune (c :: r) = (0, 0) := by
  unfold M.rune
  dsimp only
  rw [if_neg h0, hl]
  dsimp only
  rw [if_pos hn]
theorem M.follow_yesK (c : UInt8) (r : List UInt8) (v : Nat) (h : c.toNat / 64 = 2) : M.follow (c :: r) v = M.follow r (v * 64 + c.toNat % 64) := by
  rw [M.follow, if_pos h]
theorem M.follow_noK (c : UInt8) (r : List UInt8) (v : Nat) (h : ¬ c.toNat / 64 = 2) : M.follow (c :: r) v = none := by
  rw [M.follow, if_neg h]

theorem M.dec_few (c : UInt8) (n : Nat) (x y z : UInt8) (r : List UInt8) (hn : n = r.length + 1) (t1 : 2 ≤ n → r.take 1 = [x]) (t2 : 3 ≤ n → r.take 2 = [x, y]) (t3 : 4 ≤ n → r.take 3 = [x, y, z]) :
    M.AlikeR (Lib.decodeN n c.toNat x.toNat y.toNat z.toNat) (M.rune (c :: r)) := by
  have hx := x.toNat_lt
  have hy := y.toNat_lt
  have hz := z.toNat_lt
  have hc := c.toNat_lt
  by_cases h0 : c.toNat < 128
  · refine .inl ⟨c.toNat, 1, by decide, ?_, ?_⟩
    · unfold M.rune; dsimp only; rw [if_pos h0]
    · unfold Lib.decodeN; rw [if_pos h0]
  have bad : ¬ (c.toNat / 32 = 6 ∧ 1 < n ∧ x.toNat / 64 = 2) → ¬ (c.toNat / 16 = 14 ∧ (1 < n ∧ x.toNat / 64 = 2) ∧ 2 < n ∧ y.toNat / 64 = 2) → ¬ (c.toNat / 8 = 30 ∧ (1 < n ∧ x.toNat / 64 = 2) ∧ (2 < n ∧ y.toNat / 64 = 2) ∧ 3 < n ∧ z.toNat / 64 = 2) → Lib.decodeN n c.toNat x.toNat y.toNat z.toNat = (65533, 1) := by
    intro b1 b2 b3
    unfold Lib.decodeN
    rw [if_neg h0, if_neg b1, if_neg b2, if_neg b3]
  by_cases c2 : 194 ≤ c.toNat ∧ c.toNat < 224
  · have hl : M.lead c.toNat = (2, c.toNat % 32, 128) := by unfold M.lead; rw [if_pos c2]
    have e2 : c.toNat / 32 = 6 := by omega
    by_cases hs : r.length + 1 < 2
    · exact .inr ⟨M.rune_fewK h0 hl (.inr hs), bad (by omega) (by omega) (by omega)⟩
    have ht : r.take (2 - 1) = [x] := t1 (by omega)
    by_cases h1 : x.toNat / 64 = 2
    rotate_left
    · exact .inr ⟨(M.rune_ofK h0 hl (by decide) hs (o := none) (by rw [ht, M.follow_noK _ _ _ h1])), bad (by omega) (by omega) (by omega)⟩
    have hv : c.toNat % 32 * 64 + x.toNat % 64 = c.toNat % 32 * 64 + x.toNat % 64 := by omega
    have hR := M.rune_ofK h0 hl (by decide) hs (o := some (c.toNat % 32 * 64 + x.toNat % 64)) (by rw [ht, M.follow_yesK _ _ _ h1]; show some _ = _; rw [hv])
    unfold M.runeK at hR
    dsimp only at hR
    have hD : ∀ v, v = c.toNat % 32 * 64 + x.toNat % 64 → Lib.decodeN n c.toNat x.toNat y.toNat z.toNat = if v ≥ 128 then (v, 2) else (65533, 1) := by
      intro v e
      unfold Lib.decodeN
      rw [if_neg h0, if_pos ⟨e2, by omega, h1⟩, ← e]
    have hD := hD _ rfl
    have hm : c.toNat % 32 * 64 + x.toNat % 64 < 2048 := by omega
    generalize c.toNat % 32 * 64 + x.toNat % 64 = v at hR hD hm
    by_cases hb : v < 128 ∨ 1114111 < v ∨ 55296 ≤ v ∧ v < 57344
    · rw [if_pos hb] at hR
      rw [if_neg (by omega)] at hD
      exact .inr ⟨hR, hD⟩
    · rw [if_neg hb] at hR
      rw [if_pos (by omega)] at hD
      exact .inl ⟨v, 2, by decide, hR, hD⟩
  by_cases c3 : 224 ≤ c.toNat ∧ c.toNat < 240
  · have hl : M.lead c.toNat = (3, c.toNat % 16, 2048) := by unfold M.lead; rw [if_neg c2, if_pos c3]
    have e3 : c.toNat / 16 = 14 := by omega
    by_cases hs : r.length + 1 < 3
    · exact .inr ⟨M.rune_fewK h0 hl (.inr hs), bad (by omega) (by omega) (by omega)⟩
    have ht : r.take (3 - 1) = [x, y] := t2 (by omega)
    by_cases h1 : x.toNat / 64 = 2
    rotate_left
    · exact .inr ⟨(M.rune_ofK h0 hl (by decide) hs (o := none) (by rw [ht, M.follow_noK _ _ _ h1])), bad (by omega) (by omega) (by omega)⟩
    by_cases h2 : y.toNat / 64 = 2
    rotate_left
    · exact .inr ⟨(M.rune_ofK h0 hl (by decide) hs (o := none) (by rw [ht, M.follow_yesK _ _ _ h1, M.follow_noK _ _ _ h2])), bad (by omega) (by omega) (by omega)⟩
    have hv : (c.toNat % 16 * 64 + x.toNat % 64) * 64 + y.toNat % 64 = c.toNat % 16 * 4096 + x.toNat % 64 * 64 + y.toNat % 64 := by omega
    have hR := M.rune_ofK h0 hl (by decide) hs (o := some (c.toNat % 16 * 4096 + x.toNat % 64 * 64 + y.toNat % 64)) (by rw [ht, M.follow_yesK _ _ _ h1, M.follow_yesK _ _ _ h2]; show some _ = _; rw [hv])
    unfold M.runeK at hR
    dsimp only at hR
    have hD : ∀ v, v = c.toNat % 16 * 4096 + x.toNat % 64 * 64 + y.toNat % 64 → Lib.decodeN n c.toNat x.toNat y.toNat z.toNat = if v ≥ 2048 ∧ (v < 55296 ∨ (57344 ≤ v ∧ v ≤ 1114111)) then (v, 3) else (65533, 1) := by
      intro v e
      unfold Lib.decodeN
      rw [if_neg h0, if_neg (by omega), if_pos ⟨e3, ⟨by omega, h1⟩, by omega, h2⟩, ← e]
    have hD := hD _ rfl
    have hm : c.toNat % 16 * 4096 + x.toNat % 64 * 64 + y.toNat % 64 < 65536 := by omega
    generalize c.toNat % 16 * 4096 + x.toNat % 64 * 64 + y.toNat % 64 = v at hR hD hm
    by_cases hb : v < 2048 ∨ 1114111 < v ∨ 55296 ≤ v ∧ v < 57344
    · rw [if_pos hb] at hR
      rw [if_neg (by omega)] at hD
      exact .inr ⟨hR, hD⟩
    · rw [if_neg hb] at hR
      rw [if_pos (by omega)] at hD
      exact .inl ⟨v, 3, by decide, hR, hD⟩
  by_cases c4 : 240 ≤ c.toNat ∧ c.toNat < 245
  · have hl : M.lead c.toNat = (4, c.toNat % 8, 65536) := by unfold M.lead; rw [if_neg c2, if_neg c3, if_pos c4]
    have e4 : c.toNat / 8 = 30 := by omega
    by_cases hs : r.length + 1 < 4
    · exact .inr ⟨M.rune_fewK h0 hl (.inr hs), bad (by omega) (by omega) (by omega)⟩
    have ht : r.take (4 - 1) = [x, y, z] := t3 (by omega)
    by_cases h1 : x.toNat / 64 = 2
    rotate_left
    · exact .inr ⟨(M.rune_ofK h0 hl (by decide) hs (o := none) (by rw [ht, M.follow_noK _ _ _ h1])), bad (by omega) (by omega) (by omega)⟩
    by_cases h2 : y.toNat / 64 = 2
    rotate_left
    · exact .inr ⟨(M.rune_ofK h0 hl (by decide) hs (o := none) (by rw [ht, M.follow_yesK _ _ _ h1, M.follow_noK _ _ _ h2])), bad (by omega) (by omega) (by omega)⟩
    by_cases h3 : z.toNat / 64 = 2
    rotate_left
    · exact .inr ⟨(M.rune_ofK h0 hl (by decide) hs (o := none) (by rw [ht, M.follow_yesK _ _ _ h1, M.follow_yesK _ _ _ h2, M.follow_noK _ _ _ h3])), bad (by omega) (by omega) (by omega)⟩
    have hv : ((c.toNat % 8 * 64 + x.toNat % 64) * 64 + y.toNat % 64) * 64 + z.toNat % 64 = c.toNat % 8 * 262144 + x.toNat % 64 * 4096 + y.toNat % 64 * 64 + z.toNat % 64 := by omega
    have hR := M.rune_ofK h0 hl (by decide) hs (o := some (c.toNat % 8 * 262144 + x.toNat % 64 * 4096 + y.toNat % 64 * 64 + z.toNat % 64)) (by rw [ht, M.follow_yesK _ _ _ h1, M.follow_yesK _ _ _ h2, M.follow_yesK _ _ _ h3]; show some _ = _; rw [hv])
    unfold M.runeK at hR
    dsimp only at hR
    have hD : ∀ v, v = c.toNat % 8 * 262144 + x.toNat % 64 * 4096 + y.toNat % 64 * 64 + z.toNat % 64 → Lib.decodeN n c.toNat x.toNat y.toNat z.toNat = if v ≥ 65536 ∧ (v < 55296 ∨ (57344 ≤ v ∧ v ≤ 1114111)) then (v, 4) else (65533, 1) := by
      intro v e
      unfold Lib.decodeN
      rw [if_neg h0, if_neg (by omega), if_neg (by omega), if_pos ⟨e4, ⟨by omega, h1⟩, ⟨by omega, h2⟩, by omega, h3⟩, ← e]
    have hD := hD _ rfl
    have hm : c.toNat % 8 * 262144 + x.toNat % 64 * 4096 + y.toNat % 64 * 64 + z.toNat % 64 < 2097152 := by omega
    generalize c.toNat % 8 * 262144 + x.toNat % 64 * 4096 + y.toNat % 64 * 64 + z.toNat % 64 = v at hR hD hm
    by_cases hb : v < 65536 ∨ 1114111 < v ∨ 55296 ≤ v ∧ v < 57344
    · rw [if_pos hb] at hR
      rw [if_neg (by omega)] at hD
      exact .inr ⟨hR, hD⟩
    · rw [if_neg hb] at hR
      rw [if_pos (by omega)] at hD
      exact .inl ⟨v, 4, by decide, hR, hD⟩
  have hl : M.lead c.toNat = (0, 0, 0) := by unfold M.lead; rw [if_neg c2, if_neg c3, if_neg c4]
  refine .inr ⟨M.rune_fewK h0 hl (.inl rfl), ?_⟩
  by_cases d2 : c.toNat / 32 = 6 ∧ 1 < n ∧ x.toNat / 64 = 2
  · unfold Lib.decodeN
    rw [if_neg h0, if_pos d2, if_neg (by omega)]
  by_cases d4 : c.toNat / 8 = 30 ∧ (1 < n ∧ x.toNat / 64 = 2) ∧ (2 < n ∧ y.toNat / 64 = 2) ∧ 3 < n ∧ z.toNat / 64 = 2
  · unfold Lib.decodeN
    rw [if_neg h0, if_neg d2, if_neg (by omega), if_pos d4, if_neg (by omega)]
  · exact bad d2 (by omega) d4

theorem get_bytes (l : List UInt8) (i : Nat) : (⟨l.toArray⟩ : ByteArray).get! i = l.getD i 0 := by
  show (l.toArray)[i]! = _
  simp [List.getD]
  rfl

/-- What Go's decoder tells of a text that has bytes. -/
theorem M.dec_rune (c : UInt8) (r : List UInt8) : Lib.decodeGo ⟨(c :: r).toArray⟩ = if (M.rune (c :: r)).2 = 0 then (65533, 1) else M.rune (c :: r) := by
  unfold Lib.decodeGo
  have hs : (⟨(c :: r).toArray⟩ : ByteArray).size = r.length + 1 := by show (c :: r).toArray.size = _; simp
  rw [if_neg (by rw [hs]; omega), Lib.decode_at, hs]
  rw [get_bytes, get_bytes, get_bytes, get_bytes]
  show Lib.decodeN (r.length + 1 - 0) c.toNat (r.getD 0 0).toNat (r.getD 1 0).toNat (r.getD 2 0).toNat = _
  refine M.AlikeR.eq (M.dec_few c (r.length + 1) _ _ _ r rfl ?_ ?_ ?_)
  all_goals
    match r with
    | [] => simp
    | [a] => simp
    | [a, b] => simp
    | a :: b :: d :: t => simp

end Go.Proofs.YtbgadfaiehkanaaGreatDoor

namespace Go.Proofs.YtbgadfaiehkanaaGreatDoor
set_option linter.unusedVariables false
set_option maxRecDepth 100000

theorem byte_eq {n : Nat} {c : UInt8} (h : n = c.toNat) : UInt8.ofNat n = c := by rw [h]; exact UInt8.ofNat_toNat

/-- What is known of a rune that is one. -/
structure M.RuneOk (c : UInt8) (r : List UInt8) (v n : Nat) : Prop where
  bytes : (c :: r).take n = M.rbytes v
  low : c.toNat < 128 ∧ v = c.toNat ∧ n = 1 ∨ 128 ≤ v ∧ 2 ≤ n ∧ 128 ≤ c.toNat
  great : v < 55296 ∨ 57344 ≤ v ∧ v ≤ 1114111
  len : n ≤ r.length + 1
  one : 1 ≤ n

theorem M.rune_ok (c : UInt8) (r : List UInt8) (v n : Nat) (hr : M.rune (c :: r) = (v, n)) (hn : n ≠ 0) : M.RuneOk c r v n := by
  have hc := c.toNat_lt
  by_cases h0 : c.toNat < 128
  · rw [M.rune_low c _ h0] at hr
    injection hr with e1 e2
    subst e1 e2
    refine ⟨?_, .inl ⟨h0, rfl, rfl⟩, by omega, by omega, by omega⟩
    unfold M.rbytes
    rw [if_pos h0]
    show [c] = _
    rw [byte_eq rfl]
  have hnz : (M.rune (c :: r)).2 ≠ 0 := by rw [hr]; exact hn
  obtain ⟨h1, h2, h3, h4⟩ := M.rune_parts hnz h0
  rw [hr] at h3 h4
  dsimp only at h3
  by_cases c2 : 194 ≤ c.toNat ∧ c.toNat < 224
  · have hl : M.lead c.toNat = (2, c.toNat % 32, 128) := by unfold M.lead; rw [if_pos c2]
    rw [hl] at h1 h2 h3 h4
    dsimp only at h1 h2 h3 h4
    subst h3
    obtain ⟨x, q, rfl⟩ : ∃ x q, r = x :: q := by
      match r, h2 with
      | x :: q, _ => exact ⟨x, q, rfl⟩
    rw [show (x :: q).take (2 - 1) = [x] from rfl] at h4
    have hbx := x.toNat_lt
    by_cases g0 : x.toNat / 64 = 2
    rotate_left
    · rw [M.follow_noK _ _ _ g0] at h4
      injection h4 with _ e
      exact absurd e (by decide)
    rw [M.follow_yesK _ _ _ g0] at h4
    unfold M.follow M.runeOf at h4
    dsimp only at h4
    have hv : ∀ u, u = c.toNat % 32 * 64 + x.toNat % 64 → M.rbytes u = [UInt8.ofNat (192 + u / 64), UInt8.ofNat (128 + u % 64)] → [c, x] = M.rbytes u := by
      intro u e e2
      rw [e2]
      rw [byte_eq (show 192 + u / 64 = c.toNat by omega), byte_eq (show 128 + u % 64 = x.toNat by omega)]
    have hv := hv _ rfl
    by_cases hb : c.toNat % 32 * 64 + x.toNat % 64 < 128 ∨ 1114111 < c.toNat % 32 * 64 + x.toNat % 64 ∨ 55296 ≤ c.toNat % 32 * 64 + x.toNat % 64 ∧ c.toNat % 32 * 64 + x.toNat % 64 < 57344
    · rw [if_pos hb] at h4
      injection h4 with _ e
      exact absurd e (by decide)
    rw [if_neg hb] at h4
    injection h4 with e _
    rw [← e] at hv hb
    have hm : v < 2048 := by rw [e]; omega
    clear e
    exact ⟨(hv (by unfold M.rbytes; rw [if_neg (by omega), if_pos (by omega)])), .inr ⟨by omega, by omega, by omega⟩, by omega, h2, by omega⟩
  by_cases c3 : 224 ≤ c.toNat ∧ c.toNat < 240
  · have hl : M.lead c.toNat = (3, c.toNat % 16, 2048) := by unfold M.lead; rw [if_neg c2, if_pos c3]
    rw [hl] at h1 h2 h3 h4
    dsimp only at h1 h2 h3 h4
    subst h3
    obtain ⟨x, y, q, rfl⟩ : ∃ x y q, r = x :: y :: q := by
      match r, h2 with
      | x :: y :: q, _ => exact ⟨x, y, q, rfl⟩
    rw [show (x :: y :: q).take (3 - 1) = [x, y] from rfl] at h4
    have hbx := x.toNat_lt
    by_cases g0 : x.toNat / 64 = 2
    rotate_left
    · rw [M.follow_noK _ _ _ g0] at h4
      injection h4 with _ e
      exact absurd e (by decide)
    have hby := y.toNat_lt
    by_cases g1 : y.toNat / 64 = 2
    rotate_left
    · rw [M.follow_yesK _ _ _ g0, M.follow_noK _ _ _ g1] at h4
      injection h4 with _ e
      exact absurd e (by decide)
    rw [M.follow_yesK _ _ _ g0, M.follow_yesK _ _ _ g1] at h4
    unfold M.follow M.runeOf at h4
    dsimp only at h4
    have hv : ∀ u, u = (c.toNat % 16 * 64 + x.toNat % 64) * 64 + y.toNat % 64 → M.rbytes u = [UInt8.ofNat (224 + u / 4096), UInt8.ofNat (128 + u / 64 % 64), UInt8.ofNat (128 + u % 64)] → [c, x, y] = M.rbytes u := by
      intro u e e2
      rw [e2]
      rw [byte_eq (show 224 + u / 4096 = c.toNat by omega), byte_eq (show 128 + u / 64 % 64 = x.toNat by omega), byte_eq (show 128 + u % 64 = y.toNat by omega)]
    have hv := hv _ rfl
    by_cases hb : (c.toNat % 16 * 64 + x.toNat % 64) * 64 + y.toNat % 64 < 2048 ∨ 1114111 < (c.toNat % 16 * 64 + x.toNat % 64) * 64 + y.toNat % 64 ∨ 55296 ≤ (c.toNat % 16 * 64 + x.toNat % 64) * 64 + y.toNat % 64 ∧ (c.toNat % 16 * 64 + x.toNat % 64) * 64 + y.toNat % 64 < 57344
    · rw [if_pos hb] at h4
      injection h4 with _ e
      exact absurd e (by decide)
    rw [if_neg hb] at h4
    injection h4 with e _
    rw [← e] at hv hb
    have hm : v < 65536 := by rw [e]; omega
    clear e
    exact ⟨(hv (by unfold M.rbytes; rw [if_neg (by omega), if_neg (by omega), if_pos (by omega)])), .inr ⟨by omega, by omega, by omega⟩, by omega, h2, by omega⟩
  by_cases c4 : 240 ≤ c.toNat ∧ c.toNat < 245
  · have hl : M.lead c.toNat = (4, c.toNat % 8, 65536) := by unfold M.lead; rw [if_neg c2, if_neg c3, if_pos c4]
    rw [hl] at h1 h2 h3 h4
    dsimp only at h1 h2 h3 h4
    subst h3
    obtain ⟨x, y, z, q, rfl⟩ : ∃ x y z q, r = x :: y :: z :: q := by
      match r, h2 with
      | x :: y :: z :: q, _ => exact ⟨x, y, z, q, rfl⟩
    rw [show (x :: y :: z :: q).take (4 - 1) = [x, y, z] from rfl] at h4
    have hbx := x.toNat_lt
    by_cases g0 : x.toNat / 64 = 2
    rotate_left
    · rw [M.follow_noK _ _ _ g0] at h4
      injection h4 with _ e
      exact absurd e (by decide)
    have hby := y.toNat_lt
    by_cases g1 : y.toNat / 64 = 2
    rotate_left
    · rw [M.follow_yesK _ _ _ g0, M.follow_noK _ _ _ g1] at h4
      injection h4 with _ e
      exact absurd e (by decide)
    have hbz := z.toNat_lt
    by_cases g2 : z.toNat / 64 = 2
    rotate_left
    · rw [M.follow_yesK _ _ _ g0, M.follow_yesK _ _ _ g1, M.follow_noK _ _ _ g2] at h4
      injection h4 with _ e
      exact absurd e (by decide)
    rw [M.follow_yesK _ _ _ g0, M.follow_yesK _ _ _ g1, M.follow_yesK _ _ _ g2] at h4
    unfold M.follow M.runeOf at h4
    dsimp only at h4
    have hv : ∀ u, u = ((c.toNat % 8 * 64 + x.toNat % 64) * 64 + y.toNat % 64) * 64 + z.toNat % 64 → M.rbytes u = [UInt8.ofNat (240 + u / 262144), UInt8.ofNat (128 + u / 4096 % 64), UInt8.ofNat (128 + u / 64 % 64), UInt8.ofNat (128 + u % 64)] → [c, x, y, z] = M.rbytes u := by
      intro u e e2
      rw [e2]
      rw [byte_eq (show 240 + u / 262144 = c.toNat by omega), byte_eq (show 128 + u / 4096 % 64 = x.toNat by omega), byte_eq (show 128 + u / 64 % 64 = y.toNat by omega), byte_eq (show 128 + u % 64 = z.toNat by omega)]
    have hv := hv _ rfl
    by_cases hb : ((c.toNat % 8 * 64 + x.toNat % 64) * 64 + y.toNat % 64) * 64 + z.toNat % 64 < 65536 ∨ 1114111 < ((c.toNat % 8 * 64 + x.toNat % 64) * 64 + y.toNat % 64) * 64 + z.toNat % 64 ∨ 55296 ≤ ((c.toNat % 8 * 64 + x.toNat % 64) * 64 + y.toNat % 64) * 64 + z.toNat % 64 ∧ ((c.toNat % 8 * 64 + x.toNat % 64) * 64 + y.toNat % 64) * 64 + z.toNat % 64 < 57344
    · rw [if_pos hb] at h4
      injection h4 with _ e
      exact absurd e (by decide)
    rw [if_neg hb] at h4
    injection h4 with e _
    rw [← e] at hv hb
    have hm : v < 2097152 := by rw [e]; omega
    clear e
    exact ⟨(hv (by unfold M.rbytes; rw [if_neg (by omega), if_neg (by omega), if_neg (by omega)])), .inr ⟨by omega, by omega, by omega⟩, by omega, h2, by omega⟩
  have hl : M.lead c.toNat = (0, 0, 0) := by unfold M.lead; rw [if_neg c2, if_neg c3, if_neg c4]
  rw [hl] at h1
  exact absurd rfl h1

/-- The library writes a rune as the document says. -/
theorem M.rune_cells (v : Nat) (h : v < 55296 ∨ 57344 ≤ v ∧ v ≤ 1114111) : Lib.runeCells (v : Int) = Lib.byteCells (M.rbytes v) := by
  have ob : ∀ n, n < 256 → (UInt8.ofNat n).toNat = n := fun n h => by rw [UInt8.toNat_ofNat']; omega
  unfold Lib.runeCells M.rbytes
  by_cases h1 : v < 128
  · rw [Lib.encodeRuneZ_one (by omega) (by omega), if_pos h1]
    simp only [Lib.byteCells, List.map_cons, List.map_nil]
    rw [ob v (by omega)]
  rw [if_neg h1]
  by_cases h2 : v < 2048
  · rw [Lib.encodeRuneZ_two (by omega) (by omega), if_pos h2]
    simp only [Lib.byteCells, List.map_cons, List.map_nil]
    rw [ob _ (by omega), ob _ (by omega)]
    rfl
  rw [if_neg h2]
  by_cases h3 : v < 65536
  · rw [Lib.encodeRuneZ_three (by omega), if_pos h3]
    simp only [Lib.byteCells, List.map_cons, List.map_nil]
    rw [ob _ (by omega), ob _ (by omega), ob _ (by omega)]
    rfl
  · rw [if_neg h3, Lib.encodeRuneZ_four (by omega) (by omega)]
    simp only [Lib.byteCells, List.map_cons, List.map_nil]
    rw [ob _ (by omega), ob _ (by omega), ob _ (by omega), ob _ (by omega)]
    rfl

end Go.Proofs.YtbgadfaiehkanaaGreatDoor

namespace Go.Proofs.YtbgadfaiehkanaaGreatDoor
open Go.RowKit Go.Proofs Go.Shelf
set_option linter.unusedVariables false
set_option maxRecDepth 100000

/-- A text's sign, as it may stand in it. -/
def M.sgn : List UInt8 → Option (Nat × List UInt8)
  | [] => none
  | c :: r => if c = 92 then M.esc r else if c.toNat < 32 then none else if (M.rune (c :: r)).2 = 0 then none else some ((M.rune (c :: r)).1, (c :: r).drop (M.rune (c :: r)).2)

/-- utf8.DecodeRuneInString. -/
theorem jdecode_any (s : List UInt8) (w : World) (hL : JLaid w) :
    Calls Tryz.prog 191 #[.string ⟨s.toArray⟩] w fun e w' => e = .returned (.tuple #[.int .i32 ((Lib.decodeGo ⟨s.toArray⟩).1 : Nat), .int .i64 ((Lib.decodeGo ⟨s.toArray⟩).2 : Nat)]) ∧ Below w.heap.size w w' :=
  Any.utf8_DecodeRuneInString lay_lays197 ⟨s.toArray⟩ w hL.tabs

set_option maxHeartbeats 8000000 in
theorem sign_bad (g : Nat) (s : List UInt8) (w : World) (h : Rd w g s) (hn : ¬ [92] <+: s) (hL : JLaid w) (hg : 6 ≤ g) (v n : Nat) (hd : Lib.decodeGo ⟨s.toArray⟩ = (v, n)) (hb : v < 32 ∨ v = 65533 ∧ n ≤ 1) :
    Calls Tryz.prog 163 #[.pointer (some ⟨g, 0, none⟩)] w (SignEnds w g none) := by
  have HT : Hid (Calls Tryz.prog 128 #[.pointer (some ⟨g, 0, none⟩), .string ⟨#[92]⟩] w fun e w' => e = .returned (.bool false) ∧ Reads w g s w') := took_no g s [92] w h hn
  have HD : Hid (∀ w1, JLaid w1 → Calls Tryz.prog 191 #[.string ⟨s.toArray⟩] w1 fun e w' => e = .returned (.tuple #[.int .i32 (v : Nat), .int .i64 (n : Nat)]) ∧ Below w1.heap.size w1 w') := by
    intro w1 hL1
    have := jdecode_any s w1 hL1
    rw [hd] at this
    exact this
  have HL := Lib.hid hL
  have HB := Lib.hid hb
  clear hn hL hd h hb
  go_enter Tryz.func163, Tryz.ntmps163
  go_wp2_with fail
  refine HT.out.mono ?_
  rintro e w1 ⟨rfl, k1⟩
  have K1 := Lib.hid k1
  have c1 := k1.1.cell
  have HL1 := Lib.hid (HL.out.reads k1.2 hg)
  clear k1
  go_wp2_with fail
  refine (HD.out w1 HL1.out).mono ?_
  rintro e w2 ⟨rfl, k2⟩
  have K2 := Lib.hid (K1.out.2.go (Chg.of_below k2))
  clear k2
  by_cases h1 : v < 32
  · have t1 : decide (((v : Nat) : Int) < 32) = true := decide_eq_true (by omega)
    clear h1
    go_wp2
    exact ⟨rfl, rfl, K2.out⟩
  · have t1 : decide (((v : Nat) : Int) < 32) = false := decide_eq_false (by omega)
    have h2 : v = 65533 ∧ n ≤ 1 := HB.out.resolve_left h1
    obtain ⟨rfl, h3⟩ := h2
    have t3 : decide (((n : Nat) : Int) ≤ 1) = true := decide_eq_true (by omega)
    clear h1 t1 h3
    go_wp2
    exact ⟨rfl, rfl, K2.out⟩

set_option maxHeartbeats 8000000 in
theorem sign_any (g : Nat) (s : List UInt8) (w : World) (h : Rd w g s) (hl : s.length ≤ 1099511627776) (hL : JLaid w) (hg : 6 ≤ g) :
    Calls Tryz.prog 163 #[.pointer (some ⟨g, 0, none⟩)] w (SignEnds w g (M.sgn s)) := by
  cases s with
  | nil => exact sign_bad g [] w h (fun e => by have := e.length_le; simp at this) hL hg 65533 0 rfl (.inr ⟨rfl, by omega⟩)
  | cons c r =>
    by_cases c92 : c = 92
    · subst c92
      have HT : Hid (Calls Tryz.prog 128 #[.pointer (some ⟨g, 0, none⟩), .string ⟨#[92]⟩] w fun e w' => e = .returned (.bool true) ∧ Reads w g r w') := took_yes g [92] r w h
      have HM : Hid (M.sgn (92 :: r) = M.esc r) := by rw [Hid]; unfold M.sgn; dsimp only; rw [if_pos rfl]
      have HRL : Hid (r.length ≤ 1099511627776) := by rw [Hid]; simp at hl; omega
      have HL := Lib.hid hL
      clear h hl hL
      go_enter Tryz.func163, Tryz.ntmps163
      go_wp2_with fail
      refine HT.out.mono ?_
      rintro e w1 ⟨rfl, k1⟩
      have K1 := Lib.hid k1
      clear k1
      have HC := Lib.hid (escape_any g r w1 K1.out.1 HRL.out (HL.out.reads K1.out.2 hg) hg)
      go_wp2_with fail
      refine HC.out.mono ?_
      intro e w2 h2
      have H2 := Lib.hid (SignEnds.on K1.out.2 h2)
      clear h2
      cases ho : M.esc r with
      | none =>
        rw [ho] at H2 HM
        obtain ⟨rfl, k2⟩ := H2.out
        have K2 := Lib.hid k2
        clear k2 H2
        go_wp2
        refine ⟨rfl, ?_⟩
        rw [HM.out]
        exact ⟨rfl, K2.out⟩
      | some p =>
        obtain ⟨v, r2⟩ := p
        rw [ho] at H2 HM
        obtain ⟨rfl, k2⟩ := H2.out
        have K2 := Lib.hid k2
        clear k2 H2
        go_wp2
        go_ret
        show SignEnds _ _ _ _ _
        rw [HM.out]
        exact ⟨rfl, K2.out⟩
    have hn : ¬ [92] <+: c :: r := by
      rintro ⟨t, e⟩
      injection e with e _
      exact c92 e.symm
    obtain ⟨v, n, hr⟩ : ∃ v n, M.rune (c :: r) = (v, n) := ⟨_, _, rfl⟩
    have hd := M.dec_rune c r
    rw [hr] at hd
    by_cases h0 : n = 0
    · have HM : M.sgn (c :: r) = none := by
        unfold M.sgn
        dsimp only
        rw [if_neg c92, hr]
        by_cases h32 : c.toNat < 32
        · rw [if_pos h32]
        · rw [if_neg h32, if_pos h0]
      rw [HM]
      rw [if_pos h0] at hd
      exact sign_bad g _ w h hn hL hg 65533 1 hd (.inr ⟨rfl, Nat.le_refl _⟩)
    rw [if_neg h0] at hd
    have ok := M.rune_ok c r v n hr h0
    by_cases h32 : c.toNat < 32
    · have HM : M.sgn (c :: r) = none := by
        unfold M.sgn
        dsimp only
        rw [if_neg c92, if_pos h32]
      rw [HM]
      exact sign_bad g _ w h hn hL hg v n hd (.inl (by rcases ok.low with h | h <;> omega))
    have HM : Hid (M.sgn (c :: r) = some (v, (c :: r).drop n)) := by
      rw [Hid]
      unfold M.sgn
      dsimp only
      rw [if_neg c92, if_neg h32, hr, if_neg h0]
    have HT : Hid (Calls Tryz.prog 128 #[.pointer (some ⟨g, 0, none⟩), .string ⟨#[92]⟩] w fun e w' => e = .returned (.bool false) ∧ Reads w g (c :: r) w') := took_no g _ [92] w h hn
    have HD : Hid (∀ w1, JLaid w1 → Calls Tryz.prog 191 #[.string ⟨(c :: r).toArray⟩] w1 fun e w' => e = .returned (.tuple #[.int .i32 (v : Nat), .int .i64 (n : Nat)]) ∧ Below w1.heap.size w1 w') := by
      intro w1 hL1
      have := jdecode_any (c :: r) w1 hL1
      rw [hd] at this
      exact this
    have HTK : Hid (∀ w1, Rd w1 g (c :: r) → Calls Tryz.prog 168 #[.pointer (some ⟨g, 0, none⟩), .int .i64 (n : Int)] w1 fun e w' => e = .returned (.string ⟨((c :: r).take n).toArray⟩) ∧ Reads w1 g ((c :: r).drop n) w') := fun w1 h1 => take_yes g (c :: r) n w1 h1 (by have := ok.len; simp; omega) hl
    have HL := Lib.hid hL
    have t1 : decide (((v : Nat) : Int) < 32) = false := decide_eq_false (by rcases ok.low with h | h <;> omega)
    obtain ⟨s, hs⟩ : ∃ s, s = c :: r := ⟨_, rfl⟩
    rw [← hs] at HT HD HTK HM h ⊢
    have HOK := Lib.hid ok
    clear h hl hL hn hr hd h0 ok h32 hs c92
    go_enter Tryz.func163, Tryz.ntmps163
    go_wp2_with fail
    refine HT.out.mono ?_
    rintro e w1 ⟨rfl, k1⟩
    have K1 := Lib.hid k1
    have c1 := k1.1.cell
    have HL1 := Lib.hid (HL.out.reads k1.2 hg)
    clear k1
    go_wp2_with fail
    refine (HD.out w1 HL1.out).mono ?_
    rintro e w2 ⟨rfl, k2⟩
    have K2 := Lib.hid (K1.out.2.go (Chg.of_below k2))
    have R2 := Lib.hid (K1.out.1.below k2 K1.out.1.lt)
    clear k2 c1
    by_cases h65 : v = 65533
    · have t2 : decide (((v : Nat) : Int) = 65533) = true := decide_eq_true (by omega)
      have t3 : decide (((n : Nat) : Int) ≤ 1) = false := decide_eq_false (by rcases HOK.out.low with h | h <;> have := c.toNat_lt <;> omega)
      subst h65
      clear t1
      go_wp2_with fail
      refine (HTK.out w2 R2.out).mono ?_
      rintro e w3 ⟨rfl, k3⟩
      have K3 := Lib.hid k3
      clear k3
      go_wp2
      go_ret
      show SignEnds _ _ _ _ _
      rw [HM.out]
      exact ⟨rfl, K3.out.1, K2.out.go K3.out.2⟩
    · have t2 : (((v : Nat) : Int) == 65533) = false := by simpa using (show ¬ ((v : Nat) : Int) = 65533 by omega)
      have t2b : ¬ ((v : Nat) : Int) = 65533 := by omega
      clear h65
      go_wp2_with fail
      refine (HTK.out w2 R2.out).mono ?_
      rintro e w3 ⟨rfl, k3⟩
      have K3 := Lib.hid k3
      clear k3
      go_wp2
      go_ret
      show SignEnds _ _ _ _ _
      rw [HM.out]
      exact ⟨rfl, K3.out.1, K2.out.go K3.out.2⟩

end Go.Proofs.YtbgadfaiehkanaaGreatDoor
