/-
  THE PROGRAM'S READER: bare, if value holds. Conditions: texts of up to 65536 bytes; the library's variables lie as laid.
-/
import Derived.Test.YtbgadfaiehkanaaGreatDoorJsD9
import Derived.Test.YtbgadfaiehkanaaGreatDoorJsC6
namespace Go.Proofs.YtbgadfaiehkanaaGreatDoor
open Go.RowKit Go.Proofs Go.Shelf
set_option linter.unusedVariables false
set_option maxRecDepth 100000

theorem results_cell1 {P : Program} {fn : Func} {p : Tmp} {ty : TypeId} (h : fn.results = #[.cell p ty]) (tmps : Array Value) (w : World) (g : Nat) (t : TypeId) (cs : Array Value) (fr : Nat × Nat) (d : TypeDesc)
    (hp : tmps.getD p undef = .pointer (some ⟨g, 0, none⟩)) (hg : w.heap[g]? = some (.cells cs t fr))
    (hu : P.underlying ty = some d) (hd : (match d with | .struct _ | .array _ _ => true | _ => false) = true) (hi : (P.info? ty).map (·.size) = some cs.size) :
    (results fn tmps).run P w = .ok (.agg cs) w := by
  have hp' : tmps[p]?.getD undef = .pointer (some ⟨g, 0, none⟩) := by simpa using hp
  simp [results, h, hp', asAddr, run_loadVar_row w g t ty cs fr d hg hu hd hi]

theorem Only.chg {g : Nat} {a w : World} (h : Only g a w) : Chg (fun b => b = g) a w := Chg.of_grown h fun k e => by injection e with e; exact e.symm

/-- A value's list and map are rows. -/
theorem IsV.rows {S : Nat → Prop} {w : World} {d : Nat} {k n : Int} {b : Bool} {t : List UInt8} {lv mv : Value} {g : M.GV} (h : IsV S w (d + 1) (vcs k b n t lv mv) g) : (∃ a m c, lv = .slice a m c) ∧ ∃ a m c, mv = .slice a m c := by
  obtain ⟨l, m, ls, ms, e, _, ⟨ao, cap, el, _⟩, _, _, ⟨ao2, cap2, em, _⟩, _⟩ := h
  unfold vcs at e
  injection e with _ e
  injection e with _ e
  injection e with _ e
  injection e with _ e
  injection e with e1 e
  injection e with e2 _
  exact ⟨⟨ao, _, cap, e1.trans el⟩, ⟨ao2, _, cap2, e2.trans em⟩⟩

theorem IsT.rows {S : Nat → Prop} {w : World} {d : Nat} {k n : Int} {b : Bool} {t : List UInt8} {lv mv : Value} {g : M.GV} (h : IsT S w (d + 1) (vcs k b n t lv mv) g) : (∃ a m c, lv = .slice a m c) ∧ ∃ a m c, mv = .slice a m c := h.v.rows

/-- The reader on its way, and what it hands back at last. -/
structure BS (w : World) (g gV : Nat) (s : List UInt8) (w' : World) : Prop where
  rd : Rd w' g s
  chg : Chg (fun b => b = g) w w'
  blk : Blk w' gV 27 z6
  ne : gV ≠ g
  deep : w.heap.size ≤ gV

theorem BS.go {w : World} {g gV : Nat} {s r : List UInt8} {w1 w2 : World} (h : BS w g gV s w1) (k : Reads w1 g r w2) : BS w g gV r w2 :=
  ⟨k.1, h.chg.go k.2, h.blk.chg k.2 h.ne, h.ne, h.deep⟩
theorem BS.fin {w : World} {g gV : Nat} {s : List UInt8} {w1 w2 : World} (h : BS w g gV s w1) (k : Only gV w1 w2) : Reads w g s w2 :=
  ⟨h.rd.chg (Only.chg k) (fun e => h.ne e.symm), h.chg.deep (k.below (Nat.le_of_lt h.blk.lt) (Nat.le_refl _)) (by have := h.deep; omega)⟩

theorem pre_cons {c : UInt8} {s : List UInt8} (h : ¬ [c] <+: s) : s.head? ≠ some c := by
  intro e
  cases s with
  | nil => cases e
  | cons x r =>
    injection e with e
    exact h ⟨r, by rw [e]; rfl⟩

theorem M.bare_1 {val : List UInt8 → M.Res} {s : List UInt8} (h1 : M.wNull <+: s) : M.bare val s = .ok M.vNull (s.drop 4) := by unfold M.bare; rw [if_pos h1]
theorem M.bare_2 {val : List UInt8 → M.Res} {s : List UInt8} (h1 : ¬ M.wNull <+: s) (h2 : M.wTrue <+: s) : M.bare val s = .ok (M.vBool true) (s.drop 4) := by unfold M.bare; rw [if_neg h1, if_pos h2]
theorem M.bare_3 {val : List UInt8 → M.Res} {s : List UInt8} (h1 : ¬ M.wNull <+: s) (h2 : ¬ M.wTrue <+: s) (h3 : M.wFalse <+: s) : M.bare val s = .ok (M.vBool false) (s.drop 5) := by unfold M.bare; rw [if_neg h1, if_neg h2, if_pos h3]
theorem M.bare_t {val : List UInt8 → M.Res} {r : List UInt8} : M.bare val (34 :: r) = M.resT (M.txtU r []) := by
  unfold M.bare
  rw [if_neg (by simp [M.wNull]), if_neg (by simp [M.wTrue]), if_neg (by simp [M.wFalse])]
  rfl
theorem M.bare_l {val : List UInt8 → M.Res} {r : List UInt8} : M.bare val (91 :: r) = (M.partsG (M.lstep val) 93 r []).toRes M.vList := by
  unfold M.bare
  rw [if_neg (by simp [M.wNull]), if_neg (by simp [M.wTrue]), if_neg (by simp [M.wFalse])]
  rfl
theorem M.bare_m {val : List UInt8 → M.Res} {r : List UInt8} : M.bare val (123 :: r) = (M.partsG (M.mstep val) 125 r []).toRes M.vMap := by
  unfold M.bare
  rw [if_neg (by simp [M.wNull]), if_neg (by simp [M.wTrue]), if_neg (by simp [M.wFalse])]
  rfl
theorem M.num2_nil : M.num2 [] = none := rfl
theorem M.bare_n {val : List UInt8 → M.Res} {s : List UInt8} (h1 : ¬ M.wNull <+: s) (h2 : ¬ M.wTrue <+: s) (h3 : ¬ M.wFalse <+: s) (h4 : ¬ [34] <+: s) (h5 : ¬ [91] <+: s) (h6 : ¬ [123] <+: s) : M.bare val s = M.resN (M.num2 s) := by
  unfold M.bare
  rw [if_neg h1, if_neg h2, if_neg h3]
  cases s with
  | nil => rw [M.num2_nil]; rfl
  | cons c r =>
    dsimp only
    rw [if_neg (fun e => pre_cons h4 (by rw [e]; rfl)), if_neg (fun e => pre_cons h5 (by rw [e]; rfl)), if_neg (fun e => pre_cons h6 (by rw [e]; rfl))]

theorem pre_drop {t s : List UInt8} (h : t <+: s) : s = t ++ s.drop t.length := by
  obtain ⟨r, rfl⟩ := h
  rw [List.drop_left]

set_option maxHeartbeats 16000000 in
theorem bare_any {d : Nat} {q q2 : Int} (hq : wrap64 (q + 1) = q2) (V : JVal d q2) (g : Nat) (s : List UInt8) (w : World) (h : Rd w g s) (hl : s.length ≤ 65536) (hL : JLaid w) (hg : 6 ≤ g) :
    Calls Tryz.prog 89 #[.pointer (some ⟨g, 0, none⟩), .int .i64 q] w (JEnds w g (d + 1) (M.bare (M.val2 d) s)) := by
  obtain ⟨W1, hW1⟩ : ∃ W, W = w.alloc (.cells #[.int .i64 0, .bool false, .int .i64 0, .string ⟨#[]⟩, .slice none 0 0, .slice none 0 0] 27) := ⟨_, rfl⟩
  obtain ⟨gV, hgV⟩ : ∃ x, x = w.heap.size := ⟨_, rfl⟩
  have B1 : Blk W1 gV 27 z6 := by rw [hW1]; exact Blk.newAt _ _ _ _ _ hgV rfl
  have k1 : Below w.heap.size w W1 := by rw [hW1]; exact (Below.refl _ _).alloc (Nat.le_refl _) _
  have S1 : BS w g gV s W1 := ⟨h.below k1 h.lt, Chg.of_below k1, B1, by have := h.lt; omega, by omega⟩
  have HS1 := Lib.hid S1
  have HL := Lib.hid hL
  have HV := Lib.hid V
  have HSL := Lib.hid hl
  have E1 := Lib.hid hW1
  have EV := Lib.hid hgV
  have HQ := Lib.hid hq
  obtain ⟨res, hres⟩ : ∃ r, r = M.bare (M.val2 d) s := ⟨_, rfl⟩
  have HRES := Lib.hid hres
  rw [← hres]
  clear hres hW1 hgV B1 k1 S1 h hl hL V hq
  go_enter Tryz.func89, Tryz.ntmps89
  go_upto_region 1 with fail
  rw [← EV.out, ← E1.out]
  clear E1 EV
  by_cases c1 : M.wNull <+: s
  · have HM : Hid (res = .ok M.vNull (s.drop 4)) := by rw [Hid, HRES.out, M.bare_1 c1]
    have HC : Hid (Calls Tryz.prog 128 #[.pointer (some ⟨g, 0, none⟩), .string ⟨#[110, 117, 108, 108]⟩] W1 fun e w' => e = .returned (.bool true) ∧ Reads W1 g (s.drop 4) w') :=
      took_yes g M.wNull (s.drop 4) W1 (by have := HS1.out.rd; rw [pre_drop c1] at this; exact this)
    clear c1
    go_wp2_with fail
    refine HC.out.mono ?_
    rintro e w2 ⟨rfl, r2⟩
    have HS2 := Lib.hid (HS1.out.go r2)
    clear r2 HC
    go_wp2_with (refine wpList_store_blk rfl 27 (.tmp 4) (.tmp 8) rfl gV _ rfl rfl 27 _ HS2.out.blk Tryz.sizeV rfl (by decide) ?_; intro w9 hb9 ho9)
    exact bodyPost_ret (results_cell1 rfl _ _ gV _ _ _ _ rfl hb9 Tryz.underlying27 rfl Tryz.sizeV) rfl (by rw [HM.out]; exact ⟨.slice none 0 0, .slice none 0 0, rfl, IsT.leaf _ _ d 0 false 0 [], HS2.out.fin ho9⟩)
  have HC1 : Hid (Calls Tryz.prog 128 #[.pointer (some ⟨g, 0, none⟩), .string ⟨#[110, 117, 108, 108]⟩] W1 fun e w' => e = .returned (.bool false) ∧ Reads W1 g s w') := took_no g s M.wNull W1 HS1.out.rd c1
  have N1 := Lib.hid c1
  clear c1
  go_wp2_with fail
  refine HC1.out.mono ?_
  rintro e w2 ⟨rfl, r2⟩
  have HS2 := Lib.hid (HS1.out.go r2)
  clear r2 HC1 HS1
  by_cases c1 : M.wTrue <+: s
  · have HM : Hid (res = .ok (M.vBool true) (s.drop 4)) := by rw [Hid, HRES.out, M.bare_2 N1.out c1]
    have HC : Hid (Calls Tryz.prog 128 #[.pointer (some ⟨g, 0, none⟩), .string ⟨#[116, 114, 117, 101]⟩] w2 fun e w' => e = .returned (.bool true) ∧ Reads w2 g (s.drop 4) w') :=
      took_yes g M.wTrue (s.drop 4) w2 (by have := HS2.out.rd; rw [pre_drop c1] at this; exact this)
    clear c1
    go_wp2_with fail
    refine HC.out.mono ?_
    rintro e w3 ⟨rfl, r3⟩
    have HS3 := Lib.hid (HS2.out.go r3)
    clear r3 HC
    go_wp2_with (refine wpList_store_blk rfl 27 (.tmp 4) (.tmp 12) rfl gV _ rfl rfl 27 _ HS3.out.blk Tryz.sizeV rfl (by decide) ?_; intro w9 hb9 ho9)
    exact bodyPost_ret (results_cell1 rfl _ _ gV _ _ _ _ rfl hb9 Tryz.underlying27 rfl Tryz.sizeV) rfl (by rw [HM.out]; exact ⟨.slice none 0 0, .slice none 0 0, rfl, IsT.leaf _ _ d 1 true 0 [], HS3.out.fin ho9⟩)
  have HC1 : Hid (Calls Tryz.prog 128 #[.pointer (some ⟨g, 0, none⟩), .string ⟨#[116, 114, 117, 101]⟩] w2 fun e w' => e = .returned (.bool false) ∧ Reads w2 g s w') := took_no g s M.wTrue w2 HS2.out.rd c1
  have N2 := Lib.hid c1
  clear c1
  go_wp2_with fail
  refine HC1.out.mono ?_
  rintro e w3 ⟨rfl, r2⟩
  have HS3 := Lib.hid (HS2.out.go r2)
  clear r2 HC1 HS2
  by_cases c1 : M.wFalse <+: s
  · have HM : Hid (res = .ok (M.vBool false) (s.drop 5)) := by rw [Hid, HRES.out, M.bare_3 N1.out N2.out c1]
    have HC : Hid (Calls Tryz.prog 128 #[.pointer (some ⟨g, 0, none⟩), .string ⟨#[102, 97, 108, 115, 101]⟩] w3 fun e w' => e = .returned (.bool true) ∧ Reads w3 g (s.drop 5) w') :=
      took_yes g M.wFalse (s.drop 5) w3 (by have := HS3.out.rd; rw [pre_drop c1] at this; exact this)
    clear c1
    go_wp2_with fail
    refine HC.out.mono ?_
    rintro e w4 ⟨rfl, r3⟩
    have HS4 := Lib.hid (HS3.out.go r3)
    clear r3 HC
    go_wp2_with (refine wpList_store_blk rfl 27 (.tmp 4) (.tmp 16) rfl gV _ rfl rfl 27 _ HS4.out.blk Tryz.sizeV rfl (by decide) ?_; intro w9 hb9 ho9)
    exact bodyPost_ret (results_cell1 rfl _ _ gV _ _ _ _ rfl hb9 Tryz.underlying27 rfl Tryz.sizeV) rfl (by rw [HM.out]; exact ⟨.slice none 0 0, .slice none 0 0, rfl, IsT.leaf _ _ d 1 false 0 [], HS4.out.fin ho9⟩)
  have HC1 : Hid (Calls Tryz.prog 128 #[.pointer (some ⟨g, 0, none⟩), .string ⟨#[102, 97, 108, 115, 101]⟩] w3 fun e w' => e = .returned (.bool false) ∧ Reads w3 g s w') := took_no g s M.wFalse w3 HS3.out.rd c1
  have N3 := Lib.hid c1
  clear c1
  go_wp2_with fail
  refine HC1.out.mono ?_
  rintro e w4 ⟨rfl, r2⟩
  have HS4 := Lib.hid (HS3.out.go r2)
  clear r2 HC1 HS3
  by_cases c1 : [34] <+: s
  · obtain ⟨r, hr⟩ := c1
    have HM : Hid (res = M.resT (M.txtU r [])) := by rw [Hid, HRES.out, ← hr]; exact M.bare_t
    have HRL : Hid (r.length ≤ 65536) := by have := HSL.out; rw [← hr, List.length_append] at this; rw [Hid]; omega
    have HC : Hid (Calls Tryz.prog 128 #[.pointer (some ⟨g, 0, none⟩), .string ⟨#[34]⟩] w4 fun e w' => e = .returned (.bool true) ∧ Reads w4 g r w') :=
      took_yes g [34] r w4 (by have := HS4.out.rd; rw [← hr] at this; exact this)
    clear hr
    go_wp2_with fail
    refine HC.out.mono ?_
    rintro e w5 ⟨rfl, r3⟩
    have HS5 := Lib.hid (HS4.out.go r3)
    clear r3 HC
    have HT := Lib.hid (text_any g r w5 HS5.out.rd (by have := HRL.out; omega) (HL.out.reads HS5.out.chg hg) hg)
    go_wp2_with fail
    refine HT.out.mono ?_
    intro e w6 h6
    cases ht : M.txtU r [] with
    | none =>
      rw [ht] at h6
      obtain ⟨rfl, k6⟩ := h6
      have HM2 : Hid (res = .err 8) := by rw [Hid, HM.out, ht]; rfl
      have K6 := Lib.hid (HS5.out.chg.go k6)
      clear k6 ht HT
      go_wp2
      exact ⟨rfl, by rw [HM2.out]; exact ⟨69, rfl, .inr ⟨rfl, rfl⟩, K6.out⟩⟩
    | some p =>
      obtain ⟨t, r6⟩ := p
      rw [ht] at h6
      obtain ⟨rfl, k6⟩ := h6
      have HM2 : Hid (res = .ok (M.vText t) r6) := by rw [Hid, HM.out, ht]; rfl
      have HS6 := Lib.hid (HS5.out.go k6)
      clear k6 ht HT
      go_wp2_with (refine wpList_store_blk rfl 27 (.tmp 4) (.tmp 22) rfl gV _ rfl rfl 27 _ HS6.out.blk Tryz.sizeV rfl (IsT.leaf (fun _ => True) w6 0 3 false 0 t).one ?_; intro w9 hb9 ho9)
      exact bodyPost_ret (results_cell1 rfl _ _ gV _ _ _ _ rfl hb9 Tryz.underlying27 rfl Tryz.sizeV) rfl (by rw [HM2.out]; exact ⟨.slice none 0 0, .slice none 0 0, rfl, IsT.leaf _ _ d 3 false 0 t, HS6.out.fin ho9⟩)
  have HC1 : Hid (Calls Tryz.prog 128 #[.pointer (some ⟨g, 0, none⟩), .string ⟨#[34]⟩] w4 fun e w' => e = .returned (.bool false) ∧ Reads w4 g s w') := took_no g s [34] w4 HS4.out.rd c1
  have N4 := Lib.hid c1
  clear c1
  go_wp2_with fail
  refine HC1.out.mono ?_
  rintro e w5 ⟨rfl, r2⟩
  have HS5 := Lib.hid (HS4.out.go r2)
  clear r2 HC1 HS4
  by_cases c1 : [91] <+: s
  · obtain ⟨r, hr⟩ := c1
    have HM : Hid (res = (M.partsG (M.lstep (M.val2 d)) 93 r []).toRes M.vList) := by rw [Hid, HRES.out, ← hr]; exact M.bare_l
    have HRL : Hid (r.length ≤ 65536) := by have := HSL.out; rw [← hr, List.length_append] at this; rw [Hid]; omega
    have HC : Hid (Calls Tryz.prog 128 #[.pointer (some ⟨g, 0, none⟩), .string ⟨#[91]⟩] w5 fun e w' => e = .returned (.bool true) ∧ Reads w5 g r w') :=
      took_yes g [91] r w5 (by have := HS5.out.rd; rw [← hr] at this; exact this)
    clear hr
    go_wp2_with fail
    refine HC.out.mono ?_
    rintro e w6 ⟨rfl, r3⟩
    have HS6 := Lib.hid (HS5.out.go r3)
    clear r3 HC
    have HT := Lib.hid (list_any HV.out g r w6 HS6.out.rd HRL.out (HL.out.reads HS6.out.chg hg) hg)
    go_wp2_with fail
    rw [HQ.out]
    refine HT.out.mono ?_
    intro e w7 h7
    cases ht : M.partsG (M.lstep (M.val2 d)) 93 r [] with
    | err c =>
      rw [ht] at h7
      obtain ⟨T, rfl, hT, k7⟩ := h7
      have HM2 : Hid (res = .err c) := by rw [Hid, HM.out, ht]; rfl
      have K7 := Lib.hid (HS6.out.chg.go k7)
      have HPT := Lib.hid hT
      clear k7 ht HT hT
      go_wp2
      exact ⟨rfl, by rw [HM2.out]; exact ⟨T, rfl, HPT.out, K7.out⟩⟩
    | ok L r7 =>
      rw [ht] at h7
      obtain ⟨lv, rfl, iv, k7⟩ := h7
      obtain ⟨la, ln, lc, rfl⟩ := iv.rows.1
      have HM2 : Hid (res = .ok (M.vList L) r7) := by rw [Hid, HM.out, ht]; rfl
      have HS7 := Lib.hid (HS6.out.go k7)
      have HI := Lib.hid iv
      have HG7 := Lib.hid (HS6.out.blk.lt)
      have HD7 := Lib.hid (HS6.out.deep)
      clear k7 ht HT iv
      go_wp2_with (refine wpList_store_blk rfl 27 (.tmp 4) (.tmp 30) rfl gV _ rfl rfl 27 _ HS7.out.blk Tryz.sizeV rfl HI.out.one ?_; intro w9 hb9 ho9)
      exact bodyPost_ret (results_cell1 rfl _ _ gV _ _ _ _ rfl hb9 Tryz.underlying27 rfl Tryz.sizeV) rfl (by rw [HM2.out]; exact ⟨_, .slice none 0 0, rfl, IsT.mono (fun b _ hb => by have := HG7.out; have := HD7.out; show w.heap.size ≤ b; omega) _ (IsT.chg (Only.chg ho9) (fun b hb e => by have := HG7.out; omega) _ HI.out), HS7.out.fin ho9⟩)
  have HC1 : Hid (Calls Tryz.prog 128 #[.pointer (some ⟨g, 0, none⟩), .string ⟨#[91]⟩] w5 fun e w' => e = .returned (.bool false) ∧ Reads w5 g s w') := took_no g s [91] w5 HS5.out.rd c1
  have N5 := Lib.hid c1
  clear c1
  go_wp2_with fail
  refine HC1.out.mono ?_
  rintro e w6 ⟨rfl, r2⟩
  have HS6 := Lib.hid (HS5.out.go r2)
  clear r2 HC1 HS5
  by_cases c1 : [123] <+: s
  · obtain ⟨r, hr⟩ := c1
    have HM : Hid (res = (M.partsG (M.mstep (M.val2 d)) 125 r []).toRes M.vMap) := by rw [Hid, HRES.out, ← hr]; exact M.bare_m
    have HRL : Hid (r.length ≤ 65536) := by have := HSL.out; rw [← hr, List.length_append] at this; rw [Hid]; omega
    have HC : Hid (Calls Tryz.prog 128 #[.pointer (some ⟨g, 0, none⟩), .string ⟨#[123]⟩] w6 fun e w' => e = .returned (.bool true) ∧ Reads w6 g r w') :=
      took_yes g [123] r w6 (by have := HS6.out.rd; rw [← hr] at this; exact this)
    clear hr
    go_wp2_with fail
    refine HC.out.mono ?_
    rintro e w7 ⟨rfl, r3⟩
    have HS7 := Lib.hid (HS6.out.go r3)
    clear r3 HC
    have HT := Lib.hid (members_any HV.out g r w7 HS7.out.rd HRL.out (HL.out.reads HS7.out.chg hg) hg)
    go_wp2_with fail
    rw [HQ.out]
    refine HT.out.mono ?_
    intro e w8 h8
    cases ht : M.partsG (M.mstep (M.val2 d)) 125 r [] with
    | err c =>
      rw [ht] at h8
      obtain ⟨T, rfl, hT, k7⟩ := h8
      have HM2 : Hid (res = .err c) := by rw [Hid, HM.out, ht]; rfl
      have K7 := Lib.hid (HS7.out.chg.go k7)
      have HPT := Lib.hid hT
      clear k7 ht HT hT
      go_wp2
      exact ⟨rfl, by rw [HM2.out]; exact ⟨T, rfl, HPT.out, K7.out⟩⟩
    | ok L r8 =>
      rw [ht] at h8
      obtain ⟨mv, rfl, iv, k7⟩ := h8
      obtain ⟨la, ln, lc, rfl⟩ := iv.rows.2
      have HM2 : Hid (res = .ok (M.vMap L) r8) := by rw [Hid, HM.out, ht]; rfl
      have HS8 := Lib.hid (HS7.out.go k7)
      have HI := Lib.hid iv
      have HG7 := Lib.hid (HS7.out.blk.lt)
      have HD7 := Lib.hid (HS7.out.deep)
      clear k7 ht HT iv
      go_wp2_with (refine wpList_store_blk rfl 27 (.tmp 4) (.tmp 38) rfl gV _ rfl rfl 27 _ HS8.out.blk Tryz.sizeV rfl HI.out.one ?_; intro w9 hb9 ho9)
      exact bodyPost_ret (results_cell1 rfl _ _ gV _ _ _ _ rfl hb9 Tryz.underlying27 rfl Tryz.sizeV) rfl (by rw [HM2.out]; exact ⟨.slice none 0 0, _, rfl, IsT.mono (fun b _ hb => by have := HG7.out; have := HD7.out; show w.heap.size ≤ b; omega) _ (IsT.chg (Only.chg ho9) (fun b hb e => by have := HG7.out; omega) _ HI.out), HS8.out.fin ho9⟩)
  have HC1 : Hid (Calls Tryz.prog 128 #[.pointer (some ⟨g, 0, none⟩), .string ⟨#[123]⟩] w6 fun e w' => e = .returned (.bool false) ∧ Reads w6 g s w') := took_no g s [123] w6 HS6.out.rd c1
  have HM : Hid (res = M.resN (M.num2 s)) := by rw [Hid, HRES.out, M.bare_n N1.out N2.out N3.out N4.out N5.out c1]
  clear c1 N1 N2 N3 N4 N5 HRES
  go_wp2_with fail
  refine HC1.out.mono ?_
  rintro e w7 ⟨rfl, r2⟩
  have HS7 := Lib.hid (HS6.out.go r2)
  clear r2 HC1 HS6
  have HT := Lib.hid (number_any g s w7 HS7.out.rd (by have := HSL.out; omega) (HL.out.reads HS7.out.chg hg) hg)
  go_wp2_with fail
  refine HT.out.mono ?_
  intro e w8 h8
  cases ht : M.num2 s with
  | none =>
    rw [ht] at h8
    obtain ⟨rfl, k6⟩ := h8
    have HM2 : Hid (res = .err 8) := by rw [Hid, HM.out, ht]; rfl
    have K6 := Lib.hid (HS7.out.chg.go k6)
    clear k6 ht HT
    go_wp2
    exact ⟨rfl, by rw [HM2.out]; exact ⟨69, rfl, .inr ⟨rfl, rfl⟩, K6.out⟩⟩
  | some p =>
    obtain ⟨n, r8⟩ := p
    rw [ht] at h8
    obtain ⟨rfl, k6⟩ := h8
    have HM2 : Hid (res = .ok (M.vNum n) r8) := by rw [Hid, HM.out, ht]; rfl
    have HS8 := Lib.hid (HS7.out.go k6)
    clear k6 ht HT
    go_wp2_with (refine wpList_store_blk rfl 27 (.tmp 4) (.tmp 41) rfl gV _ rfl rfl 27 _ HS8.out.blk Tryz.sizeV rfl (IsT.leaf (fun _ => True) w8 0 2 false n []).one ?_; intro w9 hb9 ho9)
    exact bodyPost_ret (results_cell1 rfl _ _ gV _ _ _ _ rfl hb9 Tryz.underlying27 rfl Tryz.sizeV) rfl (by rw [HM2.out]; exact ⟨.slice none 0 0, .slice none 0 0, rfl, IsT.leaf _ _ d 2 false n [], HS8.out.fin ho9⟩)

end Go.Proofs.YtbgadfaiehkanaaGreatDoor
