/-
  THE PROGRAM'S READER: value, at each depth. Conditions: texts of up to 65536 bytes; the library's variables lie as laid.
  THE PROGRAM'S Parse: its deferred call. Conditions: none.
  THE PROGRAM'S WAY OF READING TELLS WHAT THE DOCUMENT'S TELLS. Conditions: none.
  THE PROGRAM'S Parse. Conditions: the library's variables lie as laid.
  THE PROGRAM'S May: mayNum, hasOwnAlone, ValidString. Conditions: none.
-/
import Derived.Test.YtbgadfaiehkanaaGreatDoorJsE1
import Derived.Defers
import Derived.Recover
import Derived.Laws.Pointers
import Derived.Test.YtbgadfaiehkanaaGreatDoorPj1

namespace Go.Proofs.YtbgadfaiehkanaaGreatDoor
open Go.RowKit Go.Proofs Go.Shelf
set_option linter.unusedVariables false
set_option maxRecDepth 100000

set_option maxHeartbeats 4000000 in
theorem value_deep (q : Int) (hq : 16 < q) (d : Nat) (hd : d = 0) : JVal d q := by
  subst hd
  intro g s w h hl hL hg
  obtain ⟨gV, hgV⟩ : ∃ x, x = w.heap.size := ⟨_, rfl⟩
  obtain ⟨W1, hW1⟩ : ∃ W, W = w.alloc (.cells #[.int .i64 0, .bool false, .int .i64 0, .string ⟨#[]⟩, .slice none 0 0, .slice none 0 0] 27) := ⟨_, rfl⟩
  have k1 : Hid (Below w.heap.size w W1) := by rw [hW1]; exact (Below.refl _ _).alloc (Nat.le_refl _) _
  have E1 := Lib.hid hW1
  have hd : decide (16 < q) = true := decide_eq_true hq
  clear hW1 h hl hL
  go_enter Tryz.func38, Tryz.ntmps38
  go_upto_region 1 with fail
  rw [← E1.out]
  clear E1
  go_wp2
  exact ⟨rfl, 65, rfl, .inl ⟨rfl, rfl⟩, Chg.of_below k1.out⟩

set_option maxHeartbeats 8000000 in
theorem value_any {d : Nat} {q q2 : Int} (hq1 : q ≤ 16) (hq : wrap64 (q + 1) = q2) (V : JVal d q2) : JVal (d + 1) q := by
  intro g s w h hl hL hg
  obtain ⟨W1, hW1⟩ : ∃ W, W = w.alloc (.cells #[.int .i64 0, .bool false, .int .i64 0, .string ⟨#[]⟩, .slice none 0 0, .slice none 0 0] 27) := ⟨_, rfl⟩
  obtain ⟨gV, hgV⟩ : ∃ x, x = w.heap.size := ⟨_, rfl⟩
  have B1 : Blk W1 gV 27 z6 := by rw [hW1]; exact Blk.newAt _ _ _ _ _ hgV rfl
  have k1 : Below w.heap.size w W1 := by rw [hW1]; exact (Below.refl _ _).alloc (Nat.le_refl _) _
  have S1 : BS w g gV s W1 := ⟨h.below k1 h.lt, Chg.of_below k1, B1, by have := h.lt; omega, by omega⟩
  have HS1 := Lib.hid S1
  have HL := Lib.hid hL
  have HV := Lib.hid V
  have HSL : Hid ((M.blk s).length ≤ 65536) := Nat.le_trans (M.blk_le s) hl
  have E1 := Lib.hid hW1
  have EV := Lib.hid hgV
  have HQ := Lib.hid hq
  have hd : decide (16 < q) = false := decide_eq_false (by omega)
  obtain ⟨res, hres⟩ : ∃ r, r = M.bare (M.val2 d) (M.blk s) := ⟨_, rfl⟩
  rw [show M.val2 (d + 1) s = M.bare (M.val2 d) (M.blk s) from rfl, ← hres]
  have HRES := Lib.hid hres
  clear hres hW1 hgV B1 k1 S1 h hl hL V hq hq1
  go_enter Tryz.func38, Tryz.ntmps38
  go_upto_region 1 with fail
  rw [← EV.out, ← E1.out]
  clear E1 EV
  go_wp2_with fail
  refine (blanks_any g s W1 HS1.out.rd).mono ?_
  rintro e w2 ⟨rfl, r2⟩
  have HS2 := Lib.hid (HS1.out.go r2)
  clear r2 HS1
  have HT := Lib.hid (bare_any HQ.out HV.out g (M.blk s) w2 HS2.out.rd HSL.out (HL.out.reads HS2.out.chg hg) hg)
  rw [← HRES.out] at HT
  go_wp2_with fail
  refine HT.out.mono ?_
  intro e w3 h3
  cases res with
  | err c =>
    obtain ⟨T, rfl, hT, k7⟩ := h3
    have K7 := Lib.hid (HS2.out.chg.go k7)
    have HPT := Lib.hid hT
    clear k7 HT hT HRES
    go_wp2
    exact ⟨rfl, ⟨T, rfl, HPT.out, K7.out⟩⟩
  | ok x r3 =>
    obtain ⟨lv, mv, rfl, iv, k3⟩ := h3
    obtain ⟨⟨la, ln, lc, rfl⟩, ⟨ma, mn, mc, rfl⟩⟩ := iv.rows
    have HS3 := Lib.hid (HS2.out.go k3)
    have B4 : Blk (w3.alloc (.cells #[.int .i64 0, .bool false, .int .i64 0, .string ⟨#[]⟩, .slice none 0 0, .slice none 0 0] 27)) w3.heap.size 27 z6 := Blk.newAt _ _ _ _ _ rfl rfl
    have k4 : Below w3.heap.size w3 (w3.alloc (.cells #[.int .i64 0, .bool false, .int .i64 0, .string ⟨#[]⟩, .slice none 0 0, .slice none 0 0] 27)) := (Below.refl _ _).alloc (Nat.le_refl _) _
    have HB4 := Lib.hid B4
    have HK4 := Lib.hid k4
    have HI := Lib.hid iv
    obtain ⟨cs, hcs⟩ : ∃ l, l = vcs x.k x.b x.n x.t (.slice la ln lc) (.slice ma mn mc) := ⟨_, rfl⟩
    have hcl : cs.length = 6 := by rw [hcs]; rfl
    have HCS := Lib.hid hcs
    rw [← hcs] at HI ⊢
    have HCL := Lib.hid hcl
    clear hcs hcl B4 k4 iv k3 HT HRES
    go_wp2_with (refine wpList_store_blk rfl 27 (.tmp 5) (.tmp 14) rfl w3.heap.size _ rfl rfl 27 _ HB4.out (by rw [Tryz.sizeV]; exact congrArg some HCL.out.symm) HCL.out.symm HI.out.one ?_; intro w5 hb5 ho5)
    have k5 : Below w3.heap.size w3 w5 := HK4.out.trans (ho5.below (Nat.le_of_lt HB4.out.lt) (Nat.le_refl _))
    obtain ⟨gX, hgX⟩ : ∃ y, y = w3.heap.size := ⟨_, rfl⟩
    rw [← hgX] at hb5 ⊢
    have HS5 : Hid (BS w g gV r3 w5) := ⟨HS3.out.rd.below k5 HS3.out.rd.lt, HS3.out.chg.go (Chg.of_below k5), HS3.out.blk.below k5 HS3.out.blk.lt, HS3.out.ne, HS3.out.deep⟩
    have HI5 : Hid (IsT (fun b => w2.heap.size ≤ b ∧ b < gX) w5 (d + 1) cs x) := IsT.below k5 (IsT.mono (fun b h1 h2 => ⟨h2, by omega⟩) _ HI.out)
    have HX : Hid (gV < gX ∧ g < gX ∧ gV < w2.heap.size ∧ g < w2.heap.size) := ⟨by have := HS3.out.blk.lt; omega, by have := HS3.out.rd.lt; omega, HS2.out.blk.lt, HS2.out.rd.lt⟩
    have HB5 := Lib.hid hb5
    clear hb5 ho5 k5 hgX HI HK4 HB4 HS3
    go_wp2_with fail
    refine (blanks_any g r3 w5 HS5.out.rd).mono ?_
    rintro e w6 ⟨rfl, r6⟩
    have HS6 := Lib.hid (HS5.out.go r6)
    have HB6 : Hid (Blk w6 gX 27 cs) := Blk.chg HB5.out r6.2 (by have := HX.out; omega)
    have HI6 : Hid (IsT (fun b => w2.heap.size ≤ b ∧ b < gX) w6 (d + 1) cs x) := IsT.chg r6.2 (fun b hb e => by have := HX.out; have := hb.1; omega) _ HI5.out
    clear r6 HS5 HB5 HI5
    go_wp2_with (first
      | (refine wpList_load_mid rfl _ (.tmp 5) rfl gX 0 rfl cs _ (HB6.out.range 0 _ [] (by simp)) Tryz.underlying27 rfl (by rw [Tryz.sizeV]; exact congrArg some HCL.out.symm) ?_)
      | (refine wpList_store_blk rfl 27 (.tmp 4) (.tmp 17) rfl gV _ rfl rfl 27 _ HS6.out.blk (by rw [Tryz.sizeV]; exact congrArg some HCL.out.symm) HCL.out.symm HI6.out.one ?_; intro w9 hb9 ho9))
    exact bodyPost_ret (results_cell1 rfl _ _ gV _ _ _ _ rfl hb9 Tryz.underlying27 rfl (by rw [Tryz.sizeV]; exact congrArg some HCL.out.symm)) rfl ⟨.slice la ln lc, .slice ma mn mc, by rw [← HCS.out], by
      rw [← HCS.out]
      exact IsT.mono (fun b _ hb => by have := HX.out; have := hb.1; have := HS6.out.deep; show w.heap.size ≤ b; omega) _ (IsT.chg (Only.chg ho9) (fun b hb e => by have := HX.out; have := hb.1; omega) _ HI6.out), HS6.out.fin ho9⟩

theorem jval_at (d : Nat) : d ≤ 16 → JVal d (17 - (d : Int)) := by
  induction d with
  | zero => intro _; exact value_deep _ (by decide) 0 rfl
  | succ d ih =>
    intro hd
    refine value_any (by omega) ?_ (ih (by omega))
    unfold wrap64
    omega

theorem jval : JVal 16 1 := jval_at 16 (Nat.le_refl _)

end Go.Proofs.YtbgadfaiehkanaaGreatDoor

namespace Go.Proofs.YtbgadfaiehkanaaGreatDoor
open Go.RowKit Go.Proofs Go.Shelf
set_option linter.unusedVariables false
set_option maxRecDepth 100000

theorem catch_idle (gV gC : Nat) (w : World) :
    CallsD Tryz.prog 37 #[.pointer (some ⟨gV, 0, none⟩), .pointer (some ⟨gC, 0, none⟩)] .returning w fun e u' w' => e = .returned (.tuple #[]) ∧ u' = .returning ∧ w' = w := by
  refine callsD_of_wpS Tryz.func37 rfl fun c₀ cs hu => ?_
  simp only [Tryz.ntmps37, List.size_toArray, List.length_cons, List.length_nil, Nat.reduceAdd, Nat.reduceSub, Array.replicate_succ, Array.replicate_zero, List.push_toArray, List.append_toArray, List.nil_append, List.cons_append]
  apply wpS_seq
  apply wpS_region
  simp [wpOpsS, go_sem, recoverD, hu, Exit.thenS]
  refine wpS_of_wp ?_
  go_wp2
  cases c₀
  simp_all [bodyPostS, results]

theorem deep_yes (w : World) : (Instr.typeAssert (.iface 65 (.agg #[])) 20 65 true).run Tryz.prog w = .ok (.tuple #[.agg #[], .bool true]) w := by kernel_rfl
theorem deep_no (w : World) : (Instr.typeAssert (.iface 69 (.agg #[])) 20 65 true).run Tryz.prog w = .ok (.tuple #[.agg #[], .bool false]) w := by kernel_rfl

theorem code_there {w w5 : World} {gV gC : Nat} {x : Int} (hC : Blk w gC 28 [.int .i64 x]) (ho : Only gV w w5) (hne : gV ≠ gC) : w5.cell? ⟨gC, 0, none⟩ = some (.int .i64 x) ∧ w5.frozen? ⟨gC, 0, none⟩ = false := by
  have h : Blk w5 gC 28 [.int .i64 x] := Blk.chg hC (Only.chg ho) fun e => hne e.symm
  exact ⟨h.cell 0, h.frozen 0⟩
theorem code_put {w w5 : World} {gV gC : Nat} {x : Int} {cs : List Value} (hC : Blk w gC 28 [.int .i64 x]) (hb : Blk w5 gV 27 cs) (ho : Only gV w w5) (hne : gV ≠ gC) (c : Int) :
    Blk (w5.setCell ⟨gC, 0, none⟩ (.int .i64 c)) gV 27 cs ∧ Blk (w5.setCell ⟨gC, 0, none⟩ (.int .i64 c)) gC 28 [.int .i64 c] ∧ Chg (fun b => b = gV ∨ b = gC) w (w5.setCell ⟨gC, 0, none⟩ (.int .i64 c)) := by
  have h : Blk w5 gC 28 [.int .i64 x] := Blk.chg hC (Only.chg ho) fun e => hne e.symm
  exact ⟨Blk.chg hb ((Chg.refl (fun b => b = gC) _).cell 0 _) hne, h.set_ 0 _, ((Only.chg ho).mono fun _ _ e => .inl e).setCell _ _ (.inl (.inr rfl))⟩

set_option maxHeartbeats 2000000 in
theorem catch_pan (gV gC : Nat) (T : TypeId) (c x : Int) (hT : PanOf T c) (cs : List Value) (hcs : cs.length = 6) (w : World) (hV : Blk w gV 27 cs) (hC : Blk w gC 28 [.int .i64 x]) (hne : gV ≠ gC) :
    CallsD Tryz.prog 37 #[.pointer (some ⟨gV, 0, none⟩), .pointer (some ⟨gC, 0, none⟩)] (.panicking [{ v := .iface T (.agg #[]), recovered := false }]) w fun e u' w' =>
      e = .returned (.tuple #[]) ∧ u' = .panicking [{ v := .iface T (.agg #[]), recovered := true }] ∧ Blk w' gV 27 z6 ∧ Blk w' gC 28 [.int .i64 c] ∧ Chg (fun b => b = gV ∨ b = gC) w w' := by
  have HV := Lib.hid hV
  have HC := Lib.hid hC
  have HN := Lib.hid hne
  have HCS := Lib.hid hcs
  clear hV hC hne hcs
  refine callsD_of_wpS Tryz.func37 rfl fun c₀ cs₀ hu => ?_
  simp only [Tryz.ntmps37, List.size_toArray, List.length_cons, List.length_nil, Nat.reduceAdd, Nat.reduceSub, Array.replicate_succ, Array.replicate_zero, List.push_toArray, List.append_toArray, List.nil_append, List.cons_append]
  apply wpS_seq
  apply wpS_region
  rcases hT with ⟨rfl, rfl⟩ | ⟨rfl, rfl⟩
  · simp [wpOpsS, go_sem, recoverD, hu, Exit.thenS]
    refine wpS_of_wp ?_
    have hta := deep_yes
    go_wp2_with (refine wpList_store_blk rfl 27 (.tmp 0) (.tmp 8) rfl gV _ rfl rfl 27 _ HV.out Tryz.sizeV HCS.out (by decide) ?_; intro w5 hb5 ho5; have hc5 := code_there HC.out ho5 HN.out; have c5 := hc5.1; have z5 := hc5.2; have H5 := Lib.hid (code_put HC.out hb5 ho5 HN.out 3); clear hb5 ho5 hc5)
    cases c₀
    simp [bodyPostS, results, Exit.inBlock]
    rename Hid (Blk _ _ _ _ ∧ _) => H5
    exact H5.out
  · simp [wpOpsS, go_sem, recoverD, hu, Exit.thenS]
    refine wpS_of_wp ?_
    have hta := deep_no
    go_wp2_with (refine wpList_store_blk rfl 27 (.tmp 0) (.tmp 3) rfl gV _ rfl rfl 27 _ HV.out Tryz.sizeV HCS.out (by decide) ?_; intro w5 hb5 ho5; have hc5 := code_there HC.out ho5 HN.out; have c5 := hc5.1; have z5 := hc5.2; have H5 := Lib.hid (code_put HC.out hb5 ho5 HN.out 8); clear hb5 ho5 hc5)
    cases c₀
    simp [bodyPostS, results, Exit.inBlock]
    rename Hid (Blk _ _ _ _ ∧ _) => H5
    exact H5.out

end Go.Proofs.YtbgadfaiehkanaaGreatDoor

namespace Go.Proofs.YtbgadfaiehkanaaGreatDoor
set_option linter.unusedVariables false
set_option maxRecDepth 100000

namespace M

/-- The two values tell the same, or a stroke stands behind what was read. -/
def Alike (val val2 : List UInt8 → Res) : Prop := ∀ s, val2 s = val s ∨ ∃ v r, val s = .ok v (45 :: r) ∧ val2 s = .err 8

theorem blk_stroke (r : List UInt8) : blk (45 :: r) = 45 :: r := by
  unfold blk
  rw [List.dropWhile_cons_of_neg (by decide)]

theorem loop_list {val val2 : List UInt8 → Res} (h : Alike val val2) (f : Nat) : ∀ (s : List UInt8) (l : List GV), (loopG (lstep val2) 93 f s l).toRes vList = items val true f s l [] := by
  induction f with
  | zero => intro s l; rfl
  | succ f ih =>
    intro s l
    unfold loopG lstep items
    simp only [if_true]
    rcases h s with h | ⟨v, r, h1, h2⟩
    · rw [h]
      cases hv : val s with
      | err c => rfl
      | ok x r =>
        dsimp only
        cases hb : blk r with
        | nil => rfl
        | cons c r2 =>
          dsimp only
          by_cases h1 : c = 93
          · rw [if_pos h1, if_pos h1]; rfl
          · rw [if_neg h1, if_neg h1]
            by_cases h2 : c = 44
            · rw [if_pos h2, if_pos h2]; exact ih _ _
            · rw [if_neg h2, if_neg h2]; rfl
    · rw [h1, h2]
      dsimp only
      rw [blk_stroke]
      dsimp only
      rw [if_neg (by decide), if_neg (by decide)]
      rfl

theorem loop_map {val val2 : List UInt8 → Res} (h : Alike val val2) (f : Nat) : ∀ (s : List UInt8) (m : List (List UInt8 × GV)), (loopG (mstep val2) 125 f s m).toRes vMap = items val false f s [] m := by
  induction f with
  | zero => intro s m; rfl
  | succ f ih =>
    intro s m
    unfold loopG mstep items text
    simp only [Bool.false_eq_true, if_false]
    cases hb : blk s with
    | nil => rfl
    | cons c r =>
      dsimp only
      by_cases h1 : c = 34
      · rw [if_pos h1, if_pos h1]
        unfold mname
        cases ht : txt (r.length + 1) r [] with
        | none => rfl
        | some p =>
          obtain ⟨nm, r1⟩ := p
          dsimp only
          cases ha : (m.any fun x => x.1 == nm) with
          | true => rfl
          | false =>
            simp only [Bool.false_eq_true, if_false]
            cases hk : blk r1 with
            | nil => rfl
            | cons c2 r2 =>
              unfold mtail
              dsimp only
              by_cases h2 : c2 = 58
              · rw [if_pos h2, if_pos h2]
                dsimp only
                rcases h r2 with h | ⟨v, r3, h3, h4⟩
                · rw [h]
                  cases hv : val r2 with
                  | err c => rfl
                  | ok x r4 =>
                    dsimp only
                    cases hb4 : blk r4 with
                    | nil => rfl
                    | cons c4 r5 =>
                      dsimp only
                      by_cases h5 : c4 = 125
                      · rw [if_pos h5, if_pos h5]; rfl
                      · rw [if_neg h5, if_neg h5]
                        by_cases h6 : c4 = 44
                        · rw [if_pos h6, if_pos h6]; exact ih _ _
                        · rw [if_neg h6, if_neg h6]; rfl
                · rw [h3, h4]
                  dsimp only
                  rw [blk_stroke]
                  dsimp only
                  rw [if_neg (by decide), if_neg (by decide)]
                  rfl
              · rw [if_neg h2, if_neg h2]; rfl
      · rw [if_neg h1, if_neg h1]; rfl

theorem val_alike (d : Nat) : Alike (val d) (val2 d) := by
  induction d with
  | zero => intro s; exact .inl rfl
  | succ d ih =>
    intro s
    unfold val2 val bare
    dsimp only
    generalize blk s = t
    by_cases h1 : wNull <+: t
    · rw [if_pos h1, if_pos h1]; exact .inl rfl
    rw [if_neg h1, if_neg h1]
    by_cases h2 : wTrue <+: t
    · rw [if_pos h2, if_pos h2]; exact .inl rfl
    rw [if_neg h2, if_neg h2]
    by_cases h3 : wFalse <+: t
    · rw [if_pos h3, if_pos h3]; exact .inl rfl
    rw [if_neg h3, if_neg h3]
    cases t with
    | nil => exact .inl rfl
    | cons c r =>
      dsimp only
      by_cases c1 : c = 34
      · subst c1
        rw [if_pos rfl, if_neg (by decide), if_pos rfl]
        refine .inl ?_
        unfold text
        dsimp only
        rw [if_pos rfl]
        cases txt (r.length + 1) r [] with
        | none => rfl
        | some p => rfl
      rw [if_neg c1]
      by_cases c2 : c = 91
      · subst c2
        rw [if_pos rfl, if_pos (.inl rfl)]
        refine .inl ?_
        unfold partsG
        cases blk r with
        | nil => exact loop_list ih _ _ _
        | cons e r2 =>
          dsimp only
          by_cases he : e = 93
          · rw [if_pos he]
            simp only [if_true]
            rw [if_pos he]; rfl
          · rw [if_neg he]
            simp only [if_true]
            rw [if_neg he]; exact loop_list ih _ _ _
      rw [if_neg c2]
      by_cases c3 : c = 123
      · subst c3
        rw [if_pos rfl, if_pos (.inr rfl)]
        refine .inl ?_
        unfold partsG
        cases blk r with
        | nil => exact loop_map ih _ _ _
        | cons e r2 =>
          dsimp only
          simp only [show ¬ (123 : UInt8) = 91 by decide, if_false, decide_false]
          by_cases he : e = 125
          · rw [if_pos he, if_pos he]; rfl
          · rw [if_neg he, if_neg he]; exact loop_map ih _ _ _
      rw [if_neg c3, if_neg (by rintro (h | h); exact c2 h; exact c3 h), if_neg c1]
      unfold num2 resN
      cases num (c :: r) with
      | none => exact .inl rfl
      | some p =>
        obtain ⟨n, r2⟩ := p
        dsimp only
        by_cases hh : r2.head? = some 45
        · rw [if_pos hh]
          cases r2 with
          | nil => simp at hh
          | cons a r3 =>
            simp only [List.head?_cons, Option.some.injEq] at hh
            subst hh
            exact .inr ⟨_, _, rfl, rfl⟩
        · rw [if_neg hh]; exact .inl rfl

theorem parse2_eq (b : List UInt8) : parse2 b = parse b := by
  unfold parse2 parse
  by_cases hb : 65536 < b.length
  · rw [if_pos hb, if_pos hb]
  rw [if_neg hb, if_neg hb]
  rcases val_alike 16 b with h | ⟨v, r, h1, h2⟩
  · rw [h]
    all_goals (cases val 16 b <;> rfl)
  · rw [h1, h2]
    dsimp only
    rw [blk_stroke, if_neg (by simp)]

end M

end Go.Proofs.YtbgadfaiehkanaaGreatDoor

namespace Go.Proofs.YtbgadfaiehkanaaGreatDoor
open Go.RowKit Go.Proofs Go.Shelf
set_option linter.unusedVariables false
set_option maxRecDepth 100000

/-- How Parse ends, each row by itself. -/
def ParseEndsT (w : World) (res : M.Res) (e : Ending) (w' : World) : Prop :=
  match res with
  | .err c => e = .returned (.tuple #[zeroV, .int .i64 c]) ∧ c ≠ 0 ∧ Below w.heap.size w w'
  | .ok g _ => ∃ lv mv, e = .returned (.tuple #[.agg (vcs g.k g.b g.n g.t lv mv).toArray, .int .i64 0]) ∧ IsT (fun b => w.heap.size ≤ b) w' 16 (vcs g.k g.b g.n g.t lv mv) g ∧ Below w.heap.size w w'

theorem ParseEndsT.ends {w : World} {res : M.Res} {e : Ending} {w' : World} (h : ParseEndsT w res e w') : ParseEnds w res e w' := by
  cases res with
  | err c => exact h
  | ok g r =>
    obtain ⟨lv, mv, he, iv, k⟩ := h
    exact ⟨lv, mv, he, iv.v, k⟩

theorem results_vc {P : Program} {fn : Func} {p q : Tmp} {ty ty2 : TypeId} (h : fn.results = #[.cell p ty, .cell q ty2]) (tmps : Array Value) (w : World) (g k : Nat) (t : TypeId) (cs : Array Value) (fr : Nat × Nat) (d : TypeDesc) (x : Value)
    (hp : tmps.getD p undef = .pointer (some ⟨g, 0, none⟩)) (hq : tmps.getD q undef = .pointer (some ⟨k, 0, none⟩)) (hg : w.heap[g]? = some (.cells cs t fr))
    (hu : P.underlying ty = some d) (hd : (match d with | .struct _ | .array _ _ => true | _ => false) = true) (hi : (P.info? ty).map (·.size) = some cs.size)
    (hk : (loadVar ty2 ⟨k, 0, none⟩).run P w = .ok x w) :
    (results fn tmps).run P w = .ok (.tuple #[.agg cs, x]) w := by
  have hp' : tmps[p]?.getD undef = .pointer (some ⟨g, 0, none⟩) := by simpa using hp
  have hq' : tmps[q]?.getD undef = .pointer (some ⟨k, 0, none⟩) := by simpa using hq
  simp [results, h, hp', hq', asAddr, run_loadVar_row w g t ty cs fr d hg hu hd hi, hk]

theorem load_code (w : World) (k : Nat) (n : Int) (h : Blk w k 28 [.int .i64 n]) : (loadVar 28 ⟨k, 0, none⟩).run Tryz.prog w = .ok (.int .i64 n) w := by
  have c := h.cell 0
  simp only [List.getElem?_cons_zero] at c
  go_simp

/-- How Parse leaves by a panic. -/
theorem leave_pan (tmps : Array Value) (w w9 : World) (gV gC : Nat) (T : TypeId) (c x : Int) (hT : PanOf T c) (cs : List Value) (hcs : cs.length = 6) (hp : tmps.getD 2 undef = .pointer (some ⟨gV, 0, none⟩)) (hq : tmps.getD 3 undef = .pointer (some ⟨gC, 0, none⟩))
    (hV : Blk w9 gV 27 cs) (hC : Blk w9 gC 28 [.int .i64 x]) (hne : gV ≠ gC) (k : Below w.heap.size w w9) (h1 : w.heap.size ≤ gV) (h2 : w.heap.size ≤ gC) :
    Leaves Tryz.prog Tryz.f12 tmps (ParseEndsT w (.err c)) [{ target := .fn (.func 37) #[.pointer (some ⟨gV, 0, none⟩), .pointer (some ⟨gC, 0, none⟩)], args := #[] }] (.panicking [{ v := .iface T (.agg #[]), recovered := false }]) w9 := by
  refine leaves_cons (f := 37) (args := #[.pointer (some ⟨gV, 0, none⟩), .pointer (some ⟨gC, 0, none⟩)]) (by simp) (by simp [go_sem]) ?_
  refine (catch_pan gV gC T c x hT cs hcs w9 hV hC hne).mono ?_
  rintro e u' w' ⟨rfl, rfl, bV, bC, ch⟩
  refine ⟨_, results_vc rfl tmps w' gV gC _ _ _ _ (.int .i64 c) hp hq bV Tryz.underlying27 rfl Tryz.sizeV (load_code _ _ _ bC), rfl, ?_, k.trans (ch.below k.size (by rintro b (rfl | rfl); exact h1; exact h2))⟩
  rcases hT with ⟨_, rfl⟩ | ⟨_, rfl⟩ <;> decide

/-- How Parse leaves with a value. -/
theorem leave_ok (tmps : Array Value) (w w9 : World) (gV gC : Nat) (x : M.GV) (r : List UInt8) (lv mv : Value) (hp : tmps.getD 2 undef = .pointer (some ⟨gV, 0, none⟩)) (hq : tmps.getD 3 undef = .pointer (some ⟨gC, 0, none⟩))
    (hV : Blk w9 gV 27 (vcs x.k x.b x.n x.t lv mv)) (hC : Blk w9 gC 28 [.int .i64 0]) (iv : IsT (fun b => w.heap.size ≤ b) w9 16 (vcs x.k x.b x.n x.t lv mv) x) (k : Below w.heap.size w w9) :
    Leaves Tryz.prog Tryz.f12 tmps (ParseEndsT w (.ok x r)) [{ target := .fn (.func 37) #[.pointer (some ⟨gV, 0, none⟩), .pointer (some ⟨gC, 0, none⟩)], args := #[] }] .returning w9 := by
  refine leaves_cons (f := 37) (args := #[.pointer (some ⟨gV, 0, none⟩), .pointer (some ⟨gC, 0, none⟩)]) (by simp) (by simp [go_sem]) ?_
  refine (catch_idle gV gC w9).mono ?_
  rintro e u' w' ⟨rfl, rfl, rfl⟩
  exact ⟨_, results_vc rfl tmps w' gV gC _ _ _ _ (.int .i64 0) hp hq hV Tryz.underlying27 rfl Tryz.sizeV (load_code _ _ _ hC), lv, mv, rfl, iv, k⟩

set_option maxHeartbeats 8000000 in
theorem parse_anyT (bv : Value) (b : List UInt8) (w : World) (h : IsB w bv b) (hl : b.length ≤ 1099511627776) (hL : JLaid w) :
    Calls Tryz.prog 12 #[bv] w (ParseEndsT w (M.parse b)) := by
  have hmf : ∀ (fn : Fn) (first cap : Array Value) (w : World), (Instr.makeFunc fn first cap).run Tryz.prog w = .ok (.func fn first cap) w := fun _ _ _ _ => rfl
  rw [← M.parse2_eq]
  obtain ⟨W1, hW1⟩ : ∃ W, W = w.alloc (.cells #[.int .i64 0, .bool false, .int .i64 0, .string ⟨#[]⟩, .slice none 0 0, .slice none 0 0] 27) := ⟨_, rfl⟩
  obtain ⟨gV, hgV⟩ : ∃ x, x = w.heap.size := ⟨_, rfl⟩
  obtain ⟨W2, hW2⟩ : ∃ W, W = W1.alloc (.cells #[.int .i64 0] 28) := ⟨_, rfl⟩
  obtain ⟨gC, hgC⟩ : ∃ x, x = W1.heap.size := ⟨_, rfl⟩
  have s1 : W1.heap.size = w.heap.size + 1 := by rw [hW1]; simp
  have s2 : W2.heap.size = W1.heap.size + 1 := by rw [hW2]; simp
  have b1 : Blk W1 gV 27 z6 := by rw [hW1]; exact Blk.newAt _ _ _ _ _ hgV rfl
  have bC : Blk W2 gC 28 [.int .i64 0] := by rw [hW2]; exact Blk.newAt _ _ _ _ _ hgC rfl
  have k1 : Below w.heap.size w W1 := by rw [hW1]; exact (Below.refl _ _).alloc (Nat.le_refl _) _
  have k2 : Below W1.heap.size W1 W2 := by rw [hW2]; exact (Below.refl _ _).alloc (Nat.le_refl _) _
  have bV : Blk W2 gV 27 z6 := b1.below k2 b1.lt
  have k12 : Below w.heap.size w W2 := k1.trans (k2.mono (by omega))
  have HB : Hid (Blk W2 gV 27 z6 ∧ Blk W2 gC 28 [.int .i64 0] ∧ Below w.heap.size w W2 ∧ IsB W2 bv b ∧ JLaid W2) := ⟨bV, bC, k12, h.below k12, hL.below k12⟩
  have HG : Hid (gV ≠ gC ∧ w.heap.size ≤ gV ∧ w.heap.size ≤ gC ∧ gV < W2.heap.size ∧ gC < W2.heap.size ∧ 6 ≤ W2.heap.size) := ⟨by omega, by omega, by omega, by omega, by omega, by have := hL.many; omega⟩
  have E1 := Lib.hid hW1
  have E2 := Lib.hid hW2
  have EV := Lib.hid hgV
  have EC : Hid (gC = w.heap.size + 1) := by rw [Hid, hgC, s1]
  obtain ⟨n, hn⟩ : ∃ n, n = b.length := ⟨_, rfl⟩
  have HN := Lib.hid hn
  rw [← hn] at hl
  have hnl : (n : Int) ≤ 1099511627776 := by omega
  obtain ⟨ao, cap, rfl⟩ := h.shape
  rw [← hn] at HB ⊢
  clear hW1 hW2 hgV hgC s1 s2 b1 bC k1 k2 bV k12 h hL hn
  by_cases hbig : 65536 < n
  · have b0 : decide ((65536 : Int) < (n : Int)) = true := decide_eq_true (by omega)
    have HM : Hid (M.parse2 b = .err 3) := by rw [Hid]; unfold M.parse2; rw [if_pos (by rw [← HN.out]; exact hbig)]
    clear hbig
    go_enter_defers Tryz.func12, Tryz.ntmps12
    go_upto_region 1 with fail
    rw [← EC.out, ← EV.out, ← E1.out, ← E2.out]
    clear E1 E2 EV EC
    go_wp2_with (refine wpList_store_blk rfl 27 (.tmp 2) (.tmp 8) rfl gV _ rfl rfl 27 _ HB.out.1 Tryz.sizeV rfl (by decide) ?_; intro w5 hb5 ho5; have hc5 := code_there HB.out.2.1 ho5 HG.out.1; have c5 := hc5.1; have z5 := hc5.2; have H5 := Lib.hid (code_put HB.out.2.1 hb5 ho5 HG.out.1 3); clear hb5 ho5 hc5)
    rename Hid (Blk _ _ _ _ ∧ _) => H5
    rw [HM.out]
    exact ⟨_, results_vc rfl _ _ gV gC _ _ _ _ (.int .i64 3) rfl rfl H5.out.1 Tryz.underlying27 rfl Tryz.sizeV (load_code _ _ _ H5.out.2.1), rfl, by decide, HB.out.2.2.1.trans (H5.out.2.2.below HB.out.2.2.1.size (by rintro b (rfl | rfl); exact HG.out.2.1; exact HG.out.2.2.1))⟩
  have b0 : decide ((65536 : Int) < (n : Int)) = false := decide_eq_false (by omega)
  have HBL : Hid (b.length ≤ 65536) := by rw [Hid, ← HN.out]; omega
  have hst := str_any HB.out.2.2.2.1
  clear hbig
  go_enter_defers Tryz.func12, Tryz.ntmps12
  go_upto_region 1 with fail
  rw [← EC.out, ← EV.out, ← E1.out, ← E2.out]
  clear E1 E2 EV EC
  go_upto_region 5 with fail
  obtain ⟨W3, hW3⟩ : ∃ W, W = W2.alloc (.cells #[.string ⟨b.toArray⟩] 67) := ⟨_, rfl⟩
  obtain ⟨g, hg⟩ : ∃ x, x = W2.heap.size := ⟨_, rfl⟩
  have R3 : Rd W3 g b := by rw [hW3]; exact Blk.newAt _ _ _ _ _ hg rfl
  have k3 : Below W2.heap.size W2 W3 := by rw [hW3]; exact (Below.refl _ _).alloc (Nat.le_refl _) _
  have HK3 : Hid (Below w.heap.size w W3) := HB.out.2.2.1.trans (k3.mono HB.out.2.2.1.size)
  have HB3 : Hid (Blk W3 gV 27 z6 ∧ Blk W3 gC 28 [.int .i64 0]) := ⟨HB.out.1.below k3 HG.out.2.2.2.1, HB.out.2.1.below k3 HG.out.2.2.2.2.1⟩
  have HGG : Hid (w.heap.size ≤ g ∧ gV ≠ g ∧ gC ≠ g ∧ g < W3.heap.size ∧ gV < W3.heap.size ∧ gC < W3.heap.size) := ⟨by have := HB.out.2.2.1.size; omega, by have := HG.out; omega, by have := HG.out; omega, R3.lt, by have := HG.out; have := k3.size; omega, by have := HG.out; have := k3.size; omega⟩
  have HVA := Lib.hid (jval g b W3 R3 HBL.out (HB.out.2.2.2.2.below k3) (by have := HG.out; omega))
  have HM : Hid (M.parse2 b = match M.val2 16 b with | .err e => .err e | .ok v r => if M.blk r = [] then .ok v [] else .err 8) := by rw [Hid]; unfold M.parse2; rw [if_neg (by have := HBL.out; omega)]; rfl
  rw [← hW3, ← hg]
  clear hW3 hg R3 k3 hst
  go_wp2_with fail
  refine HVA.out.mono ?_
  intro e w4 h4
  cases hv : M.val2 16 b with
  | err c =>
    rw [hv] at h4
    obtain ⟨T, rfl, hT, k4⟩ := h4
    have HPT := Lib.hid hT
    have HM2 : Hid (M.parse2 b = .err c) := by rw [Hid, HM.out, hv]
    have HB4 : Hid (Blk w4 gV 27 z6 ∧ Blk w4 gC 28 [.int .i64 0] ∧ Below w.heap.size w w4) := ⟨HB3.out.1.chg k4 HGG.out.2.1, HB3.out.2.chg k4 HGG.out.2.2.1, HK3.out.trans (k4.below HK3.out.size (fun b e => by rw [e]; exact HGG.out.1))⟩
    clear hT k4 hv HVA
    go_wp2
    rw [HM2.out]
    exact leave_pan _ w w4 gV gC T c 0 HPT.out z6 rfl rfl rfl HB4.out.1 HB4.out.2.1 HG.out.1 HB4.out.2.2 HG.out.2.1 HG.out.2.2.1
  | ok x r =>
    rw [hv] at h4
    obtain ⟨lv, mv, rfl, iv, k4⟩ := h4
    obtain ⟨⟨la, ln, lc, rfl⟩, ⟨ma, mn, mc, rfl⟩⟩ := iv.rows
    have HM2 : Hid (M.parse2 b = if M.blk r = [] then .ok x [] else .err 8) := by rw [Hid, HM.out, hv]
    have HB4 : Hid (Blk w4 gV 27 z6 ∧ Blk w4 gC 28 [.int .i64 0] ∧ Below w.heap.size w w4 ∧ Rd w4 g (M.blk r)) := ⟨HB3.out.1.chg k4.2 HGG.out.2.1, HB3.out.2.chg k4.2 HGG.out.2.2.1, HK3.out.trans (k4.2.below HK3.out.size (fun b e => by rw [e]; exact HGG.out.1)), k4.1⟩
    obtain ⟨cs, hcs⟩ : ∃ l, l = vcs x.k x.b x.n x.t (.slice la ln lc) (.slice ma mn mc) := ⟨_, rfl⟩
    have hcl : cs.length = 6 := by rw [hcs]; rfl
    have HCS := Lib.hid hcs
    have HI := Lib.hid iv
    rw [← hcs] at HI ⊢
    have HCL := Lib.hid hcl
    clear hcs hcl iv k4 HVA hv HM
    go_upto_region 6 with (refine wpList_store_blk rfl 27 (.tmp 2) (.tmp 13) rfl gV _ rfl rfl 27 _ HB4.out.1 (by rw [Tryz.sizeV]; exact congrArg some HCL.out.symm) HCL.out.symm HI.out.one ?_; intro w5 hb5 ho5)
    have HB5 : Hid (Blk w5 gV 27 cs ∧ Blk w5 gC 28 [.int .i64 0] ∧ Below w.heap.size w w5) := ⟨hb5, Blk.chg HB4.out.2.1 (Only.chg ho5) (fun e => HG.out.1 e.symm), HB4.out.2.2.1.trans (ho5.below HB4.out.2.2.1.size HG.out.2.1)⟩
    have HI5 : Hid (IsT (fun b => W3.heap.size ≤ b) w5 16 cs x) := IsT.chg (Only.chg ho5) (fun b hb e => by have := HGG.out; omega) _ HI.out
    have c5 : w5.cell? ⟨g, 0, none⟩ = some (.string ⟨(M.blk r).toArray⟩) := (Blk.chg HB4.out.2.2.2 (Only.chg ho5) (fun e => HGG.out.2.1 e.symm)).cell 0
    clear hb5 ho5 HI HB4
    cases hr : M.blk r with
    | nil =>
      rw [hr] at c5
      have HM3 : Hid (M.parse2 b = .ok x []) := by rw [Hid, HM2.out, if_pos hr]
      clear hr HM2
      go_upto_region 8 with fail
      clear c5
      go_wp2_with (first
        | (refine wpList_load_mid rfl _ (.tmp 2) rfl gV 0 rfl cs _ (HB5.out.1.range 0 _ [] (by simp)) Tryz.underlying27 rfl (by rw [Tryz.sizeV]; exact congrArg some HCL.out.symm) ?_)
        | (refine wpList_store_blk rfl 27 (.tmp 2) (.tmp 19) rfl gV _ rfl rfl 27 _ HB5.out.1 (by rw [Tryz.sizeV]; exact congrArg some HCL.out.symm) (by simp) HI5.out.one ?_; intro w6 hb6 ho6; have hc6 := code_there HB5.out.2.1 ho6 HG.out.1; have c6 := hc6.1; have z6 := hc6.2; have H6 := Lib.hid (code_put HB5.out.2.1 hb6 ho6 HG.out.1 0); clear hb6 ho6 hc6))
      rename Hid (Blk _ _ _ _ ∧ Blk _ _ _ _ ∧ Chg _ _ _) => H6
      rw [HM3.out]
      exact leave_ok _ w _ gV gC x [] _ _ rfl rfl (by have := H6.out.1; rw [HCS.out] at this; exact this) H6.out.2.1 (by
        rw [← HCS.out]
        exact IsT.mono (fun b _ hb => Nat.le_trans HK3.out.size hb) _ (IsT.chg H6.out.2.2 (by rintro b hb (e | e); have := HGG.out; omega; have := HG.out; have := HGG.out; omega) _ HI5.out)) (HB5.out.2.2.trans (H6.out.2.2.below HB5.out.2.2.size (by rintro b (rfl | rfl); exact HG.out.2.1; exact HG.out.2.2.1)))
    | cons c r2 =>
      rw [hr] at c5
      have HM3 : Hid (M.parse2 b = .err 8) := by rw [Hid, HM2.out, if_neg (by rw [hr]; simp)]
      clear hr HM2
      go_wp2
      rw [HM3.out]
      exact leave_pan _ w w5 gV gC 69 8 0 (.inr ⟨rfl, rfl⟩) cs HCL.out rfl rfl HB5.out.1 HB5.out.2.1 HG.out.1 HB5.out.2.2 HG.out.2.1 HG.out.2.2.1

theorem parse_any (bv : Value) (b : List UInt8) (w : World) (h : IsB w bv b) (hl : b.length ≤ 1099511627776) (hL : JLaid w) :
    Calls Tryz.prog 12 #[bv] w (ParseEnds w (M.parse b)) := (parse_anyT bv b w h hl hL).mono fun _ _ h => h.ends

end Go.Proofs.YtbgadfaiehkanaaGreatDoor

namespace Go.Proofs.YtbgadfaiehkanaaGreatDoor
open Go.RowKit Go.Proofs Go.Shelf
set_option linter.unusedVariables false
set_option maxRecDepth 100000

set_option maxHeartbeats 1000000 in
theorem mayNum_any (n : Int) (w : World) : Calls Tryz.prog 95 #[.int .i64 n] w fun e w' => e = .returned (.bool (decide (-9007199254740991 ≤ n) && decide (n ≤ 9007199254740991))) ∧ w' = w := by
  go_enter Tryz.func95, Tryz.ntmps95
  by_cases h1 : -9007199254740991 ≤ n
  · by_cases h2 : n ≤ 9007199254740991
    · have e1 : decide (-9007199254740991 ≤ n) = true := decide_eq_true h1
      have e2 : decide (n ≤ 9007199254740991) = true := decide_eq_true h2
      go_wp2
      go_ret
      exact ⟨by simp only [e1, e2, Bool.and_self, Bool.and_false, Bool.false_and, Bool.true_and]; rfl, rfl⟩
    · have e1 : decide (-9007199254740991 ≤ n) = true := decide_eq_true h1
      have e2 : decide (n ≤ 9007199254740991) = false := decide_eq_false h2
      go_wp2
      go_ret
      exact ⟨by simp only [e1, e2, Bool.and_self, Bool.and_false, Bool.false_and, Bool.true_and]; rfl, rfl⟩
  · have e1 : decide (-9007199254740991 ≤ n) = false := decide_eq_false h1
    go_wp2
    go_ret
    exact ⟨by simp only [e1, Bool.and_self, Bool.and_false, Bool.false_and, Bool.true_and]; rfl, rfl⟩

/-- Nothing is in the fields that a kind doesn't need. -/
def Alone (k : Int) (b : Bool) (n : Int) (t : List UInt8) (ll ml : Nat) : Prop :=
  (k = 0 ∨ k = 1 ∨ k = 2 ∨ k = 3 ∨ k = 4 ∨ k = 5) ∧ (k ≠ 1 → b = false) ∧ (k ≠ 2 → n = 0) ∧ (k ≠ 3 → t = []) ∧ (k ≠ 4 → ll = 0) ∧ (k ≠ 5 → ml = 0)

set_option maxHeartbeats 8000000 in
theorem alone_yes (k : Int) (b : Bool) (n : Int) (t : List UInt8) (la ma : Option Addr) (ll lc ml mc : Nat) (w : World) (h : Alone k b n t ll ml) :
    Calls Tryz.prog 94 #[.agg #[.int .i64 k, .bool b, .int .i64 n, .string ⟨t.toArray⟩, .slice la ll lc, .slice ma ml mc]] w fun e w' => e = .returned (.bool true) ∧ Below w.heap.size w w' := by
  obtain ⟨h0, h1, h2, h3, h4, h5⟩ := h
  have HB0 : ∀ (cs : Array Value), Below w.heap.size w (w.alloc (.cells cs 27)) := fun cs => (Below.refl _ w).alloc (Nat.le_refl _) _
  have HB2 := Lib.hid HB0
  clear HB0
  rcases h0 with rfl | rfl | rfl | rfl | rfl | rfl
  · obtain rfl := h1 (by decide)
    obtain rfl := h2 (by decide)
    obtain rfl := h3 (by decide)
    obtain rfl := h4 (by decide)
    obtain rfl := h5 (by decide)
    clear h1 h2 h3 h4 h5
    go_enter Tryz.func94, Tryz.ntmps94
    go_wp2
    go_ret
    exact ⟨rfl, HB2.out _⟩
  · obtain rfl := h2 (by decide)
    obtain rfl := h3 (by decide)
    obtain rfl := h4 (by decide)
    obtain rfl := h5 (by decide)
    clear h1 h2 h3 h4 h5
    go_enter Tryz.func94, Tryz.ntmps94
    go_wp2
    go_ret
    exact ⟨rfl, HB2.out _⟩
  · obtain rfl := h1 (by decide)
    obtain rfl := h3 (by decide)
    obtain rfl := h4 (by decide)
    obtain rfl := h5 (by decide)
    clear h1 h2 h3 h4 h5
    go_enter Tryz.func94, Tryz.ntmps94
    go_wp2
    go_ret
    exact ⟨rfl, HB2.out _⟩
  · obtain rfl := h1 (by decide)
    obtain rfl := h2 (by decide)
    obtain rfl := h4 (by decide)
    obtain rfl := h5 (by decide)
    clear h1 h2 h3 h4 h5
    go_enter Tryz.func94, Tryz.ntmps94
    go_wp2
    go_ret
    exact ⟨rfl, HB2.out _⟩
  · obtain rfl := h1 (by decide)
    obtain rfl := h2 (by decide)
    obtain rfl := h3 (by decide)
    obtain rfl := h5 (by decide)
    clear h1 h2 h3 h4 h5
    go_enter Tryz.func94, Tryz.ntmps94
    go_wp2
    go_ret
    exact ⟨rfl, HB2.out _⟩
  · obtain rfl := h1 (by decide)
    obtain rfl := h2 (by decide)
    obtain rfl := h3 (by decide)
    obtain rfl := h4 (by decide)
    clear h1 h2 h3 h4 h5
    go_enter Tryz.func94, Tryz.ntmps94
    go_wp2
    go_ret
    exact ⟨rfl, HB2.out _⟩

end Go.Proofs.YtbgadfaiehkanaaGreatDoor
