/-
  THE PROGRAM'S READER: members, if value holds. Conditions: texts of up to 65536 bytes; the library's variables lie as laid.
-/
import Derived.Test.YtbgadfaiehkanaaGreatDoorJsD8
import Derived.Laws.EntriesVeiled
namespace Go.Proofs.YtbgadfaiehkanaaGreatDoor
open Go.RowKit Go.Proofs Go.Shelf
set_option linter.unusedVariables false
set_option maxRecDepth 100000

theorem M.any_names (m : List (List UInt8 × M.GV)) (nm : List UInt8) : (m.map (·.1)).contains nm = m.any fun x => x.1 == nm := by
  induction m with
  | nil => rfl
  | cons p m ih =>
    rw [List.map_cons, List.contains_cons, List.any_cons, ih, Bool.beq_comm]

/-- What was read, as a value. -/
theorem JM.val {w0 : World} {g : Nat} {p : JPl} {d : Nat} {q : Int} {wr : World} {m : List (List UInt8 × M.GV)} {ns : List (List UInt8)} {mss : List (List Value)} {mv : Value} {Q : Nat → Prop} (S : JM w0 g p d q wr m ns mss mv Q) : IsT (fun x => w0.heap.size ≤ x) wr (d + 1) (vcs 5 false 0 [] (.slice none 0 0) mv) (M.vMap m) := by
  have h1 := S.l1; have h2 := S.l2; have h3 := S.l3; have h4 := S.l4; have h5 := S.l5; have h6 := S.l6; have h7 := S.l7
  refine ⟨.slice none 0 0, mv, [], mss, fun _ => False, Q, rfl, rfl, RowAt.nil _ _ _, Fam.zero _ _, S.ln, RowAt.own S.row fun x hx => ?_, S.each, fun _ h => h.elim, fun x hx => ?_, fun _ h => by cases h⟩
  · have := (S.row.lt x hx).1
    show w0.heap.size ≤ x
    omega
  · have := (S.q x hx).1
    exact ⟨by show w0.heap.size ≤ x; omega, (fun h => by cases h), (S.q x hx).2.2⟩

/-- The state of a map that is being read. -/
def MSt (w0 : World) (g : Nat) (p : JPl) (d : Nat) (q : Int) (K : Nat) (wr : World) (s : List UInt8) (m : List (List UInt8 × M.GV)) : Prop :=
  (∃ mss mv Q, JM w0 g p d q wr m (m.map (·.1)) mss mv Q) ∧ Rd wr g s ∧ m.length + s.length ≤ K

theorem MSt.move {w0 : World} {g : Nat} {p : JPl} {d : Nat} {q : Int} {K K2 : Nat} {wr w' : World} {s r : List UInt8} {m : List (List UInt8 × M.GV)} (h : MSt w0 g p d q K wr s m) (k : Reads wr g r w') (hl : m.length + r.length ≤ K2) : MSt w0 g p d q K2 w' r m := by
  obtain ⟨⟨mss, mv, Q, S⟩, _, _⟩ := h
  exact ⟨⟨mss, mv, Q, S.read k.2⟩, k.1, hl⟩

theorem MSt.chg {w0 : World} {g : Nat} {p : JPl} {d : Nat} {q : Int} {K : Nat} {wr : World} {s : List UInt8} {m : List (List UInt8 × M.GV)} (h : MSt w0 g p d q K wr s m) : Chg (fun b => b = g) w0 wr := by
  obtain ⟨⟨mss, mv, Q, S⟩, _, _⟩ := h
  exact S.chg

def MFin (w0 : World) (g : Nat) (p : JPl) (d : Nat) (q : Int) (wr : World) (s : List UInt8) (m : List (List UInt8 × M.GV)) : Prop := (∃ mss mv Q, JM w0 g p d q wr m (m.map (·.1)) mss mv Q) ∧ Rd wr g s

theorem mem_any {w0 : World} {g : Nat} {p : JPl} {d : Nat} {q : Int} {wz : World} {m : List (List UInt8 × M.GV)} {mss : List (List Value)} {mv : Value} {Q : Nat → Prop} (V : JVal d q) (S : JM w0 g p d q wz m (m.map (·.1)) mss mv Q) (s : List UInt8) (h : Rd wz g s) (hl : s.length ≤ 65536) (hmn : m.length ≤ 65536) (hL : JLaid wz) (hg : 6 ≤ g) :
    Calls Tryz.prog 166 #[.pointer (some ⟨p.gR, 0, none⟩), .pointer (some ⟨p.gF, 0, none⟩), .pointer (some ⟨p.gO, 0, none⟩), .pointer (some ⟨p.gD, 0, none⟩)] wz fun e w' =>
      match M.mstep (M.val2 d) s m with
      | .ok m2 r => e = .returned (.tuple #[]) ∧ Rd w' g r ∧ ∃ mss' mv' Q', JM w0 g p d q w' m2 (m2.map (·.1)) mss' mv' Q'
      | .err c => ∃ T, e = PanT T ∧ PanOf T c ∧ Chg (fun b => b = g) w0 w' := by
  have hns : (m.map (·.1)).length ≤ 65536 := by rw [List.length_map]; exact hmn
  unfold M.mstep
  cases hb : M.blk s with
  | nil => exact mem_p1 S s h hL hg (by rw [hb]; intro e; have := e.length_le; simp at this)
  | cons c r =>
    dsimp only
    by_cases h34 : c = 34
    · rw [if_pos h34]
      rw [h34] at hb
      unfold M.mname
      rw [show M.txt (r.length + 1) r [] = M.txtU r [] from rfl]
      cases ht : M.txtU r [] with
      | none => exact mem_p2 S s r h hl hL hg hb ht
      | some t =>
        obtain ⟨nm, r1⟩ := t
        dsimp only
        rw [← M.any_names]
        cases hd : (m.map (·.1)).contains nm with
        | true => exact mem_p3 S s r nm r1 h hl hns hL hg hb ht hd
        | false =>
          simp only [Bool.false_eq_true, if_false]
          cases hk : M.blk r1 with
          | nil => exact mem_p4 S s r nm r1 h hl hns hL hg hb ht hd (by rw [hk]; intro e; have := e.length_le; simp at this)
          | cons c2 r2 =>
            unfold M.mtail
            dsimp only
            by_cases h58 : c2 = 58
            · rw [if_pos h58]
              rw [h58] at hk
              cases hv : M.val2 d r2 with
              | err c3 => exact mem_p5 V S s r nm r1 r2 h hl hns hL hg hb ht hd hk c3 hv
              | ok x r3 =>
                dsimp only
                refine (mem_p6 V S s r nm r1 r2 h hl hns hmn hL hg hb ht hd hk x r3 hv).mono ?_
                rintro e w' ⟨h1, h2, h3⟩
                refine ⟨h1, h2, ?_⟩
                rw [List.map_append]
                exact h3
            · rw [if_neg h58]
              refine mem_p4 S s r nm r1 h hl hns hL hg hb ht hd ?_
              rw [hk]
              rintro ⟨t, e⟩
              injection e with e _
              exact h58 e.symm
    · rw [if_neg h34]
      refine mem_p1 S s h hL hg ?_
      rw [hb]
      rintro ⟨t, e⟩
      injection e with e _
      exact h34 e.symm

theorem memPart {w0 : World} {g : Nat} {p : JPl} {d : Nat} {q : Int} (K : Nat) (V : JVal d q) (hL : JLaid w0) (hg : 6 ≤ g) (hK : K ≤ 65536) :
    PartOk 166 #[.pointer (some ⟨p.gR, 0, none⟩), .pointer (some ⟨p.gF, 0, none⟩), .pointer (some ⟨p.gO, 0, none⟩), .pointer (some ⟨p.gD, 0, none⟩)] g (M.mstep (M.val2 d)) (MSt w0 g p d q K) (MSt w0 g p d q (K + 1)) (MFin w0 g p d q) (fun wr => Chg (fun b => b = g) w0 wr) where
  enters := enters_of Tryz.func166 (by kernel_rfl) rfl
  rdS := fun _ _ _ h => h.2.1
  rdA := fun _ _ _ h => h.2.1
  move := fun w s r a w' h k hl => h.move k (by have := h.2.2; omega)
  comma := fun w s r a w' h k hl => h.move k (by have := h.2.2; omega)
  finS := fun w s r a w' h k => ⟨(h.move (K2 := a.length + r.length) k (Nat.le_refl _)).1, k.1⟩
  finA := fun w s r a w' h k => ⟨(h.move (K2 := a.length + r.length) k (Nat.le_refl _)).1, k.1⟩
  endS := fun w s a w' h k => h.chg.go k
  endA := fun w s a w' h k => h.chg.go k
  ok := fun w s a a2 r h hst => by
    have hle := M.mstep_le (M.val2_le d) s a a2 r hst
    have hal : a2.length = a.length + 1 := M.mstep_len hst
    have hc := h.chg
    obtain ⟨⟨mss, mv, Q, S⟩, hR, hb⟩ := h
    have := mem_any V S s hR (by omega) (by omega) (hL.reads hc hg) hg
    rw [hst] at this
    refine this.mono ?_
    rintro e w' ⟨rfl, h1, h2⟩
    exact ⟨rfl, h2, h1, by omega⟩
  err := fun w s a c h hst => by
    have hc := h.chg
    obtain ⟨⟨mss, mv, Q, S⟩, hR, hb⟩ := h
    have := mem_any V S s hR (by omega) (by omega) (hL.reads hc hg) hg
    rw [hst] at this
    exact this
  le := M.mstep_le (M.val2_le d)

set_option maxHeartbeats 4000000 in
/-- names. -/
theorem names_any (w : World) : Calls Tryz.prog 137 #[] w fun e w' => ∃ gM gB, e = .returned (.func (.func 171) #[] #[.pointer (some ⟨gB, 0, none⟩)]) ∧ w.heap.size ≤ gM ∧ gM < gB ∧ gB < w'.heap.size ∧ NmAt w' gB gM [] ∧ Below w.heap.size w w' := by
  have hmf : ∀ (fn : Fn) (first cap : Array Value) (w : World), (Instr.makeFunc fn first cap).run Tryz.prog w = .ok (.func fn first cap) w := fun _ _ _ _ => rfl
  have hmm := @run_makeMap Tryz.prog
  obtain ⟨W1, hW1⟩ : ∃ W, W = w.alloc (.map #[] 0) := ⟨_, rfl⟩
  have s1 : W1.heap.size = w.heap.size + 1 := by rw [hW1]; simp
  have m1 : IsMp W1 w.heap.size [] := by rw [hW1]; exact mp_made w
  have k1 : Below w.heap.size w W1 := by rw [hW1]; exact (Below.refl _ _).alloc (Nat.le_refl _) _
  obtain ⟨W2, hW2⟩ : ∃ W, W = W1.alloc (.cells #[.map (some w.heap.size)] 208) := ⟨_, rfl⟩
  have b2 : Blk W2 W1.heap.size 208 [.map (some w.heap.size)] := by rw [hW2]; exact Blk.newAt _ _ _ _ _ rfl rfl
  have k2 : Below w.heap.size w W2 := by rw [hW2]; exact k1.alloc k1.size _
  have m2 : IsMp W2 w.heap.size [] := by rw [hW2]; exact m1.alloc _
  have HEND : Hid (W1.heap.size < W2.heap.size ∧ NmAt W2 W1.heap.size w.heap.size [] ∧ Below w.heap.size w W2) := ⟨b2.lt, ⟨b2, ⟨[], m2, fun k => rfl, Nat.le_refl _, fun p hp => by cases hp⟩, by omega⟩, k2⟩
  have E2 : Hid (W2 = (w.alloc (.map #[] 0)).alloc (.cells #[.map (some w.heap.size)] 208)) := by rw [Hid, hW2, hW1]
  have E1 : Hid (W1.heap.size = w.heap.size + 1) := s1
  clear m1 k1 b2 k2 m2 hW2 hW1 s1
  go_enter Tryz.func137, Tryz.ntmps137
  go_wp2
  go_ret
  rw [← E2.out, ← E1.out]
  exact ⟨w.heap.size, W1.heap.size, rfl, Nat.le_refl _, by rw [E1.out]; omega, HEND.out.1, HEND.out.2.1, HEND.out.2.2⟩

/-- How members ends. -/
def MapEnds (w : World) (g d : Nat) (res : M.PR (List (List UInt8 × M.GV))) (e : Ending) (w' : World) : Prop :=
  match res with
  | .ok m r => ∃ mv, e = .returned mv ∧ IsT (fun x => w.heap.size ≤ x) w' (d + 1) (vcs 5 false 0 [] (.slice none 0 0) mv) (M.vMap m) ∧ Reads w g r w'
  | .err c => ∃ T, e = PanT T ∧ PanOf T c ∧ Chg (fun b => b = g) w w'

set_option maxHeartbeats 8000000 in
theorem members_any {d : Nat} {q : Int} (V : JVal d q) (g : Nat) (s : List UInt8) (w : World) (h : Rd w g s) (hl : s.length ≤ 65536) (hL : JLaid w) (hg : 6 ≤ g) :
    Calls Tryz.prog 131 #[.pointer (some ⟨g, 0, none⟩), .int .i64 q] w (MapEnds w g d (M.partsG (M.mstep (M.val2 d)) 125 s [])) := by
  have hmf : ∀ (fn : Fn) (first cap : Array Value) (w : World), (Instr.makeFunc fn first cap).run Tryz.prog w = .ok (.func fn first cap) w := fun _ _ _ _ => rfl
  obtain ⟨W1, hW1⟩ : ∃ W, W = w.alloc (.cells #[.pointer (some ⟨g, 0, none⟩)] 127) := ⟨_, rfl⟩
  obtain ⟨gR, hgR⟩ : ∃ x, x = w.heap.size := ⟨_, rfl⟩
  obtain ⟨W2, hW2⟩ : ∃ W, W = W1.alloc (.cells #[.int .i64 q] 3) := ⟨_, rfl⟩
  obtain ⟨gD, hgD⟩ : ∃ x, x = W1.heap.size := ⟨_, rfl⟩
  obtain ⟨W3, hW3⟩ : ∃ W, W = W2.alloc (.cells #[.slice none 0 0] 25) := ⟨_, rfl⟩
  obtain ⟨gO, hgO⟩ : ∃ x, x = W2.heap.size := ⟨_, rfl⟩
  have s1 : W1.heap.size = w.heap.size + 1 := by rw [hW1]; simp
  have s2 : W2.heap.size = W1.heap.size + 1 := by rw [hW2]; simp
  have s3 : W3.heap.size = W2.heap.size + 1 := by rw [hW3]; simp
  have b1 : Blk W1 gR 127 [.pointer (some ⟨g, 0, none⟩)] := by rw [hW1]; exact Blk.newAt _ _ _ _ _ hgR rfl
  have b2 : Blk W2 gD 3 [.int .i64 q] := by rw [hW2]; exact Blk.newAt _ _ _ _ _ hgD rfl
  have b3 : Blk W3 gO 25 [.slice none 0 0] := by rw [hW3]; exact Blk.newAt _ _ _ _ _ hgO rfl
  have k1 : Below w.heap.size w W1 := by rw [hW1]; exact (Below.refl _ _).alloc (Nat.le_refl _) _
  have k2 : Below W1.heap.size W1 W2 := by rw [hW2]; exact (Below.refl _ _).alloc (Nat.le_refl _) _
  have k3 : Below W2.heap.size W2 W3 := by rw [hW3]; exact (Below.refl _ _).alloc (Nat.le_refl _) _
  have k13 : Below w.heap.size w W3 := k1.trans ((k2.trans (k3.mono (by omega))).mono (by omega))
  have hlt := h.lt
  have e1 : Hid (gD = w.heap.size + 1) := by rw [Hid, hgD, s1]
  have e2 : Hid (gO = w.heap.size + 1 + 1) := by rw [Hid, hgO, s2, s1]
  have e0 := Lib.hid hgR
  have E1 := Lib.hid hW1
  have E2 := Lib.hid hW2
  have E3 := Lib.hid hW3
  have B3 : Hid (Blk W3 gR 127 [.pointer (some ⟨g, 0, none⟩)] ∧ Blk W3 gD 3 [.int .i64 q] ∧ Blk W3 gO 25 [.slice none 0 0]) :=
    ⟨(b1.below k2 b1.lt).below k3 (by have := b1.lt; omega), b2.below k3 b2.lt, b3⟩
  have HK3 := Lib.hid k13
  have HS3 : Hid (W3.heap.size = gO + 1 ∧ gR = w.heap.size ∧ gD = gR + 1 ∧ gO = gD + 1 ∧ g < w.heap.size) := ⟨by omega, hgR, by omega, by omega, hlt⟩
  have HN := Lib.hid (names_any W3)
  obtain ⟨res, hres⟩ : ∃ r, r = M.partsG (M.mstep (M.val2 d)) 125 s [] := ⟨_, rfl⟩
  have HRES := Lib.hid hres
  rw [← hres]
  have HV := Lib.hid V
  have HR := Lib.hid h
  have HL := Lib.hid hL
  clear hres hgR hgD hgO hW1 hW2 hW3 s1 s2 s3 b1 b2 b3 k1 k2 k3 k13 hlt V h hL
  go_enter Tryz.func131, Tryz.ntmps131
  go_upto_region 2 with fail
  rw [← e2.out, ← e1.out, ← e0.out, ← E1.out, ← E2.out, ← E3.out]
  clear e0 e1 e2 E1 E2 E3
  go_wp2_with fail
  refine HN.out.mono ?_
  rintro e w4 ⟨gM, gB, rfl, h1, h2, h3, n4, k4⟩
  obtain ⟨W5, hW5⟩ : ∃ W, W = w4.alloc (.cells #[.func (.func 171) #[] #[.pointer (some ⟨gB, 0, none⟩)]] 100) := ⟨_, rfl⟩
  obtain ⟨gF, hgF⟩ : ∃ x, x = w4.heap.size := ⟨_, rfl⟩
  have s5 : W5.heap.size = w4.heap.size + 1 := by rw [hW5]; simp
  have b5 : Blk W5 gF 100 [.func (.func 171) #[] #[.pointer (some ⟨gB, 0, none⟩)]] := by rw [hW5]; exact Blk.newAt _ _ _ _ _ hgF rfl
  have k5 : Below w4.heap.size w4 W5 := by rw [hW5]; exact (Below.refl _ _).alloc (Nat.le_refl _) _
  have k35 : Below W3.heap.size W3 W5 := k4.trans (k5.mono k4.size)
  have k05 : Below w.heap.size w W5 := HK3.out.trans (k35.mono HK3.out.size)
  have n5 : NmAt W5 gB gM [] := n4.chg (Chg.of_below (F := fun _ => False) k5) (fun h => h) (fun h => h)
  have S5 : JM w g ⟨gR, gD, gO, gM, gB, gF, gF + 1⟩ d q W5 [] [] [] (.slice none 0 0) (fun _ => False) := by
    have h9 := HS3.out
    exact ⟨B3.out.1.below k35 (by omega), B3.out.2.1.below k35 (by omega), B3.out.2.2.below k35 (by omega), b5, n5, World.ownsRow_nil _ _ _ _, rfl, Fam.zero _ _, fun x hx => hx.elim, Chg.of_below k05, h9.2.2.2.2, (by show w.heap.size ≤ gR; omega), (by show gR < gD; omega), (by show gD < gO; omega), (by show gO < gM; omega), h2, (by show gB < gF; omega), (Nat.lt_succ_self _), (by show gF + 1 ≤ _; omega)⟩
  have HP := Lib.hid (parts_any (memPart (w0 := w) (p := ⟨gR, gD, gO, gM, gB, gF, gF + 1⟩) s.length HV.out HL.out hg hl) 125 s [] W5 ⟨⟨[], _, _, S5⟩, HR.out.below k05 HR.out.lt, by simp⟩)
  rw [← HRES.out] at HP
  have cR : W5.cell? ⟨gR, 0, none⟩ = some (.pointer (some ⟨g, 0, none⟩)) := S5.kR.cell 0
  have E5 := Lib.hid hW5
  have EF := Lib.hid hgF
  clear S5 n5 k05 k35 k5 b5 s5 hW5 hgF n4 k4 h1 h2 h3
  go_upto_region 3 with fail
  rw [← EF.out, ← E5.out]
  clear E5 EF
  go_wp2_with fail
  refine HP.out.mono ?_
  intro e w6 h6
  have H6 := Lib.hid h6
  clear h6 cR HP
  cases res with
  | err c =>
    obtain ⟨T, rfl, hT, k6⟩ := H6.out
    clear H6
    go_wp2
    exact ⟨rfl, T, rfl, hT, k6⟩
  | ok m r =>
    obtain ⟨rfl, ⟨mss, mv, Q, S6⟩, R6⟩ := H6.out
    have c6 : w6.cell? ⟨gO, 0, none⟩ = some mv := S6.kO.cell 0
    have HS := Lib.hid S6
    have HR6 := Lib.hid R6
    obtain ⟨la, n, lc, rfl⟩ := rowV_shape S6.row
    clear S6 R6 H6
    go_wp2
    go_ret
    exact ⟨_, rfl, HS.out.val, HR6.out, HS.out.chg⟩

end Go.Proofs.YtbgadfaiehkanaaGreatDoor
