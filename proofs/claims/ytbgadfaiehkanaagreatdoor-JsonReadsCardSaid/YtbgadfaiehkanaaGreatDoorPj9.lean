/-
  VALUES AS THEY LIE (IsV: six cells, and the rows below them, in blocks of S), and how they last. Conditions: none.
  CONTRACT OF orlopref15.value, if items holds. Conditions: rows of up to 2^40 bytes.
-/
import Derived.Test.YtbgadfaiehkanaaGreatDoorRefJsJ
import Derived.Test.YtbgadfaiehkanaaGreatDoorPj3

namespace Go.Proofs.YtbgadfaiehkanaaGreatDoor
open Go.RowKit
set_option linter.unusedVariables false
set_option maxRecDepth 100000

theorem add_plainJ (b o j : Nat) : (⟨b, o, none⟩ : Addr).add j = ⟨b, o + j, none⟩ := by unfold Addr.add; split <;> simp_all

/-- A slice of n things of so many cells each, in a block of S. -/
def RowAt (S : Nat → Prop) (w : World) (size : Nat) (v : Value) (n : Nat) (xs : List Value) : Prop :=
  ∃ ao cap, v = .slice ao n cap ∧ n ≤ cap ∧ cap ≤ maxLen ∧ xs.length = n * size ∧ (n = 0 ∨ ∃ b off, ao = some ⟨b, off, none⟩ ∧ S b ∧ b < w.heap.size ∧ ∀ (j : Nat) (u : Value), xs[j]? = some u → w.cell? ⟨b, off + j, none⟩ = some u)

theorem RowAt.chg {S F : Nat → Prop} {w w' : World} {size n : Nat} {v : Value} {xs : List Value} (h : RowAt S w size v n xs) (k : Chg F w w') (hF : ∀ b, S b → ¬ F b) : RowAt S w' size v n xs := by
  obtain ⟨ao, cap, rfl, h1, h2, h3, h4⟩ := h
  refine ⟨ao, cap, rfl, h1, h2, h3, ?_⟩
  rcases h4 with h4 | ⟨b, off, rfl, hs, hb, hc⟩
  · exact .inl h4
  · refine .inr ⟨b, off, rfl, hs, Nat.lt_of_lt_of_le hb k.size, fun j u hu => ?_⟩
    rw [World.cell?_of_block (k.block b hb (hF b hs)), hc j u hu]

theorem RowAt.mono {S R : Nat → Prop} {w : World} {size n : Nat} {v : Value} {xs : List Value} (h : RowAt S w size v n xs) (hs : ∀ b, b < w.heap.size → S b → R b) : RowAt R w size v n xs := by
  obtain ⟨ao, cap, rfl, h1, h2, h3, h4⟩ := h
  refine ⟨ao, cap, rfl, h1, h2, h3, ?_⟩
  rcases h4 with h4 | ⟨b, off, rfl, hs2, hb, hc⟩
  · exact .inl h4
  · exact .inr ⟨b, off, rfl, hs b hb hs2, hb, hc⟩

theorem RowAt.nil (S : Nat → Prop) (w : World) (size : Nat) : RowAt S w size (.slice none 0 0) 0 [] := ⟨none, 0, rfl, Nat.le_refl _, Nat.zero_le _, by simp, .inl rfl⟩

/-- An own row. -/
theorem RowAt.own {S : Nat → Prop} {w : World} {B size n : Nat} {e : TypeId} {v : Value} {xs : List Value} (h : w.ownsRow B e size v n xs) (hs : ∀ b, v.ownBlock = some b → S b) : RowAt S w size v n xs := by
  rcases h.2 with ⟨rfl, hn⟩ | ⟨g, cap, cur, rfl, hb, hg, hn, hm, hsz, ht⟩
  · subst hn
    refine ⟨none, 0, rfl, Nat.le_refl _, Nat.zero_le _, h.1, .inl rfl⟩
  · refine ⟨_, cap, rfl, hn, hm, h.1, .inr ⟨g, 0, rfl, hs g rfl, (h.lt g rfl).2, fun j u hu => ?_⟩⟩
    have := h.cells (g := g) rfl j u hu
    rw [add_plainJ] at this
    rw [Nat.zero_add] at this ⊢
    exact this

/-- The cells of a value. -/
def vcs (k : Int) (b : Bool) (n : Int) (t : List UInt8) (lv mv : Value) : List Value := [.int .i64 k, .bool b, .int .i64 n, .string ⟨t.toArray⟩, lv, mv]

/-- Six cells are the value g, as deep as d at most. -/
def IsV (S : Nat → Prop) (w : World) : Nat → List Value → M.GV → Prop
  | 0, _, _ => False
  | d + 1, cs, g => ∃ (lv mv : Value) (ls ms : List (List Value)), cs = vcs g.k g.b g.n g.t lv mv ∧
      ls.length = g.l.length ∧ RowAt S w 6 lv g.l.length ls.flatten ∧ (∀ i, i < g.l.length → IsV S w d (ls.getD i []) (g.l.getD i M.vNull)) ∧
      ms.length = g.m.length ∧ RowAt S w 7 mv g.m.length ms.flatten ∧ (∀ i, i < g.m.length → ∃ c, ms.getD i [] = .string ⟨(g.m.getD i ([], M.vNull)).1.toArray⟩ :: c ∧ IsV S w d c (g.m.getD i ([], M.vNull)).2)

theorem IsV.len {S : Nat → Prop} {w : World} {d : Nat} {cs : List Value} {g : M.GV} (h : IsV S w d cs g) : cs.length = 6 := by
  cases d with
  | zero => exact h.elim
  | succ d =>
    obtain ⟨lv, mv, ls, ms, rfl, _⟩ := h
    rfl

theorem IsV.chg {S F : Nat → Prop} {w w' : World} (k : Chg F w w') (hF : ∀ b, S b → ¬ F b) (d : Nat) : ∀ {cs : List Value} {g : M.GV}, IsV S w d cs g → IsV S w' d cs g := by
  induction d with
  | zero => exact fun h => h
  | succ d ih =>
    intro cs g h
    obtain ⟨lv, mv, ls, ms, rfl, h1, h2, h3, h4, h5, h6⟩ := h
    exact ⟨lv, mv, ls, ms, rfl, h1, h2.chg k hF, fun i hi => ih (h3 i hi), h4, h5.chg k hF, fun i hi => by
      obtain ⟨c, e, hc⟩ := h6 i hi
      exact ⟨c, e, ih hc⟩⟩

theorem IsV.mono {S R : Nat → Prop} {w : World} (hs : ∀ b, b < w.heap.size → S b → R b) (d : Nat) : ∀ {cs : List Value} {g : M.GV}, IsV S w d cs g → IsV R w d cs g := by
  induction d with
  | zero => exact fun h => h
  | succ d ih =>
    intro cs g h
    obtain ⟨lv, mv, ls, ms, rfl, h1, h2, h3, h4, h5, h6⟩ := h
    exact ⟨lv, mv, ls, ms, rfl, h1, h2.mono hs, fun i hi => ih (h3 i hi), h4, h5.mono hs, fun i hi => by
      obtain ⟨c, e, hc⟩ := h6 i hi
      exact ⟨c, e, ih hc⟩⟩

theorem IsV.up {S : Nat → Prop} {w : World} (d : Nat) : ∀ {d' : Nat} {cs : List Value} {g : M.GV}, IsV S w d cs g → d ≤ d' → IsV S w d' cs g := by
  induction d with
  | zero => exact fun h => h.elim
  | succ d ih =>
    intro d' cs g h hd
    obtain ⟨e, rfl⟩ : ∃ e, d' = e + 1 := ⟨d' - 1, by omega⟩
    obtain ⟨lv, mv, ls, ms, rfl, h1, h2, h3, h4, h5, h6⟩ := h
    exact ⟨lv, mv, ls, ms, rfl, h1, h2, fun i hi => ih (h3 i hi) (by omega), h4, h5, fun i hi => by
      obtain ⟨c, e, hc⟩ := h6 i hi
      exact ⟨c, e, ih hc (by omega)⟩⟩

theorem IsV.below {S : Nat → Prop} {w w' : World} (k : Below w.heap.size w w') {d : Nat} {cs : List Value} {g : M.GV} (h : IsV S w d cs g) : IsV S w' d cs g := IsV.chg (Chg.of_below (F := fun _ => False) k) (fun _ _ h => h) d h

/-- A value without rows. -/
theorem IsV.leaf (S : Nat → Prop) (w : World) (d : Nat) (k : Int) (b : Bool) (n : Int) (t : List UInt8) : IsV S w (d + 1) (vcs k b n t (.slice none 0 0) (.slice none 0 0)) (.mk k b n t [] []) :=
  ⟨_, _, [], [], rfl, rfl, RowAt.nil S w 6, fun i hi => absurd hi (Nat.not_lt_zero i), rfl, RowAt.nil S w 7, fun i hi => absurd hi (Nat.not_lt_zero i)⟩

/-- Where a cell of a row of rows lies. -/
theorem flat_at (k : Nat) : ∀ (ls : List (List Value)), (∀ l ∈ ls, l.length = k) → ∀ i j, i < ls.length → j < k → ls.flatten[i * k + j]? = (ls.getD i [])[j]? := by
  intro ls
  induction ls with
  | nil => intro _ i j hi; cases hi
  | cons l ls ih =>
    intro h i j hi hj
    have hl := h l (List.mem_cons_self ..)
    rw [List.flatten_cons]
    cases i with
    | zero => rw [Nat.zero_mul, Nat.zero_add, List.getElem?_append_left (by omega)]; rfl
    | succ i =>
      rw [List.getElem?_append_right (by rw [hl, Nat.succ_mul]; omega), hl, show (i + 1) * k + j - k = i * k + j by rw [Nat.succ_mul]; omega, ih (fun l hl => h l (List.mem_cons_of_mem _ hl)) i j (by simpa using hi) hj]
      rfl

theorem flat_len (k : Nat) : ∀ (ls : List (List Value)), (∀ l ∈ ls, l.length = k) → ls.flatten.length = ls.length * k := by
  intro ls
  induction ls with
  | nil => intro _; simp
  | cons l ls ih =>
    intro h
    rw [List.flatten_cons, List.length_append, h l (List.mem_cons_self ..), ih (fun l hl => h l (List.mem_cons_of_mem _ hl)), List.length_cons, Nat.succ_mul]
    omega

theorem getD_snoc_lt {α : Type} (l : List α) (x z : α) (i : Nat) (h : i < l.length) : (l ++ [x]).getD i z = l.getD i z := by
  rw [List.getD_eq_getElem?_getD, List.getElem?_append_left h, List.getD_eq_getElem?_getD]
theorem getD_snoc_last {α : Type} (l : List α) (x z : α) : (l ++ [x]).getD l.length z = x := by
  rw [List.getD_eq_getElem?_getD, List.getElem?_append_right (Nat.le_refl _)]
  simp

end Go.Proofs.YtbgadfaiehkanaaGreatDoor

namespace Go.Proofs.YtbgadfaiehkanaaGreatDoor
open Go.RowKit
set_option linter.unusedVariables false
set_option maxRecDepth 100000

/-- The value of no thing, as an aggregate. -/
def zeroV : Value := .agg #[.int .i64 0, .bool false, .int .i64 0, .string ⟨#[]⟩, .slice none 0 0, .slice none 0 0]

/-- How value and items end: a code, or a value in new memory and the place behind it. -/
def ValEnds (w : World) (b : List UInt8) (i d : Nat) (res : M.Res) (e : Ending) (w' : World) : Prop :=
  match res with
  | .err c => e = .returned (.tuple #[zeroV, .int .i64 0, .int .i64 c]) ∧ c ≠ 0 ∧ Below w.heap.size w w'
  | .ok g r => ∃ lv mv p, e = .returned (.tuple #[.agg (vcs g.k g.b g.n g.t lv mv).toArray, .int .i64 ((p : Nat) : Int), .int .i64 0]) ∧ IsV (fun x => w.heap.size ≤ x) w' d (vcs g.k g.b g.n g.t lv mv) g ∧ i ≤ p ∧ p ≤ b.length ∧ r = b.drop p ∧ Below w.heap.size w w'

theorem results_cell3 {P : Program} {fn : Func} {p u v : Tmp} {ty : TypeId} (h : fn.results = #[.cell p ty, .tmp u, .tmp v]) (tmps : Array Value) (w : World) (g : Nat) (t : TypeId) (cs : Array Value) (fr : Nat × Nat) (d : TypeDesc)
    (hp : tmps.getD p undef = .pointer (some ⟨g, 0, none⟩)) (hg : w.heap[g]? = some (.cells cs t fr))
    (hu : P.underlying ty = some d) (hd : (match d with | .struct _ | .array _ _ => true | _ => false) = true) (hi : (P.info? ty).map (·.size) = some cs.size) :
    (results fn tmps).run P w = .ok (.tuple #[.agg cs, tmps.getD u undef, tmps.getD v undef]) w := by
  have hp' : tmps[p]?.getD undef = .pointer (some ⟨g, 0, none⟩) := by simpa using hp
  simp [results, h, hp', asAddr, run_loadVar_row w g t ty cs fr d hg hu hd hi]

theorem Tryz.infoV : (Tryz.prog.info? 27).map (fun i => (i.zero, i.size, i.bytes)) = some (some zeroV, 6, 88) := by kernel_rfl
theorem Tryz.infoM : (Tryz.prog.info? 55).map (fun i => (i.size, i.bytes)) = some (7, 104) := by kernel_rfl
theorem Tryz.sizeV : (Tryz.prog.info? 27).map (·.size) = some 6 := by kernel_rfl

set_option maxHeartbeats 16000000 in
theorem rvalue_deep (bv : Value) (b : List UInt8) (w : World) (h : IsB w bv b) (i : Nat) (hi : i ≤ b.length) (hl : b.length ≤ 1099511627776) :
    Calls Tryz.prog 39 #[bv, .int .i64 (i : Int), .int .i64 17] w (ValEnds w b i 0 (M.val 0 (b.drop i))) := by
  obtain ⟨W1, hW1⟩ : ∃ W, Hid (W = w.alloc (.cells #[.int .i64 0, .bool false, .int .i64 0, .string ⟨#[]⟩, .slice none 0 0, .slice none 0 0] 27)) := ⟨_, rfl⟩
  have HI1 : Hid (IsB W1 bv b) := by rw [Hid, hW1.out]; exact h.below ((Below.refl _ _).alloc (Nat.le_refl _) _)
  obtain ⟨g6, hg6⟩ : ∃ g, g = w.heap.size := ⟨_, rfl⟩
  have K1 : Hid (Below g6 w W1) := by rw [Hid, hW1.out, hg6]; exact (Below.refl _ _).alloc (Nat.le_refl _) _
  have B1 : Hid (Blk W1 g6 27 [.int .i64 0, .bool false, .int .i64 0, .string ⟨#[]⟩, .slice none 0 0, .slice none 0 0]) := by rw [Hid, hW1.out]; exact Blk.newAt _ _ _ _ _ hg6 rfl
  have CB := Lib.hid (rblanks_any bv b W1 HI1.out i hi hl)
  have HM : Hid (M.val 0 (b.drop i) = .err 3) := rfl
  have HG6 := Lib.hid hg6
  clear h hi hl
  go_enter Tryz.func39, Tryz.ntmps39
  go_upto_region 1 with fail
  rw [← hW1.out, ← hg6]
  clear hg6
  go_wp2_with fail
  refine CB.out.mono ?_
  rintro e w2 ⟨j, rfl, h1, h2, h3, rfl⟩
  clear h1 h2 h3
  go_wp2_with (refine wpList_store_blk rfl 27 (.tmp 6) (.tmp 18) rfl g6 _ rfl rfl 27 _ B1.out Tryz.sizeV rfl (by decide) ?_; intro w5 hb5 ho5)
  exact bodyPost_ret (results_cell3 rfl _ _ g6 _ _ _ _ rfl hb5 Tryz.underlying27 rfl Tryz.sizeV) rfl (by rw [HM.out]; exact ⟨rfl, by decide, by rw [← HG6.out]; exact K1.out.trans (ho5.below (by rw [HG6.out]; exact K1.out.size) (Nat.le_refl _))⟩)

end Go.Proofs.YtbgadfaiehkanaaGreatDoor
