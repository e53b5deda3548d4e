/-
  CONTRACT OF orlopref15.value, if items holds: the walk. Conditions: rows of up to 2^40 bytes.
-/
import Derived.Test.YtbgadfaiehkanaaGreatDoorPj9
namespace Go.Proofs.YtbgadfaiehkanaaGreatDoor
open Go.RowKit
set_option linter.unusedVariables false
set_option maxRecDepth 100000

/-- A list or a map behind its bracket. -/
def M.itemsTop (d : Nat) (c : UInt8) (r : List UInt8) : M.Res :=
  match M.blk r with
  | [] => M.items (M.val d) (c = 91) (r.length + 1) [] [] []
  | e :: r2 => if e = (if c = 91 then 93 else 125) then .ok (if c = 91 then M.vList [] else M.vMap []) r2 else M.items (M.val d) (c = 91) (r.length + 1) (e :: r2) [] []
/-- A value behind blanks. -/
def M.valB (d : Nat) (s : List UInt8) : M.Res :=
  if M.wNull <+: s then .ok M.vNull (s.drop 4)
  else if M.wTrue <+: s then .ok (M.vBool true) (s.drop 4)
  else if M.wFalse <+: s then .ok (M.vBool false) (s.drop 5)
  else match s with
    | [] => .err 8
    | c :: r =>
      if c = 91 ∨ c = 123 then M.itemsTop d c r
      else if c = 34 then
        match M.text s with
        | none => .err 8
        | some (t, r) => .ok (M.vText t) r
      else match M.num s with
        | none => .err 8
        | some (n, r) => .ok (M.vNum n) r
theorem M.val_succ (d : Nat) (s : List UInt8) : M.val (d + 1) s = M.valB d (M.blk s) := by
  rw [M.val]
  unfold M.valB M.itemsTop
  rfl

/-- A value behind blanks that is none of the three words. -/
def M.valC (d : Nat) : List UInt8 → M.Res
  | [] => .err 8
  | c :: r =>
      if c = 91 ∨ c = 123 then M.itemsTop d c r
      else if c = 34 then
        match M.text (c :: r) with
        | none => .err 8
        | some (t, r) => .ok (M.vText t) r
      else match M.num (c :: r) with
        | none => .err 8
        | some (n, r) => .ok (M.vNum n) r
theorem M.valB_1 {d : Nat} {s : List UInt8} (h1 : M.wNull <+: s) : M.valB d s = .ok M.vNull (s.drop 4) := by unfold M.valB; rw [if_pos h1]
theorem M.valB_2 {d : Nat} {s : List UInt8} (h1 : ¬ M.wNull <+: s) (h2 : M.wTrue <+: s) : M.valB d s = .ok (M.vBool true) (s.drop 4) := by unfold M.valB; rw [if_neg h1, if_pos h2]
theorem M.valB_3 {d : Nat} {s : List UInt8} (h1 : ¬ M.wNull <+: s) (h2 : ¬ M.wTrue <+: s) (h3 : M.wFalse <+: s) : M.valB d s = .ok (M.vBool false) (s.drop 5) := by unfold M.valB; rw [if_neg h1, if_neg h2, if_pos h3]
theorem M.valB_4 {d : Nat} {s : List UInt8} (h1 : ¬ M.wNull <+: s) (h2 : ¬ M.wTrue <+: s) (h3 : ¬ M.wFalse <+: s) : M.valB d s = M.valC d s := by
  unfold M.valB
  rw [if_neg h1, if_neg h2, if_neg h3]
  cases s <;> rfl

theorem M.valC_items (d : Nat) (c : UInt8) (r : List UInt8) (h : c = 91 ∨ c = 123) : M.valC d (c :: r) = M.itemsTop d c r := by unfold M.valC; dsimp only; rw [if_pos h]
/-- A text, as a value. -/
def M.valT : Option (List UInt8 × List UInt8) → M.Res
  | none => .err 8
  | some (t, r) => .ok (M.vText t) r
/-- A number, as a value. -/
def M.valN : Option (Int × List UInt8) → M.Res
  | none => .err 8
  | some (n, r) => .ok (M.vNum n) r
theorem M.valC_text (d : Nat) (r : List UInt8) : M.valC d (34 :: r) = M.valT (M.text (34 :: r)) := by
  unfold M.valC
  dsimp only
  rw [if_neg (by decide), if_pos rfl]
  cases M.text (34 :: r) <;> rfl
theorem M.valC_num (d : Nat) (c : UInt8) (r : List UInt8) (h1 : c ≠ 91) (h2 : c ≠ 123) (h3 : c ≠ 34) : M.valC d (c :: r) = M.valN (M.num (c :: r)) := by
  unfold M.valC
  dsimp only
  rw [if_neg (fun h => h.elim h1 h2), if_neg h3]
  cases M.num (c :: r) <;> rfl
theorem M.valC_nil (d : Nat) : M.valC d [] = M.valN (M.num []) := by rw [M.num_nil]; rfl

theorem M.txt_rest (f : Nat) : ∀ (s o t r : List UInt8), M.txt f s o = some (t, r) → ∃ k, 1 ≤ k ∧ k ≤ s.length ∧ r = s.drop k := by
  induction f with
  | zero => intro s o t r h; cases h
  | succ f ih =>
    intro s o t r h
    cases s with
    | nil => cases h
    | cons c s =>
      rw [M.txt] at h
      by_cases h1 : c = 34
      · rw [if_pos h1] at h
        injection h with h
        injection h with _ h
        exact ⟨1, Nat.le_refl 1, by rw [List.length_cons]; omega, h.symm⟩
      rw [if_neg h1] at h
      by_cases h2 : c.toNat < 32
      · rw [if_pos h2] at h; cases h
      rw [if_neg h2] at h
      by_cases h3 : c = 92
      · rw [if_pos h3] at h
        cases he : M.esc s with
        | none => rw [he] at h; cases h
        | some p =>
          obtain ⟨v, r2⟩ := p
          rw [he] at h
          obtain ⟨_, j, j1, j2, rfl⟩ := M.esc_some he
          obtain ⟨k, k1, k2, rfl⟩ := ih _ _ _ _ h
          rw [List.length_drop] at k2
          exact ⟨j + k + 1, by omega, by rw [List.length_cons]; omega, by rw [List.drop_succ_cons, List.drop_drop]⟩
      rw [if_neg h3] at h
      by_cases h4 : (M.rune (c :: s)).2 = 0
      · rw [if_pos h4] at h; cases h
      rw [if_neg h4] at h
      obtain ⟨k, k1, k2, rfl⟩ := ih _ _ _ _ h
      rw [List.length_drop] at k2
      exact ⟨(M.rune (c :: s)).2 + k, by omega, by omega, by rw [List.drop_drop]⟩

theorem M.text_rest {s t r : List UInt8} (h : M.text s = some (t, r)) : ∃ k, 1 ≤ k ∧ k ≤ s.length ∧ r = s.drop k := by
  cases s with
  | nil => cases h
  | cons c s =>
    by_cases h1 : c = 34
    · subst h1
      rw [M.text_34] at h
      obtain ⟨k, k1, k2, rfl⟩ := M.txt_rest _ _ _ _ _ h
      exact ⟨k + 1, by omega, by rw [List.length_cons]; omega, rfl⟩
    · rw [M.text_no c s h1] at h; cases h

theorem M.numG_rest {mi : Bool} {s r : List UInt8} {v : Int} (h : M.numG mi s = some (v, r)) : ∃ k, k ≤ s.length ∧ r = s.drop k := by
  unfold M.numG at h
  split at h
  · cases h
  · injection h with h
    injection h with _ h
    have e := List.takeWhile_append_dropWhile (p := M.isD) (l := s)
    refine ⟨(s.takeWhile M.isD).length, ?_, ?_⟩
    · have := congrArg List.length e
      rw [List.length_append] at this
      omega
    · have := congrArg (List.drop (s.takeWhile M.isD).length) e
      rw [List.drop_left] at this
      rw [← h]
      exact this

theorem M.num_rest {s r : List UInt8} {v : Int} (h : M.num s = some (v, r)) : ∃ k, k ≤ s.length ∧ r = s.drop k := by
  by_cases hm : [45] <+: s
  · obtain ⟨s2, rfl⟩ := hm
    rw [List.singleton_append, M.num_minus] at h
    obtain ⟨k, k1, rfl⟩ := M.numG_rest h
    exact ⟨k + 1, by rw [List.singleton_append, List.length_cons]; omega, rfl⟩
  · rw [M.num_plain s hm] at h
    exact M.numG_rest h

/-- items holds, where values may be d deep within. -/
def ItemsOk (d q : Nat) : Prop := ∀ (bv : Value) (b : List UInt8) (w : World) (i : Nat) (c : UInt8), IsB w bv b → i < b.length → b.length ≤ 1099511627776 → b.drop i = c :: b.drop (i + 1) → (c = 91 ∨ c = 123) →
  Calls Tryz.prog 91 #[bv, .int .i64 (i : Int), .int .i64 (q : Int)] w (ValEnds w b i (d + 1) (M.itemsTop d c (b.drop (i + 1))))

theorem oneS (ao : Option Addr) (n c : Nat) : (Value.slice ao n c).oneCell' = true := rfl
theorem IsV.one {S : Nat → Prop} {w : World} {d : Nat} {cs : List Value} {g : M.GV} (h : IsV S w d cs g) : ∀ v ∈ cs, v.oneCell' = true := by
  cases d with
  | zero => exact h.elim
  | succ d =>
    obtain ⟨lv, mv, ls, ms, rfl, _, ⟨a1, c1, rfl, _⟩, _, _, ⟨a2, c2, rfl, _⟩, _⟩ := h
    intro v hv
    simp only [vcs, List.mem_cons, List.not_mem_nil, or_false] at hv
    rcases hv with rfl | rfl | rfl | rfl | rfl | rfl <;> rfl

theorem words_at {b : List UInt8} {j : Nat} {s : List UInt8} {n : Nat} (hn : n = b.length) (h : s <+: b.drop j) (hj : j ≤ n) : j + s.length ≤ n := by
  have := h.length_le
  rw [List.length_drop, ← hn] at this
  omega

set_option maxHeartbeats 16000000 in
theorem rvalue_any (d q : Nat) (hq : q + d = 16) (IT : ItemsOk d q) (bv : Value) (b : List UInt8) (w : World) (h : IsB w bv b) (i : Nat) (hi : i ≤ b.length) (hl : b.length ≤ 1099511627776) :
    Calls Tryz.prog 39 #[bv, .int .i64 (i : Int), .int .i64 (q : Int)] w (ValEnds w b i (d + 1) (M.val (d + 1) (b.drop i))) := by
  obtain ⟨W1, hW1⟩ : ∃ W, Hid (W = w.alloc (.cells #[.int .i64 0, .bool false, .int .i64 0, .string ⟨#[]⟩, .slice none 0 0, .slice none 0 0] 27)) := ⟨_, rfl⟩
  have HI1 : Hid (IsB W1 bv b) := by rw [Hid, hW1.out]; exact h.below ((Below.refl _ _).alloc (Nat.le_refl _) _)
  obtain ⟨g6, hg6⟩ : ∃ g, g = w.heap.size := ⟨_, rfl⟩
  have K1 : Hid (Below g6 w W1) := by rw [Hid, hW1.out, hg6]; exact (Below.refl _ _).alloc (Nat.le_refl _) _
  have GL1 : Hid (g6 < W1.heap.size) := by rw [Hid, hW1.out, hg6]; simp
  have B1 : Hid (Blk W1 g6 27 [.int .i64 0, .bool false, .int .i64 0, .string ⟨#[]⟩, .slice none 0 0, .slice none 0 0]) := by rw [Hid, hW1.out]; exact Blk.newAt _ _ _ _ _ hg6 rfl
  have CB := Lib.hid (rblanks_any bv b W1 HI1.out i hi hl)
  have HMS := Lib.hid (M.val_succ d (b.drop i))
  have hqi : (q : Int) ≤ 16 := by omega
  have hqn : ¬ (16 : Int) < (q : Int) := by omega
  have HG6 := Lib.hid hg6
  obtain ⟨n, hn⟩ : ∃ n, n = b.length := ⟨_, rfl⟩
  have HN := Lib.hid hn
  have HL := Lib.hid hl
  have HIT := Lib.hid IT
  rw [← hn] at hl
  have hnl : (n : Int) ≤ 1099511627776 := by omega
  obtain ⟨res, hres⟩ : ∃ r, r = M.val (d + 1) (b.drop i) := ⟨_, rfl⟩
  rw [← hres] at HMS ⊢
  clear h hi hl hn hq IT hres
  go_enter Tryz.func39, Tryz.ntmps39
  go_upto_region 1 with fail
  rw [← hW1.out, ← hg6]
  clear hg6 hW1
  go_wp2_with fail
  refine CB.out.mono ?_
  rintro e w2 ⟨j, rfl, h1, h2, h3, rfl⟩
  rw [← HN.out] at h2
  have HIJ := Lib.hid h1
  have HJN := Lib.hid h2
  rw [← h3] at HMS
  have hjl : (j : Int) ≤ 1099511627776 := by omega
  have CS1 := Lib.hid (rstands_any bv b M.wNull w2 HI1.out j (by rw [← HN.out]; exact h2) HL.out (by decide))
  clear h1 h2 h3 CB
  by_cases hs1 : M.wNull <+: b.drop j
  · have C2 : Hid (Calls Tryz.prog 90 #[bv, .int .i64 (j : Int), .string ⟨#[110, 117, 108, 108]⟩] w2 fun e w' => e = .returned (.bool true) ∧ Below w2.heap.size w2 w') := by
      rw [Hid]
      refine CS1.out.mono ?_
      rintro e w' ⟨rfl, k⟩
      exact ⟨by rw [decide_eq_true hs1], k⟩
    have HM : Hid (res = .ok M.vNull (b.drop (j + 4))) := by rw [Hid, HMS.out, M.valB_1 hs1, List.drop_drop]
    have HJ4 : Hid (j + 4 ≤ n) := words_at HN.out hs1 HJN.out
    clear hs1 CS1 HMS
    go_wp2_with fail
    refine C2.out.mono ?_
    rintro e w8 ⟨rfl, k8⟩
    have B8 := Lib.hid (B1.out.below k8 GL1.out)
    have K8 := Lib.hid (K1.out.trans (k8.mono (by have := GL1.out; omega)))
    clear k8 C2
    go_wp2_with (refine wpList_store_blk rfl 27 (.tmp 6) (.tmp 22) rfl g6 _ rfl rfl 27 _ B8.out Tryz.sizeV rfl (by decide) ?_; intro w9 hb9 ho9)
    exact bodyPost_ret (results_cell3 rfl _ _ g6 _ _ _ _ rfl hb9 Tryz.underlying27 rfl Tryz.sizeV) rfl (by rw [HM.out]; exact ⟨.slice none 0 0, .slice none 0 0, j + 4, rfl, IsV.leaf _ _ d 0 false 0 [], Nat.le_trans HIJ.out (Nat.le_add_right _ _), by rw [← HN.out]; exact HJ4.out, rfl, (by rw [← HG6.out]; exact K8.out.trans (ho9.below (by rw [HG6.out]; exact K8.out.size) (Nat.le_refl _)))⟩)
  have C2 : Hid (Calls Tryz.prog 90 #[bv, .int .i64 (j : Int), .string ⟨#[110, 117, 108, 108]⟩] w2 fun e w' => e = .returned (.bool false) ∧ Below w2.heap.size w2 w') := by
    rw [Hid]
    refine CS1.out.mono ?_
    rintro e w' ⟨rfl, k⟩
    exact ⟨by rw [decide_eq_false hs1], k⟩
  clear CS1
  go_wp2_with fail
  refine C2.out.mono ?_
  rintro e w3 ⟨rfl, k8⟩
  have B2 := Lib.hid (B1.out.below k8 GL1.out)
  have HI2 := Lib.hid (HI1.out.below k8)
  have GL2 : Hid (g6 < w3.heap.size) := Nat.lt_of_lt_of_le GL1.out k8.size
  have K2 := Lib.hid (K1.out.trans (k8.mono (by have := GL1.out; omega)))
  clear k8 C2
  have CS2 := Lib.hid (rstands_any bv b M.wTrue w3 HI2.out j (by rw [← HN.out]; exact HJN.out) HL.out (by decide))
  by_cases hs2 : M.wTrue <+: b.drop j
  · have C2 : Hid (Calls Tryz.prog 90 #[bv, .int .i64 (j : Int), .string ⟨#[116, 114, 117, 101]⟩] w3 fun e w' => e = .returned (.bool true) ∧ Below w3.heap.size w3 w') := by
      rw [Hid]
      refine CS2.out.mono ?_
      rintro e w' ⟨rfl, k⟩
      exact ⟨by rw [decide_eq_true hs2], k⟩
    have HM : Hid (res = .ok (M.vBool true) (b.drop (j + 4))) := by rw [Hid, HMS.out, M.valB_2 hs1 hs2, List.drop_drop]
    have HJ4 : Hid (j + 4 ≤ n) := words_at HN.out hs2 HJN.out
    clear hs1 hs2 CS2 HMS
    go_wp2_with fail
    refine C2.out.mono ?_
    rintro e w8 ⟨rfl, k8⟩
    have B8 := Lib.hid (B2.out.below k8 GL2.out)
    have K8 := Lib.hid (K2.out.trans (k8.mono (by have := GL2.out; omega)))
    clear k8 C2
    go_wp2_with (refine wpList_store_blk rfl 27 (.tmp 6) (.tmp 28) rfl g6 _ rfl rfl 27 _ B8.out Tryz.sizeV rfl (by decide) ?_; intro w9 hb9 ho9)
    exact bodyPost_ret (results_cell3 rfl _ _ g6 _ _ _ _ rfl hb9 Tryz.underlying27 rfl Tryz.sizeV) rfl (by rw [HM.out]; exact ⟨.slice none 0 0, .slice none 0 0, j + 4, rfl, IsV.leaf _ _ d 1 true 0 [], Nat.le_trans HIJ.out (Nat.le_add_right _ _), by rw [← HN.out]; exact HJ4.out, rfl, (by rw [← HG6.out]; exact K8.out.trans (ho9.below (by rw [HG6.out]; exact K8.out.size) (Nat.le_refl _)))⟩)
  have C2 : Hid (Calls Tryz.prog 90 #[bv, .int .i64 (j : Int), .string ⟨#[116, 114, 117, 101]⟩] w3 fun e w' => e = .returned (.bool false) ∧ Below w3.heap.size w3 w') := by
    rw [Hid]
    refine CS2.out.mono ?_
    rintro e w' ⟨rfl, k⟩
    exact ⟨by rw [decide_eq_false hs2], k⟩
  clear CS2
  go_wp2_with fail
  refine C2.out.mono ?_
  rintro e w4 ⟨rfl, k8⟩
  have B3 := Lib.hid (B2.out.below k8 GL2.out)
  have HI3 := Lib.hid (HI2.out.below k8)
  have GL3 : Hid (g6 < w4.heap.size) := Nat.lt_of_lt_of_le GL2.out k8.size
  have K3 := Lib.hid (K2.out.trans (k8.mono (by have := GL2.out; omega)))
  clear k8 C2
  have CS3 := Lib.hid (rstands_any bv b M.wFalse w4 HI3.out j (by rw [← HN.out]; exact HJN.out) HL.out (by decide))
  by_cases hs3 : M.wFalse <+: b.drop j
  · have C2 : Hid (Calls Tryz.prog 90 #[bv, .int .i64 (j : Int), .string ⟨#[102, 97, 108, 115, 101]⟩] w4 fun e w' => e = .returned (.bool true) ∧ Below w4.heap.size w4 w') := by
      rw [Hid]
      refine CS3.out.mono ?_
      rintro e w' ⟨rfl, k⟩
      exact ⟨by rw [decide_eq_true hs3], k⟩
    have HM : Hid (res = .ok (M.vBool false) (b.drop (j + 5))) := by rw [Hid, HMS.out, M.valB_3 hs1 hs2 hs3, List.drop_drop]
    have HJ4 : Hid (j + 5 ≤ n) := words_at HN.out hs3 HJN.out
    clear hs1 hs2 hs3 CS3 HMS
    go_wp2_with fail
    refine C2.out.mono ?_
    rintro e w8 ⟨rfl, k8⟩
    have B8 := Lib.hid (B3.out.below k8 GL3.out)
    have K8 := Lib.hid (K3.out.trans (k8.mono (by have := GL3.out; omega)))
    clear k8 C2
    go_wp2_with (refine wpList_store_blk rfl 27 (.tmp 6) (.tmp 34) rfl g6 _ rfl rfl 27 _ B8.out Tryz.sizeV rfl (by decide) ?_; intro w9 hb9 ho9)
    exact bodyPost_ret (results_cell3 rfl _ _ g6 _ _ _ _ rfl hb9 Tryz.underlying27 rfl Tryz.sizeV) rfl (by rw [HM.out]; exact ⟨.slice none 0 0, .slice none 0 0, j + 5, rfl, IsV.leaf _ _ d 1 false 0 [], Nat.le_trans HIJ.out (Nat.le_add_right _ _), by rw [← HN.out]; exact HJ4.out, rfl, (by rw [← HG6.out]; exact K8.out.trans (ho9.below (by rw [HG6.out]; exact K8.out.size) (Nat.le_refl _)))⟩)
  have C2 : Hid (Calls Tryz.prog 90 #[bv, .int .i64 (j : Int), .string ⟨#[102, 97, 108, 115, 101]⟩] w4 fun e w' => e = .returned (.bool false) ∧ Below w4.heap.size w4 w') := by
    rw [Hid]
    refine CS3.out.mono ?_
    rintro e w' ⟨rfl, k⟩
    exact ⟨by rw [decide_eq_false hs3], k⟩
  clear CS3
  go_wp2_with fail
  refine C2.out.mono ?_
  rintro e w5 ⟨rfl, k8⟩
  have B4 := Lib.hid (B3.out.below k8 GL3.out)
  have HI4 := Lib.hid (HI3.out.below k8)
  have GL4 : Hid (g6 < w5.heap.size) := Nat.lt_of_lt_of_le GL3.out k8.size
  have K4 := Lib.hid (K3.out.trans (k8.mono (by have := GL3.out; omega)))
  clear k8 C2
  have HMC : Hid (res = M.valC d (b.drop j)) := by rw [Hid, HMS.out, M.valB_4 hs1 hs2 hs3]
  clear hs1 hs2 hs3 HMS
  obtain ⟨ao, cap, rfl, _, hcap, _⟩ := HI4.out
  rw [← HN.out] at HI4 HI1 HI2 HI3 ⊢
  unfold maxLen at hcap
  have CN := Lib.hid (rnumber_any _ b w5 HI4.out j (by rw [← HN.out]; exact HJN.out) HL.out)
  have CT := Lib.hid (rtext_any _ b w5 HI4.out j (by rw [← HN.out]; exact HJN.out) HL.out)
  rw [← HN.out] at CN CT
  by_cases hjn : j < n
  · have b0 : decide ((j : Int) < (n : Int)) = true := decide_eq_true (by omega)
    have b0p : (j : Int) < (n : Int) := by omega
    obtain ⟨bk, off, rfl, hcs⟩ := HI4.out.cellAt (by rw [← HN.out]; omega)
    have c1 := hcs j (by rw [← HN.out]; exact hjn)
    obtain ⟨c, hc⟩ : ∃ c, c = b.getD j 0 := ⟨_, rfl⟩
    have HDK : Hid (b.drop j = c :: b.drop (j + 1)) := by rw [Hid, drop_cons64 (by rw [← HN.out]; exact hjn), ← hc]
    rw [← hc] at c1
    obtain ⟨x, hx⟩ : ∃ x, x = c.toNat := ⟨_, rfl⟩
    have hx8 : x < 256 := by rw [hx]; exact c.toNat_lt
    rw [← hx] at c1
    have HXC := Lib.hid hx
    have g2 : (0 : Int) ≤ (j : Int) := Int.natCast_nonneg j
    have g3 : ((j : Int)).toNat = j := Int.toNat_natCast j
    have HJL := Lib.hid hjn
    clear hc hx hjn hcs
    by_cases e91 : x = 91
    · have t1 : ((x : Int) == 91) = true := by simp [e91]
      have HC : Hid (c = 91 ∨ c = 123) := .inl (UInt8.toNat_inj.1 (HXC.out.symm.trans e91))
      clear e91
      have HMI : Hid (res = M.itemsTop d c (b.drop (j + 1))) := by rw [Hid, HMC.out, HDK.out, M.valC_items d c _ HC.out]
      obtain ⟨R, hR⟩ : ∃ R, R = M.itemsTop d c (b.drop (j + 1)) := ⟨_, rfl⟩
      have CI := Lib.hid (HIT.out _ b w5 j c HI4.out (by rw [← HN.out]; exact HJL.out) HL.out HDK.out HC.out)
      rw [← hR] at HMI CI
      clear hR HMC
      go_wp2_with fail
      refine CI.out.mono ?_
      intro e w8 hv
      have HV := Lib.hid hv
      clear hv
      cases R with
      | err k =>
        obtain ⟨rfl, hk0, k8⟩ := HV.out
        have HK0 := Lib.hid hk0
        clear hk0
        have HM := HMI
        have B8 := Lib.hid (B4.out.below k8 GL4.out)
        have K8 := Lib.hid (K4.out.trans (k8.mono (by have := GL4.out; omega)))
        clear k8
        go_wp2_with (refine wpList_store_blk rfl 27 (.tmp 6) (.tmp 59) rfl g6 _ rfl rfl 27 _ B8.out Tryz.sizeV rfl (by decide) ?_; intro w9 hb9 ho9)
        exact bodyPost_ret (results_cell3 rfl _ _ g6 _ _ _ _ rfl hb9 Tryz.underlying27 rfl Tryz.sizeV) rfl (by rw [HM.out]; exact ⟨rfl, HK0.out, (by rw [← HG6.out]; exact K8.out.trans (ho9.below (by rw [HG6.out]; exact K8.out.size) (Nat.le_refl _)))⟩)
      | ok v r =>
        obtain ⟨lv, mv, p, rfl, iv, p1, p2, p3, k8⟩ := HV.out
        have HM := HMI
        have IV := Lib.hid iv
        have P1 := Lib.hid p1
        have P2 := Lib.hid p2
        have P3 := Lib.hid p3
        have HG5 : Hid (g6 ≤ w5.heap.size) := Nat.le_of_lt GL4.out
        have B8 := Lib.hid (B4.out.below k8 GL4.out)
        have K8 := Lib.hid (K4.out.trans (k8.mono (by have := GL4.out; omega)))
        clear k8 iv p1 p2 p3
        go_wp2_with (refine wpList_store_blk rfl 27 (.tmp 6) (.tmp 59) rfl g6 _ rfl rfl 27 _ B8.out Tryz.sizeV rfl (by simpa using IV.out.one) ?_; intro w9 hb9 ho9)
        exact bodyPost_ret (results_cell3 rfl _ _ g6 _ _ _ _ rfl hb9 Tryz.underlying27 rfl Tryz.sizeV) rfl (by rw [HM.out]; exact ⟨lv, mv, p, rfl, IsV.mono (fun x _ hx => by rw [← HG6.out]; exact Nat.le_trans HG5.out hx) _ (IsV.chg (Chg.of_grown (F := fun x => x = g6) ho9 (fun k e => (Option.some.inj e).symm)) (fun x hx e => by have := GL4.out; rw [e] at hx; exact absurd hx (by omega)) _ IV.out), Nat.le_trans HIJ.out P1.out, P2.out, P3.out, (by rw [← HG6.out]; exact K8.out.trans (ho9.below (by rw [HG6.out]; exact K8.out.size) (Nat.le_refl _)))⟩)
    have t1 : ((x : Int) == 91) = false := by simp; omega
    by_cases e123 : x = 123
    · have t2 : ((x : Int) == 123) = true := by simp [e123]
      have HC : Hid (c = 91 ∨ c = 123) := .inr (UInt8.toNat_inj.1 (HXC.out.symm.trans e123))
      clear e91 e123
      have HMI : Hid (res = M.itemsTop d c (b.drop (j + 1))) := by rw [Hid, HMC.out, HDK.out, M.valC_items d c _ HC.out]
      obtain ⟨R, hR⟩ : ∃ R, R = M.itemsTop d c (b.drop (j + 1)) := ⟨_, rfl⟩
      have CI := Lib.hid (HIT.out _ b w5 j c HI4.out (by rw [← HN.out]; exact HJL.out) HL.out HDK.out HC.out)
      rw [← hR] at HMI CI
      clear hR HMC
      go_wp2_with fail
      refine CI.out.mono ?_
      intro e w8 hv
      have HV := Lib.hid hv
      clear hv
      cases R with
      | err k =>
        obtain ⟨rfl, hk0, k8⟩ := HV.out
        have HK0 := Lib.hid hk0
        clear hk0
        have HM := HMI
        have B8 := Lib.hid (B4.out.below k8 GL4.out)
        have K8 := Lib.hid (K4.out.trans (k8.mono (by have := GL4.out; omega)))
        clear k8
        go_wp2_with (refine wpList_store_blk rfl 27 (.tmp 6) (.tmp 59) rfl g6 _ rfl rfl 27 _ B8.out Tryz.sizeV rfl (by decide) ?_; intro w9 hb9 ho9)
        exact bodyPost_ret (results_cell3 rfl _ _ g6 _ _ _ _ rfl hb9 Tryz.underlying27 rfl Tryz.sizeV) rfl (by rw [HM.out]; exact ⟨rfl, HK0.out, (by rw [← HG6.out]; exact K8.out.trans (ho9.below (by rw [HG6.out]; exact K8.out.size) (Nat.le_refl _)))⟩)
      | ok v r =>
        obtain ⟨lv, mv, p, rfl, iv, p1, p2, p3, k8⟩ := HV.out
        have HM := HMI
        have IV := Lib.hid iv
        have P1 := Lib.hid p1
        have P2 := Lib.hid p2
        have P3 := Lib.hid p3
        have HG5 : Hid (g6 ≤ w5.heap.size) := Nat.le_of_lt GL4.out
        have B8 := Lib.hid (B4.out.below k8 GL4.out)
        have K8 := Lib.hid (K4.out.trans (k8.mono (by have := GL4.out; omega)))
        clear k8 iv p1 p2 p3
        go_wp2_with (refine wpList_store_blk rfl 27 (.tmp 6) (.tmp 59) rfl g6 _ rfl rfl 27 _ B8.out Tryz.sizeV rfl (by simpa using IV.out.one) ?_; intro w9 hb9 ho9)
        exact bodyPost_ret (results_cell3 rfl _ _ g6 _ _ _ _ rfl hb9 Tryz.underlying27 rfl Tryz.sizeV) rfl (by rw [HM.out]; exact ⟨lv, mv, p, rfl, IsV.mono (fun x _ hx => by rw [← HG6.out]; exact Nat.le_trans HG5.out hx) _ (IsV.chg (Chg.of_grown (F := fun x => x = g6) ho9 (fun k e => (Option.some.inj e).symm)) (fun x hx e => by have := GL4.out; rw [e] at hx; exact absurd hx (by omega)) _ IV.out), Nat.le_trans HIJ.out P1.out, P2.out, P3.out, (by rw [← HG6.out]; exact K8.out.trans (ho9.below (by rw [HG6.out]; exact K8.out.size) (Nat.le_refl _)))⟩)
    have t2 : ((x : Int) == 123) = false := by simp; omega
    by_cases e34 : x = 34
    · have t3 : ((x : Int) == 34) = true := by simp [e34]
      have HMT : Hid (res = M.valT (M.text (b.drop j))) := by rw [Hid, HMC.out, HDK.out, show c = 34 from UInt8.toNat_inj.1 (HXC.out.symm.trans e34), M.valC_text]
      clear e91 e123 e34 HMC
      cases hT : M.text (b.drop j) with
      | none =>
        rw [hT] at CT HMT
        have HM : Hid (res = .err 8) := HMT.out
        have HP : Hid (M.tP n none = -1) := rfl
        clear hT HMT
        go_wp2_with fail
        refine CT.out.mono ?_
        rintro e w8 ⟨rfl, k8⟩
        have B8 := Lib.hid (B4.out.below k8 GL4.out)
        have K8 := Lib.hid (K4.out.trans (k8.mono (by have := GL4.out; omega)))
        clear k8
        rw [HP.out]
        go_wp2_with (refine wpList_store_blk rfl 27 (.tmp 6) (.tmp 81) rfl g6 _ rfl rfl 27 _ B8.out Tryz.sizeV rfl (by decide) ?_; intro w9 hb9 ho9)
        exact bodyPost_ret (results_cell3 rfl _ _ g6 _ _ _ _ rfl hb9 Tryz.underlying27 rfl Tryz.sizeV) rfl (by rw [HM.out]; exact ⟨rfl, by decide, (by rw [← HG6.out]; exact K8.out.trans (ho9.below (by rw [HG6.out]; exact K8.out.size) (Nat.le_refl _)))⟩)
      | some pr =>
        obtain ⟨t, r⟩ := pr
        rw [hT] at CT HMT
        obtain ⟨k, k2, rfl⟩ : ∃ k, k ≤ (b.drop j).length ∧ r = (b.drop j).drop k := (by obtain ⟨k, _, k2, e⟩ := M.text_rest hT; exact ⟨k, k2, e⟩)
        rw [List.length_drop, ← HN.out] at k2
        obtain ⟨p, hp⟩ : ∃ p, p = j + k := ⟨_, rfl⟩
        have hpn : p ≤ n := by have := HJN.out; omega
        have hjp : j ≤ p := by omega
        rw [List.drop_drop, ← hp] at CT HMT
        have HM : Hid (res = .ok (M.vText t) (b.drop p)) := HMT.out
        have HP : Hid (M.tP n (some (t, b.drop p)) = (p : Int)) := by
          rw [Hid]
          show ((n - (b.drop p).length : Nat) : Int) = (p : Int)
          rw [List.length_drop, ← HN.out]
          congr 1
          omega
        have HPN := Lib.hid hpn
        have HJP := Lib.hid hjp
        have z1 : ¬ (p : Int) < 0 := by omega
        clear hT HMT hp hpn hjp k2
        go_wp2_with fail
        refine CT.out.mono ?_
        rintro e w8 ⟨rfl, k8⟩
        have B8 := Lib.hid (B4.out.below k8 GL4.out)
        have K8 := Lib.hid (K4.out.trans (k8.mono (by have := GL4.out; omega)))
        clear k8
        rw [HP.out]
        go_wp2_with (refine wpList_store_blk rfl 27 (.tmp 6) (.tmp 83) rfl g6 _ rfl rfl 27 _ B8.out Tryz.sizeV rfl (fun v hv => by change v ∈ [_, _, _, _, _, _] at hv; simp only [List.mem_cons, List.not_mem_nil, or_false] at hv; rcases hv with rfl | rfl | rfl | rfl | rfl | rfl <;> rfl) ?_; intro w9 hb9 ho9)
        exact bodyPost_ret (results_cell3 rfl _ _ g6 _ _ _ _ rfl hb9 Tryz.underlying27 rfl Tryz.sizeV) rfl (by rw [HM.out]; exact ⟨.slice none 0 0, .slice none 0 0, p, rfl, IsV.leaf _ _ d 3 false 0 t, Nat.le_trans HIJ.out HJP.out, by rw [← HN.out]; exact HPN.out, rfl, (by rw [← HG6.out]; exact K8.out.trans (ho9.below (by rw [HG6.out]; exact K8.out.size) (Nat.le_refl _)))⟩)
    have t3 : ((x : Int) == 34) = false := by simp; omega
    have HMT : Hid (res = M.valN (M.num (b.drop j))) := by
      rw [Hid, HMC.out, HDK.out, M.valC_num d c _ (fun e => e91 (by rw [HXC.out, e]; rfl)) (fun e => e123 (by rw [HXC.out, e]; rfl)) (fun e => e34 (by rw [HXC.out, e]; rfl))]
    clear e91 e123 e34 HMC
    cases hT : M.num (b.drop j) with
    | none =>
      rw [hT] at CN HMT
      have HM : Hid (res = .err 8) := HMT.out
      have HP : Hid (M.nP n none = -1) := rfl
      clear hT HMT
      go_wp2_with fail
      refine CN.out.mono ?_
      rintro e w8 ⟨rfl, rfl⟩
      have B8 := B4
      have K8 := K4
      rw [HP.out]
      go_wp2_with (refine wpList_store_blk rfl 27 (.tmp 6) (.tmp 93) rfl g6 _ rfl rfl 27 _ B8.out Tryz.sizeV rfl (by decide) ?_; intro w9 hb9 ho9)
      exact bodyPost_ret (results_cell3 rfl _ _ g6 _ _ _ _ rfl hb9 Tryz.underlying27 rfl Tryz.sizeV) rfl (by rw [HM.out]; exact ⟨rfl, by decide, (by rw [← HG6.out]; exact K8.out.trans (ho9.below (by rw [HG6.out]; exact K8.out.size) (Nat.le_refl _)))⟩)
    | some pr =>
      obtain ⟨t, r⟩ := pr
      rw [hT] at CN HMT
      obtain ⟨k, k2, rfl⟩ : ∃ k, k ≤ (b.drop j).length ∧ r = (b.drop j).drop k := M.num_rest hT
      rw [List.length_drop, ← HN.out] at k2
      obtain ⟨p, hp⟩ : ∃ p, p = j + k := ⟨_, rfl⟩
      have hpn : p ≤ n := by have := HJN.out; omega
      have hjp : j ≤ p := by omega
      rw [List.drop_drop, ← hp] at CN HMT
      have HM : Hid (res = .ok (M.vNum t) (b.drop p)) := HMT.out
      have HP : Hid (M.nP n (some (t, b.drop p)) = (p : Int)) := by
        rw [Hid]
        show ((n - (b.drop p).length : Nat) : Int) = (p : Int)
        rw [List.length_drop, ← HN.out]
        congr 1
        omega
      have HPN := Lib.hid hpn
      have HJP := Lib.hid hjp
      have z1 : ¬ (p : Int) < 0 := by omega
      clear hT HMT hp hpn hjp k2
      go_wp2_with fail
      refine CN.out.mono ?_
      rintro e w8 ⟨rfl, rfl⟩
      have B8 := B4
      have K8 := K4
      rw [HP.out]
      go_wp2_with (refine wpList_store_blk rfl 27 (.tmp 6) (.tmp 95) rfl g6 _ rfl rfl 27 _ B8.out Tryz.sizeV rfl (fun v hv => by change v ∈ [_, _, _, _, _, _] at hv; simp only [List.mem_cons, List.not_mem_nil, or_false] at hv; rcases hv with rfl | rfl | rfl | rfl | rfl | rfl <;> rfl) ?_; intro w9 hb9 ho9)
      exact bodyPost_ret (results_cell3 rfl _ _ g6 _ _ _ _ rfl hb9 Tryz.underlying27 rfl Tryz.sizeV) rfl (by rw [HM.out]; exact ⟨.slice none 0 0, .slice none 0 0, p, rfl, IsV.leaf _ _ d 2 false t [], Nat.le_trans HIJ.out HJP.out, by rw [← HN.out]; exact HPN.out, rfl, (by rw [← HG6.out]; exact K8.out.trans (ho9.below (by rw [HG6.out]; exact K8.out.size) (Nat.le_refl _)))⟩)
  · have b0 : decide ((j : Int) < (n : Int)) = false := decide_eq_false (by omega)
    have b0p : ¬ (j : Int) < (n : Int) := by omega
    have HMT : Hid (res = M.valN (M.num (b.drop j))) := by
      rw [Hid, HMC.out, List.drop_eq_nil_of_le (by rw [← HN.out]; omega), M.valC_nil]
    clear hjn HMC
    cases hT : M.num (b.drop j) with
    | none =>
      rw [hT] at CN HMT
      have HM : Hid (res = .err 8) := HMT.out
      have HP : Hid (M.nP n none = -1) := rfl
      clear hT HMT
      go_wp2_with fail
      refine CN.out.mono ?_
      rintro e w8 ⟨rfl, rfl⟩
      have B8 := B4
      have K8 := K4
      rw [HP.out]
      go_wp2_with (refine wpList_store_blk rfl 27 (.tmp 6) (.tmp 93) rfl g6 _ rfl rfl 27 _ B8.out Tryz.sizeV rfl (by decide) ?_; intro w9 hb9 ho9)
      exact bodyPost_ret (results_cell3 rfl _ _ g6 _ _ _ _ rfl hb9 Tryz.underlying27 rfl Tryz.sizeV) rfl (by rw [HM.out]; exact ⟨rfl, by decide, (by rw [← HG6.out]; exact K8.out.trans (ho9.below (by rw [HG6.out]; exact K8.out.size) (Nat.le_refl _)))⟩)
    | some pr =>
      obtain ⟨t, r⟩ := pr
      rw [hT] at CN HMT
      obtain ⟨k, k2, rfl⟩ : ∃ k, k ≤ (b.drop j).length ∧ r = (b.drop j).drop k := M.num_rest hT
      rw [List.length_drop, ← HN.out] at k2
      obtain ⟨p, hp⟩ : ∃ p, p = j + k := ⟨_, rfl⟩
      have hpn : p ≤ n := by have := HJN.out; omega
      have hjp : j ≤ p := by omega
      rw [List.drop_drop, ← hp] at CN HMT
      have HM : Hid (res = .ok (M.vNum t) (b.drop p)) := HMT.out
      have HP : Hid (M.nP n (some (t, b.drop p)) = (p : Int)) := by
        rw [Hid]
        show ((n - (b.drop p).length : Nat) : Int) = (p : Int)
        rw [List.length_drop, ← HN.out]
        congr 1
        omega
      have HPN := Lib.hid hpn
      have HJP := Lib.hid hjp
      have z1 : ¬ (p : Int) < 0 := by omega
      clear hT HMT hp hpn hjp k2
      go_wp2_with fail
      refine CN.out.mono ?_
      rintro e w8 ⟨rfl, rfl⟩
      have B8 := B4
      have K8 := K4
      rw [HP.out]
      go_wp2_with (refine wpList_store_blk rfl 27 (.tmp 6) (.tmp 95) rfl g6 _ rfl rfl 27 _ B8.out Tryz.sizeV rfl (fun v hv => by change v ∈ [_, _, _, _, _, _] at hv; simp only [List.mem_cons, List.not_mem_nil, or_false] at hv; rcases hv with rfl | rfl | rfl | rfl | rfl | rfl <;> rfl) ?_; intro w9 hb9 ho9)
      exact bodyPost_ret (results_cell3 rfl _ _ g6 _ _ _ _ rfl hb9 Tryz.underlying27 rfl Tryz.sizeV) rfl (by rw [HM.out]; exact ⟨.slice none 0 0, .slice none 0 0, p, rfl, IsV.leaf _ _ d 2 false t [], Nat.le_trans HIJ.out HJP.out, by rw [← HN.out]; exact HPN.out, rfl, (by rw [← HG6.out]; exact K8.out.trans (ho9.below (by rw [HG6.out]; exact K8.out.size) (Nat.le_refl _)))⟩)

end Go.Proofs.YtbgadfaiehkanaaGreatDoor
