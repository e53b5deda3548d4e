/-
  THE PROGRAM'S READER: number. Conditions: texts of up to 2^40 bytes; the library's variables lie as laid.
-/
import Derived.Test.YtbgadfaiehkanaaGreatDoorJsC5
import Derived.Lib.AppendIntMem
import Derived.Test.YtbgadfaiehkanaaGreatDoorPj6
namespace Go.Proofs.YtbgadfaiehkanaaGreatDoor
open Go.RowKit Go.Proofs Go.Shelf
set_option linter.unusedVariables false
set_option maxRecDepth 100000

def M.dmL : List UInt8 := [45, 48, 49, 50, 51, 52, 53, 54, 55, 56, 57]
def M.dm (c : UInt8) : Bool := M.dmL.contains c

theorem M.dm_all : ∀ X : Fin 256, M.dm (UInt8.ofNat X.val) = (decide (X.val = 45) || (decide (48 ≤ X.val) && decide (X.val ≤ 57))) := by decide +kernel
theorem M.dm_eq (c : UInt8) : M.dm c = (c == 45 || M.isD c) := by
  have := M.dm_all ⟨c.toNat, c.toNat_lt⟩
  simp only [UInt8.ofNat_toNat] at this
  rw [this]
  unfold M.isD
  congr 1
  rw [Bool.eq_iff_iff]
  simp only [decide_eq_true_eq, beq_iff_eq]
  exact ⟨fun h => UInt8.toNat_inj.1 h, fun h => by rw [h]; rfl⟩

theorem M.tw_append {p : UInt8 → Bool} (l r : List UInt8) (hl : ∀ c ∈ l, p c = true) (hr : ∀ c, r.head? = some c → p c = false) : (l ++ r).takeWhile p = l ∧ (l ++ r).dropWhile p = r := by
  induction l with
  | nil =>
    cases r with
    | nil => exact ⟨rfl, rfl⟩
    | cons c r =>
      have := hr c rfl
      simp [this]
  | cons a l ih =>
    have h1 := hl a (by simp)
    obtain ⟨h2, h3⟩ := ih (fun c hc => hl c (List.mem_cons_of_mem _ hc))
    simp [h1, h2, h3]
theorem M.dw_head {p : UInt8 → Bool} : ∀ (t : List UInt8) (c : UInt8), (t.dropWhile p).head? = some c → p c = false
  | [], c, h => by cases h
  | a :: t, c, h => by
    by_cases hc : p a = true
    · rw [List.dropWhile_cons_of_pos hc] at h
      exact M.dw_head t c h
    · rw [List.dropWhile_cons_of_neg hc] at h
      simp only [List.head?_cons, Option.some.injEq] at h
      rw [← h]
      simpa using hc

theorem M.itoa_dm (v : Int) : ∀ c ∈ Lib.itoa v, M.dm c = true := by
  intro c hc
  rw [M.dm_eq]
  unfold Lib.itoa at hc
  by_cases hn : v < 0
  · rw [if_pos hn] at hc
    rcases List.mem_cons.1 hc with rfl | hc
    · rfl
    · rw [(M.dec_facts _).1 c hc, Bool.or_true]
  · rw [if_neg hn] at hc
    rw [(M.dec_facts _).1 c hc, Bool.or_true]

theorem M.num2_yes {s : List UInt8} {n : Int} (h1 : n ≤ 9007199254740991) (h2 : -9007199254740991 ≤ n) (hp : Lib.itoa n = s.takeWhile M.dm) : M.num2 s = some (n, s.dropWhile M.dm) := by
  have hs := List.takeWhile_append_dropWhile (p := M.dm) (l := s)
  have hh := fun c h => M.dw_head (p := M.dm) s c h
  rw [← hp] at hs
  generalize s.dropWhile M.dm = q at hs hh ⊢
  have hd : ∀ c, q.head? = some c → M.isD c = false := fun c h => by
    have := hh c h
    rw [M.dm_eq, Bool.or_eq_false_iff] at this
    exact this.2
  unfold M.num2
  rw [← hs, M.num_itoa n h1 h2 q hd]
  dsimp only
  rw [if_neg]
  intro e
  have := hh 45 e
  rw [M.dm_eq] at this
  cases this

theorem M.num2_no {s : List UInt8} (h : ∀ n : Int, Lib.parseIntB 64 (s.takeWhile M.dm) = .ok n → n ≤ 9007199254740991 → -9007199254740991 ≤ n → Lib.itoa n ≠ s.takeWhile M.dm) : M.num2 s = none := by
  unfold M.num2
  cases hn : M.num s with
  | none => rfl
  | some p =>
    obtain ⟨n, r⟩ := p
    dsimp only
    by_cases h45 : r.head? = some 45
    · rw [if_pos h45]
    exfalso
    obtain ⟨e, h1, h2, h3⟩ := M.itoa_num hn
    have hr : ∀ c, r.head? = some c → M.dm c = false := fun c hc => by
      rw [M.dm_eq, h3 c hc, Bool.or_false]
      simp only [beq_eq_false_iff_ne]
      rintro rfl
      exact h45 hc
    have ht := (M.tw_append (p := M.dm) (Lib.itoa n) r (M.itoa_dm n) hr).1
    rw [← e] at ht
    refine h n ?_ h1 h2 ht.symm
    rw [ht]
    exact M.parse_itoa n h1 h2

/-- How strconv.ParseInt ends. -/
def IntEnds (o : Lib.NumEnd Int) (v : Value) : Prop :=
  match o with
  | .ok n => v = .tuple #[.int .i64 n, .nilIface]
  | _ => ∃ n e, v = .tuple #[.int .i64 n, e] ∧ SomeErr e

theorem parseInt_any (s : List UInt8) (w : World) (hl : s.length ≤ 1099511627776) (hL : JLaid w) :
    Calls Tryz.prog 169 #[.string ⟨s.toArray⟩, .int .i64 10, .int .i64 64] w fun e w' => (∃ v, e = .returned v ∧ IntEnds (Lib.parseIntB 64 s) v) ∧ Below w.heap.size w w' := by
  have hz : (⟨s.toArray⟩ : ByteArray).size = s.length := rfl
  cases h : Lib.parseIntB 64 s with
  | ok n =>
    refine (Any.strconv_ParseInt_10_at64_ok lay_lays174 ⟨s.toArray⟩ (by rw [hz]; omega) n h w).mono ?_
    rintro e w' ⟨rfl, rfl | ⟨t, rfl⟩⟩
    · exact ⟨⟨_, rfl, rfl⟩, Below.refl _ _⟩
    · exact ⟨⟨_, rfl, rfl⟩, Lib.bytesWorld_below _ _ _⟩
  | range =>
    obtain ⟨ev, h1, h2⟩ := hL.rang
    refine (Any.strconv_ParseInt_10_at64_range lay_lays174 ⟨s.toArray⟩ (by rw [hz]; omega) h ev w h1 h2).mono ?_
    rintro e w' ⟨N, rfl, _, _, k⟩
    exact ⟨⟨_, rfl, _, _, rfl, N, rfl⟩, k⟩
  | _ =>
    obtain ⟨ev, h1, h2⟩ := hL.synt
    refine (Any.strconv_ParseInt_10_at64_syntax lay_lays174 ⟨s.toArray⟩ (by rw [hz]; omega) h ev w h1 h2).mono ?_
    rintro e w' ⟨N, rfl, _, _, k⟩
    exact ⟨⟨_, rfl, _, _, rfl, N, rfl⟩, k⟩

theorem jfmt_any (n : Int) (h0 : -9223372036854775808 ≤ n) (h1 : n ≤ 9223372036854775807) (w : World) (hL : JLaid w) :
    Calls Tryz.prog 140 #[.int .i64 n, .int .i64 10] w fun e w' => e = .returned (.string ⟨(Lib.itoa n).toArray⟩) ∧ Below w.heap.size w w' :=
  (Any.strconv_FormatInt_10 lay_lays173 n h0 h1 w hL.pow).mono fun e w' ⟨h1, k, os, h2⟩ => ⟨h1, by rw [h2]; exact Lib.below_grow _ w (Nat.le_refl _) k os⟩

set_option maxHeartbeats 2000000 in
/-- number: a number's digits. -/
theorem digits_any (n : Int) (h0 : -9223372036854775808 ≤ n) (h1 : n ≤ 9223372036854775807) (w : World) (hL : JLaid w) :
    Calls Tryz.prog 101 #[.int .i64 n] w fun e w' => e = .returned (.string ⟨(Lib.itoa n).toArray⟩) ∧ Below w.heap.size w w' := by
  have HC := Lib.hid (jfmt_any n h0 h1 w hL)
  clear h0 h1 hL
  generalize (⟨(Lib.itoa n).toArray⟩ : ByteArray) = D at HC ⊢
  go_enter Tryz.func101, Tryz.ntmps101
  go_wp2_with fail
  refine HC.out.mono ?_
  rintro e w1 ⟨rfl, k1⟩
  go_wp2
  go_ret
  exact ⟨rfl, k1⟩

/-- How a number is read. -/
def NumEnds (w : World) (g : Nat) (o : Option (Int × List UInt8)) (e : Ending) (w' : World) : Prop :=
  match o with
  | some (v, r) => e = .returned (.int .i64 v) ∧ Reads w g r w'
  | none => e = BadP ∧ Chg (fun b => b = g) w w'

set_option maxHeartbeats 8000000 in
theorem number_any (g : Nat) (s : List UInt8) (w : World) (h : Rd w g s) (hl : s.length ≤ 1099511627776) (hL : JLaid w) (hg : 6 ≤ g) :
    Calls Tryz.prog 132 #[.pointer (some ⟨g, 0, none⟩)] w (NumEnds w g (M.num2 s)) := by
  obtain ⟨p, hp⟩ : ∃ p, p = s.takeWhile M.dm := ⟨_, rfl⟩
  obtain ⟨q, hq⟩ : ∃ q, q = s.dropWhile M.dm := ⟨_, rfl⟩
  have hs : p ++ q = s := by rw [hp, hq]; exact List.takeWhile_append_dropWhile
  have hlen : p.length + q.length = s.length := by rw [← hs, List.length_append]
  have HTR : Hid (∀ w1, Calls Tryz.prog 127 #[.string ⟨s.toArray⟩, .string ⟨#[45, 48, 49, 50, 51, 52, 53, 54, 55, 56, 57]⟩] w1 fun e w' => e = .returned (.string ⟨q.toArray⟩) ∧ Below w1.heap.size w1 w') := by
    intro w1
    rw [hq]
    exact jtrim_any s M.dmL w1 (by decide) (by decide)
  have HTK : Hid (∀ w1, Rd w1 g s → Calls Tryz.prog 168 #[.pointer (some ⟨g, 0, none⟩), .int .i64 ((p.length : Nat) : Int)] w1 fun e w' => e = .returned (.string ⟨p.toArray⟩) ∧ Reads w1 g q w') := by
    intro w1 h1
    have := take_yes g s p.length w1 h1 (by omega) hl
    rw [← hs, List.take_left, List.drop_left] at this
    exact this
  have HNO : Hid ((∀ n : Int, Lib.parseIntB 64 p = .ok n → n ≤ 9007199254740991 → -9007199254740991 ≤ n → Lib.itoa n ≠ p) → M.num2 s = none) := by rw [hp]; exact M.num2_no
  have HYES : Hid (∀ n : Int, n ≤ 9007199254740991 → -9007199254740991 ≤ n → Lib.itoa n = p → M.num2 s = some (n, q)) := by rw [hp, hq]; exact fun n h1 h2 h3 => M.num2_yes h1 h2 h3
  obtain ⟨S, hS⟩ : ∃ S : ByteArray, S = ⟨s.toArray⟩ := ⟨_, rfl⟩
  obtain ⟨Q, hQ⟩ : ∃ Q : ByteArray, Q = ⟨q.toArray⟩ := ⟨_, rfl⟩
  obtain ⟨D, hD⟩ : ∃ D : ByteArray, D = ⟨p.toArray⟩ := ⟨_, rfl⟩
  have zS : S.size = s.length := by rw [hS]; rfl
  have zQ : Q.size = q.length := by rw [hQ]; rfl
  have HCE : Hid (∀ w1, Rd w1 g s → w1.cell? ⟨g, 0, none⟩ = some (.string S)) := fun w1 h1 => by rw [hS]; exact h1.cell
  have HPI : Hid (∀ w1, JLaid w1 → Calls Tryz.prog 169 #[.string D, .int .i64 10, .int .i64 64] w1 fun e w' => (∃ v, e = .returned v ∧ IntEnds (Lib.parseIntB 64 p) v) ∧ Below w1.heap.size w1 w') := by
    intro w1 h1
    rw [hD]
    exact parseInt_any p w1 (by omega) h1
  rw [← hQ, ← hS] at HTR
  rw [← hD] at HTK
  have HD := Lib.hid hD
  have e1 : IntKind.i64.wrap ((S.size : Int) - (Q.size : Int)) = ((p.length : Nat) : Int) := by rw [IntKind.wrap_i64]; omega
  have HLT : Hid (g < w.heap.size) := h.lt
  have HL := Lib.hid hL
  have HR := Lib.hid h
  obtain ⟨m, hm⟩ : ∃ m, m = p.length := ⟨_, rfl⟩
  rw [← hm] at HTK e1
  obtain ⟨sz, hsz⟩ : ∃ z, z = S.size := ⟨_, rfl⟩
  have HSZ := Lib.hid hsz
  clear hS hQ hD zS zQ hs hlen hp hq h hl hL hm hsz
  obtain ⟨res, hres⟩ : ∃ r, r = M.num2 s := ⟨_, rfl⟩
  rw [← hres] at HNO HYES ⊢
  clear hres
  go_enter Tryz.func132, Tryz.ntmps132
  go_upto_region 1 with fail
  refine wp_region_any (by kernel_rfl) ?_
  change wpAny _ _ _ _ _ _ _ (World.drew _)
  refine wpAny_of_held (S := fun _ => True) _ _ _ _ ?_
  have S0 : True := trivial
  have c0 := HCE.out w.drew HR.out
  refine wpAnyH_take_at (i := 0) (v := .pointer (some ⟨g, 0, none⟩)) rfl rfl (by kernel_rfl) (by kernel_rfl) (by kernel_rfl) (fun _ _ _ h => h) (Or.inl ⟨by rfl, fun w hS => by go_simp⟩) S0 ?_
  try simp only [List.setIfInBounds_toArray, List.set_cons_zero, List.set_cons_succ]
  refine wpAnyH_take_at (i := 1) (v := .pointer (some ⟨g, 0, none⟩)) rfl rfl (by kernel_rfl) (by kernel_rfl) (by kernel_rfl) (fun _ _ _ h => h) (Or.inl ⟨by rfl, fun w hS => by go_simp⟩) S0 ?_
  try simp only [List.setIfInBounds_toArray, List.set_cons_zero, List.set_cons_succ]
  refine wpAnyH_take_at (i := 2) (v := .pointer (some ⟨g, 0, none⟩)) rfl rfl (by kernel_rfl) (by kernel_rfl) (by kernel_rfl) (fun _ _ _ h => h) (Or.inl ⟨by rfl, fun w hS => by go_simp⟩) S0 ?_
  try simp only [List.setIfInBounds_toArray, List.set_cons_zero, List.set_cons_succ]
  refine wpAnyH_take_at (i := 3) (v := .pointer (some ⟨g, 0, none⟩)) rfl rfl (by kernel_rfl) (by kernel_rfl) (by kernel_rfl) (fun _ _ _ h => h) (Or.inl ⟨by rfl, fun w hS => by go_simp⟩) S0 ?_
  try simp only [List.setIfInBounds_toArray, List.set_cons_zero, List.set_cons_succ]
  refine wpAnyH_take_at (i := 6) (v := .pointer (some ⟨g, 0, none⟩)) rfl rfl (by kernel_rfl) (by kernel_rfl) (by kernel_rfl) (fun _ _ _ h => h) (Or.inl ⟨by rfl, fun w hS => by go_simp⟩) S0 ?_
  try simp only [List.setIfInBounds_toArray, List.set_cons_zero, List.set_cons_succ]
  refine wpAnyH_take_at (i := 7) (v := .pointer (some ⟨g, 0, none⟩)) rfl rfl (by kernel_rfl) (by kernel_rfl) (by kernel_rfl) (fun _ _ _ h => h) (Or.inl ⟨by rfl, fun w hS => by go_simp⟩) S0 ?_
  try simp only [List.setIfInBounds_toArray, List.set_cons_zero, List.set_cons_succ]
  refine wpAnyH_take_at (i := 8) (v := .pointer (some ⟨g, 0, none⟩)) rfl rfl (by kernel_rfl) (by kernel_rfl) (by kernel_rfl) (fun _ _ _ h => h) (Or.inl ⟨by rfl, fun w hS => by go_simp⟩) S0 ?_
  try simp only [List.setIfInBounds_toArray, List.set_cons_zero, List.set_cons_succ]
  refine wpAnyH_ready (rs := [4, 9]) (by kernel_rfl) (by simp) ?_
  refine AllReadyH.cons rfl (fun K hK => ?_) (AllReadyH.cons rfl (fun K hK => ?_) AllReadyH.nil)
  go_simp
  refine hK.out _ _ S0 (fun _ => ?_)
  clear hK K
  refine wpAnyH_take_at (i := 5) (v := .int .i64 (S.size : Nat)) rfl rfl (by kernel_rfl) (by kernel_rfl) (by kernel_rfl) (fun _ _ _ h => h) (Or.inl ⟨by rfl, fun w hS => by go_simp⟩) S0 ?_
  try simp only [List.setIfInBounds_toArray, List.set_cons_zero, List.set_cons_succ]
  refine wpAnyH_ready (rs := [9]) (by kernel_rfl) (by simp) ?_
  refine AllReadyH.cons rfl (fun K hK => ?_) AllReadyH.nil
  go_simp
  refine hK.out _ _ S0 (fun _ => ?_)
  clear hK K
  refine wpAnyH_ready (rs := [10]) (by kernel_rfl) (by simp) ?_
  refine AllReadyH.cons rfl (fun K hK => ?_) AllReadyH.nil
  go_simp
  refine (HTR.out w.drew).mono ?_
  rintro e w1 ⟨rfl, k1⟩
  have K1 : Below w.heap.size w w1 := (drewN_below (Below.refl _ w) 1).trans (k1.mono (Nat.le_refl _))
  have S1 : Rd w1 g s := HR.out.below K1 HLT.out
  have c1 := HCE.out w1 S1
  refine hK.out _ _ S0 (fun _ => ?_)
  clear hK K k1
  refine wpAnyH_take_at (i := 11) (v := .int .i64 (Q.size : Nat)) rfl rfl (by kernel_rfl) (by kernel_rfl) (by kernel_rfl) (fun _ _ _ h => h) (Or.inl ⟨by rfl, fun w hS => by go_simp⟩) S0 ?_
  try simp only [List.setIfInBounds_toArray, List.set_cons_zero, List.set_cons_succ]
  refine wpAnyH_take_at (i := 12) (v := .int .i64 ((m : Nat) : Int)) rfl rfl (by kernel_rfl) (by kernel_rfl) (by kernel_rfl) (fun _ _ _ h => h) (Or.inl ⟨by rfl, fun w hS => by go_simp⟩) S0 ?_
  try simp only [List.setIfInBounds_toArray, List.set_cons_zero, List.set_cons_succ]
  refine wpAnyH_ready (rs := [13]) (by kernel_rfl) (by simp) ?_
  refine AllReadyH.cons rfl (fun K hK => ?_) AllReadyH.nil
  go_simp
  refine (HTK.out w1 S1).mono ?_
  rintro e w2 ⟨rfl, k2⟩
  have C2 := Lib.hid ((Chg.of_below (F := fun x => x = g) K1).go k2.2)
  have R2 := Lib.hid k2.1
  refine hK.out _ _ S0 (fun _ => ?_)
  clear hK K S1 k2 K1 c0 c1
  refine wpAnyH_take_at (i := 14) (v := .string D) rfl rfl (by kernel_rfl) (by kernel_rfl) (by kernel_rfl) (fun _ _ _ h => h) (Or.inl ⟨by rfl, fun w hS => by go_simp⟩) S0 ?_
  try simp only [List.setIfInBounds_toArray, List.set_cons_zero, List.set_cons_succ]
  refine wpAnyH_done (by kernel_rfl) ?_ _
  rotate_left
  go_simp
  refine hK.out _ _ S0 (fun _ => ?_)
  clear hK K
  refine wpAnyH_ready (rs := [4, 10]) (by kernel_rfl) (by simp) ?_
  refine AllReadyH.cons rfl (fun K hK => ?_) (AllReadyH.cons rfl (fun K hK => ?_) AllReadyH.nil)
  go_simp
  refine hK.out _ _ S0 (fun _ => ?_)
  clear hK K
  refine wpAnyH_take_at (i := 5) (v := .int .i64 (S.size : Nat)) rfl rfl (by kernel_rfl) (by kernel_rfl) (by kernel_rfl) (fun _ _ _ h => h) (Or.inl ⟨by rfl, fun w hS => by go_simp⟩) S0 ?_
  try simp only [List.setIfInBounds_toArray, List.set_cons_zero, List.set_cons_succ]
  refine wpAnyH_ready (rs := [10]) (by kernel_rfl) (by simp) ?_
  refine AllReadyH.cons rfl (fun K hK => ?_) AllReadyH.nil
  go_simp
  refine (HTR.out w.drew).mono ?_
  rintro e w1 ⟨rfl, k1⟩
  have K1 : Below w.heap.size w w1 := (drewN_below (Below.refl _ w) 1).trans (k1.mono (Nat.le_refl _))
  have S1 : Rd w1 g s := HR.out.below K1 HLT.out
  have c1 := HCE.out w1 S1
  refine hK.out _ _ S0 (fun _ => ?_)
  clear hK K k1
  refine wpAnyH_take_at (i := 11) (v := .int .i64 (Q.size : Nat)) rfl rfl (by kernel_rfl) (by kernel_rfl) (by kernel_rfl) (fun _ _ _ h => h) (Or.inl ⟨by rfl, fun w hS => by go_simp⟩) S0 ?_
  try simp only [List.setIfInBounds_toArray, List.set_cons_zero, List.set_cons_succ]
  refine wpAnyH_take_at (i := 12) (v := .int .i64 ((m : Nat) : Int)) rfl rfl (by kernel_rfl) (by kernel_rfl) (by kernel_rfl) (fun _ _ _ h => h) (Or.inl ⟨by rfl, fun w hS => by go_simp⟩) S0 ?_
  try simp only [List.setIfInBounds_toArray, List.set_cons_zero, List.set_cons_succ]
  refine wpAnyH_ready (rs := [13]) (by kernel_rfl) (by simp) ?_
  refine AllReadyH.cons rfl (fun K hK => ?_) AllReadyH.nil
  go_simp
  refine (HTK.out w1 S1).mono ?_
  rintro e w2 ⟨rfl, k2⟩
  have C2 := Lib.hid ((Chg.of_below (F := fun x => x = g) K1).go k2.2)
  have R2 := Lib.hid k2.1
  refine hK.out _ _ S0 (fun _ => ?_)
  clear hK K S1 k2 K1 c0 c1
  refine wpAnyH_take_at (i := 14) (v := .string D) rfl rfl (by kernel_rfl) (by kernel_rfl) (by kernel_rfl) (fun _ _ _ h => h) (Or.inl ⟨by rfl, fun w hS => by go_simp⟩) S0 ?_
  try simp only [List.setIfInBounds_toArray, List.set_cons_zero, List.set_cons_succ]
  refine wpAnyH_done (by kernel_rfl) ?_ _
  rotate_left
  go_simp
  refine (HTR.out w.drew).mono ?_
  rintro e w1 ⟨rfl, k1⟩
  have K1 : Below w.heap.size w w1 := (drewN_below (Below.refl _ w) 1).trans (k1.mono (Nat.le_refl _))
  have S1 : Rd w1 g s := HR.out.below K1 HLT.out
  have c1 := HCE.out w1 S1
  refine hK.out _ _ S0 (fun _ => ?_)
  clear hK K k1
  refine wpAnyH_take_at (i := 11) (v := .int .i64 (Q.size : Nat)) rfl rfl (by kernel_rfl) (by kernel_rfl) (by kernel_rfl) (fun _ _ _ h => h) (Or.inl ⟨by rfl, fun w hS => by go_simp⟩) S0 ?_
  try simp only [List.setIfInBounds_toArray, List.set_cons_zero, List.set_cons_succ]
  refine wpAnyH_ready (rs := [4]) (by kernel_rfl) (by simp) ?_
  refine AllReadyH.cons rfl (fun K hK => ?_) AllReadyH.nil
  go_simp
  refine hK.out _ _ S0 (fun _ => ?_)
  clear hK K
  refine wpAnyH_take_at (i := 5) (v := .int .i64 (S.size : Nat)) rfl rfl (by kernel_rfl) (by kernel_rfl) (by kernel_rfl) (fun _ _ _ h => h) (Or.inl ⟨by rfl, fun w hS => by go_simp⟩) S0 ?_
  try simp only [List.setIfInBounds_toArray, List.set_cons_zero, List.set_cons_succ]
  refine wpAnyH_take_at (i := 12) (v := .int .i64 ((m : Nat) : Int)) rfl rfl (by kernel_rfl) (by kernel_rfl) (by kernel_rfl) (fun _ _ _ h => h) (Or.inl ⟨by rfl, fun w hS => by go_simp⟩) S0 ?_
  try simp only [List.setIfInBounds_toArray, List.set_cons_zero, List.set_cons_succ]
  refine wpAnyH_ready (rs := [13]) (by kernel_rfl) (by simp) ?_
  refine AllReadyH.cons rfl (fun K hK => ?_) AllReadyH.nil
  go_simp
  refine (HTK.out w1 S1).mono ?_
  rintro e w2 ⟨rfl, k2⟩
  have C2 := Lib.hid ((Chg.of_below (F := fun x => x = g) K1).go k2.2)
  have R2 := Lib.hid k2.1
  refine hK.out _ _ S0 (fun _ => ?_)
  clear hK K S1 k2 K1 c0 c1
  refine wpAnyH_take_at (i := 14) (v := .string D) rfl rfl (by kernel_rfl) (by kernel_rfl) (by kernel_rfl) (fun _ _ _ h => h) (Or.inl ⟨by rfl, fun w hS => by go_simp⟩) S0 ?_
  try simp only [List.setIfInBounds_toArray, List.set_cons_zero, List.set_cons_succ]
  refine wpAnyH_done (by kernel_rfl) ?_ _
  all_goals
    have HL2 := Lib.hid (HL.out.reads C2.out hg)
    go_wp2_with fail
    refine (HPI.out w2 HL2.out).mono ?_
    rintro e w3 ⟨⟨v, rfl, hv⟩, k3⟩
    have C3 := Lib.hid (C2.out.go (Chg.of_below k3))
    have R3 := Lib.hid (R2.out.below k3 R2.out.lt)
    have HL3 := Lib.hid (HL2.out.below k3)
    clear k3
    have BAD : (∀ n : Int, Lib.parseIntB 64 p = .ok n → n ≤ 9007199254740991 → -9007199254740991 ≤ n → Lib.itoa n ≠ p) → Hid (res = none) := fun h => HNO.out h
    have HBAD := Lib.hid BAD
    clear BAD
    cases hp : Lib.parseIntB 64 p with
    | ok n =>
      rw [hp] at hv
      cases hv
      by_cases b1 : -9007199254740991 ≤ n
      · by_cases b2 : n ≤ 9007199254740991
        · have HF := Lib.hid (digits_any n (by omega) (by omega) w3 HL3.out)
          obtain ⟨X, hX⟩ : ∃ X : ByteArray, X = ⟨(Lib.itoa n).toArray⟩ := ⟨_, rfl⟩
          rw [← hX] at HF
          by_cases hx : Lib.itoa n = p
          · have hXD : X = D := by rw [hX, HD.out, hx]
            have HM : Hid (res = some (n, q)) := HYES.out n b2 b1 hx
            clear hp hx hX
            subst hXD
            have hXX : (X.toList != X.toList) = false := bne_self_eq_false X.toList
            go_wp2_with (first | (go_at_call 101; refine HF.out.mono ?_; rintro e w4 ⟨rfl, k4⟩; refine Hid.out ?_) | go_in)
            refine Lib.hid ?_
            have K4 := Lib.hid k4
            clear k4
            go_wp2
            go_ret
            show NumEnds _ _ _ _ _
            rw [HM.out]
            exact ⟨rfl, R3.out.below K4.out R3.out.lt, C3.out.go (Chg.of_below K4.out)⟩
          · have HM := HBAD.out (fun n2 h1 _ _ => by rw [hp] at h1; injection h1 with h1; rw [← h1]; exact hx)
            have hXX : (X.toList == D.toList) = false := by
              rw [hX, HD.out, Lib.toList_data, Lib.toList_data]
              simpa using hx
            clear hp hx hX
            go_wp2_with (first | (go_at_call 101; refine HF.out.mono ?_; rintro e w4 ⟨rfl, k4⟩; refine Hid.out ?_) | go_in)
            refine Lib.hid ?_
            have K4 := Lib.hid k4
            clear k4
            go_wp2
            refine ⟨rfl, ?_⟩
            rw [HM.out]
            exact ⟨rfl, C3.out.go (Chg.of_below K4.out)⟩
        · have HM := HBAD.out (fun n2 h1 h2 _ => by rw [hp] at h1; injection h1 with h1; omega)
          clear hp
          go_wp2
          refine ⟨rfl, ?_⟩
          rw [HM.out]
          exact ⟨rfl, C3.out⟩
      · have HM := HBAD.out (fun n2 h1 _ h2 => by rw [hp] at h1; injection h1 with h1; omega)
        clear hp
        go_wp2
        refine ⟨rfl, ?_⟩
        rw [HM.out]
        exact ⟨rfl, C3.out⟩
    | range =>
      have HM := HBAD.out (fun n2 h1 _ _ => by rw [hp] at h1; cases h1)
      rw [hp] at hv
      obtain ⟨n, ev, rfl, N, rfl⟩ := hv
      clear hp
      go_wp2
      refine ⟨rfl, ?_⟩
      rw [HM.out]
      exact ⟨rfl, C3.out⟩
    | _ =>
      have HM := HBAD.out (fun n2 h1 _ _ => by rw [hp] at h1; cases h1)
      rw [hp] at hv
      obtain ⟨n, ev, rfl, N, rfl⟩ := hv
      clear hp
      go_wp2
      refine ⟨rfl, ?_⟩
      rw [HM.out]
      exact ⟨rfl, C3.out⟩


end Go.Proofs.YtbgadfaiehkanaaGreatDoor
