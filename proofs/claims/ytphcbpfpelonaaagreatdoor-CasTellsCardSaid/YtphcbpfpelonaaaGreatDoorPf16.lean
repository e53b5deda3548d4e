/-
  TWO DISKS AND WHAT THEIR CALLS LEAVE ALONE (St2); lists of changes joined. Conditions: as each says.
  orloplaw10.WalTwice, under the journal's face: it returns true. Conditions: WalCalls, WalMath (proved of the code elsewhere).
  orloplaw10.WalPlain, under the journal's face: it returns true. Conditions: WalCalls, WalMath (proved of the code elsewhere).
-/
import Derived.Test.YtphcbpfpelonaaaGreatDoorPf15

namespace Go.Proofs.YtphcbpfpelonaaaGreatDoor
open Go.RowKit
set_option linter.unusedVariables false

/-- Two disks in memory of their own since w0, apart from each other, and what their calls leave alone. -/
def St2 (w0 w : World) (g : Nat) (m : M.Dsk) (h : Nat) (n : M.Dsk) (K : World → Prop) : Prop :=
  ∃ T S, CodeDk T w g m ∧ CodeDk S w h n ∧ (∀ k, T k → ¬ S k) ∧ (∀ k, T k → w0.heap.size ≤ k) ∧ (∀ k, S k → w0.heap.size ≤ k) ∧ Below w0.heap.size w0 w ∧ Keeps (fun k => T k ∨ S k) w K

section
variable {w0 w w' : World} {g h : Nat} {m m' n : M.Dsk} {K K' : World → Prop}

theorem Keeps.less {T S : Nat → Prop} (k : Keeps S w K) (h : ∀ j, T j → S j) : Keeps T w K := fun x c => k x (c.mono fun j _ hj => h j hj)

theorem St2.first (s : St2 w0 w g m h n K) : St w0 w g m K := by
  obtain ⟨T, S, d, e, p, t, u, b, k⟩ := s
  exact ⟨T, d, t, b, k.less fun _ h => .inl h⟩

theorem St2.swap (s : St2 w0 w g m h n K) : St2 w0 w h n g m K := by
  obtain ⟨T, S, d, e, p, t, u, b, k⟩ := s
  exact ⟨S, T, e, d, fun j a c => p j c a, u, t, b, k.less fun j h => h.symm⟩

theorem St2.below (s : St2 w0 w g m h n K) (c : Below w.heap.size w w') : St2 w0 w' g m h n K := by
  obtain ⟨T, S, d, e, p, t, u, b, k⟩ := s
  exact ⟨T, S, d.below c, e.below c, p, t, u, b.trans (c.mono b.size), k.below c⟩

theorem St2.mono (s : St2 w0 w g m h n K) (hK : ∀ x, K x → K' x) : St2 w0 w g m h n K' := by
  obtain ⟨T, S, d, e, p, t, u, b, k⟩ := s
  exact ⟨T, S, d, e, p, t, u, b, k.mono hK⟩

theorem St2.gain (s : St2 w0 w g m h n K) (c : Below w.heap.size w w') (gn : Gains w w' K K') : St2 w0 w' g m h n (fun x => K x ∧ K' x) := by
  obtain ⟨T, S, d, e, p, t, u, b, k⟩ := s
  exact ⟨T, S, d.below c, e.below c, p, t, u, b.trans (c.mono b.size), k.gain (fun j hj => by rcases hj with hj | hj; exact d.there j hj; exact e.there j hj) c gn⟩

/-- A second one beside the first. -/
theorem St.beside (s : St w0 w g m K) {S : Nat → Prop} (e : CodeDk S w' h n) (hs : ∀ k, S k → w.heap.size ≤ k) (c : Below w.heap.size w w') : St2 w0 w' g m h n K := by
  obtain ⟨T, d, t, b, k⟩ := s
  have hb := b.size
  refine ⟨T, S, d.below c, e, fun j a q => by have := d.there j a; have := hs j q; omega, t, fun j hj => by have := hs j hj; omega, b.trans (c.mono hb), fun x cx => k x ?_⟩
  exact (Chg.of_below c : Chg T w w').trans cx fun j hj q => by rcases q with q | q; exact q; have := hs j q; omega

theorem st2_new (s : St w0 w g m K) (q : Int) (hq : -9223372036854775808 ≤ q ∧ q < 9223372036854775808) :
    Calls Tryz.prog 8 #[.int .i64 q] w fun e w' => ∃ h, e = .returned (.pointer (some ⟨h, 0, none⟩)) ∧ St2 w0 w' g m h (M.dnew q.toNat) K :=
  (codeDk_new q hq w).mono fun e w' ⟨h, S, he, d, hs, c⟩ => ⟨h, he, s.beside d hs c⟩

/-- The first one's call. -/
theorem St2.op (s : St2 w0 w g m h n K) {f : Nat} {args : Array Value} {R : Ending → Prop}
    (call : ∀ T, CodeDk T w g m → (∀ k, T k → w0.heap.size ≤ k ∧ k < w.heap.size) → Keeps T w (fun x => K x ∧ Below w0.heap.size w0 x) →
      Calls Tryz.prog f args w fun e w' => R e ∧ Chg T w w' ∧ ∃ T', CodeDk T' w' g m' ∧ ∀ k, T' k → T k ∨ w.heap.size ≤ k) :
    Calls Tryz.prog f args w fun e w' => R e ∧ St2 w0 w' g m' h n K := by
  obtain ⟨T, S, d, e, p, t, u, b, k⟩ := s
  have hb := b.size
  refine (call T d (fun j hj => ⟨t j hj, d.there j hj⟩) ((k.less fun j h => .inl h).and fun x c => b.trans (c.below hb t))).mono ?_
  rintro e' w' ⟨r, c, T', d', ht⟩
  refine ⟨r, T', S, d', e.chg c (fun j a q => p j q a), fun j hj hs => ?_, fun j hj => ?_, u, b.trans (c.below hb t), k.next (c.mono fun j _ q => .inl q) fun j q => ?_⟩
  · rcases ht j hj with q | q
    · exact p j q hs
    · have := e.there j hs
      omega
  · rcases ht j hj with q | q
    · exact t j q
    · omega
  · rcases q with q | q
    · rcases ht j q with q | q
      · exact .inl (.inl q)
      · exact .inr q
    · exact .inl (.inr q)

end

section
variable {Ld : World → Prop} {Wl : World → Nat → Nat → Prop} {O : M.Dsk → M.Dsk × Int} {C : M.Dsk → M.CL → M.Dsk × Int} {Clean : List (List UInt8) → Prop} {Rec : List (List UInt8) → List (List UInt8)} {w0 w : World} {g h gw : Nat} {m n : M.Dsk} {K : World → Prop}

theorem St2.commit (W : WalCalls Ld Wl O C) (hL : Ld w0) (s : St2 w0 w g m h n K) (hk : ∀ x, K x → Wl x gw g) (h42 : 42 < m.safe.length) (hw : m.wait.length < 100000) (lv : Value) (l : M.CL) (xs : List Value) (hl : ∀ x, K x → IsCL x lv l xs) (hm : M.May (m.safe.length - 42) l) :
    Calls Tryz.prog 62 #[.pointer (some ⟨gw, 0, none⟩), lv] w fun e w' => e = .returned (.int .i64 (C m l).2) ∧ St2 w0 w' g (C m l).1 h n K :=
  s.op fun T d _ k => W.commit_yes d (k.mono fun x h => W.ld hL h.2) (k.mono fun x h => hk x h.1) h42 hw lv l xs (k.mono fun x h => hl x h.1) hm

/-- A new disk's journal beside another disk. -/
theorem St2.open_new (W : WalCalls Ld Wl O C) (X : WalMath O C Clean Rec) {s : List (List UInt8)} (hL : Ld w0) (st : St2 w0 w g (M.lit s 0) h n K) (h42 : 42 < s.length) :
    Calls Tryz.prog 25 #[.pointer (some ⟨g, 0, none⟩)] w fun e w' => ∃ gw s', e = .returned (.tuple #[.pointer (some ⟨gw, 0, none⟩), .int .i64 0]) ∧ St2 w0 w' g (M.lit s' 0) h n (fun x => K x ∧ Wl x gw g) ∧ s'.length = s.length ∧ s'.drop 42 = Rec s ∧ Clean s' := by
  have hok := st.first.okay
  obtain ⟨T, S, d, e, p, t, u, b, k⟩ := st
  have hb := b.size
  obtain ⟨s', e1, e2, e3, e4⟩ := X.opens s [] hok h42
  have hO : O (M.lit s 0) = (M.lit s' 0, 0) := e1
  refine (W.open_yes d (fun x c => W.ld hL (b.trans (c.below hb t))) h42 (by show 0 < 100000; decide)).mono ?_
  rintro e' w' ⟨c, T', d', ht, hh⟩
  rw [hO] at d' hh
  rcases hh with ⟨h0, gw, he, kw⟩ | ⟨h11, _⟩
  · refine ⟨gw, s', he, ⟨T', S, d', e.chg c (fun j a q => p j q a), fun j hj hs => ?_, fun j hj => ?_, u, b.trans (c.below hb t), (k.next (c.mono fun j _ q => .inl q) fun j q => ?_).and ?_⟩, e2, e3, e4⟩
    · rcases ht j hj with q | q
      · exact p j q hs
      · have := e.there j hs
        omega
    · rcases ht j hj with q | q
      · exact t j q
      · omega
    · rcases q with q | q
      · rcases ht j q with q | q
        · exact .inl (.inl q)
        · exact .inr q
      · exact .inl (.inr q)
    · exact kw _ fun j q => by
        rcases q with q | q
        · exact .inl q
        · exact .inr (.inl (e.there j q))
  · cases h11

end

theorem chcs_oneCell : ∀ (l : M.CL) (xs : List Value), (∀ u ∈ xs, u.oneCell' = true) → ∀ u ∈ chcs l xs, u.oneCell' = true
  | [], _, _, u, hu => by cases hu
  | _ :: _, [], _, u, hu => by cases hu
  | c :: l, x :: xs, h, u, hu => by
    rw [chcs] at hu
    rcases List.mem_cons.1 hu with rfl | hu
    · rfl
    · rcases List.mem_cons.1 hu with rfl | hu
      · exact h _ (List.mem_cons_self ..)
      · exact chcs_oneCell l xs (fun v hv => h v (List.mem_cons_of_mem _ hv)) u hu

theorem IsCL.cells {w : World} {ad : Addr} {n c : Nat} {l : M.CL} {xs : List Value} (h : IsCL w (.slice (some ad) n c) l xs) : (∀ j u, (chcs l xs)[j]? = some u → w.cell? (ad.add j) = some u) ∧ (∀ u ∈ chcs l xs, u.oneCell' = true) ∧ (chcs l xs).length = l.length * 2 := by
  obtain ⟨ao, cap, e, h1, h2, h3, h4, h5⟩ := h
  injection e with e1 e2 e3
  have hlen := chcs_length l xs h3
  refine ⟨fun j u hj => ?_, chcs_oneCell _ _ fun u hu => ?_, hlen⟩
  · have hlt := (List.getElem?_eq_some_iff.1 hj).1
    obtain ⟨b, off, rfl, hc⟩ := h5.resolve_left (fun e => by rw [hlen, e] at hlt; exact absurd hlt (by simp))
    injection e1 with e1
    subst e1
    have hi : j / 2 < l.length := by omega
    obtain ⟨c0, c1⟩ := hc _ hi
    obtain ⟨g0, g1⟩ := chcs_get l xs _ h3 hi
    rw [Addr.add_mid]
    by_cases hp : j % 2 = 0
    · have e : j = j / 2 * 2 := by omega
      rw [e, g0] at hj
      injection hj with hj
      rw [e, ← hj]
      exact c0
    · have e : j = j / 2 * 2 + 1 := by omega
      rw [e, g1] at hj
      injection hj with hj
      rw [e, ← hj, ← Nat.add_assoc]
      exact c1
  · obtain ⟨i, hi, rfl⟩ := List.mem_iff_getElem.1 hu
    obtain ⟨xa, xc, ex⟩ := (h4 i (by omega)).1.shape
    rw [List.getD_eq_getElem?_getD, List.getElem?_eq_getElem hi] at ex
    simp only [Option.getD_some] at ex
    rw [ex]
    rfl

/-- 'append(l, k...)' of changes. -/
theorem wpList_app_cl (w : World) {ops : Array Oper} {rest : List Oper} {o : Oper} {a : Act} {Q : Exit → Act → World → Prop} (hg : o.guard = none) (s x : Operand)
    (ho : o.op = .call { callee := .builtin .append, args := #[s, x], argTypes := #[117, 117] })
    (B : Nat) (v : Value) (l : M.CL) (xs : List Value) (hs : a.eval s = v) (hown : w.ownsRow B 146 2 v l.length (chcs l xs)) (hl : xs.length = l.length) (sv : Value) (k : M.CL) (ys : List Value) (hx : a.eval x = sv) (hi : IsCL w sv k ys)
    (hnil : ∀ n c, sv = .slice none n c → c = 0) (hm : l.length + k.length ≤ 1000000) (hB : B ≤ w.heap.size)
    (h : ∀ v' w', w'.ownsRow B 146 2 v' (l ++ k).length (chcs (l ++ k) (xs ++ ys)) → w.grownBy w' v.ownBlock → (v'.ownBlock = v.ownBlock ∨ v'.ownBlock = some w.heap.size) → wpList Tryz.prog ops Q rest (a.put o.dst v') w') : wpList Tryz.prog ops Q (o :: rest) a w := by
  have hi' := hi
  obtain ⟨ao, cap, rfl, h1, h2, h3, h4, h5⟩ := hi
  cases ao with
  | none =>
    have hk : k = [] := by
      rcases h5 with h | ⟨b, off, e, _⟩
      · exact h
      · cases e
    subst hk
    have hc := hnil _ _ rfl
    subst hc
    have hys : ys = [] := List.length_eq_zero_iff.1 h3
    subst hys
    obtain ⟨hu, hin, hz, h0⟩ := change10
    obtain ⟨i0, hi0, hz0, hz1, hz2⟩ := info_any hin
    refine wpList_append_own_none hg s x _ ho B 146 i0 2 hu hi0 v l.length _ hs hown hx (h _ _ ?_ (World.grownBy.refl _ _) (.inl rfl))
    rw [List.append_nil, List.append_nil]
    exact hown
  | some ad =>
    obtain ⟨hc, ho1, hlen⟩ := hi'.cells
    refine wpList_app_row change10 w hg s x ho B v l.length _ hs hown ad k.length cap (chcs k ys) hx hlen hc ho1 (by unfold maxLen; omega) (by omega) hB ?_
    intro v' w' o1 g1 a1
    refine h v' w' ?_ g1 a1
    rw [List.length_append, chcs_append _ _ _ _ hl]
    exact o1

theorem getD_app {α : Type} (l r : List α) (i : Nat) (d : α) : (l ++ r).getD i d = if i < l.length then l.getD i d else r.getD (i - l.length) d := by
  rw [List.getD_eq_getElem?_getD, List.getElem?_append]
  split
  · rw [List.getD_eq_getElem?_getD]
  · rw [List.getD_eq_getElem?_getD]

/-- Changes joined, as they last. -/
theorem cl_joined {w w' : World} {v lv kv : Value} {l k : M.CL} {xs ys : List Value} {B : Nat} (hB : w.heap.size ≤ B) (o : w'.ownsRow B 146 2 v (l ++ k).length (chcs (l ++ k) (xs ++ ys))) :
    Gains w w' (fun x => IsCL x lv l xs ∧ IsCL x kv k ys) (fun x => IsCL x v (l ++ k) (xs ++ ys)) := by
  rintro F x c hf ⟨⟨_, _, _, _, _, a3, a4, _⟩, _, _, _, _, _, b3, b4, _⟩
  have o' : x.ownsRow B 146 2 v (l ++ k).length (chcs (l ++ k) (xs ++ ys)) := own_chg o c fun b hb h => by
    have h1 := o.lt b hb
    have h2 := hf b h
    omega
  refine cl_of_row o' (by rw [List.length_append, List.length_append, a3, b3]) fun i hi => ?_
  rw [getD_app, getD_app, a3]
  rw [List.length_append] at hi
  by_cases hlt : i < l.length
  · rw [if_pos hlt, if_pos hlt]
    exact a4 i hlt
  · rw [if_neg hlt, if_neg hlt]
    exact b4 _ (by omega)

theorem OwnCL.nil0 {w : World} {B : Nat} {v : Value} {l : M.CL} {xs : List Value} (h : OwnCL w B v l xs) : ∀ n c, v = .slice none n c → c = 0 := by
  intro n c e
  rcases h.row.2 with ⟨e2, _⟩ | ⟨g, cap, cur, e2, _⟩
  · rw [e2] at e
    injection e with _ _ e
    exact e.symm
  · rw [e2] at e
    injection e with e
    cases e

end Go.Proofs.YtphcbpfpelonaaaGreatDoor

namespace Go.Proofs.YtphcbpfpelonaaaGreatDoor
open Go.RowKit
set_option linter.unusedVariables false

namespace M
theorem seen_twice (i : Nat) : ∀ (c : List (Nat × List UInt8)) (b : List UInt8), seen i (seen i b c) c = seen i b c
  | [], _ => rfl
  | x :: c, b => by
    rw [seen, seen]
    by_cases h : x.1 = i
    · rw [if_pos h, if_pos h]
    · rw [if_neg h, if_neg h]
      exact seen_twice i c b

theorem laid_twice (s : List (List UInt8)) (c : List (Nat × List UInt8)) : laid (laid s c) c = laid s c := by
  apply List.ext_getElem
  · rw [laid_len]
  · intro i h1 h2
    have hi : i < s.length := by rwa [laid_len] at h2
    have e1 := laid_get i c (laid s c) (by rw [laid_len]; exact hi)
    have e2 := laid_get i c s hi
    rw [e2, seen_twice, ← e2, List.getD_eq_getElem?_getD, List.getD_eq_getElem?_getD, List.getElem?_eq_getElem h1, List.getElem?_eq_getElem h2] at e1
    exact e1

theorem done_laid (l : CL) : ∀ L : List (List UInt8), done L l = laid L (l.map fun c => (c.1.toNat, c.2)) := by
  induction l with
  | nil => intro L; rfl
  | cons y l ih => intro L; exact ih _

theorem done_twice (L : List (List UInt8)) (l : CL) : done (done L l) l = done L l := by rw [done_laid, done_laid, laid_twice]

theorem May.append {n : Nat} {l k : CL} (h : May n l) (h' : May n k) (hl : l.length + k.length ≤ 40) : May n (l ++ k) :=
  ⟨by rw [List.length_append]; exact hl, fun c hc => by rcases List.mem_append.1 hc with hc | hc; exact h.2 c hc; exact h'.2 c hc⟩
end M

theorem Blk.all {w : World} {g : Nat} {t : TypeId} {cs : List Value} (h : Blk w g t cs) : w.rangeAt g 0 cs := h.range 0 cs [] (by simp)

section
variable {Ld : World → Prop} {Wl : World → Nat → Nat → Prop} {O : M.Dsk → M.Dsk × Int} {C : M.Dsk → M.CL → M.Dsk × Int} {Clean : List (List UInt8) → Prop} {Rec : List (List UInt8) → List (List UInt8)}

/-- A commit that fits, on a settled journal whose power isn't armed. -/
theorem WalMath.done0 (X : WalMath O C Clean Rec) {s : List (List UInt8)} {l : M.CL} (hok : (M.lit s 0).Ok) (h42 : 42 < s.length) (hc : Clean s) (hm : M.May (s.length - 42) l) :
    ∃ s', C (M.lit s 0) l = (M.lit s' 0, 0) ∧ s'.length = s.length ∧ s'.drop 42 = M.done (s.drop 42) l ∧ Clean s' := by
  rcases X.commits s 0 l hok h42 hc hm with ⟨h0, s2, k2, e1, hk, e2, e3, e4⟩ | ⟨_, hne, _⟩
  · obtain rfl : k2 = 0 := by omega
    exact ⟨s2, Prod.ext e1 h0, e2, e3, e4⟩
  · exact absurd rfl hne

end

end Go.Proofs.YtphcbpfpelonaaaGreatDoor

namespace Go.Proofs.YtphcbpfpelonaaaGreatDoor
open Go.RowKit
set_option linter.unusedVariables false

namespace M
theorem shows_idle (s : List (List UInt8)) (c : List (Nat × List UInt8)) : (idle s c).shows = (laid s c).drop 42 := by
  apply List.ext_getElem
  · rw [shows_len, List.length_drop, laid_len]; rfl
  · intro i h1 h2
    have h3 : 42 + i < s.length := by rw [List.length_drop, laid_len] at h2; omega
    have h4 : 42 + i < (laid s c).length := by rw [laid_len]; exact h3
    have e : (idle s c).read (42 + i) = (laid s c).getD (42 + i) [] := by rw [laid_get _ _ _ h3]; rfl
    rw [List.getElem_drop]
    simp only [Dsk.shows, List.getElem_map, List.getElem_range, e, List.getD_eq_getElem?_getD, List.getElem?_eq_getElem h4, Option.getD_some]

theorem laid_add (s : List (List UInt8)) (c : List (Nat × List UInt8)) (i : Nat) (b : List UInt8) : (laid s (c ++ [(42 + i, b)])).drop 42 = ((laid s c).drop 42).set i b := by
  rw [laid_snoc]
  apply List.ext_getElem?
  intro j
  rw [List.getElem?_drop, List.getElem?_set, List.getElem?_set, List.getElem?_drop, List.length_drop]
  by_cases h : i = j
  · subst h
    rw [if_pos rfl, if_pos rfl]
    by_cases h2 : 42 + i < (laid s c).length
    · rw [if_pos h2, if_pos (by omega)]
    · rw [if_neg h2, if_neg (by omega)]
  · rw [if_neg h, if_neg (by omega)]

theorem may_one (n : Nat) (c : Int × List UInt8) : May n [c] ↔ Fits n c := by
  constructor
  · intro h; exact h.2 c (List.mem_cons_self ..)
  · intro h; exact ⟨by show 1 ≤ 40; decide, fun d hd => by rcases List.mem_cons.1 hd with rfl | hd; exact h; cases hd⟩
end M

theorem IsCL.at_ {w : World} {b off n cap : Nat} {l : M.CL} {xs : List Value} (h : IsCL w (.slice (some ⟨b, off, none⟩) n cap) l xs) (i : Nat) (hi : i < l.length) :
    w.cell? ⟨b, off + i * 2, none⟩ = some (.int .i64 (l.getD i (0, [])).1) ∧ w.cell? ⟨b, off + i * 2 + 1, none⟩ = some (xs.getD i undef) := by
  obtain ⟨ao, c, e, h1, h2, h3, h4, h5⟩ := h
  injection e with e1 e2 e3
  obtain ⟨b', off', e', hc⟩ := h5.resolve_left (fun e => by rw [e] at hi; cases hi)
  rw [← e1] at e'
  injection e' with e'
  injection e' with a1 a2 a3
  subst a1 a2
  exact hc i hi

theorem IsCL.row_ {w : World} {v : Value} {l : M.CL} {xs : List Value} (h : IsCL w v l xs) (i : Nat) (hi : i < l.length) :
    IsB w (xs.getD i undef) (l.getD i (0, [])).2 ∧ (∀ n c, xs.getD i undef = .slice none n c → c = 0) ∧ -9223372036854775808 ≤ (l.getD i (0, [])).1 ∧ (l.getD i (0, [])).1 < 9223372036854775808 := by
  obtain ⟨ao, c, e, h1, h2, h3, h4, h5⟩ := h
  exact h4 i hi

theorem IsCL.caps {w : World} {ao : Option Addr} {n cap : Nat} {l : M.CL} {xs : List Value} (h : IsCL w (.slice ao n cap) l xs) : n = l.length ∧ n ≤ cap ∧ cap ≤ maxLen ∧ (l ≠ [] → ∃ b off, ao = some ⟨b, off, none⟩) := by
  obtain ⟨ao', c, e, h1, h2, h3, h4, h5⟩ := h
  injection e with e1 e2 e3
  subst e1 e3
  refine ⟨e2, by omega, h2, fun hn => ?_⟩
  rcases h5 with h | ⟨b, off, e, _⟩
  · exact absurd h hn
  · exact ⟨b, off, e⟩

/-- One change of a list, as a list. -/
theorem IsCL.one {w : World} {b off n cap : Nat} {l : M.CL} {xs : List Value} (h : IsCL w (.slice (some ⟨b, off, none⟩) n cap) l xs) (i : Nat) (hi : i < l.length) (c : Nat) (hc1 : 1 ≤ c) (hc2 : c ≤ maxLen) :
    IsCL w (.slice (some ⟨b, off + i * 2, none⟩) 1 c) [l.getD i (0, [])] [xs.getD i undef] := by
  refine ⟨_, c, rfl, hc1, hc2, rfl, fun j hj => ?_, .inr ⟨b, off + i * 2, rfl, fun j hj => ?_⟩⟩
  · match j, hj with
    | 0, _ => exact h.row_ i hi
  · match j, hj with
    | 0, _ => exact h.at_ i hi

theorem step_down {N j : Nat} (h : j < N) : N - (((j + 1 : Nat) : Int)).toNat < N - ((j : Int)).toNat := by
  rw [Int.toNat_natCast, Int.toNat_natCast]
  omega

section
variable {Ld : World → Prop} {Wl : World → Nat → Nat → Prop} {O : M.Dsk → M.Dsk × Int} {C : M.Dsk → M.CL → M.Dsk × Int} {Clean : List (List UInt8) → Prop} {Rec : List (List UInt8) → List (List UInt8)}

end

end Go.Proofs.YtphcbpfpelonaaaGreatDoor
