/-
  FROM AN ARGUMENT's READING TO 'IsBB': a slice of slices of bytes that came in. Conditions: none.
-/
import Derived.Test.YtaageadgkncjjaaDoorOpen
import Derived.Test.YtaageadgkncjjaaDoorLawPartsWalk
import Derived.Deep.Matrix
import Derived.SizedLaws
namespace Go.Proofs.YtaageadgkncjjaaDoor
open Go.RowKit
set_option linter.unusedVariables false

theorem weightsAll_mem {H : Type} {P : Program} {e : TypeId} : ∀ {l : List (DataW H)} {d : DataW H}, d ∈ l → ∀ n ∈ d.weights P e, n ∈ DataW.weightsAll P e l
  | d0 :: r, d, hd, n, hn => by
    simp only [DataW.weightsAll, List.mem_append]
    rcases List.mem_cons.1 hd with rfl | h
    · exact Or.inl hn
    · exact Or.inr (weightsAll_mem h n hn)

/-- The form's own reach, of a row inside a slice of slices. -/
theorem sized_inner {H : Type} {P : Program} {ts : List TypeId} {ds : List (DataW H)} (h : (DataW.weightsEach P ts ds).all (· ≤ reachBytes) = true) {j : Nat} {t e q : TypeId} {elems spare e' sp' : List (DataW H)}
    (ht : ts[j]? = some t) (hd : ds[j]? = some (.slice elems spare)) (hu : P.underlying t = some (.slice e)) (hu2 : P.underlying e = some (.slice q)) (hx : DataW.slice e' sp' ∈ elems) : (e'.length + sp'.length) * P.bytesOf q ≤ reachBytes := by
  refine of_decide_eq_true (List.all_eq_true.1 h _ (DataW.weights_mem_each ht hd _ ?_))
  simp only [DataW.weights, hu, List.mem_cons, List.mem_append]
  exact Or.inr (Or.inl (weightsAll_mem hx _ (by simp [DataW.weights, hu2])))

theorem isBB_of_trod {H : Type} {enc : TypeId × Value → H} {W : World} {held : Bool} {fuel : Nat} {cs : List Value} {a : Option Addr} {len cap : Nat} {d : DataW H} {p : List MemPlace}
    (hf : DataW.trod enc Tryd.prog W 0 (fun _ => true) held fuel 27 cs = some (d, p)) (hcs : cs = [.slice a len cap]) (hsz : (DataW.weightsEach Tryd.prog [27] [d]).all (· ≤ reachBytes) = true) : ∃ ls, IsBB W (.slice a len cap) ls := by
  rcases Deep.open_int_rows Tryd.underlying27 Tryd.underlying22 Tryd.underlying5 (by kernel_rfl) (by kernel_rfl) hf with ⟨e, _⟩ | ⟨x, l, c, A, L, C, Z, e, _, hl, hm, hx, hrow⟩
  · rw [hcs] at e
    simp at e
    obtain ⟨rfl, rfl, rfl⟩ := e
    exact ⟨[], none, 0, rfl, Nat.zero_le _, .inl rfl⟩
  · rw [hcs] at e
    simp at e
    obtain ⟨rfl, rfl, rfl⟩ := e
    simp only [Prod.mk.injEq] at hx
    obtain ⟨rfl, _⟩ := hx
    have b1 : Tryd.prog.bytesOf 5 = 1 := by kernel_rfl
    have each : ∀ r, r < len → ∃ bs : List UInt8, bs.length = L r ∧ IsB W (.slice (A r) (L r) (C r)) bs ∧ bs.length ≤ 140737488355328 ∧ ∀ n c, Value.slice (A r) (L r) (C r) = .slice none n c → c = 0 := by
      intro r hr
      obtain ⟨_, hlc, hcm, hzl, hwz, hnone, hsome⟩ := hrow r (by omega)
      cases hA : A r with
      | none =>
        have h0 : C r = 0 := hnone hA
        have h1 : L r = 0 := by omega
        refine ⟨[], h1.symm, by rw [h1, h0]; exact IsB.nil W, by simp, fun n c e => ?_⟩
        injection e with _ _ e3
        omega
      | some a' =>
        obtain ⟨_, hcell⟩ := hsome a' hA
        obtain ⟨bs, hbl, hb⟩ := isB_of_ints (w := W) (x := a') (zs := Z r) hlc hcm hzl (fun i hi => hcell i (by omega)) hwz
        have hin := sized_inner hsz (j := 0) (t := 27) (e := 22) (q := 5) (e' := ChangeShapes.lits .u8 ((Z r).take (L r))) (sp' := ChangeShapes.lits .u8 ((Z r).drop (L r))) rfl rfl Tryd.underlying27 Tryd.underlying22
          (List.mem_map.2 ⟨r, List.mem_range.2 hr, by rw [hA]; rfl⟩)
        rw [b1] at hin
        simp only [ChangeShapes.lits, List.length_map, List.length_take, List.length_drop, reachBytes] at hin
        refine ⟨bs, hbl, hb, by omega, fun n c e => by cases e⟩
    obtain ⟨f, hf'⟩ := Deep.choose_lt each
    refine ⟨(List.range len).map f, some x, cap, by simp, by simp; omega, ?_⟩
    by_cases h0 : len = 0
    · exact .inl (by rw [h0]; rfl)
    · obtain ⟨b, off, spot⟩ := x
      have hc := (hrow 0 (by omega)).1
      have hspot : spot = none := by simpa [Addr.add] using World.cell?_spot hc
      subst hspot
      refine .inr ⟨b, off, rfl, fun i hi => ?_⟩
      have hi' : i < len := by simpa using hi
      have e : ((List.range len).map f).getD i [] = f i := by simp [List.getD_eq_getElem?_getD, hi']
      rw [e]
      obtain ⟨_, h2, h3, h4⟩ := hf' i hi'
      exact ⟨_, by rw [← Addr.add_lit]; exact (hrow i (by omega)).1, h2, h3, h4⟩

end Go.Proofs.YtaageadgkncjjaaDoor
