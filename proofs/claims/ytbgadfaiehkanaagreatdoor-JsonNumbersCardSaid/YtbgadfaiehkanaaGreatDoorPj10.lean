/-
  PLAIN MATHEMATICS OF LAYER 9: what a disk is, and what each call makes of it. Nothing of the program. Conditions: none.
  THE REFERENCE'S DISK IN MEMORY (RefAt): its struct's block, the row of safe blocks, the row of writes that wait; contracts of goes, Arm. Conditions: the disk lies so.
  REGIONS THAT DRAW THEIR ORDER, WHOSE LAST STORES TURN WHAT WAS READ: a predicate of worlds is kept behind each operation but those of a list (stores that wait for all that read); what reads may still be taken first. Nothing of the program. Conditions: as each says.
  ROWS OF ANYTHING THAT ARE OWNED: 'append' onto one as a step of a region that draws, whatever the elements' type; slices of bytes and structs as elements. Conditions: as each says.
  CONTRACTS OF THE REFERENCE'S Write. Conditions: the disk lies so; what is written lies out of it; fewer than a million writes wait.
-/
import Derived.Test.YtbgadfaiehkanaaGreatDoorPj1
import Derived.Test.YtbgadfaiehkanaaGreatDoorPj3
import Derived.Test.YtbgadfaiehkanaaGreatDoorPj6

namespace Go.Proofs.YtbgadfaiehkanaaGreatDoor.M
set_option linter.unusedVariables false

/-- A disk: its safe blocks, the writes that wait, how many acts till the power goes (0: none), whether it is gone. -/
structure Dsk where
  safe : List (List UInt8)
  wait : List (Nat × List UInt8)
  left : Nat
  down : Bool

/-- All blocks have 256 bytes, and each write is of one of them. -/
structure Dsk.Ok (d : Dsk) : Prop where
  few : d.safe.length ≤ 2176
  full : ∀ b ∈ d.safe, b.length = 256
  wat : ∀ c ∈ d.wait, c.1 < d.safe.length ∧ c.2.length = 256

def zero256 : List UInt8 := List.replicate 256 0

/-- A new disk of n blocks. -/
def dnew (n : Nat) : Dsk := ⟨List.replicate (min n 2176) zero256, [], 0, false⟩

/-- A row of bytes cut into n blocks. -/
def cut256 (b : List UInt8) : Nat → List (List UInt8)
  | 0 => []
  | n + 1 => cut256 b n ++ [(b.drop (256 * n)).take 256]

def dload (b : List UInt8) : Dsk := ⟨cut256 b (b.length / 256), [], 0, false⟩

/-- An act begins: does the power go in it? -/
def Dsk.goes (d : Dsk) : Dsk × Bool :=
  if d.left = 0 then (d, false) else if d.left = 1 then ({ d with left := 0, down := true }, true) else ({ d with left := d.left - 1 }, d.down)

def Dsk.write (d : Dsk) (i : Nat) (b : List UInt8) : Dsk := (({ d with wait := d.wait ++ [(i, b)] } : Dsk).goes).1
def Dsk.wrote (d : Dsk) : Bool := d.goes.2

/-- The blocks with a row of writes laid on them. -/
def laid (s : List (List UInt8)) : List (Nat × List UInt8) → List (List UInt8)
  | [] => s
  | c :: r => laid (s.set c.1 c.2) r

/-- .. the first j of them, those that are kept. -/
def kept (s : List (List UInt8)) (c : List (Nat × List UInt8)) (k : List Bool) : Nat → List (List UInt8)
  | 0 => s
  | j + 1 => if k.getD j false = true then (kept s c k j).set (c.getD j (0, [])).1 (c.getD j (0, [])).2 else kept s c k j

/-- The last write of a block, or else it. -/
def seen (i : Nat) (b : List UInt8) : List (Nat × List UInt8) → List UInt8
  | [] => b
  | c :: r => seen i (if c.1 = i then c.2 else b) r

def Dsk.read (d : Dsk) (i : Nat) : List UInt8 := seen i (d.safe.getD i []) d.wait
def Dsk.synced (d : Dsk) : Dsk := { d with safe := laid d.safe d.wait, wait := [] }
def Dsk.arm (d : Dsk) (n : Int) : Dsk := { d with left := n.toNat }
def Dsk.crash (d : Dsk) (k : List Bool) : Dsk := ⟨kept d.safe d.wait k d.wait.length, [], 0, false⟩

/-- The byte at a place turned. -/
def turned1 (s : List (List UInt8)) (p : Nat) (x : UInt8) : List (List UInt8) := s.set (p / 256) ((s.getD (p / 256) []).set (p % 256) x)

/-- The first j bytes of b laid at the place at on, as far as there are places. -/
def turns (s : List (List UInt8)) (at_ : Int) (b : List UInt8) : Nat → List (List UInt8)
  | 0 => s
  | j + 1 => if 0 ≤ at_ + j ∧ at_ + j < 256 * s.length then turned1 (turns s at_ b j) (at_ + j).toNat (b.getD j 0) else turns s at_ b j

def Dsk.tamper (d : Dsk) (at_ : Int) (b : List UInt8) : Dsk := { d with safe := turns d.safe at_ b b.length }
def Dsk.image (d : Dsk) : List UInt8 := d.safe.flatten

end Go.Proofs.YtbgadfaiehkanaaGreatDoor.M

namespace Go.Proofs.YtbgadfaiehkanaaGreatDoor
open Go.RowKit
set_option linter.unusedVariables false

/-- Writes as cells: a number and a slice each. -/
def chgs : List (Nat × List UInt8) → List Value → List Value
  | c :: r, d :: s => .int .i64 (c.1 : Int) :: d :: chgs r s
  | _, _ => []

theorem chgs_length : ∀ (c : List (Nat × List UInt8)) (d : List Value), d.length = c.length → (chgs c d).length = c.length * 2
  | [], [], _ => rfl
  | c :: r, d :: s, h => by
    have := chgs_length r s (by simpa using h)
    simp only [chgs, List.length_cons, this]
    omega

theorem chgs_append : ∀ (c : List (Nat × List UInt8)) (d : List Value) (x : Nat × List UInt8) (y : Value), d.length = c.length → chgs (c ++ [x]) (d ++ [y]) = chgs c d ++ [.int .i64 (x.1 : Int), y]
  | [], [], _, _, _ => rfl
  | c :: r, d :: s, x, y, h => by
    have := chgs_append r s x y (by simpa using h)
    simp only [chgs, List.cons_append, this]

theorem chgs_get : ∀ (c : List (Nat × List UInt8)) (d : List Value) (j : Nat), d.length = c.length → j < c.length → (chgs c d)[2 * j]? = some (.int .i64 ((c.getD j (0, [])).1 : Int)) ∧ (chgs c d)[2 * j + 1]? = some (d.getD j undef)
  | c :: r, d :: s, 0, h, _ => ⟨rfl, rfl⟩
  | c :: r, d :: s, j + 1, h, hj => by
    have := chgs_get r s j (by simpa using h) (by simpa using hj)
    rw [show 2 * (j + 1) = 2 * j + 1 + 1 by omega, chgs, List.getElem?_cons_succ, List.getElem?_cons_succ, List.getElem?_cons_succ, List.getElem?_cons_succ]
    exact this

/-- The blocks of T but the struct's and the two rows'. -/
def RefS (T : Nat → Prop) (g : Nat) (sv wv : Value) (k : Nat) : Prop := T k ∧ k ≠ g ∧ sv.ownBlock ≠ some k ∧ wv.ownBlock ≠ some k

theorem Chg.one {T : Nat → Prop} {w w' : World} {g : Nat} (h : Chg (fun b => b = g) w w') (hg : T g) : Chg T w w' := h.mono fun k _ e => e ▸ hg

end Go.Proofs.YtbgadfaiehkanaaGreatDoor

namespace Go.Proofs.YtbgadfaiehkanaaGreatDoor
open Go Go.RowKit
set_option linter.unusedVariables false

section
variable {P : Program} {ops : Array Oper} {Q : Exit → Act → World → Prop} {md : Region.Mode} {S : World → Prop} {Z : List Nat}

/-- Whatever order is picked; S holds behind each operation that is none of Z. -/
def anyT (P : Program) (md : Region.Mode) (ops : Array Oper) (Q : Exit → Act → World → Prop) (S : World → Prop) (Z : List Nat) : Nat → Array Bool → Act → World → Prop
  | 0, listed, a, w => Region.ready md ops listed = [] ∧ Q .normal a w
  | f + 1, listed, a, w =>
    (Region.ready md ops listed = [] → Q .normal a w) ∧
    ∀ i ∈ Region.ready md ops listed, wpOp P ops Q i (fun a' w' => (i ∈ Z ∨ S w') ∧ anyT P md ops Q S Z f (listed.setIfInBounds i true) a' w') a w

theorem any_of_T : ∀ (f : Nat) (listed : Array Bool) (a : Act) (w : World), anyT P md ops Q S Z f listed a w → wpAny P md ops Q f listed a w
  | 0, _, _, _, h => h
  | f + 1, _, _, _, h => ⟨h.1, fun i hi => wpOp_mono (fun a' w' h' => any_of_T f _ a' w' h'.2) (h.2 i hi)⟩

theorem anyT_first {R : World → Prop} {i : Nat} {oi : Oper} {v : Value} (hi : ops[i]? = some oi) (hsel : ∀ (j : Nat) (o : Oper) cs b, ops[j]? = some o → o.op ≠ .select cs b)
    (hQ : ∀ c a w, Q (.panic c) (a.put oi.dst v) w → Q (.panic c) a w)
    (hR : ∀ j oj w', ops[j]? = some oj → (∀ e ∈ oj.after, Region.binds md e = true → e.on ≠ i) → (j ∈ Z ∨ S w') → R w') (hRi : ∀ w, R w → i ∈ Z ∨ S w) :
    ∀ (f : Nat) (listed : Array Bool) (a : Act) (w : World),
      (∀ j oj, ops[j]? = some oj → j ≠ i → listed.getD j true = false → (∀ e ∈ oj.after, Region.binds md e = true → e.on ≠ i) → oi.apart ops oj = true) →
      i ∈ Region.ready md ops listed → YieldsIf P ops R oi v a → R w →
      anyT P md ops Q S Z f (listed.setIfInBounds i true) (a.put oi.dst v) w → anyT P md ops Q S Z (f + 1) listed a w := by
  intro f
  induction f with
  | zero =>
    intro listed a w _ hr hy hS H
    refine ⟨fun h => (by rw [h] at hr; cases hr), fun j hj => ?_⟩
    by_cases hji : j = i
    · subst hji
      exact hy.wpOp hi hS ⟨hRi w hS, H⟩
    · have := ready_mono hj hji
      rw [H.1] at this
      cases this
  | succ f ih =>
    intro listed a w hfree hr hy hS H
    refine ⟨fun h => (by rw [h] at hr; cases hr), fun j hj => ?_⟩
    by_cases hji : j = i
    · subst hji
      exact hy.wpOp hi hS ⟨hRi w hS, H⟩
    · have h1 := H.2 j (ready_mono hj hji)
      obtain ⟨hjun, oj, hoj, hall⟩ := mem_ready.1 hj
      have hnot : ∀ e ∈ oj.after, Region.binds md e = true → e.on ≠ i := fun e he hb heq => by
        have h1 := hall e he hb
        have h0 := (mem_ready.1 hr).1
        rw [heq, getD_both h0] at h1
        cases h1
      have h2 := wpOp_putIf hoj (hfree j oj hoj hji hjun hnot) (fun cs b => hsel i oi cs b hi) (fun cs b => hsel j oj cs b hoj) hQ hy h1
      have hfree' : ∀ k ok, ops[k]? = some ok → k ≠ i → (listed.setIfInBounds j true).getD k true = false →
          (∀ e ∈ ok.after, Region.binds md e = true → e.on ≠ i) → oi.apart ops ok = true := fun k ok hk hki hun hno => by
        refine hfree k ok hk hki ?_ hno
        by_cases hjk : j = k
        · subst hjk; exact hjun
        · rw [getD_set_ne true hjk] at hun; exact hun
      refine wpOp_mono (fun a' w' h3 => ⟨h3.2.1, ih (listed.setIfInBounds j true) a' w' hfree' (ready_mono hr (Ne.symm hji)) h3.1 (hR j oj w' hoj hnot h3.2.1) ?_⟩) h2
      rw [Array.setIfInBounds_comm _ _ hji]
      exact h3.2.2

/-- All of Z wait for number i. -/
def waitFor (md : Region.Mode) (ops : Array Oper) (Z : List Nat) (i : Nat) : Bool :=
  Z.all fun z => match ops[z]? with
    | some o => o.after.any fun e => Region.binds md e && e.on == i
    | none => true

/-- An operation that yields in every world that meets S, taken first: all of Z wait for it. -/
theorem anyT_take_at {i d : Nat} {oi : Oper} {v : Value} {f : Nat} {listed : Array Bool} {tmps : Array Value} {defers : List Deferred} {w : World} (hi : ops[i]? = some oi) (hdst : oi.dst = some d)
    (hs : Region.noSelect ops = true) (hf : Region.free md ops listed i = true) (hr : (Region.ready md ops listed).contains i = true) (hz : waitFor md ops Z i = true)
    (hQ : ∀ c a w, Q (.panic c) (a.put oi.dst v) w → Q (.panic c) a w) (hy : YieldsIf P ops S oi v { tmps := tmps, defers := defers }) (hS : S w)
    (h : anyT P md ops Q S Z f (listed.setIfInBounds i true) { tmps := tmps.setIfInBounds d v, defers := defers } w) : anyT P md ops Q S Z (f + 1) listed { tmps := tmps, defers := defers } w := by
  refine anyT_first (R := S) hi (Region.noSelect_spec hs) hQ ?_ (fun w h => .inr h) f listed _ w (Region.free_spec hi hf) (by simpa using hr) hy hS ?_
  · intro j oj w' hoj hnot h
    rcases h with h | h
    · exfalso
      have := List.all_eq_true.1 hz j h
      simp only [hoj] at this
      rw [Array.any_eq_true] at this
      obtain ⟨n, hn, he⟩ := this
      rw [Bool.and_eq_true] at he
      exact hnot _ (Array.getElem_mem hn) he.1 (by simpa using he.2)
    · exact h
  · rw [hdst]
    exact h

/-- An operation that yields in every world, taken first; behind it S isn't asked (it is named in Z). -/
theorem anyT_free_at {i d : Nat} {oi : Oper} {v : Value} {f : Nat} {listed : Array Bool} {tmps : Array Value} {defers : List Deferred} {w : World} (hi : ops[i]? = some oi) (hdst : oi.dst = some d)
    (hs : Region.noSelect ops = true) (hf : Region.free md ops listed i = true) (hr : (Region.ready md ops listed).contains i = true) (hz : Z.contains i = true)
    (hQ : ∀ c a w, Q (.panic c) (a.put oi.dst v) w → Q (.panic c) a w) (hy : YieldsIf P ops (fun _ => True) oi v { tmps := tmps, defers := defers })
    (h : anyT P md ops Q S Z f (listed.setIfInBounds i true) { tmps := tmps.setIfInBounds d v, defers := defers } w) : anyT P md ops Q S Z (f + 1) listed { tmps := tmps, defers := defers } w := by
  refine anyT_first (R := fun _ => True) hi (Region.noSelect_spec hs) hQ (fun _ _ _ _ _ _ => trivial) (fun w _ => .inl (by simpa using hz)) f listed _ w (Region.free_spec hi hf) (by simpa using hr) hy trivial ?_
  rw [hdst]
  exact h

/-- Those that may come up now. -/
def ReadyT (P : Program) (md : Region.Mode) (ops : Array Oper) (Q : Exit → Act → World → Prop) (S : World → Prop) (Z : List Nat) (f : Nat) (listed : Array Bool) (a : Act) (w : World) (rs : List Nat) : Prop :=
  ∀ i ∈ rs, wpOp P ops Q i (fun a' w' => (i ∈ Z ∨ S w') ∧ anyT P md ops Q S Z f (listed.setIfInBounds i true) a' w') a w

theorem ReadyT.nil {f : Nat} {listed : Array Bool} {a : Act} {w : World} : ReadyT P md ops Q S Z f listed a w [] := fun _ h => by cases h

theorem ReadyT.cons {f : Nat} {listed : Array Bool} {a : Act} {w : World} {i : Nat} {o : Oper} {rs : List Nat} (ho : ops[i]? = some o)
    (h : ∀ K' : Act → World → Prop, Shut (∀ a w, (i ∈ Z ∨ S w) → anyT P md ops Q S Z f (listed.setIfInBounds i true) a w → K' a w) → if Region.wanted o (yielded ops a.tmps) = true then Oper.wp P o a w K' Q else K' (a.put o.dst undef) w)
    (hs : ReadyT P md ops Q S Z f listed a w rs) : ReadyT P md ops Q S Z f listed a w (i :: rs) := fun j hj => by
  rcases List.mem_cons.1 hj with rfl | hj
  · exact wpOp_step ho fun K' hK => h K' fun a w hS hW => hK a w ⟨hS, hW⟩
  · exact hs j hj

theorem anyT_ready {rs : List Nat} {f : Nat} {listed : Array Bool} {a : Act} {w : World} (hr : Region.ready md ops listed = rs) (hne : rs ≠ []) (h : ReadyT P md ops Q S Z f listed a w rs) : anyT P md ops Q S Z (f + 1) listed a w :=
  ⟨fun h0 => absurd (hr ▸ h0) hne, hr ▸ h⟩

theorem anyT_done {listed : Array Bool} {a : Act} {w : World} (hr : Region.ready md ops listed = []) (h : Q .normal a w) : ∀ f, anyT P md ops Q S Z f listed a w
  | 0 => ⟨hr, h⟩
  | _ + 1 => ⟨fun _ => h, by rw [hr]; simp⟩

theorem region_T {id : Nat} {a : Act} {w : World} (S : World → Prop) (Z : List Nat) (hm : P.follows .mixedOrders = true) (h : anyT P .any ops Q S Z ops.size (Array.replicate ops.size false) a w.drew) : (Code.region id ops true).wp P Q a w :=
  wp_region_any hm (any_of_T _ _ _ _ h)

end

end Go.Proofs.YtbgadfaiehkanaaGreatDoor

namespace Go.Proofs.YtbgadfaiehkanaaGreatDoor
open Go.RowKit
set_option linter.unusedVariables false

/-- The type t is a slice of elements e, of so many cells and bytes, whose zero is z. -/
def RowTy (t e : TypeId) (size bytes : Nat) (z : Value) : Prop :=
  Tryz.prog.underlying t = some (.slice e) ∧ (Tryz.prog.info? e).map (fun i => (i.zero, i.size, i.bytes)) = some (some z, size, bytes) ∧ z.cells.size = size ∧ 0 < size

theorem info_any {e : TypeId} {size bytes : Nat} {z : Value} (h : (Tryz.prog.info? e).map (fun i => (i.zero, i.size, i.bytes)) = some (some z, size, bytes)) : ∃ i, Tryz.prog.info? e = some i ∧ i.zero = some z ∧ i.size = size ∧ i.bytes = bytes := by
  cases hi : Tryz.prog.info? e with
  | none => rw [hi] at h; cases h
  | some i =>
    rw [hi] at h
    simp only [Option.map_some, Option.some.injEq, Prod.mk.injEq] at h
    exact ⟨i, rfl, h.1, h.2.1, h.2.2⟩

theorem bytes_row : RowTy 22 5 1 1 (.int .u8 0) := ⟨Tryz.underlying22, by kernel_rfl, rfl, by decide⟩

/-- 'append(xs, ys...)' onto an owned row, as a step. -/
theorem step_app_row {t e : TypeId} {size bytes : Nat} {z : Value} (hT : RowTy t e size bytes z) {w : World} {ops : Array Oper} {o : Oper} {a : Act} {K : Act → World → Prop} {Q : Exit → Act → World → Prop} {E : Prop} (hg : o.guard = none) (s x : Operand)
    (ho : o.op = .call { callee := .builtin .append, args := #[s, x], argTypes := #[t, t] })
    (B : Nat) (v : Value) (n : Nat) (xs : List Value) (hs : a.eval s = v) (hown : w.ownsRow B e size v n xs) (ad : Addr) (m c : Nat) (news : List Value) (hx : a.eval x = .slice (some ad) m c) (hl : news.length = m * size)
    (hc : ∀ j u, news[j]? = some u → w.cell? (ad.add j) = some u) (h1 : ∀ u ∈ news, u.oneCell' = true) (hm : n + m ≤ maxLen) (hb : (n + m) * bytes ≤ 140737488355328) (hB : B ≤ w.heap.size)
    (h : ∀ v' w', w'.ownsRow B e size v' (n + m) (xs ++ news) → w.grownBy w' v.ownBlock → (v'.ownBlock = v.ownBlock ∨ v'.ownBlock = some w.heap.size) → K (a.put o.dst v') w') : if Region.wanted o (yielded ops a.tmps) = true then Oper.wp Tryz.prog o a w K Q else E := by
  obtain ⟨hu, hi, hz, h0⟩ := hT
  obtain ⟨i0, hi0, hz0, hz1, hz2⟩ := info_any hi
  rw [if_pos (by simp [Region.wanted, hg])]
  obtain ⟨v', w', hr, h2, h3, h4, h5⟩ := run_append_own_at (P := Tryz.prog) w B t o.type e i0 z size bytes hu hi0 hz0 hz1 hz2 hz h0 v n _ hown ad m c news hl hc h1 hm hb hB
  unfold Oper.wp execOp
  simp only [ho, resolve, invoke, builtin, Sem.run_bind, Sem.run_pure, Result.andThen_ok, List.map_toArray, List.map_cons, List.map_nil, hs, hx, hr]
  exact h v' w' h2 h3 h5

/-- 'append([]byte{}, b...)' of a slice that has bytes. -/
theorem step_clone {w : World} {ops : Array Oper} {o : Oper} {a : Act} {K : Act → World → Prop} {Q : Exit → Act → World → Prop} {E : Prop} (hg : o.guard = none) (s x : Operand)
    (ho : o.op = .call { callee := .builtin .append, args := #[s, x], argTypes := #[22, 22] })
    (B : Nat) (v : Value) (hs : a.eval s = v) (hown : Own w B v []) (sv : Value) (ys : List UInt8) (hx : a.eval x = sv) (hi : IsB w sv ys) (hn : ys ≠ []) (hlen : ys.length ≤ 140737488355328) (hB : B ≤ w.heap.size)
    (h : ∀ v' w', Own w' B v' ys → Below B w w' → K (a.put o.dst v') w') : if Region.wanted o (yielded ops a.tmps) = true then Oper.wp Tryz.prog o a w K Q else E := by
  obtain ⟨ao, cap, rfl, hc1, hc2, hat⟩ := hi
  rcases hat with hat | ⟨b, off, rfl, hat⟩
  · exact absurd hat hn
  · refine step_app_row bytes_row hg s x ho B v 0 [] hs hown ⟨b, off, none⟩ ys.length cap (Lib.byteCells ys) hx (by rw [byteCells_length, Nat.mul_one]) ?_ (byteCells_oneCell _) (by unfold maxLen; omega) (by omega) hB ?_
    · intro j u hj
      have hlt : j < ys.length := by
        have := (List.getElem?_eq_some_iff.1 hj).1
        rwa [byteCells_length] at this
      rw [Addr.add_mid, hat j hlt, ← hj, byteCells_getElem? _ _ hlt]
    · intro v' w' h2 h3 _
      refine h v' w' ?_ ((Below.refl B w).grown h3 hB fun k hk => (hown.row.lt k hk).1)
      rw [Nat.zero_add] at h2
      exact h2

end Go.Proofs.YtbgadfaiehkanaaGreatDoor

namespace Go.Proofs.YtbgadfaiehkanaaGreatDoor
open Go.RowKit
set_option linter.unusedVariables false

theorem M.Ok_push {m : M.Dsk} (h : m.Ok) {i : Nat} {bs : List UInt8} (hi : i < m.safe.length) (hl : bs.length = 256) : ({ m with wait := m.wait ++ [(i, bs)] } : M.Dsk).Ok :=
  ⟨h.few, h.full, fun c hc => by
    rcases List.mem_append.1 hc with hc | hc
    · exact h.wat c hc
    · simp only [List.mem_singleton] at hc
      subst hc
      exact ⟨hi, hl⟩⟩

/-- Blocks of T, and new ones. -/
def Grown (T : Nat → Prop) (w w' : World) (k : Nat) : Prop := (T k ∨ w.heap.size ≤ k) ∧ k < w'.heap.size

theorem getD_snoc {α : Type} (l : List α) (x d : α) (i : Nat) (h : i < l.length + 1) : (l ++ [x]).getD i d = if i < l.length then l.getD i d else x := by
  by_cases hi : i < l.length
  · rw [if_pos hi, List.getD_eq_getElem?_getD, List.getElem?_append_left hi, ← List.getD_eq_getElem?_getD]
  · obtain rfl : i = l.length := by omega
    rw [if_neg hi, List.getD_eq_getElem?_getD, List.getElem?_append_right (Nat.le_refl _), Nat.sub_self]
    rfl

theorem ownShape {w : World} {B n size : Nat} {e : TypeId} {v : Value} {xs : List Value} (h : w.ownsRow B e size v n xs) : ∃ ao cap, v = .slice ao n cap := by
  rcases h.2 with ⟨rfl, rfl⟩ | ⟨g, cap, cur, rfl, _⟩
  · exact ⟨none, 0, rfl⟩
  · exact ⟨_, cap, rfl⟩

end Go.Proofs.YtbgadfaiehkanaaGreatDoor
