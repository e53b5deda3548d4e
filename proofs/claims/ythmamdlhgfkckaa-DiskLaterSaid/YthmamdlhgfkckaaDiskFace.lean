/-
  THE FACE OF THE CODE'S DISK (DiskOk): what each of its calls does, in the words of M.Dsk, over a predicate Dk T w g m that hides what lies where. Nothing of it is proved here: DiskIs proves it of the code. Conditions: none.
-/
import Derived.Test.YthmamdlhgfkckaaRefDk
import Derived.Test.YthmamdlhgfkckaaDiskDo
namespace Go.Proofs.Ythmamdlhgfkckaa
open Go.RowKit
set_option linter.unusedVariables false

/-- Dk T w g m: the code's disk of the state m lies in the blocks T, what its pointer points to is block g's first place. -/
structure DiskOk (Dk : (Nat → Prop) → World → Nat → M.Dsk → Prop) : Prop where
  chg : ∀ {T F w w' g m}, Dk T w g m → Chg F w w' → (∀ b, T b → ¬ F b) → Dk T w' g m
  there : ∀ {T w g m}, Dk T w g m → ∀ k, T k → k < w.heap.size
  ok : ∀ {T w g m}, Dk T w g m → m.Ok
  new_any : ∀ (n : Int), -9223372036854775808 ≤ n ∧ n < 9223372036854775808 → ∀ w, Calls Try.prog 31 #[.int .i64 n] w fun e w' =>
    ∃ g T, e = .returned (.pointer (some ⟨g, 0, none⟩)) ∧ Dk T w' g (M.dnew n.toNat) ∧ (∀ k, T k → w.heap.size ≤ k) ∧ Below w.heap.size w w'
  load_ok : ∀ {bv bs w}, IsB w bv bs → bs.length % 256 = 0 → bs.length ≤ 557056 → Calls Try.prog 10 #[bv] w fun e w' =>
    ∃ g T, e = .returned (.tuple #[.pointer (some ⟨g, 0, none⟩), .int .i64 0]) ∧ Dk T w' g (M.dload bs) ∧ (∀ k, T k → w.heap.size ≤ k) ∧ Below w.heap.size w w'
  load_no : ∀ {bv bs w}, IsB w bv bs → ¬ (bs.length % 256 = 0 ∧ bs.length ≤ 557056) → Calls Try.prog 10 #[bv] w fun e w' =>
    e = .returned (.tuple #[.pointer none, .int .i64 1]) ∧ Below w.heap.size w w'
  write : ∀ {T w g m}, Dk T w g m → ∀ (i : Int) (bv : Value) (bs : List UInt8), -9223372036854775808 ≤ i ∧ i < 9223372036854775808 → IsB w bv bs → (bs ≠ [] → Lies (fun b => ¬ T b) bv) → m.wait.length < 1000000 →
    Calls Try.prog 12 #[.pointer (some ⟨g, 0, none⟩), .int .i64 i, bv] w fun e w' =>
      e = .returned (.int .i64 (m.doWrite i bs).2) ∧ Chg T w w' ∧ ∃ T', Dk T' w' g (m.doWrite i bs).1 ∧ ∀ k, T' k → T k ∨ w.heap.size ≤ k
  sync : ∀ {T w g m}, Dk T w g m → m.wait.length < 1000000 → Calls Try.prog 15 #[.pointer (some ⟨g, 0, none⟩)] w fun e w' =>
    e = .returned (.int .i64 m.doSync.2) ∧ Chg T w w' ∧ ∃ T', Dk T' w' g m.doSync.1 ∧ ∀ k, T' k → T k ∨ w.heap.size ≤ k
  arm : ∀ {T w g m}, Dk T w g m → ∀ (n : Int), -9223372036854775808 ≤ n ∧ n < 9223372036854775808 → Calls Try.prog 17 #[.pointer (some ⟨g, 0, none⟩), .int .i64 n] w fun e w' =>
    e = .returned (.tuple #[]) ∧ Chg T w w' ∧ ∃ T', Dk T' w' g (m.arm n) ∧ ∀ k, T' k → T k ∨ w.heap.size ≤ k
  crash : ∀ {T w g m}, Dk T w g m → ∀ (kv : Value) (kp : List Bool), IsZ w kv kp → (kp ≠ [] → Lies (fun b => ¬ T b) kv) → m.wait.length < 1000000 → Calls Try.prog 19 #[.pointer (some ⟨g, 0, none⟩), kv] w fun e w' =>
    e = .returned (.tuple #[]) ∧ Chg T w w' ∧ ∃ T', Dk T' w' g (m.crash kp) ∧ ∀ k, T' k → T k ∨ w.heap.size ≤ k
  tamper : ∀ {T w g m}, Dk T w g m → ∀ (at_ : Int), -9223372036854775808 ≤ at_ ∧ at_ < 9223372036854775808 → ∀ (bv : Value) (bs : List UInt8), IsB w bv bs → (bs ≠ [] → Lies (fun b => ¬ T b) bv) → bs.length < 1099511627776 →
    Calls Try.prog 21 #[.pointer (some ⟨g, 0, none⟩), .int .i64 at_, bv] w fun e w' => e = .returned (.tuple #[]) ∧ Chg T w w' ∧ ∃ T', Dk T' w' g (m.tamper at_ bs) ∧ ∀ k, T' k → T k ∨ w.heap.size ≤ k
  read : ∀ {T w g m}, Dk T w g m → m.wait.length < 1000000 → ∀ (i : Int), -9223372036854775808 ≤ i ∧ i < 9223372036854775808 → Calls Try.prog 28 #[.pointer (some ⟨g, 0, none⟩), .int .i64 i] w fun e w' =>
    ∃ r, e = .returned (.tuple #[r, .int .i64 (m.doRead i).2]) ∧ IsB w' r (m.doRead i).1 ∧ (∀ ad n c, r = .slice (some ad) n c → w.heap.size ≤ ad.block) ∧ (∀ n c, r = .slice none n c → c = 0) ∧ Below w.heap.size w w'
  image : ∀ {T w g m}, Dk T w g m → Calls Try.prog 26 #[.pointer (some ⟨g, 0, none⟩)] w (Makes w m.image)
  down : ∀ {T w g m}, Dk T w g m → Calls Try.prog 23 #[.pointer (some ⟨g, 0, none⟩)] w fun e w' => e = .returned (.bool m.down) ∧ Below w.heap.size w w'
  waiting : ∀ {T w g m}, Dk T w g m → Calls Try.prog 24 #[.pointer (some ⟨g, 0, none⟩)] w fun e w' => e = .returned (.int .i64 (m.wait.length : Int)) ∧ Below w.heap.size w w'
  blocks : ∀ {T w g m}, Dk T w g m → Calls Try.prog 27 #[.pointer (some ⟨g, 0, none⟩)] w fun e w' => e = .returned (.int .i64 (m.safe.length : Int)) ∧ Below w.heap.size w w'

/-- A disk lasts over a call that turns only what is new. -/
theorem DiskOk.below {Dk : (Nat → Prop) → World → Nat → M.Dsk → Prop} (D : DiskOk Dk) {T : Nat → Prop} {w w' : World} {g : Nat} {m : M.Dsk} (h : Dk T w g m) (k : Below w.heap.size w w') : Dk T w' g m :=
  D.chg h (Chg.of_below (F := fun _ => False) k) fun _ _ hf => hf

theorem RefDk.below {T : Nat → Prop} {w w' : World} {g : Nat} {m : M.Dsk} (h : RefDk T w g m) (k : Below w.heap.size w w') : RefDk T w' g m :=
  h.chg (Chg.of_below (F := fun _ => False) k) fun _ _ hf => hf

end Go.Proofs.Ythmamdlhgfkckaa
