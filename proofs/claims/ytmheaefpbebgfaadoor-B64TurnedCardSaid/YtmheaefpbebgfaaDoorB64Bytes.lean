/-
  CONTRACT OF b64.Bytes. Conditions: texts of up to 2^40 bytes.
-/
import Derived.Test.YtmheaefpbebgfaaDoorB64Trim
import Derived.Test.YtmheaefpbebgfaaDoorB64Read
import Derived.Test.YtmheaefpbebgfaaDoorB64Text
namespace Go.Proofs.YtmheaefpbebgfaaDoor
open Go.RowKit
set_option linter.unusedVariables false
set_option maxRecDepth 100000

/-- The call hands back the bytes that the text tells, or none; what is nil has no spare room. -/
def Gives64 (w : World) (s : List UInt8) (e : Ending) (w' : World) : Prop :=
  ∃ r, e = .returned (.tuple #[r, .bool (M.dec64 s).isSome]) ∧ Own w' w.heap.size r ((M.dec64 s).getD []) ∧ Below w.heap.size w w'

theorem rdAll_len (l : List UInt8) : (M.rdAll l).o.length ≤ l.length := by
  have h := (M.rdAll_ok l).2.2.2
  omega

theorem trim_len (l : List UInt8) : (M.trim64 l).length ≤ l.length := by
  rw [M.trim64, List.length_reverse]
  have h := (List.dropWhile_sublist (l := l.reverse) (· == 61)).length_le
  rw [List.length_reverse] at h
  exact h

theorem ba_inj {a b : List UInt8} : (⟨a.toArray⟩ : ByteArray) = ⟨b.toArray⟩ ↔ a = b := by
  constructor
  · intro h
    have := congrArg (fun x : ByteArray => x.data.toList) h
    simpa using this
  · rintro rfl; rfl

set_option maxHeartbeats 2000000 in
theorem bytes64_any (s : List UInt8) (w : World) (hs : s.length ≤ 1099511627776) :
    Calls Tryd.prog 9 #[.string ⟨s.toArray⟩] w (Gives64 w s) := by
  have HD := Lib.hid (M.dec64_read s)
  obtain ⟨o, ho⟩ : ∃ o, o = (M.rdAll (M.trim64 s)).o := ⟨_, rfl⟩
  have hol : o.length ≤ 1099511627776 := by
    rw [ho]
    exact Nat.le_trans (rdAll_len _) (Nat.le_trans (trim_len _) hs)
  have CT := Lib.hid (trimRight_any s w hs)
  have CR := Lib.hid (read64_any (M.trim64 s) w (Nat.le_trans (trim_len _) hs))
  rw [← ho] at HD CR
  have CX : Hid (∀ r W, IsB W r o → Calls Tryd.prog 8 #[r] W fun e w' => e = .returned (.string ⟨(M.enc64 o).toArray⟩) ∧ Below W.heap.size W w') := fun r W h => text64_any r o W h hol
  obtain ⟨b, hb⟩ : ∃ b, b = M.enc64 o := ⟨_, rfl⟩
  rw [← hb] at HD CX
  obtain ⟨S, hS⟩ : ∃ S : ByteArray, S = ⟨s.toArray⟩ := ⟨_, rfl⟩
  obtain ⟨B, hB⟩ : ∃ B : ByteArray, B = ⟨b.toArray⟩ := ⟨_, rfl⟩
  have HEQ : Hid (B = S ↔ b = s) := by rw [hB, hS]; exact ba_inj
  have HNE : Hid (¬ b = s → (B.toList == S.toList) = false) := fun h => by rw [hB, hS, ByteArray.toList_eq, ByteArray.toList_eq]; simpa using h
  rw [← hS] at CT ⊢
  rw [← hB] at CX
  clear hs ho hol hb hS hB
  go_enter Tryd.func9, Tryd.ntmps9
  go_wp2_with fail
  refine CT.out.mono ?_
  rintro e w1 ⟨rfl, rfl⟩
  go_wp2_with fail
  refine CR.out.mono ?_
  rintro e w2 ⟨r, rfl, o2, k2⟩
  have O2 := Lib.hid o2
  have K2 := Lib.hid k2
  have CX2 := Lib.hid (CX.out r w2 o2.isB)
  clear CT CR CX o2 k2
  go_wp2_with fail
  refine CX2.out.mono ?_
  rintro e w3 ⟨rfl, k3⟩
  have O3 : Hid (Own w3 w1.heap.size r o) := O2.out.below k3
  have K3 : Hid (Below w1.heap.size w1 w3) := K2.out.trans (k3.mono K2.out.size)
  clear O2 K2 k3 CX2
  by_cases he : b = s
  · have hbs : B = S := HEQ.out.2 he
    have HD2 : Hid (M.dec64 s = some o) := by rw [Hid, HD.out, if_pos he]
    clear he
    go_wp2
    go_ret2
    exact ⟨r, by rw [HD2.out]; rfl, by rw [HD2.out]; exact O3.out, K3.out⟩
  · have hbs : (B.toList == S.toList) = false := HNE.out he
    have HD2 : Hid (M.dec64 s = none) := by rw [Hid, HD.out, if_neg he]
    clear he
    go_wp2
    go_ret2
    exact ⟨.slice none 0 0, by rw [HD2.out]; rfl, by rw [HD2.out]; exact World.ownsRow_nil _ _ _ _, K3.out⟩

end Go.Proofs.YtmheaefpbebgfaaDoor
