/-
  CONTRACT OF orloplaw17.awake. Conditions: none.
-/
import Derived.Test.YtdojalhaklkegaaSealE
import Derived.Lib.SmallJoins
import Derived.Lib.Builder
namespace Go.Proofs.Ytdojalhaklkegaa
open Go.RowKit Go.Maps
set_option linter.unusedVariables false
set_option maxRecDepth 100000

theorem isB_lit17 (w : World) (bs : List UInt8) (t : TypeId) (fr : Nat × Nat) (h : bs.length ≤ 1000) : IsB (w.alloc (.cells (Lib.byteCells bs).toArray t fr)) (.slice (some ⟨w.heap.size, 0, none⟩) bs.length bs.length) bs := by
  refine ⟨_, bs.length, rfl, Nat.le_refl _, by unfold maxLen; omega, .inr ⟨w.heap.size, 0, rfl, fun i hi => ?_⟩⟩
  rw [Nat.zero_add, ← byteCells_getElem? bs i hi]
  have := Lib.cell_of_heap (w := w.alloc (.cells (Lib.byteCells bs).toArray t fr)) (heap_alloc_new w (.cells (Lib.byteCells bs).toArray t fr)) i
  rw [this]
  simp

namespace M
theorem bget_sbk_len {key pre ctx layer : List UInt8} {size : Nat} (hs : size ≤ 65536) {L : Bk} (hL : ∀ sl t, bget L sl = some t → t.length ≤ 65536) (k : Nat) : ∀ sl t, bget (sbk L key pre ctx layer size k) sl = some t → t.length ≤ 65536 := by
  induction k with
  | zero => exact hL
  | succ k ih =>
    intro sl t h
    rw [sbk, bget] at h
    split at h
    · injection h with h
      rw [← h]
      show (pc layer size k).length ≤ 65536
      rw [pc_len]
      omega
    · exact ih sl t h
end M

def aw17L : List UInt8 := [48, 49, 50, 51, 52, 53, 54, 55, 56, 57]
def aw17P : List UInt8 := List.replicate 7 0
def aw17K : List UInt8 := List.replicate 32 0
theorem aw17_np : M.np aw17L.length 4 = 3 := by decide
theorem aw17_open : M.orun (M.bookB [] aw17K aw17P [] aw17L 4) aw17K [] (M.sealB 0 aw17P aw17L 4) (M.onp (M.sealB 0 aw17P aw17L 4)) = some aw17L :=
  M.sealed_opens 0 (by decide) (by decide) (by decide) (M.sbk_ok [] _ _ _ _ _ trivial _ (by rw [aw17_np]; decide)) (fun i hi => M.sbk_mem.2 (.inr ⟨i, hi, rfl⟩))
theorem aw17_cut : M.oOk (M.sealB 0 aw17P aw17L 4) := (M.sealed_cut 0 (by decide) (by decide) (by decide)).2.2.1
theorem aw17_len : (M.sealB 0 aw17P aw17L 4).length = 70 := by rw [M.sealB_len (by decide) _ _ _ (by decide), aw17_np]; decide
theorem aw17_nil : ¬ M.oOk [] := fun h => absurd h.1 (by decide)

set_option maxHeartbeats 8000000 in
theorem awake17_any (w : World) : Calls Try.prog 4 #[] w fun e w' => e = .returned (.bool true) ∧ Below w.heap.size w w' := by
  have CB := Lib.hid (bkBook_any w)
  obtain ⟨C, hmk⟩ := make_run 32 (by decide)
  have HMK := Lib.hid hmk
  have hmk1 : ∀ w : World, (Instr.makeSlice 22 (.int .i64 32) (.int .i64 32)).run Try.prog w = .ok (.slice (some ⟨w.heap.size, 0, none⟩) 32 32) (w.alloc (.cells C 5)) := fun w => (hmk w).1
  have hcv : ∀ (W : World) (C : Array Value) (n : Nat), (convert 22 22 (.slice (some ⟨W.heap.size, 0, none⟩) n n)).run Try.prog (W.alloc (.cells C 5)) = .ok (.slice (some ⟨W.heap.size, 0, none⟩) n n) (W.alloc (.cells C 5 (C.size, C.size + 1))) :=
    fun W C n => Lib.run_convert_bytes_const W 22 5 C n n Try.underlying22 Try.underlying5
  clear hmk
  go_enter Try.func4, Try.ntmps4
  go_wp2_with fail
  refine CB.out.mono ?_
  rintro e w1 ⟨gb, m1, m2, T, rfl, b1, k1, hT⟩
  have B1 := Lib.hid b1
  have K1 := Lib.hid k1
  have HTT := Lib.hid hT
  clear b1 k1 hT CB
  obtain ⟨W2, hW2⟩ : ∃ W, W = w1.alloc (.cells C 5) := ⟨_, rfl⟩
  have k12 : Below w1.heap.size w1 W2 := by rw [hW2]; exact (Below.refl _ _).alloc (Nat.le_refl _) _
  have hk2 : IsB W2 (.slice (some ⟨w1.heap.size, 0, none⟩) 32 32) aw17K := by rw [hW2]; exact (HMK.out w1).2.isB
  obtain ⟨pa, hsl, hp2⟩ := hk2.upT 22 Try.underlying22 7 (by decide)
  have hsl2 : ∀ W : World, (Instr.slice 22 (.slice (some ⟨w1.heap.size, 0, none⟩) 32 32) none (some (.int .i64 7)) none).run Try.prog W = .ok (.slice pa 7 32) W := hsl
  have HK2 := Lib.hid hk2
  have HP2 : Hid (IsB W2 (.slice pa 7 32) aw17P) := hp2
  have K12 := Lib.hid k12
  have E2 := Lib.hid hW2
  clear hk2 hp2 hsl k12 hW2
  go_upto_region 5 with fail
  rw [← E2.out]
  clear hmk1
  obtain ⟨W3, hW3⟩ : ∃ W, W = W2.alloc (.cells (Lib.byteCells aw17L).toArray 5 (10, 11)) := ⟨_, rfl⟩
  have k23 : Below W2.heap.size W2 W3 := by rw [hW3]; exact (Below.refl _ _).alloc (Nat.le_refl _) _
  have k13 : Below w1.heap.size w1 W3 := K12.out.trans (k23.mono K12.out.size)
  have hl3 : IsB W3 (.slice (some ⟨W2.heap.size, 0, none⟩) 10 10) aw17L := by rw [hW3]; exact isB_lit17 W2 aw17L 5 (10, 11) (by decide)
  have hnil : ∀ W : World, IsB W (.slice none 0 0) [] := fun W => ⟨none, 0, rfl, Nat.le_refl _, Nat.zero_le _, .inl rfl⟩
  have hnc : ∀ n c, Value.slice none 0 0 = .slice none n c → c = 0 := fun n c e => by injection e with _ _ e; exact e.symm
  have CS := Lib.hid (seal_any (B1.out.below k13) (.slice (some ⟨w1.heap.size, 0, none⟩) 32 32) (.slice pa 7 32) (.slice none 0 0) (.slice (some ⟨W2.heap.size, 0, none⟩) 10 10) aw17K aw17P [] aw17L 4
    (HK2.out.below k23) (HP2.out.below k23) (hnil _) hl3 hnc (by decide) (by decide) (by decide) (by decide) (by decide) (by decide) (by decide) (by rw [aw17_np]; decide))
  have HK3 := Lib.hid (HK2.out.below k23)
  have K03 := Lib.hid (K1.out.trans (k13.mono K1.out.size))
  have HM3 := Lib.hid ((B1.out.below k13).isMap)
  have HUP : Hid (w.heap.size ≤ m2) := HTT.out m2 B1.out.tm
  have E3 : Hid (W3 = W2.alloc (.cells #[.int .u8 48, .int .u8 49, .int .u8 50, .int .u8 51, .int .u8 52, .int .u8 53, .int .u8 54, .int .u8 55, .int .u8 56, .int .u8 57] 5 (10, 11))) := hW3
  have HNIL := Lib.hid hnil
  have HNC := Lib.hid hnc
  clear hW3 k23 k13 hl3 hnil hnc hcv
  have hcv := Lib.run_convert_bytes_const W2 22 5 #[.int .u8 48, .int .u8 49, .int .u8 50, .int .u8 51, .int .u8 52, .int .u8 53, .int .u8 54, .int .u8 55, .int .u8 56, .int .u8 57] 10 10 Try.underlying22 Try.underlying5
  go_wp2_with fail
  clear hcv
  rw [← E3.out]
  refine CS.out.mono ?_
  rintro e w4 ⟨bv, rfl, o4, b4, c4⟩
  obtain ⟨ba, bc, rfl⟩ := o4.shape'
  have hb4 := o4.isB
  rw [show ([] : M.Bk).length = 0 from rfl] at hb4 o4
  rw [aw17_len] at hb4
  rw [show ([] : M.Bk).length = 0 from rfl, aw17_len]
  have hk4 := HK3.out.keepM HM3.out c4 (fun b _ h => h)
  have hbt := M.bget_sbk_len (key := aw17K) (pre := aw17P) (ctx := []) (layer := aw17L) (size := 4) (by decide) (L := []) (fun sl t h => by cases h) (M.np aw17L.length 4)
  have CO := Lib.hid (sopen_any b4 (.slice (some ⟨w1.heap.size, 0, none⟩) 32 32) (.slice none 0 0) (.slice ba 70 bc) aw17K [] (M.sealB 0 aw17P aw17L 4) hk4 (HNIL.out _) hb4 HNC.out (by decide) (by decide) (by rw [aw17_len]; decide) hbt)
  have B4 := Lib.hid b4
  have HK4 := Lib.hid hk4
  have HBT := Lib.hid hbt
  have K04 : Hid (Below w.heap.size w w4) := K03.out.trans (c4.below K03.out.size (fun k e => by subst e; exact HUP.out))
  clear o4 b4 c4 hb4 hk4 hbt CS HM3 HK3
  go_wp2_with fail
  refine CO.out.mono ?_
  rintro e w5 ⟨k5, h5⟩
  have h5' : ∃ r, e = .returned (.tuple #[r, .int .i64 0]) ∧ Own w5 w4.heap.size r aw17L := by
    rcases h5 with ⟨_, r, z, h1, h2, h3⟩ | ⟨_, h1, _⟩ | ⟨h1, _⟩
    · rw [aw17_open] at h1
      injection h1 with h1
      subst h1
      exact ⟨r, h2, h3⟩
    · rw [aw17_open] at h1; cases h1
    · exact absurd aw17_cut h1
  obtain ⟨rv, rfl, o5⟩ := h5'
  obtain ⟨ra, rc, rfl⟩ := o5.shape'
  have hs5 := o5.isB
  rw [show aw17L.length = 10 from rfl] at hs5 ⊢
  have CN := Lib.hid (sopen_any (B4.out.below k5) (.slice (some ⟨w1.heap.size, 0, none⟩) 32 32) (.slice none 0 0) (.slice none 0 0) aw17K [] [] (HK4.out.below k5) (HNIL.out _) (HNIL.out _) HNC.out (by decide) (by decide) (by decide) HBT.out)
  have HS5 := Lib.hid hs5
  have K05 := Lib.hid (K04.out.trans (k5.mono K04.out.size))
  clear h5 o5 hs5 k5 CO
  go_wp2_with fail
  refine CN.out.mono ?_
  rintro e w6 ⟨k6, h6⟩
  have h6' : e = .returned (.tuple #[.slice none 0 0, .int .i64 8]) := by
    rcases h6 with ⟨h, _⟩ | ⟨h, _⟩ | ⟨_, h⟩
    · exact absurd h aw17_nil
    · exact absurd h aw17_nil
    · exact h
  subst h6'
  have hstr : ∀ W, Below w6.heap.size w6 W → (convert 22 9 (.slice ra 10 rc)).run Try.prog W = .ok (.string ⟨aw17L.toArray⟩) W := fun W k => str_any ((HS5.out.below k6).below k)
  have hstr6 : (convert 22 9 (.slice ra 10 rc)).run Try.prog w6 = .ok (.string ⟨#[48, 49, 50, 51, 52, 53, 54, 55, 56, 57]⟩) w6 := hstr w6 (Below.refl _ _)
  have HL1 := Lib.hid (slength_any 0 10 w6)
  have HL2 := Lib.hid (slength_any 25 10 w6)
  rw [show M.sealLen 0 10 = 28 by decide] at HL1
  rw [show M.sealLen 25 10 = 85 by decide] at HL2
  have K06 := Lib.hid (K05.out.trans (k6.mono K05.out.size))
  clear h6 k6 CN hstr
  go_wp2_with fail
  refine HL1.out.mono ?_
  rintro e w7 ⟨rfl, hq⟩
  rw [hq]
  clear hq w7
  go_wp2_with fail
  refine HL2.out.mono ?_
  rintro e w7 ⟨rfl, hq⟩
  rw [hq]
  clear hq w7
  go_wp2
  go_ret
  exact ⟨rfl, K06.out⟩

end Go.Proofs.Ytdojalhaklkegaa
