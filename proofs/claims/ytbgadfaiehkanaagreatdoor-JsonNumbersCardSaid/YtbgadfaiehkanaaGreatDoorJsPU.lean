/-
  CONTRACT OF strconv.ParseUint, of four bytes in base 16 within 16 bits. Conditions: none.
-/
import Derived.Test.YtbgadfaiehkanaaGreatDoorPj4
import Derived.Lib.ConvBytes
import Derived.Laws.Strings3
import Derived.Laws.Closers25
import Derived.Laws.Closers25b
import Derived.BigCall
import Derived.BigGuard
namespace Go.Proofs.YtbgadfaiehkanaaGreatDoor
open Go.RowKit Go.Proofs Go.Shelf
set_option linter.unusedVariables false
set_option maxRecDepth 100000

/-- A letter made small, as the library has it. -/
def lowL (c : UInt8) : Int := bits .or .u8 (c.toNat : Int) 32

theorem low_all : ∀ X : Fin 256, (65 ≤ X.val ∧ X.val ≤ 70 → bits .or .u8 ((X.val : Nat) : Int) 32 = ((X.val + 32 : Nat) : Int)) ∧ (97 ≤ X.val ∧ X.val ≤ 102 → bits .or .u8 ((X.val : Nat) : Int) 32 = ((X.val : Nat) : Int)) ∧
    (¬ (65 ≤ X.val ∧ X.val ≤ 70) → ¬ (97 ≤ X.val ∧ X.val ≤ 102) → bits .or .u8 ((X.val : Nat) : Int) 32 < 97 ∨ 103 ≤ bits .or .u8 ((X.val : Nat) : Int) 32) := by decide

theorem low_some {c : UInt8} {d : Nat} (hd : ¬ (48 ≤ c.toNat ∧ c.toNat ≤ 57)) (h : M.hx c = some d) : bits .or .u8 (c.toNat : Int) 32 = (d : Int) + 87 ∧ 10 ≤ d ∧ d < 16 := by
  obtain ⟨h1, h2, h3⟩ := low_all ⟨c.toNat, c.toNat_lt⟩
  unfold M.hx at h
  rw [if_neg hd] at h
  by_cases c1 : 97 ≤ c.toNat ∧ c.toNat ≤ 102
  · rw [if_pos c1] at h
    injection h with h
    have := h2 c1
    simp only at this
    omega
  rw [if_neg c1] at h
  by_cases c2 : 65 ≤ c.toNat ∧ c.toNat ≤ 70
  · rw [if_pos c2] at h
    injection h with h
    have := h1 c2
    simp only at this
    omega
  · rw [if_neg c2] at h; cases h
theorem low_none {c : UInt8} (hd : ¬ (48 ≤ c.toNat ∧ c.toNat ≤ 57)) (h : M.hx c = none) : bits .or .u8 (c.toNat : Int) 32 < 97 ∨ 103 ≤ bits .or .u8 (c.toNat : Int) 32 := by
  obtain ⟨h1, h2, h3⟩ := low_all ⟨c.toNat, c.toNat_lt⟩
  unfold M.hx at h
  rw [if_neg hd] at h
  by_cases c1 : 97 ≤ c.toNat ∧ c.toNat ≤ 102
  · rw [if_pos c1] at h; cases h
  rw [if_neg c1] at h
  by_cases c2 : 65 ≤ c.toNat ∧ c.toNat ≤ 70
  · rw [if_pos c2] at h; cases h
  · exact h3 c2 c1
theorem hx_dig {c : UInt8} (h : 48 ≤ c.toNat ∧ c.toNat ≤ 57) : M.hx c = some (c.toNat - 48) := by unfold M.hx; rw [if_pos h]

/-- What ParseUint hands back. -/
def u16Ends : Option Nat → Value
  | some v => .tuple #[.int .u64 (v : Int), .nilIface]
  | none => .tuple #[.int .u64 0, .iface 240 (.int .i64 2)]

set_option maxHeartbeats 32000000 in
theorem parseU16_in (bs : List UInt8) (hn : bs.length = 4) (w : World) :
    Calls Tryz.prog 214 #[.string ⟨bs.toArray⟩, .int .i64 16, .int .i64 16] w fun e w' => e = .returned (u16Ends (M.hexG 4 bs 0)) ∧ Below w.heap.size w w' := by
  obtain ⟨t, ht⟩ : ∃ t : ByteArray, t = ⟨bs.toArray⟩ := ⟨_, rfl⟩
  have zt : t.size = 4 := by rw [ht]; exact hn
  have hemp : t.toList.isEmpty = false := by
    rw [Lib.toList_data, ht]
    cases bs with
    | nil => cases hn
    | cons a b => rfl
  have hcv := Lib.run_convert_string_bytes (P := Tryz.prog) w 9 22 5 t (u := .string) Tryz.underlying9 Tryz.underlying22 Tryz.underlying5
  have hB : ∀ j, j < 4 → (Lib.bytesWorld w 5 t).cell? ⟨w.heap.size, j, none⟩ = some (.int .u8 (bs.getD j 0).toNat) := fun j hj => by
    have := Lib.bytesWorld_cell w 5 t j (by rw [zt]; exact hj)
    rw [ht] at this ⊢
    exact this
  have HBel : Hid (Below w.heap.size w (Lib.bytesWorld w 5 t)) := Lib.bytesWorld_below w 5 t
  rw [← ht]
  obtain ⟨W1, hW1⟩ : ∃ W1, W1 = Lib.bytesWorld w 5 t := ⟨_, rfl⟩
  rw [← hW1] at hcv hB HBel
  rw [zt] at hcv
  clear hW1 ht
  have hmv : IntKind.u64.wrap (IntKind.u64.wrap 65536 - 1) = 65535 := by
    rw [IntKind.wrap_u64, IntKind.wrap_u64]
    decide
  obtain ⟨res, hres⟩ : ∃ r, r = M.hexG 4 bs 0 := ⟨_, rfl⟩
  rw [← hres]
  have HRES := Lib.hid hres
  clear hres
  go_enter Tryz.func214, Tryz.ntmps214
  go_wp2
  go_loop [12, 13, 101] (fun vu vn vi => ∃ (k acc : Nat) (a : Int), vu = .bool false ∧ vn = .int .u64 a ∧ vi = .int .i64 k ∧ k ≤ 4 ∧ Hid (a = (acc : Int) ∧ acc < 16 ^ k ∧ res = M.hexG (4 - k) (bs.drop k) acc))
    (fun _ _ vi => 4 - (intOf vi).toNat)
  case atStart => exact ⟨0, 0, 0, rfl, rfl, rfl, by omega, rfl, by decide, by rw [HRES.out]; rfl⟩
  case round =>
    obtain ⟨k, acc, a, rfl, rfl, rfl, hk, hh⟩ := hrel
    obtain ⟨ha, hacc, hdec⟩ := hh.out
    clear hh
    have a0 : 0 ≤ a := by omega
    by_cases hkn : k < 4
    · have hc := hB k hkn
      have hp : 16 ^ k ≤ 16 ^ 3 := Nat.pow_le_pow_right (by decide) (by omega)
      have hp3 : (16 : Nat) ^ 3 = 4096 := rfl
      have a1 : a ≤ 4095 := by omega
      have hdrop : bs.drop k = bs[k]'(by omega) :: bs.drop (k + 1) := List.drop_eq_getElem_cons (by omega)
      have hget : bs.getD k 0 = bs[k]'(by omega) := by simp [List.getD, List.getElem?_eq_getElem (show k < bs.length by omega)]
      have h4 : 4 - k = (4 - (k + 1)) + 1 := by omega
      rw [hdrop, h4] at hdec
      rw [hget] at hc
      generalize bs[k]'(by omega) = c at hc hdec
      have hc256 : c.toNat < 256 := c.toNat_lt
      have HP : Hid (∀ d, d < 16 → acc * 16 + d < 16 ^ (k + 1)) := fun d hd => by rw [Nat.pow_succ]; omega
      clear hB hdrop hget hp h4 hacc hp3
      by_cases hdig : 48 ≤ c.toNat ∧ c.toNat ≤ 57
      · have hF : M.hexG (4 - (k + 1) + 1) (c :: bs.drop (k + 1)) acc = M.hexG (4 - (k + 1)) (bs.drop (k + 1)) (acc * 16 + (c.toNat - 48)) := by
          show ((M.hx c).bind fun d => M.hexG _ _ (acc * 16 + d)) = _
          rw [hx_dig hdig]
          rfl
        obtain ⟨hd0, hd1⟩ := hdig
        have HN : Hid (a * 16 + ((c.toNat : Int) - 48) = ((acc * 16 + (c.toNat - 48) : Nat) : Int) ∧ acc * 16 + (c.toNat - 48) < 16 ^ (k + 1) ∧ res = M.hexG (4 - (k + 1)) (bs.drop (k + 1)) (acc * 16 + (c.toNat - 48))) := Lib.hid ⟨by omega, HP.out _ (by omega), hdec.trans hF⟩
        clear hF hdec ha HP
        go_wp2
        refine ⟨⟨k + 1, acc * 16 + (c.toNat - 48), a * 16 + ((c.toNat : Int) - 48), rfl, (by first | rfl | (congr 1; omega)), (by first | rfl | (congr 1; omega)), by omega, HN⟩, by simp [intOf]; omega⟩
      · cases hx : M.hx c with
        | some d =>
          obtain ⟨hl, hd0, hd1⟩ := low_some hdig hx
          have hF : M.hexG (4 - (k + 1) + 1) (c :: bs.drop (k + 1)) acc = M.hexG (4 - (k + 1)) (bs.drop (k + 1)) (acc * 16 + d) := by
            show ((M.hx c).bind fun d => M.hexG _ _ (acc * 16 + d)) = _
            rw [hx]
            rfl
          have HN : Hid (a * 16 + (d : Int) = ((acc * 16 + d : Nat) : Int) ∧ acc * 16 + d < 16 ^ (k + 1) ∧ res = M.hexG (4 - (k + 1)) (bs.drop (k + 1)) (acc * 16 + d)) := Lib.hid ⟨by omega, HP.out _ hd1, hdec.trans hF⟩
          have hne : ¬ (c.toNat : Int) = 95 := fun e => by
            have e1 : c = 95 := UInt8.toNat_inj.1 (by rw [show c.toNat = 95 by omega]; rfl)
            rw [e1] at hx
            cases hx
          clear hF hdec ha HP hx
          go_wp2
          all_goals refine ⟨⟨k + 1, acc * 16 + d, a * 16 + (d : Int), rfl, (by first | rfl | (congr 1; omega)), (by first | rfl | (congr 1; omega)), by omega, HN⟩, by simp [intOf]; omega⟩
        | none =>
          have hl := low_none hdig hx
          have HF : Hid (res = none) := by
            rw [Hid, hdec]
            show ((M.hx c).bind fun d => M.hexG _ _ (acc * 16 + d)) = _
            rw [hx]
            rfl
          clear hdec ha HP hx
          go_wp2
          all_goals go_ret2
          all_goals exact ⟨by rw [HF.out]; rfl, HBel.out⟩
    · have hkk : k = 4 := by omega
      subst hkk
      have HF : Hid (res = some acc) := by rw [Hid, hdec]; rfl
      subst ha
      clear hacc hdec a0
      go_wp2
      go_ret2
      exact ⟨by rw [HF.out]; rfl, HBel.out⟩

end Go.Proofs.YtbgadfaiehkanaaGreatDoor
