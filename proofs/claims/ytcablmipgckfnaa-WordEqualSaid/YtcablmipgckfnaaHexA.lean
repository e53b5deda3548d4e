/-
  CONTRACTS OF word.Hex AND word.Unhex. Conditions: rows of up to 2^40 bytes.
-/
import Derived.Test.YtcablmipgckfnaaBase
import Derived.Test.YtcablmipgckfnaaShelf
import Derived.Test.YtcablmipgckfnaaHexMath
import Derived.WalkSpells
namespace Go.Proofs.Ytcablmipgckfnaa
open Go.RowKit

theorem digit_at (n : Nat) (h : n < 16) : Value.int .u8 (((ByteArray.mk #[48, 49, 50, 51, 52, 53, 54, 55, 56, 57, 97, 98, 99, 100, 101, 102])[n]'h).toNat : Int) = .int .u8 ((M.dig n).toNat : Int) := by
  have e := M.digits_at ⟨n, h⟩
  simp only at e
  rw [← e]
  have : M.digits.getD n 0 = (ByteArray.mk #[48, 49, 50, 51, 52, 53, 54, 55, 56, 57, 97, 98, 99, 100, 101, 102])[n]'h := by
    have h2 : n < M.digits.length := h
    simp only [List.getD_eq_getElem?_getD, List.getElem?_eq_getElem h2, Option.getD_some]
    rfl
  rw [this]

theorem hex_any (v : Value) (bs : List UInt8) (w : World) (h : IsB w v bs) (hs : bs.length ≤ 1099511627776) :
    Calls Try.prog 26 #[v] w fun e w' => e = .returned (.string ⟨(M.hex bs).toArray⟩) ∧ Below w.heap.size w w' := by
  obtain ⟨ao, cap, rfl, hl, hm, h⟩ := h
  unfold maxLen at hm
  have H : Hid (At w ao bs) := h
  clear h
  go_enter Try.func26, Try.ntmps26
  go_wp2_with fail
  have g := grow_fresh w.heap.size w.heap.size (2 * bs.length) (w.alloc (.cells #[.pointer none, .slice none 0 0] 50)) (Nat.le_refl _) (heap_alloc_new w _) (by simp) (by omega)
  rw [show ((2 * bs.length : Nat) : Int) = 2 * (bs.length : Int) by omega] at g
  refine g.mono ?_
  rintro e w1 ⟨rfl, hB, hb1⟩
  have hb0 : Below w.heap.size w w1 := ((Below.refl _ _).alloc (Nat.le_refl _) _).trans hb1
  clear g hb1
  go_wp2_with fail
  go_loopw [11] (fun i wr => ∃ k : Nat, k ≤ bs.length ∧ i = .int .i64 k ∧ Hid (Lib.BuilderAt 50 5 w.heap.size w.heap.size (.pointer (some ⟨w.heap.size, 0, none⟩)) (Lib.byteCells (M.hex (bs.take k))) wr) ∧ Below w.heap.size w wr)
    (fun i _ => bs.length - (intOf i).toNat)
  case atStart => exact ⟨0, Nat.zero_le _, rfl, hB, hb0⟩
  case round =>
    rename_i wr
    obtain ⟨k, hk, rfl, hbk, hb⟩ := hrel
    have hsz : w.heap.size ≤ wr.heap.size := hb.size
    by_cases hlt : k < bs.length
    · rcases H.out with h0 | ⟨b, off, rfl, hc0⟩
      · subst h0; simp at hlt
      have g := hc0 k hlt
      clear hc0
      obtain ⟨c, hcc⟩ : ∃ c, c = (bs.getD k 0).toNat := ⟨_, rfl⟩
      rw [← hcc] at g
      have hblt : b < w.heap.size := World.block_lt_of_cell? w _ g
      have hc : wr.cell? ⟨b, off + k, none⟩ = some (.int .u8 c) := by
        rw [hb.cell hblt]
        exact g
      have hc256 : c < 256 := by rw [hcc]; exact (bs.getD k 0).toNat_lt
      have HC : Hid (c = (bs.getD k 0).toNat) := hcc
      clear hcc
      have hand : bits BinOp.and .u8 (c : Int) 15 = (c : Int) % 16 := by
        have e := u8_and_nat c 15 hc256 (by omega)
        have e15 : c &&& 15 = c % 16 := Nat.and_two_pow_sub_one_eq_mod c 4
        rw [e15] at e
        exact e
      have HL : Hid ((Lib.byteCells (M.hex (bs.take k))).length = 2 * k) := by
        rw [Hid, byteCells_length, M.hex_length, List.length_take]
        omega
      go_wp2_with fail
      refine (writeByte_any w.heap.size w.heap.size _ _ _ (.inr hbk.out) (by rw [HL.out]; omega) hsz).mono ?_
      rintro e w2 ⟨rfl, hB2, hb2⟩
      have hbb := hb.trans hb2
      have hc2 : w2.cell? ⟨b, off + k, none⟩ = some (.int .u8 c) := by
        rw [hb2.cell hblt]
        exact hc
      have HB2 : Hid (Lib.BuilderAt 50 5 w.heap.size w.heap.size (.pointer (some ⟨w.heap.size, 0, none⟩)) (Lib.byteCells (M.hex (bs.take k)) ++ [.int .u8 ((M.dig (c / 16)).toNat : Int)]) w2) := by
        rw [← digit_at (c / 16) (by omega)]
        exact hB2
      clear hB2 hc
      go_wp2_with fail
      refine (writeByte_any w.heap.size w.heap.size _ _ _ (.inr HB2.out) (by rw [List.length_append, HL.out]; simp; omega) hbb.size).mono ?_
      rintro e w3 ⟨rfl, hB3, hb3⟩
      have hbc := hbb.trans hb3
      have HB3 : Hid (Lib.BuilderAt 50 5 w.heap.size w.heap.size (.pointer (some ⟨w.heap.size, 0, none⟩)) (Lib.byteCells (M.hex (bs.take (k + 1)))) w3) := by
        have e : Lib.byteCells (M.hex (bs.take (k + 1))) = Lib.byteCells (M.hex (bs.take k)) ++ [.int .u8 ((M.dig (c / 16)).toNat : Int)] ++ [.int .u8 ((M.dig (c % 16)).toNat : Int)] := by
          rw [List.take_succ_eq_append_getElem hlt, M.hex_append, byteCells_append, List.append_assoc]
          have ec : (bs[k]'hlt).toNat = c := by
            rw [HC.out]
            simp [hlt]
          simp [M.hex, Lib.byteCells, ec]
        rw [Hid, e, ← digit_at (c % 16) (by omega)]
        exact hB3
      clear hB3 HB2
      go_wp2
      go_roundw
      case rel => exact ⟨k + 1, by omega, by go_num, HB3, hbc⟩
      case measure => simp [intOf]; omega
    · obtain rfl : k = bs.length := by omega
      go_wp2_with fail
      refine (string_any w.heap.size w.heap.size (M.hex bs) _ (.inr (by have := hbk.out; rw [List.take_length] at this; exact this)) hsz).mono ?_
      rintro e w2 ⟨rfl, hb2⟩
      go_wp2
      go_ret
      exact ⟨rfl, hb.trans hb2⟩

theorem byte_at (s : ByteArray) (i : Nat) (h : i < s.size) : s[i] = s.data.toList.getD i 0 := by
  have h2 : i < s.data.toList.length := h
  simp only [List.getD_eq_getElem?_getD, List.getElem?_eq_getElem h2, Option.getD_some]
  rfl

theorem find_digit (c : UInt8) (n : Nat) (w : World) (h : M.val c = n) (hn : n ≤ 15) :
    Calls Try.prog 32 #[.string ⟨#[48, 49, 50, 51, 52, 53, 54, 55, 56, 57, 97, 98, 99, 100, 101, 102]⟩, .int .u8 (c.toNat : Int)] w fun e w' => e = .returned (.int .i64 n) ∧ w = w' := by
  refine (indexByte_any _ _ w).mono ?_
  rintro e w' ⟨rfl, rfl⟩
  have e1 : ((c.toNat : Int).toNat.toUInt8) = c := by simp
  have e2 := M.index_of c
  rw [if_pos (by omega), h] at e2
  refine ⟨?_, rfl⟩
  rw [e1, ← e2]
  rfl

theorem find_none (c : UInt8) (w : World) (h : ¬ M.val c ≤ 15) :
    Calls Try.prog 32 #[.string ⟨#[48, 49, 50, 51, 52, 53, 54, 55, 56, 57, 97, 98, 99, 100, 101, 102]⟩, .int .u8 (c.toNat : Int)] w fun e w' => e = .returned (.int .i64 (-1)) ∧ w = w' := by
  refine (indexByte_any _ _ w).mono ?_
  rintro e w' ⟨rfl, rfl⟩
  have e1 : ((c.toNat : Int).toNat.toUInt8) = c := by simp
  have e2 := M.index_of c
  rw [if_neg h] at e2
  refine ⟨?_, rfl⟩
  rw [e1, ← e2]
  rfl

theorem or_digits : ∀ a b : Fin 16, bits BinOp.or .i64 ((a.val : Int) * 16) (b.val : Int) = (a.val : Int) * 16 + b.val := by decide +kernel

/-- The call hands back what the text says as bytes, and whether it is one of digits. -/
def GivesUnhex (w : World) (s : List UInt8) (e : Ending) (w' : World) : Prop :=
  ∃ r, e = .returned (.tuple #[r, .bool (M.unhex s).isSome]) ∧ IsB w' r ((M.unhex s).getD []) ∧ Below w.heap.size w w'

theorem givesNone {w w' : World} {s : List UInt8} (h : M.unhex s = none) (hb : Below w.heap.size w w') : GivesUnhex w s (.returned (.tuple #[.slice none 0 0, .bool false])) w' :=
  ⟨_, by rw [h]; rfl, by rw [h]; exact IsB.nil w', hb⟩

theorem unhex_any (s : ByteArray) (w : World) (hs : s.size ≤ 1099511627776) :
    Calls Try.prog 24 #[.string s] w (GivesUnhex w s.data.toList) := by
  obtain ⟨i0, hi, hz0, hz1, hz2⟩ := info_parts Try.info5
  by_cases hodd : s.size % 2 = 0
  · obtain ⟨n, hn⟩ : ∃ n, n = s.size / 2 := ⟨_, rfl⟩
    have HN : Hid (n = s.size / 2) := hn
    have h2n : s.size = 2 * n := by omega
    have H2N : Hid (s.size = 2 * n) := h2n
    clear hn
    go_enter Try.func24, Try.ntmps24
    go_wp2_with (at_make; go_must (refine wpList_make_full _ rfl _ _ 25 rfl w.heap.size 5 i0 (.int .u8 0) 1 Try.underlying25 hi hz0 hz1 .i64 .i64 _ _ n rfl rfl (by omega) (by omega) (by rw [hz2]; omega) (by unfold maxLen; omega) (Nat.le_refl _) ?_))
    intro w1 hown hgrow
    have hb1 : Below w.heap.size w w1 := (Below.refl _ _).grown hgrow (Nat.le_refl _) (by intro k hk; cases hk)
    have HO : Hid (w1.ownsRow w.heap.size 5 1 (.slice (some ⟨w.heap.size, 0, none⟩) n n) n (Lib.byteCells (M.upTo s.data.toList 0) ++ List.replicate (n - 0) (.int .u8 0))) := by
      have e : Lib.byteCells (M.upTo s.data.toList 0) ++ List.replicate (n - 0) (Value.int .u8 0) = (madeCells #[Value.int IntKind.u8 0] n).toList := by
        simp [M.upTo, Lib.byteCells, toList_madeCells_one]
      rw [Hid, e]
      exact hown
    clear hown hgrow hi hz0 hz1 hz2
    go_wp2_with fail
    go_loopw [18] (fun i wr => ∃ k : Nat, k ≤ n ∧ i = .int .i64 k ∧ Hid (∀ j, j < k → M.good s.data.toList j) ∧ Hid (wr.ownsRow w.heap.size 5 1 (.slice (some ⟨w.heap.size, 0, none⟩) n n) n (Lib.byteCells (M.upTo s.data.toList k) ++ List.replicate (n - k) (.int .u8 0))) ∧ Below w.heap.size w wr)
      (fun i _ => n - (intOf i).toNat)
    case atStart => exact ⟨0, Nat.zero_le _, rfl, fun j hj => absurd hj (Nat.not_lt_zero j), HO, hb1⟩
    case round =>
      rename_i wr
      obtain ⟨k, hk, rfl, hgood, hown, hb⟩ := hrel
      by_cases hlt : k < n
      · have h1 : 2 * k < s.size := by omega
        have h2 : 2 * k + 1 < s.size := by omega
        have e1 := byte_at s (2 * k) h1
        have e2 := byte_at s (2 * k + 1) h2
        have E1 : Hid (s[2 * k] = s.data.toList.getD (2 * k) 0) := e1
        have E2 : Hid (s[2 * k + 1] = s.data.toList.getD (2 * k + 1) 0) := e2
        clear e1 e2
        by_cases hg1 : M.val s[2 * k] ≤ 15
        · by_cases hg2 : M.val s[2 * k + 1] ≤ 15
          · obtain ⟨n1, hn1⟩ : ∃ n1, M.val s[2 * k] = n1 := ⟨_, rfl⟩
            obtain ⟨n2, hn2⟩ : ∃ n2, M.val s[2 * k + 1] = n2 := ⟨_, rfl⟩
            rw [hn1] at hg1
            rw [hn2] at hg2
            have HN1 : Hid (M.val s[2 * k] = n1) := hn1
            have HN2 : Hid (M.val s[2 * k + 1] = n2) := hn2
            clear hn1 hn2
            have hor := or_digits ⟨n1, by omega⟩ ⟨n2, by omega⟩
            simp only at hor
            have hc : wr.cell? ⟨w.heap.size, k, none⟩ = some (.int .u8 0) := by
              rw [hown.out.cellAt k (by omega)]
              rw [List.getElem?_append_right (by simp [byteCells_length, M.upTo_length])]
              rw [byteCells_length, M.upTo_length, Nat.sub_self, List.getElem?_replicate, if_pos (by omega)]
            have hf : wr.frozen? ⟨w.heap.size, k, none⟩ = false := hown.out.frozenAt k
            go_wp2_with fail
            refine (find_digit _ n1 _ HN1.out hg1).mono ?_
            rintro e w2 ⟨rfl, rfl⟩
            go_wp2_with fail
            refine (find_digit _ n2 _ HN2.out hg2).mono ?_
            rintro e w2 ⟨rfl, rfl⟩
            go_wp2_with fail
            go_roundw
            case rel =>
              refine ⟨k + 1, by omega, by go_num, ?_, ?_, hb.setCell (Nat.le_refl _) _⟩
              · intro j hj
                by_cases hjk : j < k
                · exact hgood.out j hjk
                · obtain rfl : j = k := by omega
                  rw [M.good, ← E1.out, ← E2.out, HN1.out, HN2.out]
                  exact ⟨hg1, hg2⟩
              · have h := (hown.out.stored k (Value.int IntKind.u8 (↑n1 * 16 + ↑n2))).1
                rw [set_next _ _ _ k (n - k) (by simp [byteCells_length, M.upTo_length]) (by omega)] at h
                have e : Value.int IntKind.u8 ((n1 : Int) * 16 + n2) = .int .u8 ((M.byteAt s.data.toList k).toNat : Int) := by
                  rw [M.byteAt, ← E1.out, ← E2.out, HN1.out, HN2.out]
                  congr 1
                  rw [show (UInt8.ofNat (16 * n1 + n2)).toNat = (16 * n1 + n2) % 256 by simp]
                  omega
                rw [Hid, M.upTo, byteCells_append, Nat.sub_add_eq, e]
                rw [e] at h
                exact h
            case measure => simp [intOf]; omega
          · have HB : Hid (M.unhex s.data.toList = none) := M.unhex_none _ k (by show k < s.size / 2; omega) (fun g => hg2 (by rw [E2.out]; exact g.2))
            obtain ⟨n1, hn1⟩ : ∃ n1, M.val s[2 * k] = n1 := ⟨_, rfl⟩
            rw [hn1] at hg1
            have HN1 : Hid (M.val s[2 * k] = n1) := hn1
            have HG2 : Hid (¬ M.val s[2 * k + 1] ≤ 15) := hg2
            clear hn1 hg2
            go_wp2_with fail
            refine (find_digit _ n1 _ HN1.out hg1).mono ?_
            rintro e w2 ⟨rfl, rfl⟩
            go_wp2_with fail
            refine (find_none _ _ HG2.out).mono ?_
            rintro e w2 ⟨rfl, rfl⟩
            go_wp2_with fail
            go_ret2
            exact givesNone HB.out hb
        · have HB : Hid (M.unhex s.data.toList = none) := M.unhex_none _ k (by show k < s.size / 2; omega) (fun g => hg1 (by rw [E1.out]; exact g.1))
          have HG1 : Hid (¬ M.val s[2 * k] ≤ 15) := hg1
          clear hg1
          by_cases hg2 : M.val s[2 * k + 1] ≤ 15
          · obtain ⟨n2, hn2⟩ : ∃ n2, M.val s[2 * k + 1] = n2 := ⟨_, rfl⟩
            rw [hn2] at hg2
            have HN2 : Hid (M.val s[2 * k + 1] = n2) := hn2
            clear hn2
            go_wp2_with fail
            refine (find_none _ _ HG1.out).mono ?_
            rintro e w2 ⟨rfl, rfl⟩
            go_wp2_with fail
            refine (find_digit _ n2 _ HN2.out hg2).mono ?_
            rintro e w2 ⟨rfl, rfl⟩
            go_wp2_with fail
            go_ret2
            exact givesNone HB.out hb
          · have HG2 : Hid (¬ M.val s[2 * k + 1] ≤ 15) := hg2
            clear hg2
            go_wp2_with fail
            refine (find_none _ _ HG1.out).mono ?_
            rintro e w2 ⟨rfl, rfl⟩
            go_wp2_with fail
            refine (find_none _ _ HG2.out).mono ?_
            rintro e w2 ⟨rfl, rfl⟩
            go_wp2_with fail
            go_ret2
            exact givesNone HB.out hb
      · obtain rfl : k = n := by omega
        go_wp2_with fail
        go_ret2
        have hsome : M.unhex s.data.toList = some (M.upTo s.data.toList k) := by
          have hk2 : s.data.toList.length / 2 = k := HN.out.symm
          have := M.unhex_some s.data.toList hodd (by rw [hk2]; exact hgood.out)
          rw [hk2] at this
          exact this
        refine ⟨_, by rw [hsome]; rfl, ?_, hb⟩
        rw [hsome]
        have h := hown.out
        rw [Nat.sub_self, List.replicate_zero, List.append_nil] at h
        have hO : Own wr w.heap.size (.slice (some ⟨w.heap.size, 0, none⟩) k k) (M.upTo s.data.toList k) := by
          rw [Own, M.upTo_length]
          exact h
        exact hO.isB
  · have HO : Hid (M.unhex s.data.toList = none) := M.unhex_odd _ hodd
    go_enter Try.func24, Try.ntmps24
    go_wp2_with fail
    go_ret2
    exact givesNone HO.out (Below.refl _ _)

end Go.Proofs.Ytcablmipgckfnaa
