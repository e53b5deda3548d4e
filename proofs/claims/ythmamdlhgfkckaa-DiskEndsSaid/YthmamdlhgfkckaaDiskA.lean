/-
  CONTRACTS OF bytes.Clone AND OF package disk's small functions: New, Load, Blocks, Down, Waiting, Image, Arm, has, act. Conditions: the disk lies so; rows of at most 2^47 bytes.
-/
import Derived.Test.YthmamdlhgfkckaaDiskMem
namespace Go.Proofs.Ythmamdlhgfkckaa
open Go.RowKit
set_option linter.unusedVariables false

theorem not_nil9 (ad : Addr) (n cap : Nat) (w : World) : (binOp .eql 22 (.slice (some ad) n cap) (.slice none 0 0)).run Try.prog w = .ok (.bool false) w := rfl

theorem yes_nil9 (n cap : Nat) (w : World) : (binOp .eql 22 (.slice none n cap) (.slice none 0 0)).run Try.prog w = .ok (.bool true) w := rfl

set_option maxHeartbeats 2000000 in
theorem clone9_any (kv : Value) (ks : List UInt8) (w : World) (hk : IsB w kv ks) (hlen : ks.length ≤ 140737488355328) :
    Calls Try.prog 32 #[kv] w (Makes w ks) := by
  obtain ⟨ao, cap, rfl⟩ := hk.shape
  cases ao with
  | none =>
    have he : ks = [] := by
      obtain ⟨ao', cap', e, h1, h2, h3⟩ := hk
      rcases h3 with h | ⟨b, off, h4, h⟩
      · exact h
      · rw [h4] at e; cases e
    subst he
    have hn := yes_nil9 0 cap
    clear hk hlen
    show Calls Try.prog 32 #[.slice none 0 cap] w (Makes w [])
    go_enter Try.func32, Try.ntmps32
    go_wp2
    go_ret
    exact ⟨_, rfl, World.ownsRow_nil _ _ _ _, Below.refl _ _⟩
  | some ad =>
    have HK := Lib.hid hk
    obtain ⟨n, hn⟩ : ∃ n, n = ks.length := ⟨_, rfl⟩
    have HN : Hid (ks.length = n) := hn.symm
    have HL : Hid (n ≤ 140737488355328) := by rw [Hid, hn]; exact hlen
    rw [← hn] at HK ⊢
    have hnn := not_nil9 ad n cap
    clear hk hn hlen
    go_enter Try.func32, Try.ntmps32
    go_wp2_with (at_builtin; go_must (refine wpList_app _ rfl _ _ rfl w.heap.size _ [] rfl ?c1 _ ks rfl ?c2 (by intro n c e; cases e) (by rw [HN.out]; have := HL.out; simp; exact this) (by simp) ?_))
    case c1 => exact own_empty w
    case c2 => exact HK.out.below ((Below.refl _ _).alloc (Nat.le_refl _) _)
    intro r1 w1 o1 b1 z1
    have K1 : Below w.heap.size w w1 := ((Below.refl _ _).alloc (Nat.le_refl _) (.cells #[] 5)).trans b1
    clear z1 b1
    go_wp2
    go_ret
    exact ⟨r1, rfl, o1, K1⟩

/-- A disk that was just made. -/
theorem dkAt_new {w w' : World} {g : Nat} {sv : Value} {m : M.Dsk} (hB : Blk w' g 60 [sv, .slice none 0 0, .int .i64 ((0 : Nat) : Int), .bool false]) (ho : Own w' w.heap.size sv m.safe.flatten) (hg : w.heap.size ≤ g) (hne : ∀ k, sv.ownBlock = some k → k ≠ g)
    (hm : m = ⟨m.safe, [], 0, false⟩) (hok : m.Ok) : DkAt (fun k => w.heap.size ≤ k ∧ k < w'.heap.size) w' g sv (.slice none 0 0) [] m where
  blk := by rw [hm]; exact hB
  srow := ho.mono (Nat.zero_le _)
  wrow := by rw [hm]; exact World.ownsRow_nil _ _ _ _
  dlen := by rw [hm]; rfl
  dvs_ := fun j hj => by rw [hm] at hj; cases hj
  tg := ⟨hg, hB.lt⟩
  ts := fun k hk => ⟨ho.block_lt k hk, hne k hk⟩
  tw := fun b hb => by cases hb
  there := fun k hk => hk.2
  left_ := by rw [hm]; exact (by decide : 0 < 9223372036854775808)
  ok := hok

theorem M.dload_ok (bs : List UInt8) (h256 : bs.length % 256 = 0) (hmax : bs.length ≤ 557056) : (M.dload bs).Ok ∧ (M.dload bs).safe.flatten = bs :=
  ⟨⟨by rw [M.dload, M.cut_length]; omega, M.cut_full _ _ (by omega), fun c hc => by cases hc⟩, by rw [M.dload, M.cut_flat, List.take_of_length_le (by omega)]⟩

theorem M.dnew_ok (n : Nat) : (M.dnew n).Ok ∧ (M.dnew n).safe.flatten = List.replicate (256 * min n 2176) 0 :=
  ⟨⟨by rw [M.dnew, List.length_replicate]; omega, fun b hb => by rw [List.eq_of_mem_replicate hb]; exact List.length_replicate, fun c hc => by cases hc⟩, by rw [M.dnew, M.zero256, List.flatten_replicate_replicate, Nat.mul_comm]⟩

set_option maxHeartbeats 4000000 in
theorem load9_ok (bv : Value) (bs : List UInt8) (w : World) (hb : IsB w bv bs) (h256 : bs.length % 256 = 0) (hmax : bs.length ≤ 557056) :
    Calls Try.prog 10 #[bv] w fun e w' => ∃ g sv T, e = .returned (.tuple #[.pointer (some ⟨g, 0, none⟩), .int .i64 0]) ∧ DkAt T w' g sv (.slice none 0 0) [] (M.dload bs) ∧ (∀ k, T k → w.heap.size ≤ k) ∧ Below w.heap.size w w' := by
  have C := Lib.hid (clone9_any bv bs w hb (by omega))
  have HD := Lib.hid (M.dload_ok bs h256 hmax)
  obtain ⟨ao, cap, rfl⟩ := hb.shape
  obtain ⟨l, hl⟩ : ∃ l, l = bs.length := ⟨_, rfl⟩
  rw [← hl] at h256 hmax C ⊢
  have t1 : (l : Int).tmod 256 = 0 := by rw [Int.tmod_eq_emod_of_nonneg (by omega)]; omega
  have t1' : (l : Int) % 256 = 0 := by omega
  have t3 : ¬ (557056 : Int) < (l : Int) := by omega
  clear hb hl h256 hmax
  go_enter Try.func10, Try.ntmps10
  go_wp2_with fail
  refine C.out.mono ?_
  rintro e w1 ⟨sv, rfl, o1, k1⟩
  obtain ⟨g, hg⟩ : ∃ g, g = w1.heap.size := ⟨_, rfl⟩
  obtain ⟨W, hW⟩ : ∃ W, Hid (W = w1.alloc (.cells #[sv, .slice none 0 0, .int .i64 0, .bool false] 60)) := ⟨_, rfl⟩
  have B0 : Blk W g 60 [sv, .slice none 0 0, .int .i64 ((0 : Nat) : Int), .bool false] := by rw [hW.out]; exact Blk.newAt _ _ _ _ _ hg rfl
  have k2 : Below w1.heap.size w1 W := by rw [hW.out]; exact (Below.refl _ _).alloc (Nat.le_refl _) _
  have R : Hid (DkAt (fun k => w.heap.size ≤ k ∧ k < W.heap.size) W g sv (.slice none 0 0) [] (M.dload bs)) := dkAt_new B0 (by rw [HD.out.2]; exact o1.below k2) (by rw [hg]; exact k1.size) (fun k hk e => by have := (o1.block_lt k hk).2; omega) rfl HD.out.1
  have K : Hid (Below w.heap.size w W) := k1.trans (k2.mono k1.size)
  obtain ⟨sa, sc, rfl⟩ := ownShape o1
  clear B0 k2 o1 k1 C
  go_upto_region 3 with fail
  rw [← hW.out, ← hg]
  clear hW hg
  go_wp2
  go_ret2
  exact ⟨g, _, _, rfl, R.out, fun k h => h.1, K.out⟩

end Go.Proofs.Ythmamdlhgfkckaa
