/-
  CONTRACTS OF bytes.Clone AND OF package disk's small functions: New, Load, Blocks, Down, Waiting, Image, Arm, has, act. Conditions: the disk lies so; rows of at most 2^47 bytes.
-/
import Derived.Test.YtdojalhaklkegaaPkB
namespace Go.Proofs.Ytdojalhaklkegaa
open Go.RowKit
set_option linter.unusedVariables false
set_option maxRecDepth 100000

theorem not_nil9 (ad : Addr) (n cap : Nat) (w : World) : (binOp .eql 22 (.slice (some ad) n cap) (.slice none 0 0)).run Try.prog w = .ok (.bool false) w := rfl

theorem yes_nil9 (n cap : Nat) (w : World) : (binOp .eql 22 (.slice none n cap) (.slice none 0 0)).run Try.prog w = .ok (.bool true) w := rfl

set_option maxHeartbeats 2000000 in
theorem clone9_any (kv : Value) (ks : List UInt8) (w : World) (hk : IsB w kv ks) (hlen : ks.length ≤ 140737488355328) :
    Calls Try.prog 50 #[kv] w (Makes w ks) := by
  obtain ⟨ao, cap, rfl⟩ := hk.shape
  cases ao with
  | none =>
    have he : ks = [] := by
      obtain ⟨ao', cap', e, h1, h2, h3⟩ := hk
      rcases h3 with h | ⟨b, off, h4, h⟩
      · exact h
      · rw [h4] at e; cases e
    subst he
    have hn := yes_nil9 0 cap
    clear hk hlen
    show Calls Try.prog 50 #[.slice none 0 cap] w (Makes w [])
    go_enter Try.func50, Try.ntmps50
    go_wp2
    go_ret
    exact ⟨_, rfl, World.ownsRow_nil _ _ _ _, Below.refl _ _⟩
  | some ad =>
    have HK := Lib.hid hk
    obtain ⟨n, hn⟩ : ∃ n, n = ks.length := ⟨_, rfl⟩
    have HN : Hid (ks.length = n) := hn.symm
    have HL : Hid (n ≤ 140737488355328) := by rw [Hid, hn]; exact hlen
    rw [← hn] at HK ⊢
    have hnn := not_nil9 ad n cap
    clear hk hn hlen
    go_enter Try.func50, Try.ntmps50
    go_wp2_with (at_builtin; go_must (refine wpList_app _ rfl _ _ rfl w.heap.size _ [] rfl ?c1 _ ks rfl ?c2 (by intro n c e; cases e) (by rw [HN.out]; have := HL.out; simp; exact this) (by simp) ?_))
    case c1 => exact own_empty w
    case c2 => exact HK.out.below ((Below.refl _ _).alloc (Nat.le_refl _) _)
    intro r1 w1 o1 b1 z1
    have K1 : Below w.heap.size w w1 := ((Below.refl _ _).alloc (Nat.le_refl _) (.cells #[] 5)).trans b1
    clear z1 b1
    go_wp2
    go_ret
    exact ⟨r1, rfl, o1, K1⟩

theorem M.dload_ok (bs : List UInt8) (h256 : bs.length % 256 = 0) (hmax : bs.length ≤ 557056) : (M.dload bs).Ok ∧ (M.dload bs).safe.flatten = bs :=
  ⟨⟨by rw [M.dload, M.cut_length]; omega, M.cut_full _ _ (by omega), fun c hc => by cases hc⟩, by rw [M.dload, M.cut_flat, List.take_of_length_le (by omega)]⟩

theorem M.dnew_ok (n : Nat) : (M.dnew n).Ok ∧ (M.dnew n).safe.flatten = List.replicate (256 * min n 2176) 0 :=
  ⟨⟨by rw [M.dnew, List.length_replicate]; omega, fun b hb => by rw [List.eq_of_mem_replicate hb]; exact List.length_replicate, fun c hc => by cases hc⟩, by rw [M.dnew, M.zero256, List.flatten_replicate_replicate, Nat.mul_comm]⟩

end Go.Proofs.Ytdojalhaklkegaa
