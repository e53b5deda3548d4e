/-
  THE WALK OF orloplaw04.ChachaStream: it returns true, and writes nothing that was there. Conditions: the program's table of places lies as it was laid.
-/
import Derived.Test.YtaechnhnhfgloaaDoorChaAsk
namespace Go.Proofs.YtaechnhnhfgloaaDoor
open Go.RowKit
set_option linter.unusedVariables false

/-- 'make([]byte, n)'. -/
theorem make_run (n : Nat) (hm : n ≤ 140737488355328) : ∃ C : Array Value, ∀ w : World, (Instr.makeSlice 22 (.int .i64 (n : Int)) (.int .i64 (n : Int))).run Tryd.prog w = .ok (.slice (some ⟨w.heap.size, 0, none⟩) n n) (w.alloc (.cells C 5)) ∧
    Own (w.alloc (.cells C 5)) w.heap.size (.slice (some ⟨w.heap.size, 0, none⟩) n n) (List.replicate n 0) := by
  obtain ⟨i0, h0, hz0, hz1, hz2⟩ := info_parts Tryd.info5
  have hb : (i0.bytes : Int) * (n : Int) ≤ 281474976710656 := by rw [hz2]; omega
  have e : (madeCells (Value.int IntKind.u8 0).cells (n * i0.size)).toList = List.replicate n (.int .u8 0) := by
    rw [hz1, Nat.mul_one]
    exact toList_madeCells_one _ _
  have hsz : (madeCells (Value.int IntKind.u8 0).cells (n * i0.size)).size = n := by rw [← Array.length_toList, e, List.length_replicate]
  refine ⟨madeCells (Value.int IntKind.u8 0).cells (n * i0.size), fun w => ⟨?_, ?_⟩⟩
  · have hrun := run_make (P := Tryd.prog) w 22 5 i0 (.int .u8 0) Tryd.underlying22 h0 hz0 .i64 .i64 n n (by omega) (by omega) hb (by omega)
    simp only [Int.toNat_natCast] at hrun
    exact hrun
  · refine ⟨by rw [byteCells_length, Nat.mul_one], .inr ⟨w.heap.size, n, _, by rw [List.length_replicate], Nat.le_refl _, heap_alloc_new w _, by rw [List.length_replicate]; exact Nat.le_refl _, by unfold maxLen; omega, by rw [hsz, Nat.mul_one], ?_⟩⟩
    rw [e, List.length_replicate, Nat.mul_one, List.take_replicate, Nat.min_eq_left (Nat.le_refl _)]
    simp [Lib.byteCells]

set_option maxHeartbeats 40000000 in
theorem chachaStream_walk (w : World) (hL : LaidP w) (key nonce : List UInt8) (hkl : key.length = 32) (hnl : nonce.length = 12) (c : UInt32) (tv : Value) (text : List UInt8) (ht : IsB w tv text) (hnil : ∀ n c, tv = .slice none n c → c = 0) (m : Nat) (hm : m < 256) :
    Calls Tryd.prog 6 #[.agg (askC key nonce c tv).toArray, .int .u8 m] w fun e w' => e = .returned (.bool true) ∧ Below w.heap.size w w' := by
  have HL := Lib.hid hL
  obtain ⟨r, hr⟩ : ∃ r, r = m % 5 := ⟨_, rfl⟩
  have hr5 : r < 5 := by omega
  have hmr : (m : Int) % 5 = (r : Int) := by omega
  obtain ⟨k, hk⟩ : ∃ k, k = 1 + r := ⟨_, rfl⟩
  have hk5 : k ≤ 5 := by omega
  have hkr : 1 + (r : Int) = (k : Int) := by omega
  obtain ⟨N, hN⟩ : ∃ N, N = 64 * k := ⟨_, rfl⟩
  have hN5 : N ≤ 320 := by omega
  have hN0 : 64 * (k : Int) = (N : Int) := by omega
  have HN := Lib.hid hN
  have HWN : Hid (IntKind.i64.wrap (N : Int) = (N : Int)) := IntWalk.i64_in _ (by omega)
  obtain ⟨g, hg⟩ : ∃ g, g = w.heap.size := ⟨_, rfl⟩
  have HAn : Hid (AskAt (w.alloc (.cells (askC key nonce c tv).toArray 34)) g key nonce c tv) := by rw [hg]; exact askAt_new w key nonce c _ hkl hnl
  have KB : Below w.heap.size w (w.alloc (.cells (askC key nonce c tv).toArray 34)) := (Below.refl _ _).alloc (Nat.le_refl _) _
  have HKB := Lib.hid KB
  obtain ⟨X, hX⟩ : ∃ X, Hid (X = (askC key nonce c tv).toArray) := ⟨_, rfl⟩
  rw [← hX.out] at HAn HKB ⊢
  clear hN hr hk KB hL hkl hnl ht hnil
  go_enter Tryd.func6, Tryd.ntmps6
  go_wp2_with fail
  rw [← hg]
  clear hg
  refine (chaAwake_any _ (HL.out.below HKB.out HL.out.size)).mono ?_
  rintro e w1 ⟨rfl, k1⟩
  have A1 : Hid (AskAt w1 g key nonce c tv) := HAn.out.below k1
  have K1 : Hid (Below w.heap.size w w1) := HKB.out.trans (k1.mono HKB.out.size)
  clear k1
  have c44 := A1.out.ctr
  obtain ⟨Z, hZ⟩ : ∃ Z, Hid (Z = List.replicate N (0 : UInt8)) := ⟨_, rfl⟩
  have S1 : Hid (∀ w', Below w1.heap.size w1 w' → w'.cell? ⟨g, 44, none⟩ = some (.int .u32 (c.toNat : Int))) := fun w' k => (A1.out.below k).ctr
  have X1 := Lib.hid (show ∀ wm v, Below w1.heap.size w1 wm → IsB wm v Z → Calls Tryd.prog 11 #[.slice (some ⟨g, 0, none⟩) 32 32, .slice (some ⟨g, 32, none⟩) 12 12, .int .u32 (c.toNat : Int), v] wm fun e w' =>
      ∃ r, e = .returned (.tuple #[r, .int .i64 0]) ∧ Own w' wm.heap.size r (M.blks key nonce c k) ∧ Below wm.heap.size wm w' from
    fun wm v kw hv => by
      have hA := A1.out.below kw
      have hLm : LaidP wm := (HL.out.below K1.out HL.out.size).below kw (Nat.le_trans HL.out.size K1.out.size)
      have e : M.xo (M.strm key nonce c) Z Z.length = M.blks key nonce c k := by
        rw [hZ.out, List.length_replicate, HN.out]
        exact M.xo_zeros key nonce c k k (Nat.le_refl _)
      have := xor_any _ _ v key nonce Z c wm hLm hA.key hA.nonce hv hA.kl hA.nl (by rw [hZ.out, List.length_replicate]; omega)
      rw [e] at this
      exact this)
  obtain ⟨ZC, hZC⟩ := make_run N (by omega)
  have HZO : Hid (IsB (w1.drew.alloc (.cells ZC 5)) (.slice (some ⟨w1.drew.heap.size, 0, none⟩) N N) Z) := by rw [hZ.out]; exact (hZC w1.drew).2.isB
  have hmk : ∀ w : World, (Instr.makeSlice 22 (.int .i64 (IntKind.i64.wrap (N : Int))) (.int .i64 (IntKind.i64.wrap (N : Int)))).run Tryd.prog w = .ok (.slice (some ⟨w.heap.size, 0, none⟩) N N) (w.alloc (.cells ZC 5)) := by
    rw [HWN.out]
    exact fun w => (hZC w).1
  have KM : Hid (Below w1.heap.size w1 (w1.drew.alloc (.cells ZC 5))) := (below_draws w1 1).alloc (Nat.le_refl _) _
  clear hZC
  go_wp2
  go_region_held3 (fun w' => w'.cell? ⟨g, 44, none⟩ = some (.int .u32 (c.toNat : Int)))
    (first | exact S1.out _ (below_draws _ 1) | exact S1.out _ KM.out | exact S1.out _ (KM.out.trans (k2.mono KM.out.size)))
    (first
      | (go_at_call 11; refine (X1.out _ _ KM.out HZO.out).mono ?_; rintro e w2 ⟨r2, rfl, o2, k2⟩))
  have K12 : Hid (Below w1.heap.size w1 w2) := KM.out.trans (k2.mono KM.out.size)
  have O2 : Hid (Own w2 w1.heap.size r2 (M.blks key nonce c k)) := o2.mono KM.out.size
  have K2 : Hid (Below w.heap.size w w2) := K1.out.trans (K12.out.mono K1.out.size)
  have A2 : Hid (AskAt w2 g key nonce c tv) := A1.out.below K12.out
  clear o2 k2 S1 X1 c44 A1 K12 hN0 hmk HZO
  go_wp2
  go_loopw [8, 9] (fun x i wr => ∃ j : Nat, j ≤ k ∧ i = .int .i64 j ∧ Hid (Own wr w2.heap.size x (M.blks key nonce c j)) ∧ Hid (Below w2.heap.size w2 wr))
    (fun _ i _ => k - (intOf i).toNat)
  case atStart => exact ⟨0, by omega, rfl, World.ownsRow_nil _ _ _ _, Below.refl _ _⟩
  case round =>
    obtain ⟨wz, rfl⟩ : ∃ x, x = wr := ⟨_, rfl⟩
    obtain ⟨j, hj, rfl, oo, kk⟩ := hrel
    by_cases hlt : j < k
    · obtain ⟨d, hd⟩ : ∃ d, Hid (d = c + UInt32.ofNat j) := ⟨_, rfl⟩
      have hdn : d.toNat = (c.toNat + j) % 4294967296 := by rw [hd.out, UInt32.toNat_add, UInt32.toNat_ofNat', Nat.mod_eq_of_lt (show j < 2 ^ 32 by omega)]
      have s1 : ((c.toNat : Int) + (j : Int)) % 4294967296 = (d.toNat : Int) := by omega
      have s2 : IntKind.u32.wrap ((c.toNat : Int) + (j : Int)) = (d.toNat : Int) := s1
      have w2b : IntKind.u32.wrap (j : Int) = (j : Int) := by rw [show IntKind.u32.wrap (j : Int) = (j : Int) % 4294967296 from rfl]; omega
      have A3 : Hid (AskAt wz g key nonce c tv) := A2.out.below kk.out
      have KZ : Hid (Below w.heap.size w wz) := K2.out.trans (kk.out.mono K2.out.size)
      have S3 : Hid (∀ w', Below wz.heap.size wz w' → w'.cell? ⟨g, 44, none⟩ = some (.int .u32 (c.toNat : Int))) := fun w' k => (A3.out.below k).ctr
      have B3 := Lib.hid (show Calls Tryd.prog 8 #[.slice (some ⟨g, 0, none⟩) 32 32, .slice (some ⟨g, 32, none⟩) 12 12, .int .u32 (d.toNat : Int)] wz.drew fun e w' =>
          ∃ g', e = .returned (.tuple #[.slice (some ⟨g', 0, none⟩) 64 64, .int .i64 0]) ∧ IsB w' (.slice (some ⟨g', 0, none⟩) 64 64) (M.cblk key nonce d) ∧ Below wz.heap.size wz w' from by
        have kd := below_draws wz 1
        have hA := A3.out.below kd
        have hLm : LaidP wz.drew := (HL.out.below KZ.out HL.out.size).below kd (Nat.le_trans HL.out.size KZ.out.size)
        refine (block_any _ _ key nonce d wz.drew hLm hA.key hA.nonce hA.kl hA.nl).mono ?_
        rintro e w' ⟨g', rfl, _, hB, kB⟩
        exact ⟨g', rfl, hB, kd.trans kB⟩)
      have c44 := A3.out.ctr
      clear hdn
      go_wp2
      go_region_held3 (fun w' => w'.cell? ⟨g, 44, none⟩ = some (.int .u32 (c.toNat : Int)))
        (first | exact S3.out _ (below_draws _ 1) | exact S3.out _ k4)
        (first | (go_at_call 8; refine B3.out.mono ?_; rintro e w4 ⟨g4, rfl, i4, k4⟩))
      have I4 := Lib.hid i4
      have K4 : Hid (Below w2.heap.size w2 w4) := kk.out.trans (k4.mono kk.out.size)
      have O4 : Hid (Own w4 w2.heap.size u8 (M.blks key nonce c j)) := oo.out.below k4
      have HCL : Hid ((M.cblk key nonce d).length = 64) := M.cblk_length _ _ _
      have HLX : Hid ((M.blks key nonce c j).length + (M.cblk key nonce d).length ≤ 140737488355328) := by rw [Hid, M.blks_length, M.cblk_length]; omega
      have HNX : Hid (M.blks key nonce c j ++ M.cblk key nonce d = M.blks key nonce c (j + 1)) := by rw [Hid, M.blks, ← hd.out]
      obtain ⟨bj, hbj⟩ : ∃ b, Hid (b = M.blks key nonce c j) := ⟨_, rfl⟩
      obtain ⟨cb, hcb⟩ : ∃ b, Hid (b = M.cblk key nonce d) := ⟨_, rfl⟩
      rw [← hbj.out] at O4 HLX HNX
      rw [← hcb.out] at I4 HLX HNX
      clear i4 k4 S3 B3 A3 c44 s1 s2 oo kk w2b HCL
      go_wp2_with (at_builtin; go_must (refine wpList_app _ rfl _ _ rfl w2.heap.size _ bj rfl O4.out _ cb rfl I4.out (fun n c h => by cases h) HLX.out K4.out.size ?_))
      intro r5 w5 o5 k5 _
      have O5 : Hid (Own w5 w2.heap.size r5 (M.blks key nonce c (j + 1))) := by rw [Hid, ← HNX.out]; exact o5
      have K5 : Hid (Below w2.heap.size w2 w5) := K4.out.trans k5
      clear o5 k5 O4 K4 I4 HLX HNX hbj hcb
      go_wp2
      go_roundw
      case rel => exact ⟨j + 1, by omega, by go_num, O5, K5⟩
      case measure => simp [intOf]; omega
    · obtain rfl : j = k := by omega
      have O25 : Hid (Own wz w1.heap.size r2 (M.blks key nonce c j)) := O2.out.below kk.out
      go_wp2_with fail
      refine (chaEqual_yes _ _ (M.blks key nonce c j) wz O25.out.isB oo.out.isB).mono ?_
      rintro e w6 ⟨rfl, k6⟩
      have K6 : Below w.heap.size w w6 := (K2.out.trans (kk.out.mono K2.out.size)).trans (k6.mono (Nat.le_trans K2.out.size kk.out.size))
      go_wp2
      go_ret
      exact ⟨rfl, K6⟩

end Go.Proofs.YtaechnhnhfgloaaDoor
