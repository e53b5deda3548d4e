/-
  CONTRACTS OF orlopref03.Extract, Expand AND Derive: the document's own keys. Conditions: none but that what is nil has no spare room.
-/
import Derived.Test.YtmjeilhppgdmfaaDoorRefMac
namespace Go.Proofs.YtmjeilhppgdmfaaDoor
open Go.RowKit
set_option linter.unusedVariables false

theorem mac_zeros (m : List UInt8) : M.mac (List.replicate 32 0) m = M.mac [] m := by
  have := M.block_zeros [] 32 (by decide)
  rw [M.mac, M.mac, ← this, List.nil_append]

theorem rextract_any (kv mv : Value) (key m : List UInt8) (w : World) (hk : IsB w kv key) (hkn : ∀ n c, kv = .slice none n c → c = 0) (hm : IsB w mv m) (hmn : ∀ n c, mv = .slice none n c → c = 0) (hlen : key.length ≤ 549755813888) (hlen2 : m.length ≤ 549755813888) :
    Calls Tryd.prog 12 #[kv, mv] w (Makes w (M.mac key m)) := by
  obtain ⟨aok, capk, rfl⟩ := hk.shape
  have HC := Lib.hid (rmac_any _ mv key m w hk hkn hm hmn hlen hlen2)
  have HM := Lib.hid hm
  have HMN := Lib.hid hmn
  clear hk hkn hm hmn
  by_cases h0 : key.length = 0
  · have HE : Hid (M.mac key m = M.mac (List.replicate 32 0) m) := by
      rw [Hid, mac_zeros, List.eq_nil_of_length_eq_zero h0]
    have h0' : (key.length : Int) = 0 := by omega
    go_enter Tryd.func12, Tryd.ntmps12
    go_wp2_with (refine wpList_make_cap _ rfl _ _ rfl .i64 .i64 _ _ 32 32 rfl rfl rfl rfl (by omega) (by omega) ?_; intro w1 o1 k1)
    have O1 := Lib.hid o1
    clear o1
    refine (rmac_any _ mv (List.replicate 32 0) m w1 O1.out.isB (fun _ _ e => by cases e) (HM.out.below k1) HMN.out (by simp) hlen2).mono ?_
    rintro e w2 ⟨r, rfl, o2, k2⟩
    go_wp2
    go_ret
    rw [HE.out]
    exact ⟨r, rfl, o2.mono k1.size, k1.trans (k2.mono k1.size)⟩
  · have h0' : ¬ (key.length : Int) = 0 := by omega
    go_enter Tryd.func12, Tryd.ntmps12
    go_wp2_with fail
    refine HC.out.mono ?_
    rintro e w2 ⟨r, rfl, o2, k2⟩
    go_wp2
    go_ret
    exact ⟨r, rfl, o2, k2⟩

/-- The lengths that are refused. -/
theorem rexpand_no (kv iv : Value) (n : Int) (w : World) (hn : n < 0 ∨ 8160 < n) :
    Calls Tryd.prog 14 #[kv, iv, .int .i64 n] w fun e w' => e = .returned (.tuple #[.slice none 0 0, .int .i64 1]) ∧ w' = w := by
  rcases hn with hn | hn
  · go_enter Tryd.func14, Tryd.ntmps14
    go_wp2
    go_ret2
    exact ⟨rfl, rfl⟩
  · have hn0 : ¬ n < 0 := by omega
    go_enter Tryd.func14, Tryd.ntmps14
    go_wp2
    go_ret2
    exact ⟨rfl, rfl⟩

set_option maxHeartbeats 1000000 in
theorem rexpand_any (kv iv : Value) (key info : List UInt8) (n : Nat) (w : World) (hk : IsB w kv key) (hkn : ∀ n c, kv = .slice none n c → c = 0) (hi : IsB w iv info) (hin : ∀ n c, iv = .slice none n c → c = 0) (hlen : key.length ≤ 549755813888) (hlen2 : info.length ≤ 274877906944) (hn : n ≤ 8160) :
    Calls Tryd.prog 14 #[kv, iv, .int .i64 (n : Int)] w fun e w' => ∃ r, e = .returned (.tuple #[r, .int .i64 0]) ∧ Own w' w.heap.size r (M.expd (M.block key) info n) ∧ Below w.heap.size w w' := by
  obtain ⟨aoi, capi, rfl⟩ := hi.shape
  have HK := Lib.hid hk
  have HKN := Lib.hid hkn
  have HI := Lib.hid hi
  have HIN := Lib.hid hin
  obtain ⟨b, hb⟩ : ∃ b, b = M.block key := ⟨_, rfl⟩
  have HB := Lib.hid hb
  rw [← hb]
  have hn0 : ¬ (n : Int) < 0 := by omega
  have hn1 : ¬ (8160 : Int) < (n : Int) := by omega
  clear hk hkn hi hin hb
  go_enter Tryd.func14, Tryd.ntmps14
  go_wp2
  go_loopw [8, 9, 10] (fun x t i wr => ∃ k : Nat, 32 * k < n + 32 ∧ i = .int .i64 ((k + 1 : Nat) : Int) ∧ Hid (Own wr w.heap.size x (M.stream b info k)) ∧ Hid (IsB wr t (M.piece b info k)) ∧ Hid (∀ n c, t = .slice none n c → c = 0) ∧ Below w.heap.size w wr)
    (fun x _ _ _ => n - lenOf x)
  case atStart => exact ⟨0, by omega, rfl, World.ownsRow_nil _ _ _ _, IsB.nil w, fun _ _ e => by cases e; rfl, Below.refl _ _⟩
  case round =>
    rename_i wr
    obtain ⟨k, hk, rfl, oo, pp, pn, kk⟩ := hrel
    obtain ⟨ao1, c1, rfl⟩ := oo.out.shape'
    obtain ⟨ao2, c2, rfl⟩ := pp.out.shape
    obtain ⟨S, hS⟩ : ∃ S, S = M.stream b info k := ⟨_, rfl⟩
    obtain ⟨L, hLL⟩ : ∃ L, L = S.length := ⟨_, rfl⟩
    have hL2 : L = 32 * k := by rw [hLL, hS, M.stream_length]
    obtain ⟨P, hP⟩ : ∃ P, P = M.piece b info k := ⟨_, rfl⟩
    obtain ⟨N2, hN2⟩ : ∃ N2, N2 = P.length := ⟨_, rfl⟩
    have hPl : P.length ≤ 32 := by rw [hP]; exact M.piece_le b info k
    rw [← hS] at oo ⊢
    rw [← hP] at pp pn ⊢
    rw [← hLL] at oo ⊢
    rw [← hN2] at pp pn ⊢
    have HS := Lib.hid hS
    have HP := Lib.hid hP
    have HLS := Lib.hid hLL
    have HPL := Lib.hid hPl
    clear hS hLL hP hPl hN2
    have hsz : w.heap.size ≤ wr.heap.size := kk.size
    by_cases hlt : 32 * k < n
    · have HL3 := Lib.hid hL2
      have hLn : (L : Int) < (n : Int) := by omega
      obtain ⟨c8, hc8⟩ : ∃ c8, c8 = UInt8.ofNat (k + 1) := ⟨_, rfl⟩
      have hk8 : k < 255 := by omega
      have HC8v : Hid ((k : Int) + 1 = (c8.toNat : Int)) := by rw [Hid, hc8]; simp; omega
      have HC8 := Lib.hid hc8
      clear hc8 hk8
      have hk255 : k < 255 := by omega
      have HLT := Lib.hid hlt
      clear hL2 hlt hk
      go_wp2_with (at_builtin; go_must (refine wpList_app _ rfl _ _ rfl wr.heap.size _ [] rfl ?c1 _ P rfl ?c2 pn.out (by have := HPL.out; simp; omega) (by simp) ?_))
      case c1 => exact own_empty wr
      case c2 => exact pp.out.below ((Below.refl _ _).alloc (Nat.le_refl _) _)
      intro r1 w1 o1 b1 _
      have k1 : Below wr.heap.size wr w1 := ((Below.refl _ _).alloc (Nat.le_refl _) (.cells #[] 5)).trans b1
      have O1 := Lib.hid o1
      clear o1 b1
      go_wp2_with (at_builtin; go_must (refine wpList_app _ rfl _ _ rfl wr.heap.size _ P rfl O1.out _ info rfl (HI.out.below (kk.trans (k1.mono hsz))) HIN.out (by have := HPL.out; simp; omega) k1.size ?_))
      intro r2 w2 o2 b2 _
      have k2 : Below wr.heap.size wr w2 := k1.trans b2
      have O2 := Lib.hid o2
      have hs2 : wr.heap.size ≤ w2.heap.size := k2.size
      clear o2 b2 k1 O1
      go_wp2_with (at_builtin; go_must (refine wpList_app _ rfl _ _ rfl wr.heap.size _ (P ++ info) rfl ?d1 _ [c8] rfl ?d2 (fun _ _ e => by cases e) (by have := HPL.out; simp; omega) (by simp; omega) ?_))
      case d1 => exact O2.out.below ((Below.refl _ _).alloc (Nat.le_refl _) _)
      case d2 => exact isB_one _ _ c8 _ HC8v.out
      intro r3 w3 o3 b3 _
      have k3 : Below wr.heap.size wr w3 := (k2.alloc hs2 (.cells #[.int .u8 ((k : Int) + 1)] 5)).trans b3
      have O3 := Lib.hid o3
      have kw3 : Below w.heap.size w w3 := kk.trans (k3.mono hsz)
      clear o3 b3 k2 O2 hs2
      go_wp2_with fail
      refine (rmac_any _ _ key (P ++ (info ++ [c8])) w3 (HK.out.below kw3) HKN.out O3.out.isB O3.out.nil0 hlen (by have := HPL.out; simp; omega)).mono ?_
      rintro e w4 ⟨r4, rfl, o4, k4⟩
      have eP : M.mac key (P ++ (info ++ [c8])) = M.piece b info (k + 1) := by
        rw [HB.out, M.piece, ← HB.out, ← HP.out, HC8.out, HB.out]
        rfl
      rw [eP] at o4
      obtain ⟨Q, hQ⟩ : ∃ Q, Q = M.piece b info (k + 1) := ⟨_, rfl⟩
      have hQl : Q.length = 32 := by rw [hQ]; exact M.piece_length b info k
      rw [← hQ] at o4
      obtain ⟨g5, c5, rfl, hg5⟩ := o4.shape (by omega)
      have hg5' : wr.heap.size ≤ g5 := Nat.le_trans k3.size hg5
      have hne5 : (Value.slice ao1 L c1).ownBlock ≠ some g5 := fun e => by have := (oo.out.block_lt g5 e).2; omega
      have kr4 : Below wr.heap.size wr w4 := k3.trans (k4.mono k3.size)
      have kw4 : Below w.heap.size w w4 := kk.trans (kr4.mono hsz)
      have O4 := Lib.hid (o4.mono kw3.size)
      have OS := Lib.hid (oo.out.below kr4)
      have HNE := Lib.hid hne5
      have HQ := Lib.hid hQ
      have HQL := Lib.hid hQl
      have hs4 : w.heap.size ≤ w4.heap.size := kw4.size
      clear o4 k4 k3 kw3 O3 hg5 hg5' hne5 hQ kr4 oo pp pn eP
      rw [hQl] at O4 ⊢
      clear hQl
      go_wp2_with (at_builtin; go_must (refine wpList_app2 _ rfl _ _ rfl w.heap.size _ S rfl OS.out _ Q rfl ?e1 (fun _ _ e => by cases e) (by rw [← HLS.out, HQL.out, HL3.out]; omega) hs4 ?_))
      case e1 => first | exact O4.out.isB | trace_state
      intro r6 w6 o6 g6
      have HNX : Hid (S ++ Q = M.stream b info (k + 1)) := by rw [Hid, HS.out, HQ.out]; rfl
      have HX : Hid (lenOf r6 = L + 32) := by
        obtain ⟨a6, c6, rfl⟩ := o6.shape'
        have e1 := HLS.out
        have e2 := HQL.out
        show (S ++ Q).length = _
        rw [List.length_append, e2, ← e1]
      rw [HNX.out] at o6
      have O6 := Lib.hid o6
      have k6 : Below w.heap.size w w6 := kw4.trans ((Below.refl _ _).grown g6 hs4 fun k hk => (OS.out.block_lt k hk).1)
      have Q6 : Hid (IsB w6 (.slice (some ⟨g5, 0, none⟩) 32 c5) (M.piece b info (k + 1))) := by
        rw [Hid, ← HQ.out]
        exact (O4.out.far g6 HNE.out).isB
      clear o6 g6
      go_wp2
      go_roundw
      case rel => exact ⟨k + 1, by have := HLT.out; omega, by go_num, O6, Q6, (fun _ _ e => by cases e), k6⟩
      case measure =>
        have e1 := HX.out
        have e2 := HL3.out
        have e3 := HLT.out
        show _ - lenOf r6 < _ - lenOf (.slice ao1 L c1)
        rw [e1]
        show n - (L + 32) < n - L
        omega
    · have hge : ¬ (L : Int) < (n : Int) := by omega
      have hcap : L ≤ c1 := by
        obtain ⟨_, _, e, h1, _⟩ := oo.out.isB
        injection e with _ e1 e
        omega
      have hnc : (n : Int) ≤ (c1 : Int) := by omega
      have HT : Hid (S.take n = M.expd b info n) := by rw [Hid, HS.out]; exact M.stream_expd b info n k (by omega)
      have HTL : Hid ((S.take n).length = n) := by rw [Hid, List.length_take, ← HLS.out]; omega
      have IT : Hid (IsB wr (.slice ao1 n c1) (S.take n)) := oo.out.isB.take n (by omega)
      have ON := oo.out.nil0
      have HON := Lib.hid ON
      clear hL2 hlt hk ON
      go_wp2_with (at_builtin; go_must (refine wpList_app _ rfl _ _ rfl wr.heap.size _ [] rfl ?f1 _ (S.take n) rfl ?f2 (fun n' c e => by injection e with e1 e2 e3; subst e1; exact e3 ▸ HON.out _ _ rfl) (by rw [HTL.out]; simp; omega) (by simp) ?_))
      case f1 => exact own_empty wr
      case f2 => exact IT.out.below ((Below.refl _ _).alloc (Nat.le_refl _) _)
      intro r7 w7 o7 b7 _
      go_wp2
      go_ret2
      refine ⟨_, rfl, ?_, kk.trans (((Below.refl wr.heap.size wr).alloc (Nat.le_refl _) (.cells #[] 5)).trans b7 |>.mono hsz)⟩
      rw [← HT.out]
      exact o7.mono hsz

theorem rderive_no (sv kv iv : Value) (sec salt : List UInt8) (n : Int) (w : World) (hs : IsB w sv sec) (hsn : ∀ n c, sv = .slice none n c → c = 0) (hk : IsB w kv salt) (hkn : ∀ n c, kv = .slice none n c → c = 0) (hlen : sec.length ≤ 549755813888) (hlen2 : salt.length ≤ 549755813888) (hn : n < 0 ∨ 8160 < n) :
    Calls Tryd.prog 16 #[sv, kv, iv, .int .i64 n] w fun e w' => e = .returned (.tuple #[.slice none 0 0, .int .i64 1]) ∧ Below w.heap.size w w' := by
  have HC := Lib.hid (rextract_any kv sv salt sec w hk hkn hs hsn hlen2 hlen)
  have HN := Lib.hid hn
  clear hs hsn hk hkn hn
  go_enter Tryd.func16, Tryd.ntmps16
  go_wp2_with fail
  refine HC.out.mono ?_
  rintro e w1 ⟨r, rfl, o, k1⟩
  go_wp2_with fail
  refine (rexpand_no r iv n w1 HN.out).mono ?_
  rintro e w2 ⟨rfl, rfl⟩
  go_wp2
  go_ret2
  exact ⟨rfl, k1⟩

theorem rderive_any (sv kv iv : Value) (sec salt info : List UInt8) (n : Nat) (w : World) (hs : IsB w sv sec) (hsn : ∀ n c, sv = .slice none n c → c = 0) (hk : IsB w kv salt) (hkn : ∀ n c, kv = .slice none n c → c = 0) (hi : IsB w iv info) (hin : ∀ n c, iv = .slice none n c → c = 0)
    (hlen : sec.length ≤ 549755813888) (hlen2 : salt.length ≤ 549755813888) (hlen3 : info.length ≤ 274877906944) (hn : n ≤ 8160) :
    Calls Tryd.prog 16 #[sv, kv, iv, .int .i64 (n : Int)] w fun e w' => ∃ r, e = .returned (.tuple #[r, .int .i64 0]) ∧ Own w' w.heap.size r (M.expd (M.block (M.mac salt sec)) info n) ∧ Below w.heap.size w w' := by
  have HC := Lib.hid (rextract_any kv sv salt sec w hk hkn hs hsn hlen2 hlen)
  have HI := Lib.hid hi
  have HIN := Lib.hid hin
  clear hs hsn hk hkn hi hin
  go_enter Tryd.func16, Tryd.ntmps16
  go_wp2_with fail
  refine HC.out.mono ?_
  rintro e w1 ⟨r, rfl, o, k1⟩
  go_wp2_with fail
  refine (rexpand_any r iv (M.mac salt sec) info n w1 o.isB o.nil0 (HI.out.below k1) HIN.out (by rw [M.mac_length]; omega) hlen3 hn).mono ?_
  rintro e w2 ⟨r2, rfl, o2, k2⟩
  go_wp2
  go_ret2
  exact ⟨r2, rfl, o2.mono k1.size, k1.trans (k2.mono k1.size)⟩

end Go.Proofs.YtmjeilhppgdmfaaDoor
