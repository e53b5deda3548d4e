/-
  CONTRACT OF package wal's Open, over a contract of whole. Conditions: as each says.
-/
import Derived.Test.YtphcbpfpelonaaaGreatDoorPw2

namespace Go.Proofs.YtphcbpfpelonaaaGreatDoor
open Go.RowKit
set_option linter.unusedVariables false
set_option maxRecDepth 100000

namespace M
theorem sync_code (m : Dsk) : m.doSync.2 = 0 ∨ m.doSync.2 = 11 := by
  rw [Dsk.doSync]
  split
  · exact .inr rfl
  · split
    · exact .inr rfl
    · exact .inl rfl

theorem write_code (m : Dsk) (i : Int) (b : List UInt8) (h : 0 ≤ i ∧ i < (m.safe.length : Int) ∧ b.length = 256) : (m.doWrite i b).2 = 0 ∨ (m.doWrite i b).2 = 11 := by
  rw [Dsk.doWrite, if_pos h]
  split
  · exact .inr rfl
  · show (if _ then (11 : Int) else 0) = 0 ∨ (if _ then (11 : Int) else 0) = 11
    split
    · exact .inr rfl
    · exact .inl rfl

theorem lays_code (n : Nat) : ∀ (l : CL) (m : Dsk), m.safe.length = n → 42 < n → (∀ c ∈ l, 0 ≤ c.1 ∧ c.1 < ((n - 42 : Nat) : Int) ∧ c.2.length = 256) → (lays l m).2 = 0 ∨ (lays l m).2 = 11
  | [], m, _, _, _ => .inl rfl
  | c :: r, m, hn, h42, h => by
    have hc := h c (List.mem_cons_self ..)
    have hw := write_code m (42 + c.1) c.2 ⟨by omega, by rw [hn]; omega, hc.2.2⟩
    rw [lays]
    split
    · exact lays_code n r _ (by rw [write_len, hn]) h42 fun d hd => h d (List.mem_cons_of_mem _ hd)
    · exact hw

theorem phases_code (n : Nat) : ∀ (ps : List (Dsk → Dsk × Int)) (m : Dsk), m.safe.length = n → (∀ p ∈ ps, ∀ m : Dsk, m.safe.length = n → ((p m).2 = 0 ∨ (p m).2 = 11) ∧ (p m).1.safe.length = n) → (phases ps m).2 = 0 ∨ (phases ps m).2 = 11
  | [], m, _, _ => .inl rfl
  | p :: r, m, hn, h => by
    have hp := h p (List.mem_cons_self ..) m hn
    rw [phases]
    split
    · exact phases_code n r _ hp.2 fun q hq => h q (List.mem_cons_of_mem _ hq)
    · exact hp.1

theorem end_code (n : Nat) (h42 : 42 < n) (l : CL) (hl : May (n - 42) l) : ∀ p ∈ [lays l, Dsk.doSync, forgets, Dsk.doSync], ∀ m : Dsk, m.safe.length = n → ((p m).2 = 0 ∨ (p m).2 = 11) ∧ (p m).1.safe.length = n := by
  intro p hp m hm
  have hs : ((m.doSync).2 = 0 ∨ (m.doSync).2 = 11) ∧ (m.doSync).1.safe.length = n := ⟨sync_code m, by rw [sync_len, hm]⟩
  rcases List.mem_cons.1 hp with rfl | hp
  · exact ⟨lays_code n l m hm h42 hl.2, by rw [lays_len, hm]⟩
  · rcases List.mem_cons.1 hp with rfl | hp
    · exact hs
    · rcases List.mem_cons.1 hp with rfl | hp
      · exact ⟨write_code m 0 zero256 ⟨by omega, by rw [hm]; omega, zero_len⟩, by rw [← hm]; exact write_len m 0 zero256⟩
      · rcases List.mem_cons.1 hp with rfl | hp
        · exact hs
        · cases hp

theorem settle_code {dec : List (List UInt8) → Option CL} (hmay : ∀ s, 42 < s.length → May (s.length - 42) ((dec s).getD [])) (m : Dsk) (h42 : 42 < m.safe.length) : (settle dec m).2 = 0 ∨ (settle dec m).2 = 11 := by
  have hl : m.doSync.1.safe.length = m.safe.length := sync_len m
  rw [settle]
  split
  · split
    · exact .inl rfl
    · refine phases_code m.safe.length _ _ hl (end_code _ h42 _ ?_)
      rw [← hl]
      exact hmay _ (by rw [hl]; exact h42)
  · exact sync_code m
end M

set_option maxHeartbeats 8000000 in
theorem wopen_yes {Ld : World → Prop} {dec : List (List UInt8) → Option M.CL} (WH : WholeOk Ld dec) (hmay : ∀ s, 42 < s.length → M.May (s.length - 42) ((dec s).getD [])) {T : Nat → Prop} {w : World} {g : Nat} {m : M.Dsk} (d : CodeDk T w g m) (kl : Keeps T w Ld) (h42 : 42 < m.safe.length) (hw : m.wait.length < 100000) :
    Calls Tryz.prog 25 #[.pointer (some ⟨g, 0, none⟩)] w fun e w' =>
      Chg T w w' ∧ ∃ T', CodeDk T' w' g (M.settle dec m).1 ∧ (∀ k, T' k → T k ∨ w.heap.size ≤ k) ∧
      (((M.settle dec m).2 = 0 ∧ ∃ gw, e = .returned (.tuple #[.pointer (some ⟨gw, 0, none⟩), .int .i64 0]) ∧ ∀ F, (∀ k, F k → T' k ∨ k < w.heap.size ∨ w'.heap.size ≤ k) → Keeps F w' (fun x => WalIs x gw g)) ∨ ((M.settle dec m).2 = 11 ∧ e = .returned (.tuple #[.pointer none, .int .i64 11]))) := by
  have HCO := Lib.hid (M.settle_code hmay m h42)
  obtain ⟨gw, hgw⟩ : ∃ y, Hid (y = w.heap.size) := ⟨_, rfl⟩
  obtain ⟨W, hW⟩ : ∃ y, Hid (y = w.alloc (.cells #[.pointer (some ⟨g, 0, none⟩)] 98)) := ⟨_, rfl⟩
  have KW : Below w.heap.size w W := by rw [hW.out]; exact (Below.refl _ _).alloc (Nat.le_refl _) _
  have WI : WalIs W gw g := by rw [hW.out]; exact Blk.newAt _ _ _ _ _ hgw.out rfl
  have HTL : Hid (∀ j, T j → j < w.heap.size) := d.there
  have HNT : Hid (∀ j, T j → j ≠ gw) := fun j hj => by have := HTL.out j hj; rw [hgw.out]; omega
  have hgl : gw < W.heap.size := WI.lt
  have KP : Keeps T W (fun z => WalIs z gw g ∧ Ld z) := fun z c => ⟨Blk.chg WI c fun h => HNT.out _ h rfl, kl.below KW z c⟩
  have hf := d.ok.few
  have CST := Lib.hid (does_settle WH hmay (fun z => WalIs z gw g ∧ Ld z) gw g m.safe.length h42 hf (fun _ h => h) T W m (d.below KW) rfl (by omega) KP)
  have CB := Lib.hid (wblocks10 (d.below KW) WI)
  obtain ⟨n, hn⟩ : ∃ n, n = (m.safe.length : Int) - 42 := ⟨_, rfl⟩
  rw [← hn] at CB
  have b1 : ¬ n < 1 := by omega
  obtain ⟨R, hR⟩ : ∃ R, Hid (R = M.settle dec m) := ⟨_, rfl⟩
  rw [← hR.out] at CST HCO ⊢
  obtain ⟨cd, hcd⟩ : ∃ c, Hid (c = R.2) := ⟨_, rfl⟩
  rw [← hcd.out] at CST HCO ⊢
  have KWH := Lib.hid KW
  have WIH := Lib.hid WI
  have HGL : Hid (gw < W.heap.size) := hgl
  clear d kl h42 hw KW WI KP hf hn hgl hmay
  go_enter Tryz.func25, Tryz.ntmps25
  go_upto_region 2 with fail
  rw [← hW.out, ← hgw.out]
  clear hW
  go_wp2_with fail
  refine CB.out.mono ?_
  rintro e w1 ⟨rfl, rfl⟩
  clear CB
  go_wp2_with fail
  refine CST.out.mono ?_
  rintro e w2 ⟨rfl, c2, T2, d2, t2⟩
  have CC : Hid (Chg T w w2) := (Chg.of_below KWH.out : Chg T w _).trans c2 fun _ _ h => h
  have DD := Lib.hid d2
  have hsz := KWH.out.size
  have TT : Hid (∀ k, T2 k → T k ∨ w.heap.size ≤ k) := fun k h => (t2 k h).imp_right fun h => Nat.le_trans hsz h
  have W2 : WalIs w2 gw g := Blk.chg WIH.out c2 fun h => HNT.out _ h rfl
  have WK : Hid (∀ F, (∀ k, F k → T2 k ∨ k < w.heap.size ∨ w2.heap.size ≤ k) → Keeps F w2 (fun x => WalIs x gw g)) := fun F hF z c => Blk.chg W2 c fun h => by
    have hl := W2.lt
    have h1 := HGL.out
    have h2 := hgw.out
    rcases hF _ h with h | h | h
    · rcases t2 _ h with h | h
      · exact HNT.out _ h rfl
      · omega
    · omega
    · omega
  clear CST c2 d2 t2 hsz W2
  rcases HCO.out with h0 | h0
  · have t0 : (cd != 0) = false := by rw [h0]; rfl
    have H0 := Lib.hid h0
    clear h0 HCO
    go_wp2
    go_ret2
    exact ⟨CC.out, T2, DD.out, TT.out, .inl ⟨H0.out, gw, rfl, WK.out⟩⟩
  · have t0 : (cd != 0) = true := by rw [h0]; rfl
    have H0 := Lib.hid h0
    clear h0 HCO
    go_wp2
    go_ret2
    exact ⟨CC.out, T2, DD.out, TT.out, .inr ⟨H0.out, by rw [H0.out]; rfl⟩⟩

set_option maxHeartbeats 8000000 in
theorem wopen_no {T : Nat → Prop} {w : World} {g : Nat} {m : M.Dsk} (d : CodeDk T w g m) (h42 : m.safe.length ≤ 42) :
    Calls Tryz.prog 25 #[.pointer (some ⟨g, 0, none⟩)] w fun e w' => e = .returned (.tuple #[.pointer none, .int .i64 1]) ∧ Below w.heap.size w w' := by
  obtain ⟨gw, hgw⟩ : ∃ y, Hid (y = w.heap.size) := ⟨_, rfl⟩
  obtain ⟨W, hW⟩ : ∃ y, Hid (y = w.alloc (.cells #[.pointer (some ⟨g, 0, none⟩)] 98)) := ⟨_, rfl⟩
  have KW : Below w.heap.size w W := by rw [hW.out]; exact (Below.refl _ _).alloc (Nat.le_refl _) _
  have WI : WalIs W gw g := by rw [hW.out]; exact Blk.newAt _ _ _ _ _ hgw.out rfl
  have CB := Lib.hid (wblocks10 (d.below KW) WI)
  obtain ⟨n, hn⟩ : ∃ n, n = (m.safe.length : Int) - 42 := ⟨_, rfl⟩
  rw [← hn] at CB
  have b1 : n < 1 := by omega
  have KWH := Lib.hid KW
  clear d h42 KW WI hn
  go_enter Tryz.func25, Tryz.ntmps25
  go_upto_region 2 with fail
  rw [← hW.out, ← hgw.out]
  clear hW
  go_wp2_with fail
  refine CB.out.mono ?_
  rintro e w1 ⟨rfl, rfl⟩
  go_wp2
  go_ret2
  exact ⟨rfl, KWH.out⟩

end Go.Proofs.YtphcbpfpelonaaaGreatDoor
