/-
  CONTRACT OF orlopref15.Encode. Conditions: runes.
  CONTRACT OF orlopref15.Utf, and runes' small laws. Conditions: texts of up to 2^40 bytes.
-/
import Derived.Test.YtbgadfaiehkanaaGreatDoorRefJsD

namespace Go.Proofs.YtbgadfaiehkanaaGreatDoor
open Go.RowKit
set_option linter.unusedVariables false
set_option maxRecDepth 100000

theorem ub_of (n : Nat) (h : n < 256) : (((UInt8.ofNat n).toNat : Nat) : Int) = (n : Int) := by
  rw [UInt8.toNat_ofNat', Nat.mod_eq_of_lt (by simpa using h)]

/-- A literal of bytes. -/
theorem makes_lit (w : World) (bs : List UInt8) (cs : Array Value) (n : Nat) (hn : bs.length = n) (h : n ≤ 1000) (hc : cs.toList = Lib.byteCells bs) :
    Makes w bs (.returned (.slice (some ⟨w.heap.size, 0, none⟩) n n)) (w.alloc (.cells cs 5)) := by
  subst hn
  refine ⟨_, rfl, ?_, (Below.refl _ w).alloc (Nat.le_refl _) _⟩
  have := World.ownsRow_lit (base := w.heap.size) (e := 5) (size := 1) w cs bs.length (Nat.le_refl _) (by unfold maxLen; omega) (by rw [← Array.length_toList, hc, byteCells_length, Nat.mul_one])
  rw [hc] at this
  exact this

set_option maxHeartbeats 4000000 in
theorem rencode_any (v : Nat) (w : World) (hv : v ≤ 1114111) :
    Calls Tryz.prog 134 #[.int .i64 (v : Int)] w fun e w' => Makes w (M.rbytes v) e w' := by
  have hvi : (v : Int) ≤ 1114111 := by omega
  by_cases k1 : v < 128
  · have g1 : (v : Int) < 128 := by omega
    have HM : Hid (Makes w (M.rbytes v) (.returned (.slice (some ⟨w.heap.size, 0, none⟩) 1 1)) (w.alloc (.cells #[.int .u8 (v : Int)] 5))) := by
      rw [Hid, M.rbytes, if_pos k1]
      exact makes_lit w _ _ 1 rfl (by decide) (by simp only [Lib.byteCells, List.map, ub_of v (by omega)])
    clear k1 hv
    go_enter Tryz.func134, Tryz.ntmps134
    go_wp2
    go_ret
    exact HM.out
  have g1 : ¬ (v : Int) < 128 := by omega
  by_cases k2 : v < 2048
  · have g2 : (v : Int) < 2048 := by omega
    obtain ⟨a, ha⟩ : ∃ a, a = v / 64 := ⟨_, rfl⟩
    obtain ⟨b, hb⟩ : ∃ b, b = v % 64 := ⟨_, rfl⟩
    have al : a < 32 := by omega
    have bl : b < 64 := by omega
    have HM : Hid (Makes w (M.rbytes v) (.returned (.slice (some ⟨w.heap.size, 0, none⟩) 2 2)) (w.alloc (.cells #[.int .u8 (192 + (a : Int)), .int .u8 (128 + (b : Int))] 5))) := by
      rw [Hid, M.rbytes, if_neg k1, if_pos k2, ← ha, ← hb]
      refine makes_lit w _ _ 2 rfl (by decide) ?_
      simp only [Lib.byteCells, List.map, ub_of (192 + a) (by omega), ub_of (128 + b) (by omega)]
      rfl
    have hqa : (v : Int) / 64 = (a : Int) := by rw [ha]; rfl
    have hqa2 : (v : Int).tdiv 64 = (a : Int) := by rw [ha]; rfl
    have hqb : (v : Int).tmod 64 = (b : Int) := by rw [hb]; rfl
    have hqb2 : (v : Int) % 64 = (b : Int) := by rw [hb]; rfl
    have ali : (a : Int) < 32 := Int.ofNat_lt.2 al
    have bli : (b : Int) < 64 := Int.ofNat_lt.2 bl
    clear k1 k2 hv ha hb al bl
    go_enter Tryz.func134, Tryz.ntmps134
    go_wp2
    go_ret
    exact HM.out
  have g2 : ¬ (v : Int) < 2048 := by omega
  by_cases k3 : v < 65536
  · have g3 : (v : Int) < 65536 := by omega
    obtain ⟨a, ha⟩ : ∃ z, z = v / 4096 := ⟨_, rfl⟩
    obtain ⟨q, hq⟩ : ∃ z, z = v / 64 := ⟨_, rfl⟩
    obtain ⟨b, hb⟩ : ∃ z, z = q % 64 := ⟨_, rfl⟩
    obtain ⟨c, hc⟩ : ∃ z, z = v % 64 := ⟨_, rfl⟩
    have al : a < 16 := by omega
    have ql : q < 1024 := by omega
    have bl : b < 64 := by omega
    have cl : c < 64 := by omega
    have HM : Hid (Makes w (M.rbytes v) (.returned (.slice (some ⟨w.heap.size, 0, none⟩) 3 3)) (w.alloc (.cells #[.int .u8 (224 + (a : Int)), .int .u8 (128 + (b : Int)), .int .u8 (128 + (c : Int))] 5))) := by
      rw [Hid, M.rbytes, if_neg k1, if_neg k2, if_pos k3, ← ha, ← hq, ← hb, ← hc]
      refine makes_lit w _ _ 3 rfl (by decide) ?_
      simp only [Lib.byteCells, List.map, ub_of (224 + a) (by omega), ub_of (128 + b) (by omega), ub_of (128 + c) (by omega)]
      rfl
    have ia : (v : Int) / 4096 = (a : Int) := by rw [ha]; rfl
    have ja : (v : Int).tdiv 4096 = (a : Int) := by rw [ha]; rfl
    have na : (a : Int) < 16 := Int.ofNat_lt.2 al
    have iq : (v : Int) / 64 = (q : Int) := by rw [hq]; rfl
    have jq : (v : Int).tdiv 64 = (q : Int) := by rw [hq]; rfl
    have nq : (q : Int) < 1024 := Int.ofNat_lt.2 ql
    have ib : (q : Int) % 64 = (b : Int) := by rw [hb]; rfl
    have jb : (q : Int).tmod 64 = (b : Int) := by rw [hb]; rfl
    have nb : (b : Int) < 64 := Int.ofNat_lt.2 bl
    have ic : (v : Int) % 64 = (c : Int) := by rw [hc]; rfl
    have jc : (v : Int).tmod 64 = (c : Int) := by rw [hc]; rfl
    have nc : (c : Int) < 64 := Int.ofNat_lt.2 cl
    clear k1 k2 k3 hv ha hq hb hc al ql bl cl
    go_enter Tryz.func134, Tryz.ntmps134
    go_wp2
    go_ret
    exact HM.out
  have g3 : ¬ (v : Int) < 65536 := by omega
  obtain ⟨a, ha⟩ : ∃ z, z = v / 262144 := ⟨_, rfl⟩
  obtain ⟨p, hp⟩ : ∃ z, z = v / 4096 := ⟨_, rfl⟩
  obtain ⟨q, hq⟩ : ∃ z, z = v / 64 := ⟨_, rfl⟩
  obtain ⟨b, hb⟩ : ∃ z, z = p % 64 := ⟨_, rfl⟩
  obtain ⟨c, hc⟩ : ∃ z, z = q % 64 := ⟨_, rfl⟩
  obtain ⟨d, hd⟩ : ∃ z, z = v % 64 := ⟨_, rfl⟩
  have al : a < 8 := by omega
  have pl : p < 512 := by omega
  have ql : q < 32768 := by omega
  have bl : b < 64 := by omega
  have cl : c < 64 := by omega
  have dl : d < 64 := by omega
  have HM : Hid (Makes w (M.rbytes v) (.returned (.slice (some ⟨w.heap.size, 0, none⟩) 4 4)) (w.alloc (.cells #[.int .u8 (240 + (a : Int)), .int .u8 (128 + (b : Int)), .int .u8 (128 + (c : Int)), .int .u8 (128 + (d : Int))] 5))) := by
    rw [Hid, M.rbytes, if_neg k1, if_neg k2, if_neg k3, ← ha, ← hp, ← hq, ← hb, ← hc, ← hd]
    refine makes_lit w _ _ 4 rfl (by decide) ?_
    simp only [Lib.byteCells, List.map, ub_of (240 + a) (by omega), ub_of (128 + b) (by omega), ub_of (128 + c) (by omega), ub_of (128 + d) (by omega)]
    rfl
  have ia : (v : Int) / 262144 = (a : Int) := by rw [ha]; rfl
  have ja : (v : Int).tdiv 262144 = (a : Int) := by rw [ha]; rfl
  have na : (a : Int) < 8 := Int.ofNat_lt.2 al
  have ip : (v : Int) / 4096 = (p : Int) := by rw [hp]; rfl
  have jp : (v : Int).tdiv 4096 = (p : Int) := by rw [hp]; rfl
  have np : (p : Int) < 512 := Int.ofNat_lt.2 pl
  have iq : (v : Int) / 64 = (q : Int) := by rw [hq]; rfl
  have jq : (v : Int).tdiv 64 = (q : Int) := by rw [hq]; rfl
  have nq : (q : Int) < 32768 := Int.ofNat_lt.2 ql
  have ib : (p : Int) % 64 = (b : Int) := by rw [hb]; rfl
  have jb : (p : Int).tmod 64 = (b : Int) := by rw [hb]; rfl
  have nb : (b : Int) < 64 := Int.ofNat_lt.2 bl
  have ic : (q : Int) % 64 = (c : Int) := by rw [hc]; rfl
  have jc : (q : Int).tmod 64 = (c : Int) := by rw [hc]; rfl
  have nc : (c : Int) < 64 := Int.ofNat_lt.2 cl
  have id : (v : Int) % 64 = (d : Int) := by rw [hd]; rfl
  have jd : (v : Int).tmod 64 = (d : Int) := by rw [hd]; rfl
  have nd : (d : Int) < 64 := Int.ofNat_lt.2 dl
  clear k1 k2 k3 hv ha hp hq hb hc hd al pl ql bl cl dl
  go_enter Tryz.func134, Tryz.ntmps134
  go_wp2
  go_ret
  exact HM.out

end Go.Proofs.YtbgadfaiehkanaaGreatDoor

namespace Go.Proofs.YtbgadfaiehkanaaGreatDoor
open Go.RowKit
set_option linter.unusedVariables false
set_option maxRecDepth 100000

theorem M.rune_le (s : List UInt8) : (M.rune s).2 ≤ s.length := by
  cases s with
  | nil => exact Nat.le_refl 0
  | cons c r =>
    by_cases h : c.toNat < 128
    · rw [M.rune_low c r h, List.length_cons]
      show 1 ≤ r.length + 1
      omega
    · by_cases h2 : (M.lead c.toNat).1 = 0 ∨ r.length + 1 < (M.lead c.toNat).1
      · rw [M.rune_short c r h h2]
        exact Nat.zero_le _
      · rw [M.rune_of c r h (M.lead c.toNat).1 (M.lead c.toNat).2.1 (M.lead c.toNat).2.2 rfl (by omega) (by omega), List.length_cons]
        cases M.follow (r.take ((M.lead c.toNat).1 - 1)) (M.lead c.toNat).2.1 with
        | none => exact Nat.zero_le _
        | some v =>
          unfold M.runeOf
          dsimp only
          split
          · exact Nat.zero_le _
          · show (M.lead c.toNat).1 ≤ _
            omega

theorem M.utfF_same (f : Nat) : ∀ (g : Nat) (s : List UInt8), s.length ≤ f → s.length ≤ g → M.utfF f s = M.utfF g s := by
  induction f with
  | zero =>
    intro g s h1 h2
    have : s = [] := List.eq_nil_of_length_eq_zero (by omega)
    subst this
    cases g <;> rfl
  | succ f ih =>
    intro g s h1 h2
    cases s with
    | nil => cases g <;> rfl
    | cons c r =>
      cases g with
      | zero => simp at h2
      | succ g =>
        rw [M.utfF, M.utfF]
        by_cases h : (M.rune (c :: r)).2 = 0
        · simp [h]
        · have hd : ((c :: r).drop (M.rune (c :: r)).2).length ≤ r.length := by rw [List.length_drop, List.length_cons]; omega
          rw [List.length_cons] at h1 h2
          rw [ih g _ (by omega) (by omega)]

theorem M.utf_step (s : List UInt8) (h : s ≠ []) : M.utf s = ((M.rune s).2 != 0 && M.utf (s.drop (M.rune s).2)) := by
  cases s with
  | nil => exact absurd rfl h
  | cons c r =>
    unfold M.utf
    rw [List.length_cons, M.utfF]
    by_cases h : (M.rune (c :: r)).2 = 0
    · simp [h]
    · have hd : ((c :: r).drop (M.rune (c :: r)).2).length ≤ r.length := by rw [List.length_drop, List.length_cons]; omega
      rw [M.utfF_same r.length _ _ hd (Nat.le_refl _)]
      simp

/-- '[]byte(s)'. -/
theorem convJs (w : World) (bs : List UInt8) (h : bs.length ≤ maxLen) : ∃ cap w', (convert 9 22 (.string ⟨bs.toArray⟩)).run Tryz.prog w = .ok (.slice (some ⟨w.heap.size, 0, none⟩) bs.length cap) w' ∧ IsB w' (.slice (some ⟨w.heap.size, 0, none⟩) bs.length cap) bs ∧ cap ≤ maxLen ∧ Below w.heap.size w w' := by
  have hs : ByteArray.size ⟨bs.toArray⟩ = bs.length := by show bs.toArray.size = _; simp
  have hrun := run_bytes_of_string w _ _ 5 ⟨bs.toArray⟩ Tryz.underlying9 Tryz.underlying22 Tryz.underlying5
  have hge := grownCap_ge w (ByteArray.size ⟨bs.toArray⟩) 0 5
  have hle := grownCap_le_maxLen w (ByteArray.size ⟨bs.toArray⟩) 0 5 (by rw [hs]; exact h)
  rw [hs] at hge hle hrun
  refine ⟨_, _, hrun, ⟨_, _, rfl, hge, hle, .inr ⟨w.heap.size, 0, rfl, fun i hi => ?_⟩⟩, hle, (Below.refl _ w).drew.alloc (Nat.le_refl _) _⟩
  have hh : ∀ (C : Array Value) (fr : Nat × Nat), (w.drew.alloc (.cells C 5 fr)).heap[w.heap.size]? = some (.cells C 5 fr) := fun C fr => heap_alloc_new w.drew _
  unfold World.cell?
  rw [hh]
  show ((bytesRow _ _)[0 + i]?) = _
  rw [Nat.zero_add, bytesRow, Array.getElem?_append_left (by simpa using hi)]
  simp [List.getD_eq_getElem?_getD, hi]

theorem wpList_bytesJs (w : World) {ops : Array Oper} {rest : List Oper} {o : Oper} {a : Act} {Q : Exit → Act → World → Prop} (hg : o.guard = none) (s : Operand) (hop : o.op = .convert 9 22 s) (S : ByteArray) (bs : List UInt8) (hS : S = ⟨bs.toArray⟩) (hs : a.eval s = .string S) (hl : bs.length ≤ maxLen)
    (h : ∀ cap w', IsB w' (.slice (some ⟨w.heap.size, 0, none⟩) bs.length cap) bs → cap ≤ maxLen → Below w.heap.size w w' → wpList Tryz.prog ops Q rest (a.put o.dst (.slice (some ⟨w.heap.size, 0, none⟩) bs.length cap)) w') : wpList Tryz.prog ops Q (o :: rest) a w := by
  subst hS
  obtain ⟨cap, w', hr, h1, h3, h4⟩ := convJs w bs hl
  refine wpList_plain hg fun K' hK' => ?_
  unfold Oper.wp
  simp [execOp, hop, hs, hr, Result.andThen]
  exact hK' _ _ (h cap w' h1 h3 h4)

/-- From a place on. -/
theorem IsB.on {w : World} {b off n cap : Nat} {bs : List UInt8} (h : IsB w (.slice (some ⟨b, off, none⟩) n cap) bs) (i : Nat) (hi : i ≤ n) : IsB w (.slice (some ⟨b, off + i, none⟩) (n - i) (cap - i)) (bs.drop i) := by
  obtain ⟨_, _, e, h1, h2, h3⟩ := h
  injection e with e1 e2 e3
  subst e1 e2 e3
  refine ⟨_, _, by rw [List.length_drop], by rw [List.length_drop]; omega, by omega, ?_⟩
  rcases h3 with h3 | ⟨b2, off2, e, hc⟩
  · exact .inl (by rw [h3, List.drop_nil])
  · injection e with e
    injection e with e4 e5
    subst e4 e5
    refine .inr ⟨b, off + i, rfl, fun j hj => ?_⟩
    rw [List.length_drop] at hj
    rw [Nat.add_assoc, hc (i + j) (by omega)]
    simp [List.getD_eq_getElem?_getD]

set_option maxHeartbeats 4000000 in
theorem rutf_any (S : ByteArray) (bs : List UInt8) (w : World) (hS : S = ⟨bs.toArray⟩) (hl : bs.length ≤ 1099511627776) :
    Calls Tryz.prog 98 #[.string S] w fun e w' => e = .returned (.bool (M.utf bs)) ∧ Below w.heap.size w w' := by
  obtain ⟨n, hn⟩ : ∃ n, n = bs.length := ⟨_, rfl⟩
  have HN := Lib.hid hn
  have HS := Lib.hid hS
  obtain ⟨U, hU⟩ : ∃ U, U = M.utf bs := ⟨_, rfl⟩
  have HU := Lib.hid hU
  rw [← hU]
  have hnl : n ≤ 1099511627776 := by omega
  have hnli : (n : Int) ≤ 1099511627776 := by omega
  have HL := Lib.hid hnl
  clear hU hS hn hnl
  have Hl := Lib.hid hl
  clear hl
  go_enter Tryz.func98, Tryz.ntmps98
  go_upto_region 2 with (refine wpList_bytesJs w rfl _ rfl S bs HS.out rfl (by have := Hl.out; unfold maxLen; omega) ?_)
  intro cap w2 hb hc k2
  obtain ⟨bk, hbk⟩ : ∃ g, g = w.heap.size := ⟨_, rfl⟩
  rw [← hbk, ← HN.out] at hb ⊢
  have HB := Lib.hid hb
  have K2 := Lib.hid k2
  unfold maxLen at hc
  have hci : (cap : Int) ≤ 2 ^ 63 - 1 := by omega
  have hcn : n ≤ cap := by
    obtain ⟨_, _, e, h1, _⟩ := hb
    injection e with _ _ e3
    rw [HN.out, e3]
    exact h1
  have hcni : (n : Int) ≤ (cap : Int) := by omega
  have HCN := Lib.hid hcn
  clear hb k2 hbk hcn
  go_wp2
  go_loop [4] (fun x => ∃ i : Nat, x = .int .i64 (i : Int) ∧ Hid (i ≤ n) ∧ Hid (M.utf (bs.drop i) = U)) (fun x => n - (intOf x).toNat)
  case atStart => exact ⟨0, rfl, Lib.hid (Nat.zero_le _), Lib.hid (by rw [List.drop_zero]; exact HU.out.symm)⟩
  case round =>
    obtain ⟨i, rfl, hin, HST⟩ := hrel
    by_cases hlt : i < n
    · have b0 : (i : Int) < (n : Int) := by omega
      have b1 : (i : Int) ≤ (n : Int) := by omega
      have b2 : (i : Int) ≤ (cap : Int) := by omega
      have HLT := Lib.hid hlt
      have HS2 := Lib.hid (HB.out.on i (Nat.le_of_lt hlt))
      rw [Nat.zero_add] at HS2
      have CR := Lib.hid (rrune_any _ _ w2 HS2.out (by rw [List.length_drop, ← HN.out]; have := HL.out; omega))
      have HNE : Hid (bs.drop i ≠ []) := fun e => by
        have := congrArg List.length e
        rw [List.length_drop, ← HN.out] at this
        simp at this
        have := HLT.out
        omega
      have HLE : Hid ((M.rune (bs.drop i)).2 ≤ n - i) := by have := M.rune_le (bs.drop i); rw [List.length_drop, ← HN.out] at this; exact this
      have HUS := Lib.hid (M.utf_step _ HNE.out)
      rw [HST.out] at HUS
      obtain ⟨rn, hrn⟩ : ∃ z, z = M.rune (bs.drop i) := ⟨_, rfl⟩
      rw [← hrn] at CR HLE HUS
      obtain ⟨rv, rk⟩ := rn
      have hrk : rk ≤ n - i := HLE.out
      have hrki : (rk : Int) ≤ 1099511627776 := by have := HL.out; omega
      have c2 : ((n - i : Nat) : Int) = (n : Int) - (i : Int) := by omega
      have c3 : ((cap - i : Nat) : Int) = (cap : Int) - (i : Int) := by have := HCN.out; omega
      clear hrn hlt hrk
      go_wp2_with fail
      refine CR.out.mono ?_
      rintro e w' ⟨rfl, rfl⟩
      clear c2 c3
      by_cases hz : rk = 0
      · have z1 : (rk : Int) = 0 := by omega
        have HF : Hid (U = false) := by rw [Hid, HUS.out, hz]; rfl
        clear HUS HLE CR hz
        go_wp2
        go_ret
        exact ⟨by rw [HF.out]; rfl, K2.out⟩
      · have z1 : ¬ (rk : Int) = 0 := by omega
        have HZ := Lib.hid hz
        clear CR hz
        go_wp2
        refine ⟨⟨i + rk, by go_num, ?_, ?_⟩, ?_⟩
        · rw [Hid]
          have h1 : rk ≤ n - i := HLE.out
          have := HLT.out
          omega
        · rw [Hid, HUS.out, ← List.drop_drop]
          show _ = (rk != 0 && M.utf (List.drop rk (List.drop i bs)))
          have : (rk != 0) = true := by simpa using HZ.out
          rw [this, Bool.true_and]
        · simp only [intOf]
          have h1 : rk ≤ n - i := HLE.out
          have h2 := HZ.out
          have h3 := HLT.out
          omega
    · have b0 : ¬ (i : Int) < (n : Int) := by omega
      have HT : Hid (U = true) := by
        rw [Hid, ← HST.out, List.drop_eq_nil_of_le (by rw [← HN.out]; omega)]
        rfl
      clear hlt
      go_wp2
      go_ret
      exact ⟨by rw [HT.out]; rfl, K2.out⟩

end Go.Proofs.YtbgadfaiehkanaaGreatDoor
