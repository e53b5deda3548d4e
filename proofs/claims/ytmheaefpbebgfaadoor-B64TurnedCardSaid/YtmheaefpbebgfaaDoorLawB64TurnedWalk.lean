/-
  THE WALK OF orloplaw14.B64Turned: it returns true, and writes nothing that was there. Conditions: none.
-/
import Derived.Test.YtmheaefpbebgfaaDoorLawB64TextsWalk
import Derived.Test.YtmheaefpbebgfaaDoorB64Read
import Derived.Lib.Strings
namespace Go.Proofs.YtmheaefpbebgfaaDoor
open Go.RowKit
set_option linter.unusedVariables false
set_option maxRecDepth 100000

/-- Bytes in a block of their own, as '[]byte(s)' makes it: it is marked behind its end. -/
def FBlk (w : World) (g : Nat) (bs : List UInt8) (rest : List Value) (m : Nat) : Prop := w.heap[g]? = some (.cells (Lib.byteCells bs ++ rest).toArray 5 (m, m + 1)) ∧ bs.length ≤ m

theorem FBlk.cell {w : World} {g m : Nat} {bs : List UInt8} {rest : List Value} (h : FBlk w g bs rest m) (i : Nat) (hi : i < bs.length) : w.cell? ⟨g, i, none⟩ = some (.int .u8 ((bs.getD i 0).toNat : Int)) := by
  rw [Lib.cell_of_heap h.1]
  simp only [List.getElem?_toArray]
  rw [List.getElem?_append_left (by rw [byteCells_length]; exact hi), byteCells_getElem? bs i hi]

theorem FBlk.frozen {w : World} {g m : Nat} {bs : List UInt8} {rest : List Value} (h : FBlk w g bs rest m) (i : Nat) (hi : i < bs.length) : w.frozen? ⟨g, i, none⟩ = false := by
  have h2 := h.2
  simp [World.frozen?, h.1]
  omega

theorem FBlk.lt {w : World} {g m : Nat} {bs : List UInt8} {rest : List Value} (h : FBlk w g bs rest m) : g < w.heap.size := (Array.getElem?_eq_some_iff.1 h.1).1

theorem FBlk.set_ {w : World} {g m : Nat} {bs : List UInt8} {rest : List Value} (h : FBlk w g bs rest m) (i : Nat) (hi : i < bs.length) (c : UInt8) : FBlk (w.setCell ⟨g, i, none⟩ (.int .u8 (c.toNat : Int))) g (bs.set i c) rest m := by
  refine ⟨?_, by rw [List.length_set]; exact h.2⟩
  have e : (Lib.byteCells (bs.set i c) ++ rest) = (Lib.byteCells bs ++ rest).set i (.int .u8 (c.toNat : Int)) := by
    rw [List.set_append_left _ _ (by rw [byteCells_length]; exact hi)]
    simp [Lib.byteCells, List.map_set]
  rw [e]
  simp [World.setCell, Array.getElem?_modify, h.1]

theorem FBlk.isB {w : World} {g m cap : Nat} {bs : List UInt8} {rest : List Value} (h : FBlk w g bs rest m) (h1 : bs.length ≤ cap) (h2 : cap ≤ maxLen) : IsB w (.slice (some ⟨g, 0, none⟩) bs.length cap) bs :=
  ⟨_, cap, rfl, h1, h2, .inr ⟨g, 0, rfl, fun i hi => by rw [Nat.zero_add]; exact h.cell i hi⟩⟩

theorem conv64 (w : World) (bs : List UInt8) (h : bs.length ≤ maxLen) : ∃ cap w' rest m, (convert 9 22 (.string ⟨bs.toArray⟩)).run Tryd.prog w = .ok (.slice (some ⟨w.heap.size, 0, none⟩) bs.length cap) w' ∧ FBlk w' w.heap.size bs rest m ∧ bs.length ≤ cap ∧ cap ≤ maxLen ∧ Below w.heap.size w w' := by
  have hs : ByteArray.size ⟨bs.toArray⟩ = bs.length := by show bs.toArray.size = _; simp
  have hge := grownCap_ge w (ByteArray.size ⟨bs.toArray⟩) 0 5
  have hle := grownCap_le_maxLen w (ByteArray.size ⟨bs.toArray⟩) 0 5 (by rw [hs]; exact h)
  have hrun := run_bytes_of_string w _ _ 5 ⟨bs.toArray⟩ Tryd.underlying9 Tryd.underlying22 Tryd.underlying5
  obtain ⟨cap, hcap⟩ : ∃ c, c = grownCap w (ByteArray.size ⟨bs.toArray⟩) 0 5 := ⟨_, rfl⟩
  rw [← hcap] at hrun hge hle
  rw [hs] at hrun hge
  refine ⟨cap, _, List.replicate (cap - bs.length) (Value.int .u8 0), (bytesRow ⟨bs.toArray⟩ cap).size, hrun, ⟨?_, ?_⟩, hge, hle, (Below.refl _ w).drew.alloc (Nat.le_refl _) _⟩
  · have e : bytesRow ⟨bs.toArray⟩ cap = (Lib.byteCells bs ++ List.replicate (cap - bs.length) (Value.int .u8 0)).toArray := by
      rw [bytesRow, hs]
      simp [Lib.byteCells]
    rw [e]
    exact heap_alloc_new w.drew _
  · rw [bytesRow, hs]
    simp

theorem wpList_bytes64 (w : World) {ops : Array Oper} {rest : List Oper} {o : Oper} {a : Act} {Q : Exit → Act → World → Prop} (hg : o.guard = none) (s : Operand) (hop : o.op = .convert 9 22 s) (S : ByteArray) (bs : List UInt8) (hS : S = ⟨bs.toArray⟩) (hs : a.eval s = .string S) (hl : bs.length ≤ maxLen)
    (h : ∀ cap w' r m, FBlk w' w.heap.size bs r m → bs.length ≤ cap → cap ≤ maxLen → Below w.heap.size w w' → wpList Tryd.prog ops Q rest (a.put o.dst (.slice (some ⟨w.heap.size, 0, none⟩) bs.length cap)) w') : wpList Tryd.prog ops Q (o :: rest) a w := by
  subst hS
  obtain ⟨cap, w', r, m, hr, h1, h2, h3, h4⟩ := conv64 w bs hl
  refine wpList_plain hg fun K' hK' => ?_
  unfold Oper.wp
  simp [execOp, hop, hs, hr, Result.andThen]
  exact hK' _ _ (h cap w' r m h1 h2 h3 h4)

theorem set_same (l : List UInt8) (i : Nat) (hi : i < l.length) : l.set i (l.getD i 0) = l := by
  rw [List.getD_eq_getElem?_getD, List.getElem?_eq_getElem hi, Option.getD_some, List.set_getElem_self]

theorem set_other (l : List UInt8) (i : Nat) (hi : i < l.length) (c : UInt8) (h : ¬ l.getD i 0 = c) : ¬ l.set i c = l := by
  intro e
  have := congrArg (fun x => x.getD i 0) e
  rw [List.getD_eq_getElem?_getD, List.getElem?_set_self hi] at this
  exact h this.symm

theorem wrap_small64 (a : Nat) (h : (a : Int) < 65536) : wrap64 (a : Int) = (a : Int) := by unfold wrap64; omega

set_option maxHeartbeats 4000000 in
theorem b64Turned_walk (w : World) (v : Value) (bs : List UInt8) (h : IsB w v bs) (a : Nat) (ha : a < 65536) (cn : Nat) (hcn : cn < 256) :
    Calls Tryd.prog 6 #[v, .int .u16 (a : Int), .int .u8 (cn : Int)] w fun e w' => e = .returned (.bool true) ∧ Below w.heap.size w w' := by
  have HI := Lib.hid h
  obtain ⟨ao, cap, rfl, hl, hm, _⟩ := h
  unfold maxLen at hm
  obtain ⟨L, hL⟩ : ∃ L, L = bs.length := ⟨_, rfl⟩
  rw [← hL] at HI hl ⊢
  by_cases hb : 2048 < L
  · have b1 : (L : Int) > 2048 := by omega
    clear hb hL ha hcn
    go_enter Tryd.func6, Tryd.ntmps6
    go_wp2_with fail
    refine (awake14_any _).mono ?_
    rintro e w1 ⟨rfl, k⟩
    go_wp2
    go_ret
    exact ⟨rfl, k⟩
  by_cases h0 : L = 0
  · have b1 : ¬ (L : Int) > 2048 := by omega
    have b2 : (L : Int) = 0 := by omega
    clear hb hL ha hcn h0
    go_enter Tryd.func6, Tryd.ntmps6
    go_wp2_with fail
    refine (awake14_any _).mono ?_
    rintro e w1 ⟨rfl, k⟩
    go_wp2
    go_ret
    exact ⟨rfl, k⟩
  obtain ⟨c, hc⟩ : ∃ c : UInt8, c.toNat = cn := ⟨UInt8.ofNat cn, by rw [UInt8.toNat_ofNat']; omega⟩
  subst hc
  obtain ⟨T, hT⟩ : ∃ T, T = M.enc64 bs := ⟨_, rfl⟩
  obtain ⟨S, HS, hsz⟩ := name_text T
  obtain ⟨N, hN⟩ : ∃ N, N = T.length := ⟨_, rfl⟩
  have hNl : N = (L + 2) / 3 * 4 := by rw [hN, hT, M.enc64_len, hL]
  have hN0 : 0 < N := by omega
  have hN4 : N ≤ 4000 := by omega
  obtain ⟨i, hi⟩ : ∃ i, i = a % N := ⟨_, rfl⟩
  have hiN : i < N := by rw [hi]; exact Nat.mod_lt _ hN0
  have hii : (a : Int) % (N : Int) = (i : Int) := by rw [hi]; simp
  have CT : Hid (∀ W, Below w.heap.size w W → Calls Tryd.prog 8 #[.slice ao L cap] W fun e w' => e = .returned (.string S) ∧ Below W.heap.size W w') := fun W k => by
    rw [HS.out, hT]
    exact text64_any _ bs W (HI.out.below k) (by omega)
  obtain ⟨T2, hT2⟩ : ∃ T2, T2 = T.set i c := ⟨_, rfl⟩
  have HT2L : Hid (T2.length = N) := by rw [Hid, hT2, List.length_set, hN]
  have CB : Hid (∀ W, Calls Tryd.prog 9 #[.string ⟨T2.toArray⟩] W (Gives64 W T2)) := fun W => bytes64_any T2 W (by rw [HT2L.out]; omega)
  have HSAME : Hid (T.getD i 0 = c → M.dec64 T2 = some bs) := fun h => by
    rw [hT2, ← h, set_same _ _ (by omega), hT]
    exact M.dec64_some.2 rfl
  have HOTHER : Hid (¬ T.getD i 0 = c → ∀ b, M.dec64 T2 = some b → ¬ b = bs) := fun h b hd e => by
    have h2 := M.dec64_some.1 hd
    rw [e, ← hT] at h2
    exact set_other T i (by omega) c h (by rw [← hT2, h2])
  have b1 : ¬ (L : Int) > 2048 := by omega
  have b2 : ¬ (L : Int) = 0 := by omega
  have d1 : decide ((2048 : Int) < (L : Int)) = false := by simpa using b1
  have d4 : (L : Int) ≤ 2048 := by omega
  have d3 : ((L : Int) == 0) = false := by simpa using h0
  have hNi : ¬ (N : Int) = 0 := by omega
  have hii2 : (i : Int) < (N : Int) := by omega
  have HNT := Lib.hid hN
  have HT2 := Lib.hid hT2
  rw [← hN] at hsz
  have HSZ := Lib.hid hsz
  have HN4 := Lib.hid hN4
  have HIN := Lib.hid hiN
  have HII := Lib.hid hii
  have HII2 := Lib.hid hii2
  have HAI : Hid ((a : Int) < 65536) := by rw [Hid]; omega
  have HALL := Lib.hid (And.intro HII.out (And.intro HII2.out (And.intro hNi (And.intro HT2L.out (And.intro HSAME.out (And.intro HOTHER.out (And.intro HT2.out (And.intro HSZ.out (And.intro HN4.out (And.intro HIN.out HAI.out))))))))))
  clear HII HII2 HAI hNi HT2L HSAME HOTHER HT2 HSZ HN4 HIN
  clear hii hii2 hb h0 hL hT hN hNl hN0 hi ha hcn hT2 hsz hN4 hiN
  go_enter Tryd.func6, Tryd.ntmps6
  go_wp2_with fail
  refine (awake14_any _).mono ?_
  rintro e w1 ⟨rfl, k1⟩
  have K1 := Lib.hid k1
  clear k1
  go_wp2_with fail
  refine (CT.out _ K1.out).mono ?_
  rintro e w2 ⟨rfl, k2⟩
  have K2 : Hid (Below w.heap.size w w2) := K1.out.trans (k2.mono K1.out.size)
  clear k2 CT K1
  have HN4 := Lib.hid HALL.out.2.2.2.2.2.2.2.2.1
  go_upto_region 6 with (refine wpList_bytes64 _ rfl _ rfl S T HS.out rfl (by rw [← HNT.out]; have := HN4.out; unfold maxLen; omega) ?_; intro cp w3 rest m f3 hc1 hc2 k3)
  have F3 := Lib.hid f3
  have HC1 : Hid (N ≤ cp) := by rw [Hid, HNT.out]; exact hc1
  have HC2 := Lib.hid hc2
  have K3 : Hid (Below w.heap.size w w3) := K2.out.trans (k3.mono K2.out.size)
  obtain ⟨g, hg⟩ : ∃ g, g = w2.heap.size := ⟨_, rfl⟩
  have HG : Hid (w.heap.size ≤ g) := by rw [Hid, hg]; exact K2.out.size
  rw [← hg] at F3 ⊢
  rw [← HNT.out]
  clear f3 hc1 hc2 k3 hg K2
  have hNi := HALL.out.2.2.1
  go_upto_region 8 with fail
  go_upto_region 9 with fail
  have hti : (wrap64 (a : Int)).tmod (N : Int) = (i : Int) := by
    have h1 := HALL.out.1
    have h2 : (a : Int) < 65536 := HALL.out.2.2.2.2.2.2.2.2.2.2
    rw [wrap_small64 a h2, ← h1]
    rfl
  rw [hti]
  have hiN : i < N := HALL.out.2.2.2.2.2.2.2.2.2.1
  have g2 : (0 : Int) ≤ (i : Int) := Int.natCast_nonneg i
  have g3 : ((i : Int)).toNat = i := Int.toNat_natCast i
  have g4 : (i : Int) < (N : Int) := HALL.out.2.1
  obtain ⟨d, hd⟩ : ∃ d, d = T.getD i 0 := ⟨_, rfl⟩
  have hiT : i < T.length := by rw [← HNT.out]; exact hiN
  have c1 : w3.cell? ⟨g, i, none⟩ = some (.int .u8 (d.toNat : Int)) := by rw [hd]; exact F3.out.cell i hiT
  have f1 : w3.frozen? ⟨g, i, none⟩ = false := F3.out.frozen i hiT
  have HT2 : Hid (T2 = T.set i c) := HALL.out.2.2.2.2.2.2.1
  obtain ⟨w4, hw4⟩ : ∃ x, x = w3.setCell ⟨g, i, none⟩ (.int .u8 (c.toNat : Int)) := ⟨_, rfl⟩
  have F4 : Hid (FBlk w4 g T2 rest m) := by rw [hw4, HT2.out]; exact F3.out.set_ i hiT c
  have hT2L : T2.length = N := HALL.out.2.2.2.1
  have I4 : Hid (IsB w4 (.slice (some ⟨g, 0, none⟩) N cp) T2) := by
    have h := F4.out.isB (cap := cp) (by rw [hT2L]; exact HC1.out) HC2.out
    rw [hT2L] at h
    exact h
  have K4 : Hid (Below w.heap.size w w4) := by rw [hw4]; exact K3.out.setCell (p := ⟨g, i, none⟩) HG.out _
  have hsv := str_any I4.out
  have HW4 := Lib.hid hw4
  have HSAME : Hid (d = c → M.dec64 T2 = some bs) := fun h => HALL.out.2.2.2.2.1 (by rw [← hd]; exact h)
  have HOTHER : Hid (¬ d = c → ∀ b, M.dec64 T2 = some b → ¬ b = bs) := fun h => HALL.out.2.2.2.2.2.1 (by rw [← hd]; exact h)
  clear HALL hti hiN hd hiT hT2L HN4 F3 F4 K3 HC1 HC2 HG HT2 hNi d1 d3 d4 b1 b2 hw4 HNT HS
  by_cases hdc : d = c
  · have HD := Lib.hid (HSAME.out hdc)
    have hdb : ((d.toNat : Int) == (c.toNat : Int)) = true := by simp [hdc]
    clear HSAME HOTHER hdc
    go_upto_region 11 with fail
    rw [← HW4.out]
    clear HW4 c1 f1 hdb
    go_wp2_with fail
    refine (CB.out _).mono ?_
    rintro e w5 ⟨r, rfl, o5, k5⟩
    rw [HD.out] at o5
    rw [HD.out, Option.isSome_some]
    have O5 : Hid (Own w5 w4.heap.size r bs) := o5
    have K5 : Hid (Below w.heap.size w w5) := K4.out.trans (k5.mono K4.out.size)
    have CE := Lib.hid (requal_b r (.slice ao L cap) bs bs w5 O5.out.isB (HI.out.below K5.out))
    clear k5 o5 K4 CB
    go_wp2_with fail
    refine CE.out.mono ?_
    rintro e w6 ⟨rfl, k6⟩
    have K6 : Hid (Below w.heap.size w w6) := K5.out.trans (k6.mono K5.out.size)
    clear k6 CE K5
    go_wp2
    go_ret
    exact ⟨rfl, K6.out⟩
  · have hdb : ((d.toNat : Int) == (c.toNat : Int)) = false := by
      rw [beq_eq_false_iff_ne]
      intro e
      exact hdc (UInt8.toNat_inj.1 (by omega))
    have HO := Lib.hid (HOTHER.out hdc)
    clear HSAME HOTHER hdc
    go_upto_region 11 with fail
    rw [← HW4.out]
    clear HW4 c1 f1 hdb
    go_wp2_with fail
    refine (CB.out _).mono ?_
    rintro e w5 ⟨r, rfl, o5, k5⟩
    have K5 : Hid (Below w.heap.size w w5) := K4.out.trans (k5.mono K4.out.size)
    cases hdd : M.dec64 T2 with
    | none =>
      rw [hdd] at o5
      rw [Option.isSome_none]
      obtain ⟨ar, cr, hr⟩ : ∃ ar cr, r = .slice ar 0 cr := by
        have h : Own w5 w4.heap.size r [] := o5
        obtain ⟨ar, cr, h, _⟩ := h.isB
        exact ⟨ar, cr, h⟩
      subst hr
      clear k5 o5 K4 CB hdd HO
      go_wp2
      go_ret
      exact ⟨rfl, K5.out⟩
    | some b =>
      rw [hdd] at o5
      rw [Option.isSome_some]
      have O5 : Hid (Own w5 w4.heap.size r b) := o5
      have hne : decide (b = bs) = false := decide_eq_false (HO.out b hdd)
      have CE := Lib.hid (requal_b r (.slice ao L cap) b bs w5 O5.out.isB (HI.out.below K5.out))
      rw [hne] at CE
      clear k5 o5 K4 CB hdd HO hne
      go_wp2_with fail
      refine CE.out.mono ?_
      rintro e w6 ⟨rfl, k6⟩
      have K6 : Hid (Below w.heap.size w w6) := K5.out.trans (k6.mono K5.out.size)
      clear k6 CE K5
      go_wp2
      go_ret
      exact ⟨rfl, K6.out⟩

end Go.Proofs.YtmheaefpbebgfaaDoor
