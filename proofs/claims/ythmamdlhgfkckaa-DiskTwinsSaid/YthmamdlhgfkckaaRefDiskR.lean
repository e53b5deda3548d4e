/-
  CONTRACTS OF THE REFERENCE'S Read, Image, Same. Conditions: the disk lies so.
-/
import Derived.Test.YthmamdlhgfkckaaRefDiskC
namespace Go.Proofs.Ythmamdlhgfkckaa
open Go.RowKit
set_option linter.unusedVariables false

theorem M.seen_snoc (i : Nat) (b : List UInt8) (c : List (Nat × List UInt8)) (x : Nat × List UInt8) : M.seen i b (c ++ [x]) = if x.1 = i then x.2 else M.seen i b c := by
  induction c generalizing b with
  | nil => rfl
  | cons y c ih => exact ih _

theorem M.seen_length (i : Nat) : ∀ (c : List (Nat × List UInt8)) (b : List UInt8), b.length = 256 → (∀ x ∈ c, x.2.length = 256) → (M.seen i b c).length = 256
  | [], b, h, _ => h
  | y :: c, b, h, hc => M.seen_length i c _ (by split; exact hc y (by simp); exact h) fun x hx => hc x (by simp [hx])

theorem not_nil_of {w : World} {v : Value} {bs : List UInt8} (h : IsB w v bs) (hl : bs.length = 256) : ∀ n c, v = .slice none n c → c = 0 := by
  intro n c e
  obtain ⟨ao, cap, e2, h1, h2, h3⟩ := h
  rcases h3 with h | ⟨b, off, h4, h⟩
  · rw [h] at hl; simp at hl
  · rw [h4] at e2; rw [e2] at e; cases e

set_option maxHeartbeats 4000000 in
theorem rread_ok {T : Nat → Prop} {w : World} {g : Nat} {sv wv : Value} {rows dvs : List Value} {m : M.Dsk} (h : RefAt T w g sv wv rows dvs m) (i : Nat) (hi : i < m.safe.length) :
    Calls Try.prog 29 #[.pointer (some ⟨g, 0, none⟩), .int .i64 (i : Int)] w fun e w' => ∃ r, e = .returned (.tuple #[r, .int .i64 0]) ∧ Own w' w.heap.size r (m.read i) ∧ Below w.heap.size w w' := by
  have H := Lib.hid h
  have c0 : w.cell? ⟨g, 0, none⟩ = some sv := h.blk.cell 0
  have c1 : w.cell? ⟨g, 1, none⟩ = some wv := h.blk.cell 1
  obtain ⟨n, hn⟩ : ∃ n, n = m.safe.length := ⟨_, rfl⟩
  obtain ⟨q, hq⟩ : ∃ q, q = m.wait.length := ⟨_, rfl⟩
  obtain ⟨sa, sc, es⟩ := ownShape h.srow
  obtain ⟨wa, wc, ew⟩ := ownShape h.wrow
  rw [← hn] at es hi
  rw [← hq] at ew
  subst es ew
  have hf : n ≤ 2176 := by rw [hn]; exact h.ok.few
  have HQ : Hid (q = m.wait.length) := hq
  have HQM : Hid (q < 9223372036854775808) := by
    rcases h.wrow.2 with ⟨_, h0⟩ | ⟨_, cap', _, e1, _, _, h3, h4, _⟩
    · rw [Hid, hq, h0]; decide
    · unfold maxLen at h4
      rw [Hid]
      omega
  obtain ⟨sb, rfl, hsc, cs, fs⟩ := ownCells (by have := h.srow; rwa [← hn] at this) (by omega)
  have hrl : rows.length = n := by rw [h.rlen, hn]
  have s0 : w.cell? ⟨sb, i, none⟩ = some (rows.getD i undef) := by rw [cs _ (by omega), List.getD_eq_getElem?_getD, List.getElem?_eq_getElem (by omega)]; rfl
  obtain ⟨rv, hrv⟩ : ∃ rv, rv = rows.getD i undef := ⟨_, rfl⟩
  have rr := (h.rows_ i (by omega)).1
  rw [← hrv] at s0 rr
  obtain ⟨b0, hb0⟩ : ∃ b, b = m.safe.getD i [] := ⟨_, rfl⟩
  have hb256 : b0.length = 256 := by rw [hb0, List.getD_eq_getElem?_getD, List.getElem?_eq_getElem (by omega)]; exact h.ok.full _ (List.getElem_mem _)
  rw [← hb0] at rr
  obtain ⟨ra, rc, er⟩ := rr.shape
  rw [hb256] at er
  have RR := Lib.hid rr
  have HD : Hid (m.read i = M.seen i b0 (m.wait.take q)) := by rw [Hid, M.Dsk.read, ← hb0, hq, List.take_length]
  have HB0 : Hid (b0.length = 256) := hb256
  rw [HD.out]
  rw [er] at s0 RR
  have t1 : ¬ (i : Int) < 0 := by omega
  have t2 : ¬ ((n : Int) ≤ (i : Int)) := by omega
  have t3 : (i : Int) < (n : Int) := by omega
  have t4 : (0 : Int) ≤ (i : Int) := by omega
  have t5 : (i : Int).toNat = i := by omega
  clear h hn hq hi hf hsc cs fs hrl hrv rr hb0 hb256 er HD
  go_enter Try.func29, Try.ntmps29
  go_wp2
  go_loopw [6, 7] (fun v k wr => ∃ (j : Nat), j ≤ q ∧ k = .int .i64 (j : Int) ∧ wr = w ∧ Hid (IsB w v (M.seen i b0 (m.wait.take j))) ∧ (∃ a c, v = .slice a 256 c))
    (fun _ k _ => q - (intOf k).toNat)
  case atStart => exact ⟨0, by omega, rfl, rfl, RR, _, _, rfl⟩
  case round =>
    obtain ⟨j, hj, rfl, rfl, hv, va, vc, rfl⟩ := hrel
    by_cases hlt : j < q
    · have n3 : wrap64 ((j : Int) + 1) = ((j + 1 : Nat) : Int) := by have := HQM.out; unfold wrap64; omega
      have hjw : j < m.wait.length := by have := HQ.out; omega
      obtain ⟨x, hx⟩ : ∃ x, x = m.wait.getD j (0, []) := ⟨_, rfl⟩
      have hxm : x ∈ m.wait := by rw [hx, List.getD_eq_getElem?_getD, List.getElem?_eq_getElem hjw]; exact List.getElem_mem hjw
      have hok := H.out.ok.wat x hxm
      obtain ⟨wb, rfl, hwc, cw, fw⟩ := ownCells (by have := H.out.wrow; rwa [← HQ.out] at this) (by omega)
      obtain ⟨dv, hdv⟩ : ∃ dv, dv = dvs.getD j undef := ⟨_, rfl⟩
      have hcg := chgs_get m.wait dvs j H.out.dlen hjw
      have hcl := chgs_length m.wait dvs H.out.dlen
      rw [← hx, ← hdv] at hcg
      have e0 : wr.cell? ⟨wb, j * 2, none⟩ = some (.int .i64 (x.1 : Int)) := by rw [cw _ (by rw [hcl]; omega), Nat.mul_comm]; exact hcg.1
      have e1 : wr.cell? ⟨wb, j * 2 + 1, none⟩ = some dv := by rw [cw _ (by rw [hcl]; omega), Nat.mul_comm]; exact hcg.2
      have dj := (H.out.dvs_ j hjw).1
      rw [← hdv, ← hx] at dj
      obtain ⟨da, dc, hdd⟩ := dj.shape
      rw [hok.2] at hdd
      have hts : m.wait.take (j + 1) = m.wait.take j ++ [x] := by
        rw [List.take_add_one, List.getElem?_eq_getElem hjw, hx, List.getD_eq_getElem?_getD, List.getElem?_eq_getElem hjw]
        rfl
      have HS : Hid (M.seen i b0 (m.wait.take (j + 1)) = if x.1 = i then x.2 else M.seen i b0 (m.wait.take j)) := by rw [Hid, hts, M.seen_snoc]
      rw [hdd] at e1 dj
      have DJ := Lib.hid dj
      obtain ⟨b, hb⟩ : ∃ b, b = x.1 := ⟨_, rfl⟩
      rw [← hb] at e0 HS
      have HJ : Hid (j < q) := hlt
      have b1 : (j : Int) < (q : Int) := by omega
      have b3 : (0 : Int) ≤ (j : Int) := by omega
      have n1 : ((j : Int)).toNat = j := by omega
      by_cases hbi : b = i
      · have HSS : Hid (IsB wr (.slice da 256 dc) (M.seen i b0 (m.wait.take (j + 1)))) := by rw [HS.out, if_pos hbi]; exact DJ.out
        have b5 : (b : Int) = (i : Int) := by omega
        have b6 : ((b : Int) == (i : Int)) = true := by simpa using b5
        clear hx hxm hok hwc cw fw hdv hcg hcl dj hdd hts hb hbi hlt hj hjw
        go_wp2
        go_roundw
        case rel => exact ⟨j + 1, by have := HJ.out; omega, by rw [n3], trivial, HSS, _, _, rfl⟩
        case measure => rw [n3]; have := HJ.out; simp only [intOf, Int.toNat_natCast]; omega
      · have HSS : Hid (IsB wr (.slice va 256 vc) (M.seen i b0 (m.wait.take (j + 1)))) := by rw [HS.out, if_neg hbi]; exact hv.out
        have b5 : ¬ (b : Int) = (i : Int) := by omega
        have b6 : ((b : Int) == (i : Int)) = false := by simpa using b5
        clear hx hxm hok hwc cw fw hdv hcg hcl dj hdd hts hb hbi hlt hj hjw
        go_wp2
        go_roundw
        case rel => exact ⟨j + 1, by have := HJ.out; omega, by rw [n3], trivial, HSS, _, _, rfl⟩
        case measure => rw [n3]; have := HJ.out; simp only [intOf, Int.toNat_natCast]; omega
    · obtain rfl : j = q := by omega
      have hl256 : (M.seen i b0 (m.wait.take j)).length = 256 := M.seen_length i _ _ HB0.out fun x hx => (H.out.ok.wat x (List.mem_of_mem_take hx)).2
      have HL := Lib.hid hl256
      have HNIL := Lib.hid (not_nil_of hv.out hl256)
      clear hl256 hlt hj
      go_wp2_with (at_builtin; go_must (refine wpList_app _ rfl _ _ rfl wr.heap.size _ [] rfl ?c1 _ (M.seen i b0 (m.wait.take j)) rfl ?c2 HNIL.out (by rw [HL.out]; simp) (by simp) ?_))
      case c1 => exact own_empty wr
      case c2 => exact hv.out.below ((Below.refl _ _).alloc (Nat.le_refl _) _)
      intro r1 w1 o1 k1 z1
      have K1 : Below wr.heap.size wr w1 := ((Below.refl _ _).alloc (Nat.le_refl _) (.cells #[] 5)).trans k1
      clear z1 k1
      go_wp2
      go_ret2
      exact ⟨r1, rfl, o1, K1⟩

set_option maxHeartbeats 2000000 in
theorem rread_no {T : Nat → Prop} {w : World} {g : Nat} {sv wv : Value} {rows dvs : List Value} {m : M.Dsk} (h : RefAt T w g sv wv rows dvs m) (i : Int) (hi : ¬ (0 ≤ i ∧ i < m.safe.length)) :
    Calls Try.prog 29 #[.pointer (some ⟨g, 0, none⟩), .int .i64 i] w fun e w' => e = .returned (.tuple #[.slice none 0 0, .int .i64 1]) ∧ w' = w := by
  have c0 : w.cell? ⟨g, 0, none⟩ = some sv := h.blk.cell 0
  obtain ⟨n, hn⟩ : ∃ n, n = m.safe.length := ⟨_, rfl⟩
  obtain ⟨sa, sc, es⟩ := ownShape h.srow
  rw [← hn] at es hi
  subst es
  clear h hn
  by_cases h1 : i < 0
  · clear hi
    go_enter Try.func29, Try.ntmps29
    go_wp2
    go_ret2
    exact ⟨rfl, rfl⟩
  · have h2 : (n : Int) ≤ i := by omega
    clear hi
    go_enter Try.func29, Try.ntmps29
    go_wp2
    go_ret2
    exact ⟨rfl, rfl⟩

theorem flat_take (l : List (List UInt8)) (j : Nat) (h : j < l.length) : (l.take (j + 1)).flatten = (l.take j).flatten ++ l.getD j [] := by
  rw [List.take_add_one, List.getElem?_eq_getElem h, List.flatten_append, List.getD_eq_getElem?_getD, List.getElem?_eq_getElem h]
  simp

theorem flat_length : ∀ (l : List (List UInt8)), (∀ b ∈ l, b.length = 256) → l.flatten.length = 256 * l.length
  | [], _ => rfl
  | b :: l, h => by
    rw [List.flatten_cons, List.length_append, flat_length l fun c hc => h c (by simp [hc]), h b (by simp), List.length_cons]
    omega

set_option maxHeartbeats 4000000 in
theorem rimage_any {T : Nat → Prop} {w : World} {g : Nat} {sv wv : Value} {rows dvs : List Value} {m : M.Dsk} (h : RefAt T w g sv wv rows dvs m) :
    Calls Try.prog 38 #[.pointer (some ⟨g, 0, none⟩)] w (Makes w m.image) := by
  have H := Lib.hid h
  obtain ⟨n, hn⟩ : ∃ n, n = m.safe.length := ⟨_, rfl⟩
  obtain ⟨sa, sc, es⟩ := ownShape h.srow
  rw [← hn] at es
  subst es
  have HN : Hid (n = m.safe.length) := hn
  have HF : Hid (n ≤ 2176) := by rw [Hid, hn]; exact h.ok.few
  have HI : Hid (m.image = (m.safe.take n).flatten) := by rw [Hid, M.Dsk.image, hn, List.take_length]
  rw [HI.out]
  clear h hn HI
  go_enter Try.func38, Try.ntmps38
  go_wp2
  go_loopw [3, 4] (fun v k wr => ∃ (j : Nat), j ≤ n ∧ k = .int .i64 (j : Int) ∧ Hid (Own wr w.heap.size v (m.safe.take j).flatten) ∧ Hid (Below w.heap.size w wr))
    (fun _ k _ => n - (intOf k).toNat)
  case atStart => exact ⟨0, by omega, rfl, World.ownsRow_nil _ _ _ _, Below.refl _ _⟩
  case round =>
    obtain ⟨wz, rfl⟩ : ∃ x, x = wr := ⟨_, rfl⟩
    obtain ⟨j, hj, rfl, oo, kk⟩ := hrel
    have R := Lib.hid (H.out.chg (F := fun b => w.heap.size ≤ b) (Chg.of_below kk.out) fun b hb => by have := H.out.there b hb; omega)
    have c0 : wz.cell? ⟨g, 0, none⟩ = some (.slice sa n sc) := R.out.blk.cell 0
    by_cases hlt : j < n
    · have n3 : wrap64 ((j : Int) + 1) = ((j + 1 : Nat) : Int) := by have := HF.out; unfold wrap64; omega
      have hjs : j < m.safe.length := by have := HN.out; omega
      obtain ⟨sb, rfl, hsc, cs, fs⟩ := ownCells (by have := R.out.srow; rwa [← HN.out] at this) (by omega)
      have hrl : rows.length = n := by rw [R.out.rlen, HN.out]
      have s0 : wz.cell? ⟨sb, j, none⟩ = some (rows.getD j undef) := by rw [cs _ (by omega), List.getD_eq_getElem?_getD, List.getElem?_eq_getElem (by omega)]; rfl
      obtain ⟨rv, hrv⟩ : ∃ rv, rv = rows.getD j undef := ⟨_, rfl⟩
      have rr := (R.out.rows_ j hjs).1
      rw [← hrv] at s0 rr
      have hb256 : (m.safe.getD j []).length = 256 := by rw [List.getD_eq_getElem?_getD, List.getElem?_eq_getElem hjs]; exact H.out.ok.full _ (List.getElem_mem _)
      have HNIL := Lib.hid (not_nil_of rr hb256)
      obtain ⟨ra, rc, er⟩ := rr.shape
      rw [hb256] at er
      have hol : (m.safe.take j).flatten.length = 256 * j := by
        rw [flat_length _ fun b hb => H.out.ok.full b (List.mem_of_mem_take hb), List.length_take, Nat.min_eq_left (by omega)]
      have HLEN : Hid ((m.safe.take j).flatten.length + (m.safe.getD j []).length ≤ 140737488355328) := by rw [Hid, hol, hb256]; have := HF.out; omega
      have HTK : Hid ((m.safe.take j).flatten ++ m.safe.getD j [] = (m.safe.take (j + 1)).flatten) := (flat_take _ _ hjs).symm
      obtain ⟨x, hx⟩ : ∃ x, x = m.safe.getD j [] := ⟨_, rfl⟩
      rw [← hx] at rr HLEN HTK
      subst er
      have RR := Lib.hid rr
      have HJ : Hid (j < n) := hlt
      have b1 : (j : Int) < (n : Int) := by omega
      have b3 : (0 : Int) ≤ (j : Int) := by omega
      have n1 : ((j : Int)).toNat = j := by omega
      clear hjs hsc cs fs hrl hrv rr hb256 hol hj hlt hx
      go_wp2_with (at_builtin; go_must (refine wpList_app _ rfl _ _ rfl w.heap.size _ (m.safe.take j).flatten rfl oo.out _ x rfl RR.out HNIL.out HLEN.out kk.out.size ?_))
      intro v1 w1 o1 k1 _
      rw [HTK.out] at o1
      have O1 := Lib.hid o1
      have K1 : Hid (Below w.heap.size w w1) := kk.out.trans k1
      clear o1 k1 oo kk RR HNIL HLEN HTK R
      go_wp2
      go_roundw
      case rel => exact ⟨j + 1, by have := HJ.out; omega, by rw [n3], O1, K1⟩
      case measure => rw [n3]; have := HJ.out; simp only [intOf, Int.toNat_natCast]; omega
    · obtain rfl : j = n := by omega
      clear hlt hj R
      go_wp2
      go_ret
      exact ⟨_, rfl, oo.out, kk.out⟩

set_option maxHeartbeats 2000000 in
theorem rsame_any {T : Nat → Prop} {w : World} {g : Nat} {sv wv : Value} {rows dvs : List Value} {m : M.Dsk} (h : RefAt T w g sv wv rows dvs m) (av : Value) (a : List UInt8) (ha : IsB w av a) :
    Calls Try.prog 25 #[av, .pointer (some ⟨g, 0, none⟩)] w fun e w' => e = .returned (.bool (decide (a = m.image))) ∧ Below w.heap.size w w' := by
  have C := Lib.hid (rimage_any h)
  have HA := Lib.hid ha
  clear h ha
  go_enter Try.func25, Try.ntmps25
  go_wp2_with fail
  refine C.out.mono ?_
  rintro e w1 ⟨r1, rfl, o1, k1⟩
  have I1 := Lib.hid o1.isB
  have K1 := Lib.hid k1
  clear o1 k1 C
  go_wp2_with fail
  refine (requal_b av r1 a m.image w1 (HA.out.below K1.out) I1.out).mono ?_
  rintro e w2 ⟨rfl, k2⟩
  have K2 : Hid (Below w.heap.size w w2) := K1.out.trans (k2.mono K1.out.size)
  clear k2 K1 I1
  go_wp2
  go_ret
  exact ⟨rfl, K2.out⟩

end Go.Proofs.Ythmamdlhgfkckaa
