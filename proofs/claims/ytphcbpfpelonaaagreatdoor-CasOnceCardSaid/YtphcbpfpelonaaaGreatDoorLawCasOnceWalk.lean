/-
  THE WALK OF orloplaw13.CasOnce: true, whatever the bytes, with the real crypt or a book. Conditions: the tables of package sha lie as laid.
-/
import Derived.Test.YtphcbpfpelonaaaGreatDoorPcD
namespace Go.Proofs.YtphcbpfpelonaaaGreatDoor
open Go.RowKit Go.Maps
set_option linter.unusedVariables false
set_option maxRecDepth 100000

theorem M.cnext_few (c : M.Cr) (b : List UInt8) (n : Nat) (h : c.few n) : (M.cnext c b).few (n + 1) := h.next b

theorem M.csum_again (c : M.Cr) (b : List UInt8) : M.csum (M.cnext c b) b = M.csum c b := by
  cases c with
  | real => rfl
  | book l =>
    rw [M.cnext]
    by_cases h : b ∈ l
    · rw [if_pos h]
    · rw [if_neg h]
      show M.bookDg (M.numOf (l ++ [b]) b) = M.bookDg (M.numOf l b)
      rw [M.numOf_snoc, if_neg h, if_pos rfl, M.numOf_new h]

theorem requal_same (v1 v2 : Value) (xs : List UInt8) (w : World) (h1 : IsB w v1 xs) (h2 : IsB w v2 xs) :
    Calls Tryz.prog 14 #[v1, v2] w fun e w' => e = .returned (.bool true) ∧ Below w.heap.size w w' := by
  have h := requal_b v1 v2 xs xs w h1 h2
  rwa [show decide (xs = xs) = true from decide_eq_true rfl] at h

theorem M.need_small {n : Nat} (h : n ≤ 1000) : M.need n ≤ 50 := by
  rw [M.need]
  omega

theorem M.kput_same (k b : List UInt8) : M.kput (M.kput [] k b) k b = [(k, b)] := by
  simp [M.kput, M.kins, M.kdel]

theorem M.swN_nil (ds : List (List UInt8)) : M.swN [] ds = ds := by
  rw [M.swN]
  exact List.filter_eq_self.2 fun d _ => by simp


set_option maxHeartbeats 16000000 in
theorem casOnce_walk (w : World) (hL : Laid w) (bv : Value) (b : List UInt8) (hb : IsB w bv b) (ideal : Bool) :
    Calls Tryz.prog 4 #[bv, .bool ideal] w fun e w' => e = .returned (.bool true) ∧ Below w.heap.size w w' := by
  have HL := Lib.hid hL
  have HB := Lib.hid hb
  have CA := Lib.hid (awake13_any w hL)
  obtain ⟨bo, bc, rfl⟩ := hb.shape
  obtain ⟨bn, hbn⟩ : ∃ n, n = b.length := ⟨_, rfl⟩
  rw [← hbn] at HB ⊢
  have HBN := Lib.hid hbn
  clear hL hb hbn
  go_enter Tryz.func4, Tryz.ntmps4
  go_wp2_with fail
  refine CA.out.mono ?_
  rintro e wa ⟨rfl, ka⟩
  have KA := Lib.hid ka
  clear CA ka
  by_cases hbig : 1000 < bn
  · have b1 : (1000 : Int) < (bn : Int) := by omega
    clear hbig
    go_wp2
    go_ret
    exact ⟨rfl, KA.out⟩
  have HSM : Hid (bn ≤ 1000) := by rw [Hid]; omega
  have b1 : ¬ (1000 : Int) < (bn : Int) := by omega
  have CN := Lib.hid (dst_new (w0 := w) (R := fun _ => False) 124 (by decide) KA.out (fun k h => h.elim))
  clear hbig
  go_wp2_with fail
  refine CN.out.mono ?_
  rintro e w1 ⟨g, rfl, d1, k1⟩
  have CO := Lib.hid (fine_new13 (n := 124) d1 HL.out (by decide) (by decide))
  clear CN d1 k1 b1
  go_wp2_with fail
  refine CO.out.mono ?_
  rintro e w2 ⟨-, gf, rfl, f2⟩
  have F2 := Lib.hid f2
  have CR := Lib.hid (real_any w2)
  clear CO f2
  go_wp2_with fail
  refine CR.out.mono ?_
  rintro e wr ⟨rfl, rfl⟩
  clear CR
  have CB := Lib.hid (book_any wr)
  rcases ideal with _ | _
  focus
    obtain ⟨wx, rfl⟩ : ∃ x, x = wr := ⟨_, rfl⟩
    obtain ⟨R, T, c, hf, hcr, hT, hcv, hfew⟩ : ∃ R T c, Fine w wx g gf 50 [] R ∧ CrIs T wx (.iface 74 (.agg #[])) c ∧ (∀ k, T k → R k) ∧ ((∃ a, (Value.iface 74 (.agg #[])) = .iface 82 (.pointer (some a))) ∨ (Value.iface 74 (.agg #[])) = .iface 74 (.agg #[])) ∧ c.few 0 := ⟨_, fun _ => False, .real, F2.out, rfl, fun _ h => h.elim, .inr rfl, trivial⟩
    go_upto_region 9 with fail
    clear F2 CB
  rotate_left
  focus
    go_wp2_with fail
    refine CB.out.mono ?_
    rintro e wx ⟨cv, T, rfl, hcr, k3, hT', a, rfl⟩
    obtain ⟨R, c, hf, hcr, hT, hcv, hfew⟩ : ∃ R c, Fine w wx g gf 50 [] R ∧ CrIs T wx (.iface 82 (.pointer (some a))) c ∧ (∀ k, T k → R k) ∧ ((∃ b, (Value.iface 82 (.pointer (some a))) = .iface 82 (.pointer (some b))) ∨ (Value.iface 82 (.pointer (some a))) = .iface 74 (.agg #[])) ∧ c.few 0 := ⟨_, .book [], F2.out.below k3, hcr, fun k hk => .inr (hT' k hk), .inl ⟨a, rfl⟩, Nat.le_refl _⟩
    clear F2 CB k3 hT'
    go_upto_region 9 with fail
  all_goals (
    have CW := Lib.hid (casNew_any hf hcr hT (by first | exact hcv | exact .inr rfl))
    have HFEW := Lib.hid hfew
    clear hf hcr hT hcv hfew
    go_wp2_with fail
    refine CW.out.mono ?_
    rintro e w3 ⟨gc, rfl, s3, k3⟩
    obtain ⟨Q3, S3⟩ : ∃ Q, Hid (CasSt w w3 g gf gc 50 [] c _ Q) := ⟨_, s3⟩
    have CB := Lib.hid (begin_any gc w3)
    clear CW s3 k3
    go_wp2_with fail
    refine CB.out.mono ?_
    rintro e w4 ⟨gb, bm, fm, rfl, bt4, k4, g1, g2, g3⟩
    have hlt4 := bt4.lt
    obtain ⟨Q4, S4, q4⟩ : ∃ Q, Hid (CasSt w w4 g gf gc 50 [] c _ Q) ∧ Hid (Q gb ∧ Q bm ∧ Q fm) := ⟨_, S3.out.below k4, .inr ⟨g1, hlt4.1⟩, .inr ⟨g2, hlt4.2.1⟩, .inr ⟨g3, hlt4.2.2⟩⟩
    have hbw : Hid (∀ (v : World) (Q : Nat → Prop) (n : Nat) (F : M.Fs) (c : M.Cr), ∀ x, Far w Q v x → Below w.heap.size w v → IsB x (.slice bo bn bc) b) := fun v Q n F c x far kv => HB.out.below (kv.trans (far.below kv.size))
    have CP := Lib.hid (S4.out.put HL.out (HFEW.out.more (by decide)) bt4 q4.out (fun _ h => h.elim) (.slice bo bn bc) b (fun x far => HB.out.below (S4.out.under.trans (far.below S4.out.under.size))) (by have := HSM.out; have := HBN.out; omega) (by decide))
    have HBM : Hid (bm < w4.heap.size ∧ gb < w4.heap.size ∧ fm < w4.heap.size) := ⟨hlt4.2.1, hlt4.1, hlt4.2.2⟩
    clear CB bt4 k4 g1 g2 g3 hlt4 S3 hbw
    go_wp2_with fail
    refine CP.out.mono ?_
    rintro e w5 ⟨xv, rfl, ix, lx, s5, bt5, ch5⟩
    obtain ⟨dg, hdg⟩ : ∃ d, d = M.csum c b := ⟨_, rfl⟩
    have h32 : dg.length = 32 := by rw [hdg]; exact M.csum_length _ _
    have hz5 := ch5.size
    obtain ⟨Q5, c5, S5, HF5, E5, q5⟩ : ∃ Q c', Hid (CasSt w w5 g gf gc 50 [] c' _ Q) ∧ Hid (c'.few 1) ∧ Hid (M.csum c' b = dg) ∧ Hid ((Q gb ∧ Q bm ∧ Q fm) ∧ ∀ k, w4.heap.size ≤ k → k < w5.heap.size → Q k) := ⟨_, _, s5, HFEW.out.next b, by rw [Hid, M.csum_again, hdg], ⟨.inl q4.out.1, .inl q4.out.2.1, .inl q4.out.2.2⟩, fun k h1 h2 => .inr ⟨h1, h2⟩⟩
    have H32 := Lib.hid h32
    rw [← hdg] at ix bt5
    have CP2 := Lib.hid (S5.out.put HL.out (HF5.out.more (by decide)) bt5 q5.out.1 (fun k h => h.elim (fun h => h.elim) fun h => .inl (q5.out.2 k h.1 h.2)) (.slice bo bn bc) b (fun x far => HB.out.below (S5.out.under.trans (far.below S5.out.under.size))) (by have := HSM.out; have := HBN.out; omega) (by show 1 < 100000; decide))
    have IX5 := Lib.hid ix
    have LX := Lib.hid lx
    have HZ5 := Lib.hid hz5
    obtain ⟨xa, xc, rfl⟩ := ix.shape
    rw [h32] at IX5 LX ⊢
    clear CP ix lx s5 bt5 ch5 hdg h32 hz5 S4 q4 HFEW
    go_wp2_with fail
    refine CP2.out.mono ?_
    rintro e w6 ⟨yv, rfl, iy, ly, s6, bt6, ch6⟩
    have hz5 := HZ5.out
    have hz6 := ch6.size
    rw [E5.out] at iy bt6
    rw [M.kput_same] at bt6
    obtain ⟨Q6, c6, S6, HF6, E6, q6⟩ : ∃ Q c', Hid (CasSt w w6 g gf gc 50 [] c' _ Q) ∧ Hid (c'.few 2) ∧ Hid (M.csum c' b = dg) ∧ Hid ((Q gb ∧ Q bm ∧ Q fm) ∧ ∀ k, w4.heap.size ≤ k → k < w6.heap.size → Q k) := ⟨_, _, s6, HF5.out.next b, by rw [Hid, M.csum_again, E5.out], ⟨.inl q5.out.1.1, .inl q5.out.1.2.1, .inl q5.out.1.2.2⟩, fun k h1 h2 => by
      by_cases h : k < w5.heap.size
      · exact .inl (q5.out.2 k h1 h)
      · exact .inr ⟨by omega, h2⟩⟩
    have IX6 : Hid (IsB w6 (.slice xa 32 xc) dg) := IX5.out.chg ch6 (LX.out.mono fun k hk h => by
      rcases h with h | h
      · have := HBM.out.1; omega
      · exact h.1 (q5.out.2 k hk.1 hk.2))
    have CC := Lib.hid (S6.out.commit HL.out bt6 (fun k hk => .inl (by
      rcases hk with (hk | hk) | hk
      · exact hk.elim
      · exact q6.out.2 k hk.1 (by omega)
      · exact q6.out.2 k (by omega) hk.2)) (by show 1 + 0 < 5000; decide) (fun p hp => by
      have : p = (98 :: dg, b) := by simpa using hp
      rw [this]
      show b.length ≤ _
      have := HSM.out; have := HBN.out; omega) (fun p hp => by cases hp) 0 (by
      rw [M.blob_todo, M.blob_code (by rw [List.length_cons, H32.out]; omega) (M.need_small (by have := HSM.out; have := HBN.out; omega))]) [⟨98 :: dg, b⟩] (by rw [if_pos rfl, M.blob_todo, M.blob_apply]))
    have IY6 := Lib.hid iy
    have LY := Lib.hid ly
    have HZ6 : Hid (w4.heap.size ≤ w5.heap.size ∧ w5.heap.size ≤ w6.heap.size) := ⟨hz5, hz6⟩
    obtain ⟨ya, yc, rfl⟩ := iy.shape
    rw [H32.out] at IY6 LY ⊢
    clear CP2 iy ly s6 bt6 ch6 hz5 hz6 IX5 S5 q5 HZ5
    go_wp2_with fail
    refine CC.out.mono ?_
    rintro e w7 ⟨rfl, far7, s7⟩
    have hz7 := far7.size
    have S7 := Lib.hid s7
    have IX7 := Lib.hid (far7.isB IX6.out (LX.out.mono fun k hk => .inl (q6.out.2 k hk.1 (by have := HZ6.out; omega))))
    have IY7 := Lib.hid (far7.isB IY6.out (LY.out.mono fun k hk => .inl (q6.out.2 k (by have := HZ6.out; omega) hk.2)))
    have HZ7 := Lib.hid hz7
    have CB2 := Lib.hid (begin_any gc w7)
    clear CC far7 s7 IX6 IY6 S6 hz7
    go_wp2_with fail
    refine CB2.out.mono ?_
    rintro e w8 ⟨gb2, bm2, fm2, rfl, bt8, k8, g1, g2, g3⟩
    have hlt8 := bt8.lt
    have hz8 := k8.size
    obtain ⟨Q8, S8, q8⟩ : ∃ Q, Hid (CasSt w w8 g gf gc 50 [⟨98 :: dg, b⟩] c6 _ Q) ∧ Hid ((Q gb2 ∧ Q bm2 ∧ Q fm2) ∧ ∀ k, w4.heap.size ≤ k → k < w6.heap.size → Q k) := ⟨_, S7.out.below k8, ⟨.inr ⟨g1, hlt8.1⟩, .inr ⟨g2, hlt8.2.1⟩, .inr ⟨g3, hlt8.2.2⟩⟩, fun k h1 h2 => .inl (q6.out.2 k h1 h2)⟩
    have IX8 := Lib.hid (IX7.out.below k8)
    have IY8 := Lib.hid (IY7.out.below k8)
    have HB2 : Hid (w7.heap.size ≤ bm2 ∧ w7.heap.size ≤ w8.heap.size) := ⟨g2, hz8⟩
    have CP3 := Lib.hid (S8.out.put HL.out (HF6.out.more (by decide)) bt8 q8.out.1 (fun _ h => h.elim) (.slice bo bn bc) b (fun x far => HB.out.below (S8.out.under.trans (far.below S8.out.under.size))) (by have := HSM.out; have := HBN.out; omega) (by decide))
    clear CB2 bt8 k8 g1 g2 g3 hlt8 hz8 IX7 IY7 S7 q6
    go_wp2_with fail
    refine CP3.out.mono ?_
    rintro e w9 ⟨zv, rfl, iz, lz, s9, bt9, ch9⟩
    have hz9 := ch9.size
    have hq6 := HZ6.out
    have hq7 := HZ7.out
    have hq8 := HB2.out
    rw [E6.out] at iz bt9
    obtain ⟨Q9, c9, S9, HF9, E9, q9⟩ : ∃ Q c', Hid (CasSt w w9 g gf gc 50 [⟨98 :: dg, b⟩] c' _ Q) ∧ Hid (c'.few 3) ∧ Hid (M.csum c' b = dg) ∧ Hid (∀ k, ((w4.heap.size ≤ k ∧ k < w6.heap.size) ∨ (w8.heap.size ≤ k ∧ k < w9.heap.size)) → Q k) := ⟨_, _, s9, HF6.out.next b, by rw [Hid, M.csum_again, E6.out], fun k h => h.imp (fun h => q8.out.2 k h.1 h.2) fun h => h⟩
    have hch : ∀ k, (w4.heap.size ≤ k ∧ k < w6.heap.size) → ¬ (k = bm2 ∨ (¬ Q8 k ∧ w.heap.size ≤ k)) := fun k hk h => by
      rcases h with h | h
      · omega
      · exact h.1 (q8.out.2 k hk.1 hk.2)
    have IX9 := Lib.hid (IX8.out.chg ch9 (LX.out.mono fun k hk => hch k ⟨hk.1, by omega⟩))
    have IY9 := Lib.hid (IY8.out.chg ch9 (LY.out.mono fun k hk => hch k ⟨by omega, hk.2⟩))
    have IZ9 := Lib.hid iz
    have LZ := Lib.hid lz
    have CC2 := Lib.hid (S9.out.commit HL.out bt9 (fun k hk => .inl (by
      rcases hk with hk | hk
      · exact hk.elim
      · exact q9.out k (.inr hk))) (by show 1 + 0 < 5000; decide) (fun p hp => by
      have : p = (98 :: dg, b) := by simpa using (show p ∈ [(98 :: dg, b)] from hp)
      rw [this]
      show b.length ≤ _
      have := HSM.out; have := HBN.out; omega) (fun p hp => by cases hp) 0 (by
      show (0 : Int) = M.fcode ((50 : Nat) : Int) [⟨98 :: dg, b⟩] (M.todo [⟨98 :: dg, b⟩] [(98 :: dg, b)] [])
      rw [M.blob_again, M.none_code S9.out.few S9.out.free0]) [⟨98 :: dg, b⟩] (by
      rw [if_pos rfl]
      show _ = M.fapply [⟨98 :: dg, b⟩] (M.todo [⟨98 :: dg, b⟩] [(98 :: dg, b)] [])
      rw [M.blob_again]
      rfl))
    obtain ⟨za, zc, rfl⟩ := iz.shape
    rw [H32.out] at IZ9 LZ ⊢
    clear CP3 iz lz s9 bt9 ch9 hz9 hq6 hq7 hq8 hch IX8 IY8 S8 q8
    go_wp2_with fail
    refine CC2.out.mono ?_
    rintro e w10 ⟨rfl, far10, s10⟩
    have hx : ∀ v, Lies (fun k => w4.heap.size ≤ k ∧ k < w5.heap.size) v → Lies (fun k => Q9 k ∨ k < w.heap.size) v := fun v h => h.mono fun k hk => .inl (q9.out k (.inl ⟨hk.1, by have := HZ6.out; omega⟩))
    have hy : ∀ v, Lies (fun k => w5.heap.size ≤ k ∧ k < w6.heap.size) v → Lies (fun k => Q9 k ∨ k < w.heap.size) v := fun v h => h.mono fun k hk => .inl (q9.out k (.inl ⟨by have := HZ6.out; omega, hk.2⟩))
    have hz : ∀ v, Lies (fun k => w8.heap.size ≤ k ∧ k < w9.heap.size) v → Lies (fun k => Q9 k ∨ k < w.heap.size) v := fun v h => h.mono fun k hk => .inl (q9.out k (.inr hk))
    have LX9 := Lib.hid (hx _ LX.out)
    have LY9 := Lib.hid (hy _ LY.out)
    have LZ9 := Lib.hid (hz _ LZ.out)
    have IX10 := Lib.hid (far10.isB IX9.out LX9.out)
    have IY10 := Lib.hid (far10.isB IY9.out LY9.out)
    have IZ10 := Lib.hid (far10.isB IZ9.out LZ9.out)
    have S10 := Lib.hid s10
    have CL := Lib.hid s10.list
    rw [M.blob_marked H32.out] at CL
    clear CC2 far10 s10 hx hy hz IX9 IY9 IZ9 LX LY LZ S9 q9
    go_wp2_with fail
    refine CL.out.mono ?_
    rintro e w11 ⟨lv, rows, rfl, ol, k11⟩
    obtain ⟨la, lc, hlv⟩ := ownShape ol.row
    subst hlv
    have hl1 : ([dg] : List (List UInt8)).length = 1 := rfl
    rw [hl1] at ol ⊢
    have hz11 := k11.size
    obtain ⟨Q11, S11, q11⟩ : ∃ Q, Hid (CasSt w w11 g gf gc 50 [⟨98 :: dg, b⟩] c9 _ Q) ∧ Hid ((∀ k, Q9 k → Q k) ∧ ∀ k, w10.heap.size ≤ k → k < w11.heap.size → Q k) := ⟨_, S10.out.below k11, fun k h => .inl h, fun k h1 h2 => .inr ⟨h1, h2⟩⟩
    have hm9 : ∀ v, Lies (fun k => Q9 k ∨ k < w.heap.size) v → Lies (fun k => Q11 k ∨ k < w.heap.size) v := fun v h => h.mono fun k hk => hk.imp_left (q11.out.1 k)
    have LX := Lib.hid (hm9 _ LX9.out)
    have LY := Lib.hid (hm9 _ LY9.out)
    have LZ := Lib.hid (hm9 _ LZ9.out)
    have IX11 := Lib.hid (IX10.out.below k11)
    have IY11 := Lib.hid (IY10.out.below k11)
    have IZ11 := Lib.hid (IZ10.out.below k11)
    have OL11 := Lib.hid ol
    have HZ11 := Lib.hid hz11
    have CG := Lib.hid (S11.out.get_yes HL.out (HF9.out.more (by decide)) (.slice xa 32 xc) dg b IX11.out LX.out (M.blob_blob H32.out))
    clear CL hl1 hm9 ol k11 hz11 IX10 IY10 IZ10 LX9 LY9 LZ9 S10
    go_wp2_with fail
    refine CG.out.mono ?_
    rintro e w12 ⟨r, rfl, hr12, s12, far12⟩
    rw [if_pos E9.out, if_pos E9.out]
    obtain ⟨ir, lr, -⟩ := hr12 E9.out
    obtain ⟨ra, rc, rfl⟩ := ir.shape
    rw [HBN.out.symm] at ir lr ⊢
    have IX12 := Lib.hid (far12.isB IX11.out LX.out)
    have IY12 := Lib.hid (far12.isB IY11.out LY.out)
    have IZ12 := Lib.hid (far12.isB IZ11.out LZ.out)
    have OL12 := Lib.hid (OL11.out.chg far12 fun k hk h1 h2 => hk.1 (q11.out.2 k h1 h2))
    obtain ⟨Q12, S12, q12⟩ : ∃ Q, Hid (CasSt w w12 g gf gc 50 [⟨98 :: dg, b⟩] (M.cnext c9 b) _ Q) ∧ Hid ((∀ k, Q11 k → Q k) ∧ ∀ k, w11.heap.size ≤ k → k < w12.heap.size → Q k) := ⟨_, s12, fun k h => .inl h, fun k h1 h2 => .inr ⟨h1, h2⟩⟩
    have LR : Hid (Lies (fun k => Q12 k ∨ k < w.heap.size) (.slice ra bn rc)) := lr.mono fun k hk => .inl (q12.out.2 k hk.1 hk.2)
    have IR12 := Lib.hid ir
    have HZ12 := Lib.hid far12.size
    have CS := Lib.hid (S12.out.sweep HL.out (.slice none 0 0) [] [] (OwnLL.nil w12 0).isLL (by decide))
    have hrise := S12.out.rise
    have hms : M.marked 98 (M.swept [] [⟨98 :: dg, b⟩]) = [] := by
      rw [M.marked_swept [] hrise]
      exact List.filter_eq_nil_iff.2 fun d _ => by simp
    have HMS := Lib.hid hms
    clear CG hr12 s12 far12 ir lr hrise hms IX11 IY11 IZ11 S11
    go_wp2_with fail
    refine CS.out.mono ?_
    rintro e w13 ⟨rfl, far13, s13⟩
    have hn1 : (((M.swN [] (M.marked 98 [⟨98 :: dg, b⟩])).length : Nat) : Int) = 1 := by rw [M.swN_nil, M.blob_marked H32.out]; rfl
    rw [hn1]
    have hm11 : ∀ v, Lies (fun k => Q11 k ∨ k < w.heap.size) v → Lies (fun k => Q12 k ∨ k < w.heap.size) v := fun v h => h.mono fun k hk => hk.imp_left (q12.out.1 k)
    have IX := Lib.hid (far13.isB IX12.out (hm11 _ LX.out))
    have IY := Lib.hid (far13.isB IY12.out (hm11 _ LY.out))
    have IZ := Lib.hid (far13.isB IZ12.out (hm11 _ LZ.out))
    have IR := Lib.hid (far13.isB IR12.out LR.out)
    have OL := Lib.hid (OL12.out.chg far13 fun k hk h1 h2 => hk.1 (by
      by_cases h : k < w11.heap.size
      · exact q12.out.1 k (q11.out.2 k h1 h)
      · exact q12.out.2 k (by omega) h2))
    have S13 := Lib.hid s13
    have CE := Lib.hid (requal_same (.slice xa 32 xc) (.slice ya 32 yc) dg w13 IX.out IY.out)
    obtain ⟨lb, rfl, -, -⟩ := OL.out.at_ rfl 0 (by decide)
    have ie := (OL.out.each 0 (by show 0 < 1; decide)).1
    rw [show ([dg] : List (List UInt8)).getD 0 [] = dg from rfl] at ie
    obtain ⟨ea, ec, hev⟩ := ie.shape
    rw [H32.out] at hev
    rw [hev] at ie
    have HC : Hid (∀ x, Below w13.heap.size w13 x → x.cell? ⟨lb, 0, none⟩ = some (.slice ea 32 ec)) := fun x k => by
      obtain ⟨b', e, _, hc⟩ := (OL.out.below k).at_ rfl 0 (by decide)
      injection e with e
      injection e with e
      rw [e, hc, hev]
    have IE := Lib.hid ie
    have KW13 := Lib.hid S13.out.under
    clear CS far13 s13 hn1 hm11 ie hev IX12 IY12 IZ12 IR12 OL12 OL S12 LX LY LZ LR OL11
    go_wp2_with fail
    refine CE.out.mono ?_
    rintro e w14 ⟨rfl, k14⟩
    have K14 := Lib.hid k14
    have CE2 := Lib.hid (requal_same (.slice xa 32 xc) (.slice za 32 zc) dg w14 (IX.out.below k14) (IZ.out.below k14))
    clear CE k14
    go_wp2_with fail
    refine CE2.out.mono ?_
    rintro e w15 ⟨rfl, k15⟩
    have kk15 := K14.out.trans (k15.mono K14.out.size)
    have K15 := Lib.hid kk15
    have hcell := HC.out w15 kk15
    have CE3 := Lib.hid (requal_same (.slice ea 32 ec) (.slice xa 32 xc) dg w15 (IE.out.below kk15) (IX.out.below kk15))
    clear CE2 k15 kk15 K14
    go_wp2_with fail
    refine CE3.out.mono ?_
    rintro e w16 ⟨rfl, k16⟩
    have kk16 := K15.out.trans (k16.mono K15.out.size)
    have K16 := Lib.hid kk16
    have CE4 := Lib.hid (requal_same (.slice ra bn rc) (.slice bo bn bc) b w16 (IR.out.below kk16) (HB.out.below (KW13.out.trans (kk16.mono KW13.out.size))))
    clear CE3 k16 kk16 K15 hcell
    go_wp2_with fail
    refine CE4.out.mono ?_
    rintro e w17 ⟨rfl, k17⟩
    have kk17 := K16.out.trans (k17.mono K16.out.size)
    have K17 := Lib.hid kk17
    have CL2 := Lib.hid (S13.out.see kk17).list
    rw [HMS.out] at CL2
    clear CE4 k17 kk17 K16
    go_wp2_with fail
    refine CL2.out.mono ?_
    rintro e w18 ⟨lv2, rows2, rfl, ol2, k18⟩
    obtain ⟨la2, lc2, hlv2⟩ := ownShape ol2.row
    subst hlv2
    have hl0 : ([] : List (List UInt8)).length = 0 := rfl
    rw [hl0]
    have kk18 := K17.out.trans (k18.mono K17.out.size)
    have K18 := Lib.hid kk18
    have CH := Lib.hid ((S13.out.see kk18).has (.slice xa 32 xc) dg (IX.out.below kk18))
    have hno : (M.blob (M.swept [] [⟨98 :: dg, b⟩]) dg).isSome = false := by
      rw [M.blob, if_pos H32.out]
      cases hl : M.look (M.swept [] [⟨98 :: dg, b⟩]) (98 :: dg) with
      | none => rfl
      | some x =>
        have := (M.mem_marked 98 (M.swept [] [⟨98 :: dg, b⟩]) dg).2 ⟨H32.out, by rw [hl]; rfl⟩
        rw [HMS.out] at this
        cases this
    rw [hno] at CH
    clear CL2 ol2 k18 kk18 K17 hl0 hno
    go_wp2_with fail
    refine CH.out.mono ?_
    rintro e w19 ⟨rfl, k19⟩
    have KW : Hid (Below w.heap.size w w19) := KW13.out.trans ((K18.out.trans (k19.mono K18.out.size)).mono KW13.out.size)
    clear CH k19 K18
    go_wp2
    go_ret
    exact ⟨rfl, KW.out⟩)

end Go.Proofs.YtphcbpfpelonaaaGreatDoor
