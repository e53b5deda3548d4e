/-
  THE CONTRACT OF file.Open. Conditions: a disk and a journal lie so, sha's tables are laid.
  THE CONTRACTS OF Files.Read AND Files.Names. Conditions: a disk, a journal, the files and their table lie so.
-/
import Derived.Test.YtphcbpfpelonaaaGreatDoorFileH

namespace Go.Proofs.YtphcbpfpelonaaaGreatDoor
open Go.RowKit Go.Maps
set_option linter.unusedVariables false
set_option maxRecDepth 100000

/-- The first n blocks behind the journal, as they read. -/
def M.metaN (m : M.Dsk) (n : Nat) : List UInt8 := ((List.range n).map fun i => m.read (42 + i)).flatten

theorem M.metaN_next (m : M.Dsk) (n : Nat) : M.metaN m (n + 1) = M.metaN m n ++ m.read (42 + n) := by
  rw [M.metaN, List.range_succ, List.map_append, List.flatten_append]
  simp [M.metaN]

theorem M.read_length {m : M.Dsk} (h : m.Ok) {i : Nat} (hi : i < m.safe.length) : (m.read i).length = 256 :=
  M.seen_length i _ _ (by rw [List.getD_eq_getElem?_getD, List.getElem?_eq_getElem hi]; exact h.full _ (List.getElem_mem hi)) fun x hx => (h.wat x hx).2

theorem M.metaN_length {m : M.Dsk} (hm : m.Ok) : ∀ n, 42 + n ≤ m.safe.length → (M.metaN m n).length = 256 * n
  | 0, _ => rfl
  | n + 1, h => by
    rw [M.metaN_next, List.length_append, M.metaN_length hm n (by omega), M.read_length hm (by omega)]
    omega

/-- How many blocks for bytes. -/
def M.nbOf (m : M.Dsk) : Nat := min (m.safe.length - 74) 2048

/-- What Open hands back. -/
def OpenIs (w : World) (gw : Nat) (m : M.Dsk) (e : Ending) (w' : World) : Prop := Below w.heap.size w w' ∧
  ((m.safe.length ≤ 74 ∧ e = .returned (.tuple #[.pointer none, .int .i64 1])) ∨
   (74 < m.safe.length ∧ ((∃ t gf mb, M.TabOk (M.nbOf m) t ∧ M.tbytes t = M.metaN m 32 ∧ e = .returned (.tuple #[.pointer (some ⟨gf, 0, none⟩), .int .i64 0]) ∧ w.heap.size ≤ gf ∧ gf < mb ∧ FilesAt w' gf gw mb false ∧ TabIn (fun k => gf < k ∧ k < w'.heap.size) w' mb t) ∨
     ((∀ t, M.TabOk (M.nbOf m) t → M.tbytes t ≠ M.metaN m 32) ∧ e = .returned (.tuple #[.pointer none, .int .i64 8])))))

set_option maxHeartbeats 8000000 in
theorem fopen_any {T : Nat → Prop} {w : World} {gw g : Nat} {m : M.Dsk} (hD : CodeDk T w g m) (hW : WalIs w gw g) (hL : Laid w) (h42 : 42 < m.safe.length) (hw : m.wait.length < 1000000) :
    Calls Tryz.prog 26 #[.pointer (some ⟨gw, 0, none⟩)] w (OpenIs w gw m) := by
  obtain ⟨W, hWW⟩ : ∃ x, Hid (x = w.alloc (.cells #[.pointer (some ⟨gw, 0, none⟩), .map none, .bool false] 70)) := ⟨_, rfl⟩
  obtain ⟨gf, hgf⟩ : ∃ x, Hid (x = w.heap.size) := ⟨_, rfl⟩
  have KW : Hid (Below w.heap.size w W) := by rw [hWW.out]; exact (Below.refl _ _).alloc (Nat.le_refl _) _
  have BW : Hid (Blk W gf 70 [.pointer (some ⟨gw, 0, none⟩), .map none, .bool false]) := by rw [hWW.out]; exact Blk.newAt _ _ _ _ _ hgf.out rfl
  have HGF : Hid (gf = w.heap.size) := hgf
  have D := Lib.hid (hD.below KW.out)
  have WI := Lib.hid (hW.below KW.out)
  have HL := Lib.hid (hL.below KW.out hL.size)
  have HF := Lib.hid hD.ok.few
  have HOK := Lib.hid hD.ok
  have HWT := Lib.hid hw
  have H42 := Lib.hid h42
  obtain ⟨r, hr⟩ : ∃ r : Int, r = min ((m.safe.length : Int) - 42 - 32) 2048 := ⟨_, rfl⟩
  have CB := Lib.hid (fblocks_any (mb := 0) (dn := false) D.out WI.out (BW.out.cell 0) r hr)
  have HR := Lib.hid hr
  clear hD hW hL hr hw h42
  by_cases hno : r < 1
  · have b1 : r < 1 := hno
    go_enter Tryz.func26, Tryz.ntmps26
    go_upto_region 2 with fail
    rw [← hWW.out, ← hgf.out]
    clear hWW hgf
    go_wp2_with fail
    refine CB.out.mono ?_
    rintro e x ⟨rfl, rfl⟩
    go_wp2
    go_ret2
    exact ⟨KW.out, .inl ⟨by have := HR.out; have := H42.out; omega, rfl⟩⟩
  · have b1 : ¬ r < 1 := hno
    have H74 : Hid (74 < m.safe.length) := by have := HR.out; have := H42.out; rw [Hid]; omega
    have enb : r = ((M.nbOf m : Nat) : Int) := by have := HR.out; have := H74.out; rw [M.nbOf]; omega
    obtain ⟨nb, hnb⟩ : ∃ z, z = M.nbOf m := ⟨_, rfl⟩
    rw [← hnb] at enb
    have HNB := Lib.hid hnb
    have HNL : Hid (nb ≤ 2048) := by rw [Hid, hnb, M.nbOf]; omega
    rw [enb] at CB b1
    clear hno enb hnb
    go_enter Tryz.func26, Tryz.ntmps26
    go_upto_region 2 with fail
    rw [← hWW.out, ← hgf.out]
    clear hWW hgf
    go_wp2_with fail
    refine CB.out.mono ?_
    rintro e x ⟨rfl, rfl⟩
    go_wp2
    go_loopw [5, 6, 7, 8, 17] (fun v _ _ _ i wr => ∃ k : Nat, i = .int .i64 (k : Int) ∧ Hid (k ≤ 32) ∧ Hid (Own wr x.heap.size v (M.metaN m k)) ∧ Hid (Below x.heap.size x wr))
      (fun _ _ _ _ i _ => 32 - numOf i)
    case atStart => exact ⟨0, rfl, Nat.zero_le _, World.ownsRow_nil _ _ _ _, Below.refl _ _⟩
    case round =>
      obtain ⟨wz, rfl⟩ : ∃ x, x = wr := ⟨_, rfl⟩
      obtain ⟨k, rfl, hk, ho, kk⟩ := hrel
      obtain ⟨v, rfl⟩ : ∃ x, x = u5 := ⟨_, rfl⟩
      by_cases hlt : k < 32
      · have b2 : (k : Int) < 32 := by omega
        have HK := Lib.hid hlt
        have RD := Lib.hid (wread10 (D.out.below kk.out) (WI.out.below kk.out) HWT.out k (by have := H74.out; omega))
        have n3 : wrap64 ((k : Int) + 1) = ((k + 1 : Nat) : Int) := by unfold wrap64; omega
        have N3 := Lib.hid n3
        have HML : Hid ((M.metaN m k).length = 256 * k) := M.metaN_length HOK.out k (by have := H74.out; omega)
        have HRL : Hid ((m.read (42 + k)).length = 256) := M.read_length HOK.out (by have := H74.out; omega)
        have HNX := Lib.hid (M.metaN_next m k)
        clear n3 hlt
        go_wp2_with fail
        refine RD.out.mono ?_
        rintro e w2 ⟨rv, rfl, o2, k2⟩
        have K2 : Hid (Below x.heap.size x w2) := kk.out.trans (k2.mono kk.out.size)
        have O2 := Lib.hid o2
        have OV := Lib.hid (ho.out.below k2)
        clear o2 k2 RD
        go_upto_region 10 with (refine wpList_app _ rfl _ _ rfl x.heap.size _ (M.metaN m k) rfl OV.out _ _ rfl O2.out.isB O2.out.nil0 (by rw [HML.out, HRL.out]; have := HK.out; omega) K2.out.size ?_; intro v3 w3 o3 k3 n3')
        have O3 : Hid (Own w3 x.heap.size v3 (M.metaN m (k + 1))) := by rw [Hid, HNX.out]; exact o3
        have K3 : Hid (Below x.heap.size x w3) := K2.out.trans k3
        clear o3 k3 n3' OV O2 K2
        obtain ⟨v3, rfl⟩ : ∃ x, x = v3 := ⟨_, rfl⟩
        go_wp2
        go_roundw
        case rel => exact ⟨k + 1, by first | rw [N3.out] | rfl, HK.out, O3.out, K3.out⟩
        case measure =>
          first | rw [N3.out] | skip
          exact step_down HK.out
      · have b2 : ¬ (k : Int) < 32 := by omega
        obtain rfl : k = 32 := by have := hk.out; omega
        have CB2 := Lib.hid (fblocks_any (mb := 0) (dn := false) (D.out.below kk.out) (WI.out.below kk.out) ((BW.out.below kk.out BW.out.lt).cell 0) (nb : Int) (by have := HR.out; have := H74.out; have := HNB.out; rw [M.nbOf] at this; omega))
        have CT := Lib.hid (told_any (nb := nb) ho.out.isB (by rw [M.metaN_length HOK.out 32 (by have := H74.out; omega)]) HNL.out (HL.out.below kk.out HL.out.size))
        clear hlt
        go_wp2_with fail
        refine CB2.out.mono ?_
        rintro e w2 ⟨rfl, rfl⟩
        go_wp2_with fail
        refine CT.out.mono ?_
        rintro e w3 ⟨k3, ⟨t, mb, ht, he, rfl, hmb, hT⟩ | ⟨hno, xv, rfl⟩⟩
        · have K3 : Hid (Below x.heap.size x w3) := kk.out.trans (k3.mono kk.out.size)
          have B3 := Lib.hid (BW.out.below K3.out BW.out.lt)
          have c1 := B3.out.cell 1
          have f1 := B3.out.frozen 1
          simp only [List.getElem?_cons_succ, List.getElem?_cons_zero] at c1
          have HT := Lib.hid hT
          go_wp2
          go_ret2
          have hgx : gf < x.heap.size := BW.out.lt
          have hgz : gf < w2.heap.size := Nat.lt_of_lt_of_le hgx kk.out.size
          have CG : Chg (fun b => b = gf) w3 (w3.setCell ⟨gf, 1, none⟩ (.map (some mb))) := (Chg.refl _ _).cell 1 _
          have hwx := KW.out.size
          have hxz := kk.out.size
          have hg0 := HGF.out
          refine ⟨(KW.out.trans (K3.mono KW.out.size)).setCell (p := ⟨gf, 1, none⟩) (by show w.heap.size ≤ gf; omega) _, .inr ⟨H74.out, .inl ⟨t, gf, mb, by rw [← HNB.out]; exact ht, he, rfl, by omega, by omega, B3.out.set_ 1 _, ?_⟩⟩⟩
          refine (HT.out.chg CG (fun e => by omega) fun k hk e => by omega).mono fun k hk => ⟨by omega, Nat.lt_of_lt_of_le hk.2 CG.size⟩
        · go_wp2
          go_ret2
          have K3 := kk.out.trans (k3.mono kk.out.size)
          exact ⟨KW.out.trans (K3.mono KW.out.size), .inr ⟨H74.out, .inr ⟨fun t ht e => hno t (by rw [HNB.out]; exact ht) e, rfl⟩⟩⟩

end Go.Proofs.YtphcbpfpelonaaaGreatDoor

namespace Go.Proofs.YtphcbpfpelonaaaGreatDoor
open Go.RowKit Go.Maps
set_option linter.unusedVariables false
set_option maxRecDepth 100000

/-- The bytes of blocks, one behind the other. -/
def M.bytesOf (m : M.Dsk) (bs : List Nat) : List UInt8 := (bs.map fun b => m.read (74 + b)).flatten

theorem M.bytesOf_next (m : M.Dsk) (bs : List Nat) (k : Nat) (hk : k < bs.length) : M.bytesOf m (bs.take (k + 1)) = M.bytesOf m (bs.take k) ++ m.read (74 + bs.getD k 0) := by
  rw [M.bytesOf, List.take_add_one, List.map_append, List.flatten_append, List.getElem?_eq_getElem hk, List.getD_eq_getElem?_getD, List.getElem?_eq_getElem hk]
  simp [M.bytesOf]

theorem M.bytesOf_length {m : M.Dsk} (hm : m.Ok) : ∀ bs : List Nat, (∀ b ∈ bs, 74 + b < m.safe.length) → (M.bytesOf m bs).length = 256 * bs.length
  | [], _ => rfl
  | b :: r, h => by
    have h1 := M.bytesOf_length hm r fun x hx => h x (List.mem_cons_of_mem _ hx)
    have h2 := M.read_length hm (h b (List.mem_cons_self ..))
    rw [M.bytesOf] at h1 ⊢
    rw [List.map_cons, List.flatten_cons, List.length_append, h1, h2, List.length_cons]
    omega

theorem own_take {w : World} {B : Nat} {a : Option Addr} {n cap : Nat} {bs : List UInt8} (h : Own w B (.slice a n cap) bs) (k : Nat) (hk : k ≤ bs.length) : Own w B (.slice a k cap) (bs.take k) := by
  have hl : (bs.take k).length = k := by rw [List.length_take]; omega
  refine ⟨by rw [byteCells_length, hl, Nat.mul_one], ?_⟩
  rcases h.2 with ⟨e, h0⟩ | ⟨g, cap', cur, e, hb, hg, hn, hm, hs, ht⟩
  · injection e with e1 e2 e3
    refine .inl ⟨by rw [e1, e3, show k = 0 by omega], by omega⟩
  · injection e with e1 e2 e3
    subst e3
    refine .inr ⟨g, cap, cur, by rw [e1, hl], hb, hg, by omega, hm, hs, ?_⟩
    rw [hl, Nat.mul_one]
    rw [Nat.mul_one] at ht
    have e : Lib.byteCells (bs.take k) = (Lib.byteCells bs).take k := by simp [Lib.byteCells, List.map_take]
    rw [e, ← ht, List.take_take, Nat.min_eq_left hk]

theorem fnames2_any {w : World} {gf gw mb : Nat} {dn : Bool} {t : M.Tab} {vs : List Value} (hA : FilesAt w gf gw mb dn) (h : IsTabV w mb t vs) (hl : t.length ≤ 1000) :
    Calls Tryz.prog 18 #[.pointer (some ⟨gf, 0, none⟩)] w fun e w' => ∃ v, e = .returned v ∧ OwnS w' w.heap.size v (t.map M.Pl.nm) ∧ Below w.heap.size w w' := by
  have C := Lib.hid (tnames_any h hl)
  have c1 := hA.cell 1
  simp only [List.getElem?_cons_succ, List.getElem?_cons_zero] at c1
  clear hA h
  go_enter Tryz.func18, Tryz.ntmps18
  go_wp2_with fail
  refine C.out.mono ?_
  rintro e w1 ⟨v, rfl, o1, k1⟩
  go_wp2
  go_ret
  exact ⟨v, rfl, o1, k1⟩

set_option maxHeartbeats 8000000 in
theorem fread_no {w : World} {gf gw mb : Nat} {dn : Bool} {t : M.Tab} {vs : List Value} (hA : FilesAt w gf gw mb dn) (h : IsTabV w mb t vs) (k : List UInt8) (hk : k.length ≤ maxLen) (hno : (t.any fun p => p.nm == k) = false) :
    Calls Tryz.prog 45 #[.pointer (some ⟨gf, 0, none⟩), .string ⟨k.toArray⟩] w fun e w' => e = .returned (.tuple #[.slice none 0 0, .int .i64 4]) ∧ Below w.heap.size w w' := by
  obtain ⟨s, a, n, c, hrun, -⟩ := h.look_ok k hk
  rw [hno] at hrun
  obtain ⟨nm, hnm⟩ : ∃ s : ByteArray, s = ⟨k.toArray⟩ := ⟨_, rfl⟩
  rw [← hnm] at hrun ⊢
  have c1 := hA.cell 1
  simp only [List.getElem?_cons_succ, List.getElem?_cons_zero] at c1
  clear hA h hno hnm
  go_enter Tryz.func45, Tryz.ntmps45
  go_upto_region 2 with fail
  go_wp2
  go_ret2
  exact ⟨rfl, (Below.refl _ _).alloc (Nat.le_refl _) _⟩

set_option maxHeartbeats 8000000 in
theorem fread_yes {T : Nat → Prop} {w : World} {gf gw g mb nb : Nat} {dn : Bool} {m : M.Dsk} {t : M.Tab} {vs : List Value} (hF : FLies T w gf gw g mb nb m dn t vs) (hw : m.wait.length < 1000000) (i : Nat) (hi : i < t.length) :
    Calls Tryz.prog 45 #[.pointer (some ⟨gf, 0, none⟩), .string ⟨(t.getD i default).nm.toArray⟩] w fun e w' =>
      ∃ r, e = .returned (.tuple #[r, .int .i64 0]) ∧ Own w' w.heap.size r ((M.bytesOf m (t.getD i default).bs).take (t.getD i default).sz) ∧ Below w.heap.size w w' := by
  obtain ⟨p, hp⟩ : ∃ p, p = t.getD i default := ⟨_, rfl⟩
  have hm := M.getD_mem hi
  rw [← hp] at hm
  have hok := hF.ok
  obtain ⟨s, a, n, c, hrun, hat⟩ := hF.tab.look_ok p.nm (by have := (hok.nm p hm).2; unfold maxLen; omega)
  have hany : (t.any fun q => q.nm == p.nm) = true := List.any_eq_true.2 ⟨p, hm, by simp⟩
  rw [hany] at hrun
  have hpl := hat i hi (by rw [← hp])
  have hI := hF.tab.each i hi
  rw [← hp] at hpl hI ⊢
  obtain ⟨sa, sc, esv⟩ := hI.shape
  obtain ⟨bn, hbn⟩ : ∃ z, z = p.bs.length := ⟨_, rfl⟩
  rw [plV, esv, ← hbn] at hpl
  rw [esv, ← hbn] at hI
  rw [hpl] at hrun
  have hlen := hok.len p hm
  have hsz := hok.size p hm
  have hlt := hok.lt p hm
  have hnb := hF.nb
  have hf := hF.dk.ok.few
  have HB74 : Hid (∀ b ∈ p.bs, 74 + b < m.safe.length) := fun b hb => by
    have := hlt b hb
    omega
  obtain ⟨nm, hnm⟩ : ∃ s : ByteArray, s = ⟨p.nm.toArray⟩ := ⟨_, rfl⟩
  rw [← hnm] at hrun ⊢
  obtain ⟨sz, hs⟩ : ∃ z, z = p.sz := ⟨_, rfl⟩
  rw [← hs] at hrun ⊢ hlen hsz
  have HBN := Lib.hid hbn
  have HNEED : Hid (sz ≤ 256 * bn) := by rw [← hbn, M.need] at hlen; rw [Hid]; omega
  have HB2K : Hid (bn ≤ 2048) := by
    have := M.up_le (hok.up p hm) hlt
    have := hok.n
    rw [Hid]; omega
  have HI := Lib.hid hI
  have HOK := Lib.hid hF.dk.ok
  have HWT := Lib.hid hw
  obtain ⟨W, hW⟩ : ∃ x, Hid (x = w.alloc (.cells #[.int .i64 (sz : Int), .slice sa bn sc] 110)) := ⟨_, rfl⟩
  obtain ⟨x0, hx0⟩ : ∃ x, Hid (x = w.heap.size) := ⟨_, rfl⟩
  have KW : Hid (Below w.heap.size w W) := by rw [hW.out]; exact (Below.refl _ _).alloc (Nat.le_refl _) _
  have BW : Hid (Blk W x0 110 [.int .i64 (sz : Int), .slice sa bn sc]) := by rw [hW.out]; exact Blk.newAt _ _ _ _ _ hx0.out rfl
  have HX0 : Hid (w.heap.size ≤ x0) := Nat.le_of_eq hx0.out.symm
  have D := Lib.hid (hF.dk.below KW.out)
  have WI := Lib.hid (hF.wal.below KW.out)
  have AT := Lib.hid (hF.at_.below KW.out)
  have c1 := hF.at_.cell 1
  simp only [List.getElem?_cons_succ, List.getElem?_cons_zero] at c1
  have d0 := BW.out.cell 0
  have d1 := BW.out.cell 1
  simp only [List.getElem?_cons_succ, List.getElem?_cons_zero] at d0 d1
  clear hF hw hp hm hok hat hany hpl hI esv hbn hlen hsz hlt hnb hf hnm hs
  go_enter Tryz.func45, Tryz.ntmps45
  go_upto_region 2 with fail
  rw [← hW.out, ← hx0.out]
  clear hW hx0 hrun c1
  go_wp2
  go_loopw [8, 10, 11, 12, 27] (fun v _ _ _ i wr => ∃ k : Nat, i = .int .i64 (k : Int) ∧ Hid (k ≤ bn) ∧ Hid (Own wr W.heap.size v (M.bytesOf m (p.bs.take k))) ∧ Hid (Below W.heap.size W wr))
    (fun _ _ _ _ i _ => bn - numOf i)
  case atStart => exact ⟨0, rfl, Nat.zero_le _, World.ownsRow_nil _ _ _ _, Below.refl _ _⟩
  case round =>
    clear d0 d1
    obtain ⟨wz, rfl⟩ : ∃ x, x = wr := ⟨_, rfl⟩
    obtain ⟨k, rfl, hk, ho, kk⟩ := hrel
    obtain ⟨v, rfl⟩ : ∃ x, x = u8 := ⟨_, rfl⟩
    by_cases hlt : k < bn
    · have b2 : (k : Int) < (bn : Int) := by omega
      have HK := Lib.hid hlt
      have hj2 : k < p.bs.length := by rw [← HBN.out]; exact hlt
      obtain ⟨ao', cap', ee, i1, i2, i3⟩ := HI.out
      injection ee with e1 e2 e3
      obtain ⟨ib, io, hib, hcb⟩ := i3.resolve_left (fun e => by rw [e] at hj2; cases hj2)
      rw [← e1] at hib
      subst hib
      have hxc := hcb k hj2
      have hmem : p.bs.getD k 0 ∈ p.bs := by rw [List.getD_eq_getElem?_getD, List.getElem?_eq_getElem hj2]; exact List.getElem_mem _
      have hb74 := HB74.out _ hmem
      have HNX := Lib.hid (M.bytesOf_next m p.bs k hj2)
      obtain ⟨x, hx⟩ : ∃ x, x = p.bs.getD k 0 := ⟨_, rfl⟩
      rw [← hx] at hxc hb74 HNX
      have c2 : wz.cell? ⟨ib, io + k, none⟩ = some (.int .i64 (x : Int)) := ((KW.out.trans (kk.out.mono KW.out.size)).cell (p := ⟨ib, io + k, none⟩) (World.block_lt_of_cell? w _ hxc)).trans hxc
      have hfew := HOK.out.few
      have g2 : (0 : Int) ≤ (k : Int) := Int.natCast_nonneg k
      have g3 : ((k : Int)).toNat = k := Int.toNat_natCast k
      have h42x : 42 + (32 + x) < m.safe.length := by clear g2 g3; omega
      have e32 : wrap64 (32 + (x : Int)) = ((32 + x : Nat) : Int) := by unfold wrap64; omega
      have RD := Lib.hid (wread10 (D.out.below kk.out) (WI.out.below kk.out) HWT.out (32 + x) h42x)
      rw [show 42 + (32 + x) = 74 + x by omega] at RD
      have HML : Hid ((M.bytesOf m (p.bs.take k)).length ≤ 256 * k) := by
        rw [Hid, M.bytesOf_length HOK.out _ fun y hy => HB74.out y (List.mem_of_mem_take hy), List.length_take]
        omega
      have HRL : Hid ((m.read (74 + x)).length = 256) := M.read_length HOK.out hb74
      have n3 : wrap64 ((k : Int) + 1) = ((k + 1 : Nat) : Int) := by have := HB2K.out; unfold wrap64; omega
      have N3 := Lib.hid n3
      have f0 := (AT.out.below kk.out).cell 0
      simp only [List.getElem?_cons_zero] at f0
      clear n3 hlt hmem hb74 hx hxc hj2 hcb i1 i2 i3 e1 e2 e3 hfew
      go_wp2_with fail
      first | rw [e32] | skip
      refine RD.out.mono ?_
      rintro e w2 ⟨rv, rfl, o2, k2⟩
      have K2 : Hid (Below W.heap.size W w2) := kk.out.trans (k2.mono kk.out.size)
      have O2 := Lib.hid o2
      have OV := Lib.hid (ho.out.below k2)
      clear o2 k2 RD e32 c2 f0
      go_upto_region 10 with (refine wpList_app _ rfl _ _ rfl W.heap.size _ (M.bytesOf m (p.bs.take k)) rfl OV.out _ _ rfl O2.out.isB O2.out.nil0 (by rw [HRL.out]; have := HML.out; have := HB2K.out; have := HK.out; omega) K2.out.size ?_; intro v3 w3 o3 k3 n3')
      have O3 : Hid (Own w3 W.heap.size v3 (M.bytesOf m (p.bs.take (k + 1)))) := by rw [Hid, HNX.out]; exact o3
      have K3 : Hid (Below W.heap.size W w3) := K2.out.trans k3
      clear o3 k3 n3' OV O2 K2
      obtain ⟨v3, rfl⟩ : ∃ x, x = v3 := ⟨_, rfl⟩
      go_wp2
      go_roundw
      case rel => exact ⟨k + 1, by first | rw [N3.out] | rfl, HK.out, O3.out, K3.out⟩
      case measure =>
        first | rw [N3.out] | skip
        exact step_down HK.out
    · have b2 : ¬ (k : Int) < (bn : Int) := by omega
      obtain rfl : k = bn := by have := hk.out; omega
      have hO := ho.out
      rw [List.take_of_length_le (by rw [← HBN.out]; exact Nat.le_refl _)] at hO
      have hml : (M.bytesOf m p.bs).length = 256 * k := by rw [M.bytesOf_length HOK.out _ HB74.out, ← HBN.out]
      obtain ⟨va, vc, rfl⟩ := hO.shape'
      have hIB := hO.isB
      obtain ⟨ao, cap, ee, j1, j2, j3⟩ := hIB
      injection ee with e1 e2 e3
      rw [hml] at hO ⊢
      have b3 : (sz : Int) ≤ (vc : Int) := by have := HNEED.out; rw [hml] at j1; omega
      have b4 : ¬ (vc : Int) < (sz : Int) := by omega
      have d0 := (BW.out.below kk.out BW.out.lt).cell 0
      simp only [List.getElem?_cons_zero] at d0
      have OT := own_take hO sz (by rw [hml]; exact HNEED.out)
      have OTH := Lib.hid OT
      have KK := Lib.hid (KW.out.trans (kk.out.mono KW.out.size))
      have HWS : Hid (w.heap.size ≤ W.heap.size) := KW.out.size
      clear hlt hO hml j1 j2 j3 e1 e2 e3 OT
      go_wp2
      go_ret2
      exact ⟨_, rfl, OTH.out.mono HWS.out, KK.out⟩

end Go.Proofs.YtphcbpfpelonaaaGreatDoor
