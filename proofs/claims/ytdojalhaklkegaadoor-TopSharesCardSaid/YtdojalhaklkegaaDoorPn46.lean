/-
  CONTRACTS OF bytes.Clone AND OF package disk's small functions: New, Load, Blocks, Down, Waiting, Image, Arm, has, act. Conditions: the disk lies so; rows of at most 2^47 bytes.
  CONTRACTS OF crypt.may AND crypt.boxOf. Conditions: up to 2^46 bytes.
  A BOOK AS ITS BOXES LIE (BkIs), AND THE CONTRACTS OF crypt.Book, OF A BOOK'S Seal AND Open. Conditions: fewer than 100000 boxes; up to 2^40 bytes.
-/
import Derived.Test.YtdojalhaklkegaaDoorPn45
import Derived.Test.YtdojalhaklkegaaDoorPn38
import Derived.Test.YtdojalhaklkegaaDoorPn40

namespace Go.Proofs.YtdojalhaklkegaaDoor
open Go.RowKit
set_option linter.unusedVariables false
set_option maxRecDepth 100000

theorem not_nil9 (ad : Addr) (n cap : Nat) (w : World) : (binOp .eql 24 (.slice (some ad) n cap) (.slice none 0 0)).run Tryd.prog w = .ok (.bool false) w := rfl

theorem yes_nil9 (n cap : Nat) (w : World) : (binOp .eql 24 (.slice none n cap) (.slice none 0 0)).run Tryd.prog w = .ok (.bool true) w := rfl

set_option maxHeartbeats 2000000 in
theorem clone9_any (kv : Value) (ks : List UInt8) (w : World) (hk : IsB w kv ks) (hlen : ks.length ≤ 140737488355328) :
    Calls Tryd.prog 50 #[kv] w (Makes w ks) := by
  obtain ⟨ao, cap, rfl⟩ := hk.shape
  cases ao with
  | none =>
    have he : ks = [] := by
      obtain ⟨ao', cap', e, h1, h2, h3⟩ := hk
      rcases h3 with h | ⟨b, off, h4, h⟩
      · exact h
      · rw [h4] at e; cases e
    subst he
    have hn := yes_nil9 0 cap
    clear hk hlen
    show Calls Tryd.prog 50 #[.slice none 0 cap] w (Makes w [])
    go_enter Tryd.func50, Tryd.ntmps50
    go_wp2
    go_ret
    exact ⟨_, rfl, World.ownsRow_nil _ _ _ _, Below.refl _ _⟩
  | some ad =>
    have HK := Lib.hid hk
    obtain ⟨n, hn⟩ : ∃ n, n = ks.length := ⟨_, rfl⟩
    have HN : Hid (ks.length = n) := hn.symm
    have HL : Hid (n ≤ 140737488355328) := by rw [Hid, hn]; exact hlen
    rw [← hn] at HK ⊢
    have hnn := not_nil9 ad n cap
    clear hk hn hlen
    go_enter Tryd.func50, Tryd.ntmps50
    go_wp2_with (at_builtin; go_must (refine wpList_app _ rfl _ _ rfl w.heap.size _ [] rfl ?c1 _ ks rfl ?c2 (by intro n c e; cases e) (by rw [HN.out]; have := HL.out; simp; exact this) (by simp) ?_))
    case c1 => exact own_empty w
    case c2 => exact HK.out.below ((Below.refl _ _).alloc (Nat.le_refl _) _)
    intro r1 w1 o1 b1 z1
    have K1 : Below w.heap.size w w1 := ((Below.refl _ _).alloc (Nat.le_refl _) (.cells #[] 5)).trans b1
    clear z1 b1
    go_wp2
    go_ret
    exact ⟨r1, rfl, o1, K1⟩

end Go.Proofs.YtdojalhaklkegaaDoor

namespace Go.Proofs.YtdojalhaklkegaaDoor
open Go.RowKit Go.Maps
set_option linter.unusedVariables false
set_option maxRecDepth 100000

set_option maxHeartbeats 2000000 in
theorem may12_any (kv nv : Value) (key nonce : List UInt8) (w : World) (hk : IsB w kv key) (hn : IsB w nv nonce) :
    Calls Tryd.prog 138 #[kv, nv] w fun e w' => e = .returned (.bool (decide (key.length = 32) && decide (nonce.length = 12))) ∧ w' = w := by
  obtain ⟨ka, kc, rfl⟩ := hk.shape
  obtain ⟨na, nc, rfl⟩ := hn.shape
  obtain ⟨a, ha⟩ : ∃ a, a = key.length := ⟨_, rfl⟩
  obtain ⟨b, hb⟩ : ∃ b, b = nonce.length := ⟨_, rfl⟩
  rw [← ha, ← hb]
  clear ha hb hk hn
  by_cases h1 : a = 32
  · subst h1
    by_cases h2 : b = 12
    · subst h2
      go_enter Tryd.func138, Tryd.ntmps138
      go_wp2
      go_ret
      exact ⟨rfl, rfl⟩
    · have q : ((b : Int) == 12) = false := beq_false_of_ne (by omega)
      have HE : Hid (decide (b = 12) = false) := decide_eq_false h2
      clear h2
      go_enter Tryd.func138, Tryd.ntmps138
      go_wp2
      go_ret
      exact ⟨by rw [HE.out]; rfl, rfl⟩
  · have q : ((a : Int) == 32) = false := beq_false_of_ne (by omega)
    have HE : Hid (decide (a = 32) = false) := decide_eq_false h1
    clear h1
    go_enter Tryd.func138, Tryd.ntmps138
    go_wp2
    go_ret
    exact ⟨by rw [HE.out]; rfl, rfl⟩

theorem bbox_next (n len k : Nat) : M.bbox n (k + 1) = M.bbox n k ++ [(M.bg8 n).getD (k % 8) 0] := by
  unfold M.bbox
  rw [List.range_succ, List.map_append]
  rfl

set_option maxHeartbeats 4000000 in
theorem boxOf_any (n len : Nat) (w : World) (hl : len ≤ 70368744177664) :
    Calls Tryd.prog 139 #[.int .u64 (n : Int), .int .i64 (len : Int)] w (Makes w (M.bbox n len)) := by
  obtain ⟨i0, hi, hz0, hz1, hz2⟩ := info_parts Tryd.info5
  have CB := Lib.hid (big64_any n w)
  have h8 : (M.le n 8).reverse.length = 8 := by rw [List.length_reverse, M.le_length]
  obtain ⟨yb, hyb⟩ : ∃ yb, yb = (M.le n 8).reverse := ⟨_, rfl⟩
  rw [← hyb] at CB h8
  have HYB : Hid (yb = M.bg8 n) := hyb
  have H8 := Lib.hid h8
  have HL := Lib.hid hl
  clear hyb h8
  go_enter Tryd.func139, Tryd.ntmps139
  go_wp2_with fail
  refine CB.out.mono ?_
  rintro e w3 ⟨ev, rfl, o3, k3⟩
  obtain ⟨ga, gc, rfl, hga⟩ := o3.shape (by rw [H8.out]; decide)
  have CE := Lib.hid o3.cells
  rw [H8.out]
  have K3 := Lib.hid k3
  clear CB o3 k3 hga
  go_wp2_with (at_make; go_must (refine wpList_make_full _ rfl _ _ 24 rfl w.heap.size 5 i0 (.int .u8 0) 1 Tryd.underlying24 hi hz0 hz1 .i64 .i64 len len len rfl rfl rfl rfl (by rw [hz2]; have := HL.out; omega) (by have := HL.out; unfold maxLen; omega) K3.out.size ?_))
  intro w1 hown hgrow
  obtain ⟨g, hg⟩ : ∃ g, g = w3.heap.size := ⟨_, rfl⟩
  rw [← hg] at hown ⊢
  have k31 : Below w3.heap.size w3 w1 := (Below.refl _ _).grown hgrow (Nat.le_refl _) (by intro k hk; cases hk)
  have HO : Hid (w1.ownsRow w.heap.size 5 1 (.slice (some ⟨g, 0, none⟩) len len) len (Lib.byteCells (M.bbox n 0) ++ List.replicate (len - 0) (.int .u8 0))) := by
    have e : Lib.byteCells (M.bbox n 0) ++ List.replicate (len - 0) (Value.int .u8 0) = (madeCells #[Value.int IntKind.u8 0] len).toList := by
      simp [M.bbox, Lib.byteCells, toList_madeCells_one]
    rw [Hid, e]
    exact hown
  have HA : Hid (∀ j, j < 8 → w1.cell? ⟨ga, j, none⟩ = some (.int .u8 ((yb.getD j 0).toNat : Int)) ∧ ga ≠ g) := by
    intro j hj
    have h3 := CE.out j _ (byteCells_getElem? yb j (by rw [H8.out]; exact hj))
    rw [Addr.add_mid, Nat.zero_add] at h3
    have hb3 : ga < w3.heap.size := World.block_lt_of_cell? w3 _ h3
    exact ⟨(k31.cell (p := ⟨ga, j, none⟩) hb3).trans h3, by rw [hg]; omega⟩
  have K1 : Hid (Below w.heap.size w w1) := K3.out.trans (k31.mono K3.out.size)
  have HGW : Hid (w.heap.size ≤ g) := by rw [Hid, hg]; exact K3.out.size
  have HLT1 : Hid (g < w1.heap.size) := by
    have := (hown.lt g rfl).2
    exact this
  clear hown hgrow hi hz0 hz1 hz2 k31 hg CE K3
  go_wp2
  go_loopw [14] (fun i wr => ∃ k : Nat, k ≤ len ∧ i = .int .i64 (k : Int) ∧ Hid (wr.ownsRow w.heap.size 5 1 (.slice (some ⟨g, 0, none⟩) len len) len (Lib.byteCells (M.bbox n k) ++ List.replicate (len - k) (.int .u8 0))) ∧ Hid (Below w.heap.size w wr) ∧ Hid (Chg (fun b => b = g) w1 wr))
    (fun i _ => len - (intOf i).toNat)
  case atStart => exact ⟨0, Nat.zero_le _, rfl, HO, K1, Lib.hid (Chg.refl _ w1)⟩
  case round =>
    obtain ⟨wz, rfl⟩ : ∃ x, x = wr := ⟨_, rfl⟩
    obtain ⟨k, hk, rfl, hown, hb, ho⟩ := hrel
    by_cases hlt : k < len
    · have b1 : (k : Int) < (len : Int) := by omega
      have hl2 := HL.out
      have hc : wz.cell? ⟨g, k, none⟩ = some (.int .u8 0) := by
        rw [hown.out.cellAt k (by omega)]
        rw [List.getElem?_append_right (by simp [byteCells_length, M.bbox_len])]
        rw [byteCells_length, M.bbox_len, Nat.sub_self, List.getElem?_replicate, if_pos (by omega)]
      have hf : wz.frozen? ⟨g, k, none⟩ = false := hown.out.frozenAt k
      obtain ⟨r, hr⟩ : ∃ r, r = k % 8 := ⟨_, rfl⟩
      have hr8 : r < 8 := by omega
      have m1 : (k : Int).tmod 8 = (r : Int) := by rw [Int.tmod_eq_emod_of_nonneg (by omega)]; omega
      have m2 : (k : Int) % 8 = (r : Int) := by omega
      obtain ⟨hcell, hne⟩ := HA.out r hr8
      have hl1 : wz.cell? ⟨ga, r, none⟩ = some (.int .u8 ((yb.getD r 0).toNat : Int)) := by
        rw [World.cell?_of_block (ho.out.block ga (World.block_lt_of_cell? w1 _ hcell) hne), hcell]
      obtain ⟨c, hcc⟩ : ∃ c, c = yb.getD r 0 := ⟨_, rfl⟩
      rw [← hcc] at hl1
      have HCC : Hid (c = (M.bg8 n).getD (k % 8) 0) := by rw [Hid, hcc, hr, HYB.out]
      have r0 : (0 : Int) ≤ (r : Int) := Int.natCast_nonneg r
      have r8 : (r : Int) < 8 := by omega
      have HLT := Lib.hid hlt
      clear hcell hcc hr hl2 hlt hne
      go_wp2
      go_roundw
      case rel =>
        refine ⟨k + 1, HLT.out, by go_num, ?_, hb.out.setCell HGW.out _, ho.out.cell k _⟩
        have h := (hown.out.stored k (Value.int .u8 (c.toNat : Int))).1
        rw [set_next _ _ _ k (len - k) (by simp [byteCells_length, M.bbox_len]) (by have := HLT.out; omega)] at h
        rw [Hid, bbox_next n len k, byteCells_append, Nat.sub_add_eq, ← HCC.out]
        exact h
      case measure => have := HLT.out; simp [intOf]; omega
    · have b1 : ¬ (k : Int) < (len : Int) := by omega
      obtain rfl : k = len := by omega
      have HE : Hid (Own wz w.heap.size (.slice (some ⟨g, 0, none⟩) k k) (M.bbox n k)) := by
        have h := hown.out
        rw [Nat.sub_self, List.replicate_zero, List.append_nil] at h
        rw [Hid, Own, M.bbox_len]
        exact h
      clear hown hlt
      go_wp2
      go_ret
      exact ⟨_, rfl, HE.out, hb.out⟩

end Go.Proofs.YtdojalhaklkegaaDoor

namespace Go.Proofs.YtdojalhaklkegaaDoor
open Go.RowKit Go.Maps
set_option linter.unusedVariables false
set_option maxRecDepth 100000

/-- gb is a book of the boxes L, in the blocks T. -/
structure BkIs (T : Nat → Prop) (w : World) (gb m1 m2 : Nat) (L : M.Bk) : Prop where
  blk : Blk w gb 76 [.map (some m1), .map (some m2)]
  ne : gb ≠ m2
  tg : T gb
  tm : T m2
  up : ∀ k, T k → k < w.heap.size
  ok : M.BOk L
  fit : ∀ s t, M.bget L s = some t → t.length ≤ 1099511627776
  map : ∃ f, IsSm w m2 L.length f ∧ ∀ s, SlFit s → match M.bget L s with | none => f s = none | some t => ∃ v, f s = some v ∧ IsB w v t ∧ Lies (fun k => T k ∧ k ≠ m2) v

theorem BkIs.chg {F T : Nat → Prop} {w w' : World} {gb m1 m2 : Nat} {L : M.Bk} (h : BkIs T w gb m1 m2 L) (k : Chg F w w') (hF : ∀ j, T j → ¬ F j) : BkIs T w' gb m1 m2 L := by
  obtain ⟨f, h1, h2⟩ := h.map
  refine ⟨h.blk.chg k (hF _ h.tg), h.ne, h.tg, h.tm, fun j hj => Nat.lt_of_lt_of_le (h.up j hj) k.size, h.ok, h.fit, f, h1.chg k (hF _ h.tm), fun s hs => ?_⟩
  have := h2 s hs
  cases hb : M.bget L s with
  | none => rw [hb] at this; exact this
  | some t =>
    rw [hb] at this
    obtain ⟨v, e, hi, hl⟩ := this
    exact ⟨v, e, hi.chg k fun ad n c e => hF _ (hl ad n c e).1, hl⟩
theorem BkIs.below {T : Nat → Prop} {w w' : World} {gb m1 m2 : Nat} {L : M.Bk} (h : BkIs T w gb m1 m2 L) (k : Below w.heap.size w w') : BkIs T w' gb m1 m2 L := h.chg (Chg.of_below (F := fun _ => False) k) fun _ _ h => h

/-- What lies in cells stays while a map is written. -/
theorem IsB.turnS {w w' : World} {b : Nat} {v : Value} {bs : List UInt8} (h : IsB w v bs) (hb : ∃ es clock, w.heap[b]? = some (.map es clock)) (g : w.grownBy w' (some b)) : IsB w' v bs := by
  obtain ⟨ao, cap, rfl, h1, h2, h3⟩ := h
  refine ⟨ao, cap, rfl, h1, h2, ?_⟩
  rcases h3 with h | ⟨k, off, rfl, h⟩
  · exact .inl h
  · refine .inr ⟨k, off, rfl, fun i hi => ?_⟩
    have hc := h i hi
    have hne : some k ≠ some b := by
      intro e
      injection e with e
      subst e
      obtain ⟨es, clock, hb⟩ := hb
      simp [World.cell?, hb] at hc
    exact g.cell (a := ⟨k, off + i, none⟩) hc hne

/-- A book's next blocks. -/
def Wider (T : Nat → Prop) (w w' : World) : Nat → Prop := fun k => T k ∨ (w.heap.size ≤ k ∧ k < w'.heap.size)

set_option maxHeartbeats 2000000 in
theorem bkBook_any (w : World) : Calls Tryd.prog 16 #[] w fun e w' => ∃ gb m1 m2 T, e = .returned (.iface 72 (.pointer (some ⟨gb, 0, none⟩))) ∧ BkIs T w' gb m1 m2 [] ∧ Below w.heap.size w w' ∧ ∀ k, T k → w.heap.size ≤ k := by
  have hmm := @run_makeMap Tryd.prog
  go_enter Tryd.func16, Tryd.ntmps16
  go_wp2
  go_ret
  have z1 : (w.alloc (.map #[] 0)).heap.size = w.heap.size + 1 := by simp
  have z2 : ((w.alloc (.map #[] 0)).alloc (.map #[] 0)).heap.size = w.heap.size + 1 + 1 := by simp
  have sm : IsSm ((w.alloc (.map #[] 0)).alloc (.map #[] 0)) (w.heap.size + 1) 0 (fun _ => none) := by
    have := sm_made (w.alloc (.map #[] 0))
    rwa [z1] at this
  have hz : (((w.alloc (.map #[] 0)).alloc (.map #[] 0)).alloc (.cells #[.map (some w.heap.size), .map (some (w.heap.size + 1))] 76)).heap.size = w.heap.size + 1 + 1 + 1 := by simp
  refine ⟨w.heap.size + 1 + 1, w.heap.size, w.heap.size + 1, fun k => w.heap.size ≤ k ∧ k < w.heap.size + 1 + 1 + 1, rfl, ⟨Blk.newAt _ _ _ _ _ (by rw [z2]) rfl, by omega, ⟨by omega, by omega⟩, ⟨by omega, by omega⟩, fun k h => by rw [hz]; exact h.2, trivial, fun s t h => (by cases h), fun _ => none, ?_, fun s hs => rfl⟩, ?_, fun k hk => hk.1⟩
  · exact sm.chg (Chg.of_below (F := fun _ => False) ((Below.refl _ _).alloc (Nat.le_refl _) _)) (fun h => h)
  · exact (((Below.refl _ w).alloc (Nat.le_refl _) _).alloc (by simp) _).alloc (by simp; omega) _

set_option maxHeartbeats 8000000 in
theorem bkSeal_any {T : Nat → Prop} {w : World} {gb m1 m2 : Nat} {L : M.Bk} (h : BkIs T w gb m1 m2 L) (hfew : L.length < 100000) (kv nv bv tv : Value) (key nonce beside text : List UInt8)
    (hk : IsB w kv key) (hn : IsB w nv nonce) (hb : IsB w bv beside) (ht : IsB w tv text) (hk32 : key.length = 32) (hn12 : nonce.length = 12) (hbl : beside.length ≤ 1099511627776) (htl : text.length ≤ 1099511627776) :
    Calls Tryd.prog 136 #[.pointer (some ⟨gb, 0, none⟩), kv, nv, bv, tv] w fun e w' => ∃ r, e = .returned (.tuple #[r, .int .i64 0]) ∧ Own w' w.heap.size r (M.bbox L.length (text.length + 16)) ∧
      BkIs (Wider T w w') w' gb m1 m2 (((key, nonce, beside, M.bbox L.length (text.length + 16)), text) :: L) ∧ Chg (fun b => b = m2) w w' := by
  have HM := Lib.hid (may12_any kv nv key nonce w hk hn)
  rw [hk32, hn12] at HM
  obtain ⟨bx, hbx⟩ : ∃ x, x = M.bbox L.length (text.length + 16) := ⟨_, rfl⟩
  have HBOX : Hid (∀ w : World, Calls Tryd.prog 139 #[.int .u64 (L.length : Int), .int .i64 ((text.length + 16 : Nat) : Int)] w (Makes w bx)) := fun w => by rw [hbx]; exact boxOf_any _ _ w (by omega)
  rw [← hbx]
  have HBXL : Hid (bx.length = text.length + 16) := by rw [Hid, hbx, M.bbox_len]
  have HNUM : Hid (M.gb bx 8 = L.length) := by rw [Hid, hbx]; exact M.bbox_num _ _ (by omega) (by omega)
  have c0 : w.cell? ⟨gb, 1, none⟩ = some (.map (some m2)) := h.blk.cell 1
  have H := Lib.hid h
  obtain ⟨f, hf1, hf2⟩ := h.map
  have HF1 := Lib.hid hf1
  have HF2 := Lib.hid hf2
  have hln := fun ty => hf1.lenM ty
  have HKV := Lib.hid hk
  have HNV := Lib.hid hn
  have HBV := Lib.hid hb
  have HTV := Lib.hid ht
  obtain ⟨ka, kc, rfl⟩ := hk.shape
  obtain ⟨na, nc, rfl⟩ := hn.shape
  obtain ⟨ba, bc, rfl⟩ := hb.shape
  obtain ⟨ta, tc, rfl⟩ := ht.shape
  obtain ⟨bn, hbn⟩ : ∃ n, n = beside.length := ⟨_, rfl⟩
  obtain ⟨tn, htn⟩ : ∃ n, n = text.length := ⟨_, rfl⟩
  rw [hk32] at HM HKV ⊢
  rw [hn12] at HM HNV ⊢
  rw [← hbn] at HBV hbl ⊢
  rw [← htn] at HTV htl HBOX HBXL ⊢
  obtain ⟨q, hq⟩ : ∃ q, q = L.length := ⟨_, rfl⟩
  rw [← hq] at hfew HNUM HF1 hln HBOX
  have n4 : IntKind.u64.wrap (q : Int) = (q : Int) := by
    simp [IntKind.wrap, IntKind.signed, IntKind.bits]
    omega
  have n5 : wrap64 ((tn : Int) + 16) = ((tn + 16 : Nat) : Int) := by unfold wrap64; omega
  have HLEN : Hid (beside.length = bn ∧ text.length = tn ∧ bn ≤ 1099511627776 ∧ tn ≤ 1099511627776 ∧ key.length = 32 ∧ nonce.length = 12 ∧ q < 100000 ∧ q = L.length) := ⟨hbn.symm, htn.symm, hbl, htl, hk32, hn12, hfew, hq⟩
  clear h hf1 hf2 hk hn hb ht hbn htn hk32 hn12 hbl htl hfew hq hbx
  obtain ⟨sk, hsk⟩ : ∃ s : ByteArray, s = ⟨key.toArray⟩ := ⟨_, rfl⟩
  obtain ⟨sn, hsn⟩ : ∃ s : ByteArray, s = ⟨nonce.toArray⟩ := ⟨_, rfl⟩
  obtain ⟨sb, hsb⟩ : ∃ s : ByteArray, s = ⟨beside.toArray⟩ := ⟨_, rfl⟩
  obtain ⟨sx, hsx⟩ : ∃ s : ByteArray, s = ⟨bx.toArray⟩ := ⟨_, rfl⟩
  have HS : Hid (kval (key, nonce, beside, bx) = .agg #[.string sk, .string sn, .string sb, .string sx]) := by rw [Hid, hsk, hsn, hsb, hsx]; rfl
  have HSTR : Hid (∀ (x : World) (v : Value), (IsB x v key → (convert 24 9 v).run Tryd.prog x = .ok (.string sk) x) ∧ (IsB x v nonce → (convert 24 9 v).run Tryd.prog x = .ok (.string sn) x) ∧ (IsB x v beside → (convert 24 9 v).run Tryd.prog x = .ok (.string sb) x) ∧ (IsB x v bx → (convert 24 9 v).run Tryd.prog x = .ok (.string sx) x)) :=
    fun x v => ⟨fun h => by rw [hsk]; exact str_any h, fun h => by rw [hsn]; exact str_any h, fun h => by rw [hsb]; exact str_any h, fun h => by rw [hsx]; exact str_any h⟩
  clear hsk hsn hsb hsx
  go_enter Tryd.func136, Tryd.ntmps136
  go_wp2_with fail
  refine HM.out.mono ?_
  rintro e w1 ⟨rfl, rfl⟩
  go_upto_region 3 with fail
  go_wp2_with fail
  refine (HBOX.out _).mono ?_
  rintro e w2 ⟨xv, rfl, o2, k2⟩
  obtain ⟨xa, xc, rfl⟩ := o2.shape'
  have O2 := Lib.hid o2
  have K2 := Lib.hid k2
  rw [HBXL.out] at O2 ⊢
  clear o2 k2 c0 hln n4 n5 HM HBOX
  go_upto_region 4 with fail
  refine wp_region_any (by kernel_rfl) ?_
  change wpAny _ _ _ _ _ _ _ (World.drew _)
  refine wpAny_of_held (S := fun w' => w'.cell? ⟨gb, 1, none⟩ = some (.map (some m2)) ∧ IsB w' (.slice ka 32 kc) key ∧ IsB w' (.slice na 12 nc) nonce ∧ IsB w' (.slice ba bn bc) beside ∧ IsB w' (.slice xa (tn + 16) xc) bx ∧ IsB w' (.slice ta tn tc) text) _ _ _ _ ?_
  have KD : Below w1.heap.size w1 w2.drew := K2.out.drew
  have S0 : w2.drew.cell? ⟨gb, 1, none⟩ = some (.map (some m2)) ∧ IsB w2.drew (.slice ka 32 kc) key ∧ IsB w2.drew (.slice na 12 nc) nonce ∧ IsB w2.drew (.slice ba bn bc) beside ∧ IsB w2.drew (.slice xa (tn + 16) xc) bx ∧ IsB w2.drew (.slice ta tn tc) text :=
    ⟨(H.out.blk.below KD H.out.blk.lt).cell 1, HKV.out.below KD, HNV.out.below KD, HBV.out.below KD, O2.out.isB, HTV.out.below KD⟩
  refine wpAnyH_take_at (i := 0) (v := .pointer (some ⟨gb, 0, none⟩)) rfl rfl (by kernel_rfl) (by kernel_rfl) (by kernel_rfl) (fun _ _ _ h => h) (Or.inl ⟨by rfl, fun w hS => by go_simp⟩) S0 ?_
  try simp only [List.setIfInBounds_toArray, List.set_cons_zero, List.set_cons_succ]
  refine wpAnyH_take_at (i := 1) (v := .pointer (some ⟨gb, 0, none⟩)) rfl rfl (by kernel_rfl) (by kernel_rfl) (by kernel_rfl) (fun _ _ _ h => h) (Or.inl ⟨by rfl, fun w hS => by go_simp⟩) S0 ?_
  try simp only [List.setIfInBounds_toArray, List.set_cons_zero, List.set_cons_succ]
  refine wpAnyH_take_at (i := 2) (v := .pointer (some ⟨gb, 1, none⟩)) rfl rfl (by kernel_rfl) (by kernel_rfl) (by kernel_rfl) (fun _ _ _ h => h) (Or.inl ⟨by rfl, fun w hS => by go_simp⟩) S0 ?_
  try simp only [List.setIfInBounds_toArray, List.set_cons_zero, List.set_cons_succ]
  refine wpAnyH_take_at (i := 3) (v := .map (some m2)) rfl rfl (by kernel_rfl) (by kernel_rfl) (by kernel_rfl) (fun _ _ _ h => h) (Or.inl ⟨by rfl, fun w hS => by have c := hS.1; go_simp⟩) S0 ?_
  try simp only [List.setIfInBounds_toArray, List.set_cons_zero, List.set_cons_succ]
  refine wpAnyH_take_at (i := 4) (v := .slice ka 32 kc) rfl rfl (by kernel_rfl) (by kernel_rfl) (by kernel_rfl) (fun _ _ _ h => h) (Or.inl ⟨by rfl, fun w hS => by go_simp⟩) S0 ?_
  try simp only [List.setIfInBounds_toArray, List.set_cons_zero, List.set_cons_succ]
  refine wpAnyH_take_at (i := 5) (v := .string sk) rfl rfl (by kernel_rfl) (by kernel_rfl) (by kernel_rfl) (fun _ _ _ h => h) (Or.inl ⟨by rfl, fun w hS => by have c := (HSTR.out w _).1 hS.2.1; go_simp⟩) S0 ?_
  try simp only [List.setIfInBounds_toArray, List.set_cons_zero, List.set_cons_succ]
  refine wpAnyH_take_at (i := 6) (v := .slice na 12 nc) rfl rfl (by kernel_rfl) (by kernel_rfl) (by kernel_rfl) (fun _ _ _ h => h) (Or.inl ⟨by rfl, fun w hS => by go_simp⟩) S0 ?_
  try simp only [List.setIfInBounds_toArray, List.set_cons_zero, List.set_cons_succ]
  refine wpAnyH_take_at (i := 7) (v := .string sn) rfl rfl (by kernel_rfl) (by kernel_rfl) (by kernel_rfl) (fun _ _ _ h => h) (Or.inl ⟨by rfl, fun w hS => by have c := (HSTR.out w _).2.1 hS.2.2.1; go_simp⟩) S0 ?_
  try simp only [List.setIfInBounds_toArray, List.set_cons_zero, List.set_cons_succ]
  refine wpAnyH_take_at (i := 8) (v := .slice ba bn bc) rfl rfl (by kernel_rfl) (by kernel_rfl) (by kernel_rfl) (fun _ _ _ h => h) (Or.inl ⟨by rfl, fun w hS => by go_simp⟩) S0 ?_
  try simp only [List.setIfInBounds_toArray, List.set_cons_zero, List.set_cons_succ]
  refine wpAnyH_take_at (i := 9) (v := .string sb) rfl rfl (by kernel_rfl) (by kernel_rfl) (by kernel_rfl) (fun _ _ _ h => h) (Or.inl ⟨by rfl, fun w hS => by have c := (HSTR.out w _).2.2.1 hS.2.2.2.1; go_simp⟩) S0 ?_
  try simp only [List.setIfInBounds_toArray, List.set_cons_zero, List.set_cons_succ]
  refine wpAnyH_take_at (i := 10) (v := .slice xa (tn + 16) xc) rfl rfl (by kernel_rfl) (by kernel_rfl) (by kernel_rfl) (fun _ _ _ h => h) (Or.inl ⟨by rfl, fun w hS => by go_simp⟩) S0 ?_
  try simp only [List.setIfInBounds_toArray, List.set_cons_zero, List.set_cons_succ]
  refine wpAnyH_take_at (i := 11) (v := .string sx) rfl rfl (by kernel_rfl) (by kernel_rfl) (by kernel_rfl) (fun _ _ _ h => h) (Or.inl ⟨by rfl, fun w hS => by have c := (HSTR.out w _).2.2.2 hS.2.2.2.2.1; go_simp⟩) S0 ?_
  try simp only [List.setIfInBounds_toArray, List.set_cons_zero, List.set_cons_succ]
  refine wpAnyH_take_at (i := 12) (v := .agg #[.string sk, .string sn, .string sb, .string sx]) rfl rfl (by kernel_rfl) (by kernel_rfl) (by kernel_rfl) (fun _ _ _ h => h) (Or.inl ⟨by rfl, fun w hS => by go_simp⟩) S0 ?_
  try simp only [List.setIfInBounds_toArray, List.set_cons_zero, List.set_cons_succ]
  refine wpAnyH_take_at (i := 13) (v := .slice ta tn tc) rfl rfl (by kernel_rfl) (by kernel_rfl) (by kernel_rfl) (fun _ _ _ h => h) (Or.inl ⟨by rfl, fun w hS => by go_simp⟩) S0 ?_
  try simp only [List.setIfInBounds_toArray, List.set_cons_zero, List.set_cons_succ]
  refine wpAnyH_ready (rs := [14]) (by kernel_rfl) (by simp) ?_
  refine AllReadyH.cons rfl (fun K hK => ?_) AllReadyH.nil
  go_simp
  refine (clone9_any _ text _ S0.2.2.2.2.2 (by have := HLEN.out; omega)).mono ?_
  rintro e w3 ⟨r, rfl, o3, k3⟩
  obtain ⟨ra, rc, rfl⟩ := o3.shape'
  have K3 : Below w1.heap.size w1 w3 := KD.trans (k3.mono KD.size)
  have S3 : w3.cell? ⟨gb, 1, none⟩ = some (.map (some m2)) ∧ IsB w3 (.slice ka 32 kc) key ∧ IsB w3 (.slice na 12 nc) nonce ∧ IsB w3 (.slice ba bn bc) beside ∧ IsB w3 (.slice xa (tn + 16) xc) bx ∧ IsB w3 (.slice ta tn tc) text :=
    ⟨(H.out.blk.below K3 H.out.blk.lt).cell 1, HKV.out.below K3, HNV.out.below K3, HBV.out.below K3, S0.2.2.2.2.1.below k3, HTV.out.below K3⟩
  refine hK.out _ _ S3 (fun _ => ?_)
  clear hK S0
  refine wpAnyH_ready (rs := [15]) (by kernel_rfl) (by simp) ?_
  refine AllReadyH.cons rfl (fun K hK => ?_) AllReadyH.nil
  have hfit : SlFit (key, nonce, beside, bx) := by
    obtain ⟨l1, l2, l3, l4, l5, l6, l7, l8⟩ := HLEN.out
    have l9 := HBXL.out
    refine ⟨?_, ?_, ?_, ?_⟩ <;> (unfold maxLen; dsimp only; omega)
  have hget : M.bget L (key, nonce, beside, bx) = none := M.bget_new (fun e he => by
    have := M.bnum_lt H.out.ok e he
    unfold M.bnum at this
    exact this) _ (by rw [show ((key, nonce, beside, bx) : M.Sl).2.2.2 = bx from rfl, HNUM.out]; exact HLEN.out.2.2.2.2.2.2.2)
  have hno : f (key, nonce, beside, bx) = none := by
    have := HF2.out _ hfit
    rw [hget] at this
    exact this
  have sm3 := HF1.out.chg (Chg.of_below (F := fun _ => False) K3) (fun h => h)
  obtain ⟨w4, hrun, sm4, hg4, hz4⟩ := sm3.store (key, nonce, beside, bx) (.slice ra text.length rc) hfit hno (by have := HLEN.out; omega)
  rw [HS.out] at hrun
  go_simp
  have hm := sm3.isMap
  have hngb : some m2 ≠ some gb := by intro e; injection e with e; exact H.out.ne e.symm
  have S4 : w4.cell? ⟨gb, 1, none⟩ = some (.map (some m2)) ∧ IsB w4 (.slice ka 32 kc) key ∧ IsB w4 (.slice na 12 nc) nonce ∧ IsB w4 (.slice ba bn bc) beside ∧ IsB w4 (.slice xa (tn + 16) xc) bx ∧ IsB w4 (.slice ta tn tc) text :=
    ⟨hg4.cell S3.1 (by intro e; injection e with e; exact H.out.ne e), S3.2.1.turnS hm hg4, S3.2.2.1.turnS hm hg4, S3.2.2.2.1.turnS hm hg4, S3.2.2.2.2.1.turnS hm hg4, S3.2.2.2.2.2.turnS hm hg4⟩
  refine hK.out _ _ S4 (fun _ => ?_)
  clear hK
  have c4 : Chg (fun b => b = m2) w3 w4 := Chg.of_grown hg4 fun b hb => by injection hb with hb; exact hb.symm
  have C4 : Hid (Chg (fun b => b = m2) w1 w4) := (Chg.of_below K3).trans c4 fun _ _ h => h
  have hm2 : m2 < w1.heap.size := H.out.up m2 H.out.tm
  have o4 : Own w4 w1.heap.size (.slice xa (tn + 16) xc) bx := by
    have a1 : Own w3 w1.heap.size (.slice xa (tn + 16) xc) bx := by
      have := O2.out
      refine own_chg this ((Chg.of_below (F := fun _ => False) (((Below.refl _ w2).drew).trans (k3.mono (Nat.le_refl _))))) fun _ _ h => h
    exact own_chg a1 c4 fun b hb e => by
      have := (a1.block_lt b hb).1
      omega
  have O4 := Lib.hid o4
  have B4 : Hid (BkIs (Wider T w1 w4) w4 gb m1 m2 (((key, nonce, beside, bx), text) :: L)) := by
    obtain ⟨l1, l2, l3, l4, l5, l6, l7, l8⟩ := HLEN.out
    refine ⟨(H.out.blk.below K3 H.out.blk.lt).chg c4 (fun e => H.out.ne e), H.out.ne, .inl H.out.tg, .inl H.out.tm, fun k hk => ?_, ⟨?_, H.out.ok⟩, fun s t hst => ?_, fun t => if t = (key, nonce, beside, bx) then some (.slice ra text.length rc) else f t, ?_, fun s hs => ?_⟩
    · rcases hk with hk | hk
      · exact Nat.lt_of_lt_of_le (H.out.up k hk) C4.out.size
      · exact hk.2
    · show M.gb bx 8 = L.length
      rw [HNUM.out, l8]
    · rw [M.bget] at hst
      split at hst
      · injection hst with hst
        rw [← hst, l2]
        omega
      · exact H.out.fit s t hst
    · rw [List.length_cons, ← l8]
      exact sm4
    · rw [M.bget]
      by_cases e : s = (key, nonce, beside, bx)
      · rw [if_pos e.symm]
        refine ⟨.slice ra text.length rc, if_pos e, ?_, ?_⟩
        · exact o3.isB.turnS hm hg4
        · intro ad n c e
          have hk3 := o3.lies (S := fun k => w2.drew.heap.size ≤ k ∧ k < w3.heap.size) (fun k h1 h2 => ⟨h1, h2⟩) ad n c e
          have hz2 : w1.heap.size ≤ w2.drew.heap.size := KD.size
          exact ⟨.inr ⟨by omega, by rw [hz4]; exact hk3.2⟩, by omega⟩
      · rw [if_neg (fun h => e h.symm)]
        have := HF2.out s hs
        cases hbg : M.bget L s with
        | none =>
          rw [hbg] at this
          show (if s = _ then _ else f s) = none
          rw [if_neg e]; exact this
        | some t =>
          rw [hbg] at this
          obtain ⟨v, ev, iv, lv⟩ := this
          refine ⟨v, (if_neg e).trans ev, (iv.below K3).chg c4 (fun ad n c e => (lv ad n c e).2), fun ad n c e => ⟨.inl (lv ad n c e).1, (lv ad n c e).2⟩⟩
  refine wpAnyH_done (by kernel_rfl) ?_ _
  clear S3 S4 hrun sm3 sm4 hg4 hz4 hm hngb c4 hm2 o4 o3 k3 K3 KD hfit hget hno
  go_wp2
  go_ret2
  exact ⟨_, rfl, O4.out, B4.out, C4.out⟩

set_option maxHeartbeats 8000000 in
theorem bkOpen_any {T : Nat → Prop} {w : World} {gb m1 m2 : Nat} {L : M.Bk} (h : BkIs T w gb m1 m2 L) (kv nv bv xv : Value) (key nonce beside box : List UInt8)
    (hk : IsB w kv key) (hn : IsB w nv nonce) (hb : IsB w bv beside) (hx : IsB w xv box) (hk32 : key.length = 32) (hn12 : nonce.length = 12) (hbl : beside.length ≤ 1099511627776) (hxl : box.length ≤ 1099511627776) (hx16 : 16 ≤ box.length) :
    Calls Tryd.prog 135 #[.pointer (some ⟨gb, 0, none⟩), kv, nv, bv, xv] w fun e w' => Below w.heap.size w w' ∧
      match M.bget L (key, nonce, beside, box) with
      | none => e = .returned (.tuple #[.slice none 0 0, .int .i64 7])
      | some t => ∃ r, e = .returned (.tuple #[r, .int .i64 0]) ∧ Own w' w.heap.size r t := by
  have HM := Lib.hid (may12_any kv nv key nonce w hk hn)
  rw [hk32, hn12] at HM
  have H := Lib.hid h
  obtain ⟨f, hf1, hf2⟩ := h.map
  have hfit : SlFit (key, nonce, beside, box) := by
    refine ⟨?_, ?_, ?_, ?_⟩ <;> (unfold maxLen; dsimp only; omega)
  have HLK := Lib.hid (fun (x : World) (k : Below w.heap.size w x) => (hf1.chg (Chg.of_below (F := fun _ => False) k) (fun h => h)).look_ok (key, nonce, beside, box) hfit)
  have hval := hf2 _ hfit
  have HKV := Lib.hid hk
  have HNV := Lib.hid hn
  have HBV := Lib.hid hb
  have HXV := Lib.hid hx
  obtain ⟨ka, kc, rfl⟩ := hk.shape
  obtain ⟨na, nc, rfl⟩ := hn.shape
  obtain ⟨ba, bc, rfl⟩ := hb.shape
  obtain ⟨xa, xc, rfl⟩ := hx.shape
  obtain ⟨bn, hbn⟩ : ∃ n, n = beside.length := ⟨_, rfl⟩
  obtain ⟨xn, hxn⟩ : ∃ n, n = box.length := ⟨_, rfl⟩
  rw [hk32] at HM HKV ⊢
  rw [hn12] at HM HNV ⊢
  rw [← hbn] at HBV ⊢
  rw [← hxn] at HXV hx16 ⊢
  have b16 : ¬ (xn : Int) < 16 := by omega
  obtain ⟨sk, hsk⟩ : ∃ s : ByteArray, s = ⟨key.toArray⟩ := ⟨_, rfl⟩
  obtain ⟨sn, hsn⟩ : ∃ s : ByteArray, s = ⟨nonce.toArray⟩ := ⟨_, rfl⟩
  obtain ⟨sb, hsb⟩ : ∃ s : ByteArray, s = ⟨beside.toArray⟩ := ⟨_, rfl⟩
  obtain ⟨sx, hsx⟩ : ∃ s : ByteArray, s = ⟨box.toArray⟩ := ⟨_, rfl⟩
  have hs : kval (key, nonce, beside, box) = .agg #[.string sk, .string sn, .string sb, .string sx] := by rw [hsk, hsn, hsb, hsx]; rfl
  rw [hs] at HLK
  have HSTR : Hid (∀ (x : World) (k : Below w.heap.size w x), (convert 24 9 (.slice ka 32 kc)).run Tryd.prog x = .ok (.string sk) x ∧ (convert 24 9 (.slice na 12 nc)).run Tryd.prog x = .ok (.string sn) x ∧ (convert 24 9 (.slice ba bn bc)).run Tryd.prog x = .ok (.string sb) x ∧ (convert 24 9 (.slice xa xn xc)).run Tryd.prog x = .ok (.string sx) x ∧ x.cell? ⟨gb, 1, none⟩ = some (.map (some m2))) :=
    fun x k => ⟨by rw [hsk]; exact str_any (HKV.out.below k), by rw [hsn]; exact str_any (HNV.out.below k), by rw [hsb]; exact str_any (HBV.out.below k), by rw [hsx]; exact str_any (HXV.out.below k), (H.out.blk.below k H.out.blk.lt).cell 1⟩
  obtain ⟨ov, hov⟩ : ∃ o, o = M.bget L (key, nonce, beside, box) := ⟨_, rfl⟩
  rw [← hov] at hval ⊢
  have HFIT : Hid (∀ t, ov = some t → t.length ≤ 140737488355328) := fun t e => by
    have := H.out.fit (key, nonce, beside, box) t (by rw [← hov]; exact e)
    omega
  clear h hf1 hf2 hk hn hb hx hbn hxn hk32 hn12 hbl hxl hx16 hs hsk hsn hsb hsx hov hfit
  obtain ⟨fv, hfv⟩ : ∃ x, x = f (key, nonce, beside, box) := ⟨_, rfl⟩
  rw [← hfv] at hval HLK
  clear hfv
  cases ov with
  | none =>
    dsimp only at hval
    subst hval
    go_enter Tryd.func135, Tryd.ntmps135
    go_wp2_with fail
    refine HM.out.mono ?_
    rintro e w1 ⟨rfl, rfl⟩
    go_upto_region 5 with fail
    refine wp_region_any (by kernel_rfl) ?_
    change wpAny _ _ _ _ _ _ _ (World.drew _)
    refine wpAny_of_held (S := fun w' => Below w1.heap.size w1 w') _ _ _ _ ?_
    have S0 : Below w1.heap.size w1 w1.drew := (Below.refl _ _).drew
    refine wpAnyH_take_at (i := 0) (v := .pointer (some ⟨gb, 0, none⟩)) rfl rfl (by kernel_rfl) (by kernel_rfl) (by kernel_rfl) (fun _ _ _ h => h) (Or.inl ⟨by rfl, fun w hS => by go_simp⟩) S0 ?_
    try simp only [List.setIfInBounds_toArray, List.set_cons_zero, List.set_cons_succ]
    refine wpAnyH_take_at (i := 1) (v := .pointer (some ⟨gb, 0, none⟩)) rfl rfl (by kernel_rfl) (by kernel_rfl) (by kernel_rfl) (fun _ _ _ h => h) (Or.inl ⟨by rfl, fun w hS => by go_simp⟩) S0 ?_
    try simp only [List.setIfInBounds_toArray, List.set_cons_zero, List.set_cons_succ]
    refine wpAnyH_take_at (i := 2) (v := .pointer (some ⟨gb, 1, none⟩)) rfl rfl (by kernel_rfl) (by kernel_rfl) (by kernel_rfl) (fun _ _ _ h => h) (Or.inl ⟨by rfl, fun w hS => by go_simp⟩) S0 ?_
    try simp only [List.setIfInBounds_toArray, List.set_cons_zero, List.set_cons_succ]
    refine wpAnyH_take_at (i := 3) (v := .map (some m2)) rfl rfl (by kernel_rfl) (by kernel_rfl) (by kernel_rfl) (fun _ _ _ h => h) (Or.inl ⟨by rfl, fun w hS => by have c := (HSTR.out w hS).2.2.2.2; go_simp⟩) S0 ?_
    try simp only [List.setIfInBounds_toArray, List.set_cons_zero, List.set_cons_succ]
    refine wpAnyH_take_at (i := 4) (v := .slice ka 32 kc) rfl rfl (by kernel_rfl) (by kernel_rfl) (by kernel_rfl) (fun _ _ _ h => h) (Or.inl ⟨by rfl, fun w hS => by go_simp⟩) S0 ?_
    try simp only [List.setIfInBounds_toArray, List.set_cons_zero, List.set_cons_succ]
    refine wpAnyH_take_at (i := 5) (v := .string sk) rfl rfl (by kernel_rfl) (by kernel_rfl) (by kernel_rfl) (fun _ _ _ h => h) (Or.inl ⟨by rfl, fun w hS => by have c := (HSTR.out w hS).1; go_simp⟩) S0 ?_
    try simp only [List.setIfInBounds_toArray, List.set_cons_zero, List.set_cons_succ]
    refine wpAnyH_take_at (i := 6) (v := .slice na 12 nc) rfl rfl (by kernel_rfl) (by kernel_rfl) (by kernel_rfl) (fun _ _ _ h => h) (Or.inl ⟨by rfl, fun w hS => by go_simp⟩) S0 ?_
    try simp only [List.setIfInBounds_toArray, List.set_cons_zero, List.set_cons_succ]
    refine wpAnyH_take_at (i := 7) (v := .string sn) rfl rfl (by kernel_rfl) (by kernel_rfl) (by kernel_rfl) (fun _ _ _ h => h) (Or.inl ⟨by rfl, fun w hS => by have c := (HSTR.out w hS).2.1; go_simp⟩) S0 ?_
    try simp only [List.setIfInBounds_toArray, List.set_cons_zero, List.set_cons_succ]
    refine wpAnyH_take_at (i := 8) (v := .slice ba bn bc) rfl rfl (by kernel_rfl) (by kernel_rfl) (by kernel_rfl) (fun _ _ _ h => h) (Or.inl ⟨by rfl, fun w hS => by go_simp⟩) S0 ?_
    try simp only [List.setIfInBounds_toArray, List.set_cons_zero, List.set_cons_succ]
    refine wpAnyH_take_at (i := 9) (v := .string sb) rfl rfl (by kernel_rfl) (by kernel_rfl) (by kernel_rfl) (fun _ _ _ h => h) (Or.inl ⟨by rfl, fun w hS => by have c := (HSTR.out w hS).2.2.1; go_simp⟩) S0 ?_
    try simp only [List.setIfInBounds_toArray, List.set_cons_zero, List.set_cons_succ]
    refine wpAnyH_take_at (i := 10) (v := .slice xa xn xc) rfl rfl (by kernel_rfl) (by kernel_rfl) (by kernel_rfl) (fun _ _ _ h => h) (Or.inl ⟨by rfl, fun w hS => by go_simp⟩) S0 ?_
    try simp only [List.setIfInBounds_toArray, List.set_cons_zero, List.set_cons_succ]
    refine wpAnyH_take_at (i := 11) (v := .string sx) rfl rfl (by kernel_rfl) (by kernel_rfl) (by kernel_rfl) (fun _ _ _ h => h) (Or.inl ⟨by rfl, fun w hS => by have c := (HSTR.out w hS).2.2.2.1; go_simp⟩) S0 ?_
    try simp only [List.setIfInBounds_toArray, List.set_cons_zero, List.set_cons_succ]
    refine wpAnyH_take_at (i := 12) (v := .agg #[.string sk, .string sn, .string sb, .string sx]) rfl rfl (by kernel_rfl) (by kernel_rfl) (by kernel_rfl) (fun _ _ _ h => h) (Or.inl ⟨by rfl, fun w hS => by go_simp⟩) S0 ?_
    try simp only [List.setIfInBounds_toArray, List.set_cons_zero, List.set_cons_succ]
    refine wpAnyH_take_at (i := 13) (v := .tuple #[.slice none 0 0, .bool false]) rfl rfl (by kernel_rfl) (by kernel_rfl) (by kernel_rfl) (fun _ _ _ h => h) (Or.inl ⟨by rfl, fun w hS => by have c := HLK.out w hS; go_simp⟩) S0 ?_
    try simp only [List.setIfInBounds_toArray, List.set_cons_zero, List.set_cons_succ]
    refine wpAnyH_take_at (i := 14) (v := .tuple #[.slice none 0 0, .bool false]) rfl rfl (by kernel_rfl) (by kernel_rfl) (by kernel_rfl) (fun _ _ _ h => h) (Or.inl ⟨by rfl, fun w hS => by go_simp⟩) S0 ?_
    try simp only [List.setIfInBounds_toArray, List.set_cons_zero, List.set_cons_succ]
    refine wpAnyH_take_at (i := 15) (v := .slice none 0 0) rfl rfl (by kernel_rfl) (by kernel_rfl) (by kernel_rfl) (fun _ _ _ h => h) (Or.inl ⟨by rfl, fun w hS => by go_simp⟩) S0 ?_
    try simp only [List.setIfInBounds_toArray, List.set_cons_zero, List.set_cons_succ]
    refine wpAnyH_take_at (i := 16) (v := .bool false) rfl rfl (by kernel_rfl) (by kernel_rfl) (by kernel_rfl) (fun _ _ _ h => h) (Or.inl ⟨by rfl, fun w hS => by go_simp⟩) S0 ?_
    try simp only [List.setIfInBounds_toArray, List.set_cons_zero, List.set_cons_succ]
    refine wpAnyH_take_at (i := 17) (v := .slice none 0 0) rfl rfl (by kernel_rfl) (by kernel_rfl) (by kernel_rfl) (fun _ _ _ h => h) (Or.inl ⟨by rfl, fun w hS => by go_simp⟩) S0 ?_
    try simp only [List.setIfInBounds_toArray, List.set_cons_zero, List.set_cons_succ]
    refine wpAnyH_take_at (i := 18) (v := .bool false) rfl rfl (by kernel_rfl) (by kernel_rfl) (by kernel_rfl) (fun _ _ _ h => h) (Or.inl ⟨by rfl, fun w hS => by go_simp⟩) S0 ?_
    try simp only [List.setIfInBounds_toArray, List.set_cons_zero, List.set_cons_succ]
    refine wpAnyH_done (by kernel_rfl) ?_ _
    have K := Lib.hid S0
    clear S0
    go_wp2
    go_ret2
    exact ⟨K.out, rfl⟩
  | some t =>
    dsimp only at hval
    obtain ⟨v, rfl, hv, _⟩ := hval
    have HV := Lib.hid hv
    obtain ⟨va, vc, rfl⟩ := hv.shape
    obtain ⟨tn, htn⟩ : ∃ n, n = t.length := ⟨_, rfl⟩
    rw [← htn] at HLK HV
    clear hv htn
    go_enter Tryd.func135, Tryd.ntmps135
    go_wp2_with fail
    refine HM.out.mono ?_
    rintro e w1 ⟨rfl, rfl⟩
    go_upto_region 5 with fail
    refine wp_region_any (by kernel_rfl) ?_
    change wpAny _ _ _ _ _ _ _ (World.drew _)
    refine wpAny_of_held (S := fun w' => Below w1.heap.size w1 w') _ _ _ _ ?_
    have S0 : Below w1.heap.size w1 w1.drew := (Below.refl _ _).drew
    refine wpAnyH_take_at (i := 0) (v := .pointer (some ⟨gb, 0, none⟩)) rfl rfl (by kernel_rfl) (by kernel_rfl) (by kernel_rfl) (fun _ _ _ h => h) (Or.inl ⟨by rfl, fun w hS => by go_simp⟩) S0 ?_
    try simp only [List.setIfInBounds_toArray, List.set_cons_zero, List.set_cons_succ]
    refine wpAnyH_take_at (i := 1) (v := .pointer (some ⟨gb, 0, none⟩)) rfl rfl (by kernel_rfl) (by kernel_rfl) (by kernel_rfl) (fun _ _ _ h => h) (Or.inl ⟨by rfl, fun w hS => by go_simp⟩) S0 ?_
    try simp only [List.setIfInBounds_toArray, List.set_cons_zero, List.set_cons_succ]
    refine wpAnyH_take_at (i := 2) (v := .pointer (some ⟨gb, 1, none⟩)) rfl rfl (by kernel_rfl) (by kernel_rfl) (by kernel_rfl) (fun _ _ _ h => h) (Or.inl ⟨by rfl, fun w hS => by go_simp⟩) S0 ?_
    try simp only [List.setIfInBounds_toArray, List.set_cons_zero, List.set_cons_succ]
    refine wpAnyH_take_at (i := 3) (v := .map (some m2)) rfl rfl (by kernel_rfl) (by kernel_rfl) (by kernel_rfl) (fun _ _ _ h => h) (Or.inl ⟨by rfl, fun w hS => by have c := (HSTR.out w hS).2.2.2.2; go_simp⟩) S0 ?_
    try simp only [List.setIfInBounds_toArray, List.set_cons_zero, List.set_cons_succ]
    refine wpAnyH_take_at (i := 4) (v := .slice ka 32 kc) rfl rfl (by kernel_rfl) (by kernel_rfl) (by kernel_rfl) (fun _ _ _ h => h) (Or.inl ⟨by rfl, fun w hS => by go_simp⟩) S0 ?_
    try simp only [List.setIfInBounds_toArray, List.set_cons_zero, List.set_cons_succ]
    refine wpAnyH_take_at (i := 5) (v := .string sk) rfl rfl (by kernel_rfl) (by kernel_rfl) (by kernel_rfl) (fun _ _ _ h => h) (Or.inl ⟨by rfl, fun w hS => by have c := (HSTR.out w hS).1; go_simp⟩) S0 ?_
    try simp only [List.setIfInBounds_toArray, List.set_cons_zero, List.set_cons_succ]
    refine wpAnyH_take_at (i := 6) (v := .slice na 12 nc) rfl rfl (by kernel_rfl) (by kernel_rfl) (by kernel_rfl) (fun _ _ _ h => h) (Or.inl ⟨by rfl, fun w hS => by go_simp⟩) S0 ?_
    try simp only [List.setIfInBounds_toArray, List.set_cons_zero, List.set_cons_succ]
    refine wpAnyH_take_at (i := 7) (v := .string sn) rfl rfl (by kernel_rfl) (by kernel_rfl) (by kernel_rfl) (fun _ _ _ h => h) (Or.inl ⟨by rfl, fun w hS => by have c := (HSTR.out w hS).2.1; go_simp⟩) S0 ?_
    try simp only [List.setIfInBounds_toArray, List.set_cons_zero, List.set_cons_succ]
    refine wpAnyH_take_at (i := 8) (v := .slice ba bn bc) rfl rfl (by kernel_rfl) (by kernel_rfl) (by kernel_rfl) (fun _ _ _ h => h) (Or.inl ⟨by rfl, fun w hS => by go_simp⟩) S0 ?_
    try simp only [List.setIfInBounds_toArray, List.set_cons_zero, List.set_cons_succ]
    refine wpAnyH_take_at (i := 9) (v := .string sb) rfl rfl (by kernel_rfl) (by kernel_rfl) (by kernel_rfl) (fun _ _ _ h => h) (Or.inl ⟨by rfl, fun w hS => by have c := (HSTR.out w hS).2.2.1; go_simp⟩) S0 ?_
    try simp only [List.setIfInBounds_toArray, List.set_cons_zero, List.set_cons_succ]
    refine wpAnyH_take_at (i := 10) (v := .slice xa xn xc) rfl rfl (by kernel_rfl) (by kernel_rfl) (by kernel_rfl) (fun _ _ _ h => h) (Or.inl ⟨by rfl, fun w hS => by go_simp⟩) S0 ?_
    try simp only [List.setIfInBounds_toArray, List.set_cons_zero, List.set_cons_succ]
    refine wpAnyH_take_at (i := 11) (v := .string sx) rfl rfl (by kernel_rfl) (by kernel_rfl) (by kernel_rfl) (fun _ _ _ h => h) (Or.inl ⟨by rfl, fun w hS => by have c := (HSTR.out w hS).2.2.2.1; go_simp⟩) S0 ?_
    try simp only [List.setIfInBounds_toArray, List.set_cons_zero, List.set_cons_succ]
    refine wpAnyH_take_at (i := 12) (v := .agg #[.string sk, .string sn, .string sb, .string sx]) rfl rfl (by kernel_rfl) (by kernel_rfl) (by kernel_rfl) (fun _ _ _ h => h) (Or.inl ⟨by rfl, fun w hS => by go_simp⟩) S0 ?_
    try simp only [List.setIfInBounds_toArray, List.set_cons_zero, List.set_cons_succ]
    refine wpAnyH_take_at (i := 13) (v := .tuple #[.slice va tn vc, .bool true]) rfl rfl (by kernel_rfl) (by kernel_rfl) (by kernel_rfl) (fun _ _ _ h => h) (Or.inl ⟨by rfl, fun w hS => by have c := HLK.out w hS; go_simp⟩) S0 ?_
    try simp only [List.setIfInBounds_toArray, List.set_cons_zero, List.set_cons_succ]
    refine wpAnyH_take_at (i := 14) (v := .tuple #[.slice va tn vc, .bool true]) rfl rfl (by kernel_rfl) (by kernel_rfl) (by kernel_rfl) (fun _ _ _ h => h) (Or.inl ⟨by rfl, fun w hS => by go_simp⟩) S0 ?_
    try simp only [List.setIfInBounds_toArray, List.set_cons_zero, List.set_cons_succ]
    refine wpAnyH_take_at (i := 15) (v := .slice va tn vc) rfl rfl (by kernel_rfl) (by kernel_rfl) (by kernel_rfl) (fun _ _ _ h => h) (Or.inl ⟨by rfl, fun w hS => by go_simp⟩) S0 ?_
    try simp only [List.setIfInBounds_toArray, List.set_cons_zero, List.set_cons_succ]
    refine wpAnyH_take_at (i := 16) (v := .bool true) rfl rfl (by kernel_rfl) (by kernel_rfl) (by kernel_rfl) (fun _ _ _ h => h) (Or.inl ⟨by rfl, fun w hS => by go_simp⟩) S0 ?_
    try simp only [List.setIfInBounds_toArray, List.set_cons_zero, List.set_cons_succ]
    refine wpAnyH_take_at (i := 17) (v := .slice va tn vc) rfl rfl (by kernel_rfl) (by kernel_rfl) (by kernel_rfl) (fun _ _ _ h => h) (Or.inl ⟨by rfl, fun w hS => by go_simp⟩) S0 ?_
    try simp only [List.setIfInBounds_toArray, List.set_cons_zero, List.set_cons_succ]
    refine wpAnyH_take_at (i := 18) (v := .bool true) rfl rfl (by kernel_rfl) (by kernel_rfl) (by kernel_rfl) (fun _ _ _ h => h) (Or.inl ⟨by rfl, fun w hS => by go_simp⟩) S0 ?_
    try simp only [List.setIfInBounds_toArray, List.set_cons_zero, List.set_cons_succ]
    refine wpAnyH_done (by kernel_rfl) ?_ _
    have K := Lib.hid S0
    clear S0
    go_upto_region 8 with fail
    go_wp2_with fail
    refine (clone9_any _ t _ (HV.out.below K.out) (HFIT.out t rfl)).mono ?_
    rintro e w3 ⟨r, rfl, o3, k3⟩
    have O3 := Lib.hid (o3.mono K.out.size)
    have K3 := Lib.hid (K.out.trans (k3.mono K.out.size))
    clear o3 k3
    go_wp2
    go_ret2
    exact ⟨K3.out, _, rfl, O3.out⟩

end Go.Proofs.YtdojalhaklkegaaDoor
