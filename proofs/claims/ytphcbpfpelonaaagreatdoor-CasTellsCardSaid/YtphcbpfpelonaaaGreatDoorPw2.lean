/-
  THE JOURNAL'S HEAD, PLAIN MATHEMATICS: what it tells (toldOf), the head that tells of changes (headOf: a front of 224 bytes and a digest), decJ; and that they make a Journal. Nothing of the program. Conditions: none.
  CONTRACTS OF bytes.Equal (rows that have bytes), and of package wal's settle and Open, over a contract of whole. Conditions: as each says.
-/
import Derived.Test.YtphcbpfpelonaaaGreatDoorWalMath
import Derived.Test.YtphcbpfpelonaaaGreatDoorPf2
import Derived.Laws.BytesArg

namespace Go.Proofs.YtphcbpfpelonaaaGreatDoor.M
set_option linter.unusedVariables false

/-- A head on its way: the number, the first k blocks, bytes 0. -/
def hblk (l : CL) (k : Nat) : List UInt8 := le l.length 4 ++ ((l.take k).flatMap fun c => le c.1.toNat 4) ++ List.replicate (252 - 4 * k) 0

def hfront (l : CL) : List UInt8 := (hblk l l.length).take 224

/-- The bytes of changes, one behind the other. -/
def hdata (l : CL) : List UInt8 := l.flatMap (·.2)

def headOf (l : CL) : List UInt8 := hfront l ++ sha (hdata l ++ hfront l)

def toldAt (s : List (List UInt8)) (i : Nat) : Int × List UInt8 := (((gl ((s.getD 0 []).drop (4 * (1 + i))) 4 : Nat) : Int), s.getD (1 + i) [])

def toldN (s : List (List UInt8)) : Nat := min (gl (s.getD 0 []) 4) 40

/-- The changes that a head tells, whether they may be or not. -/
def toldOf (s : List (List UInt8)) : CL := (List.range (toldN s)).map (toldAt s)

/-- The changes that are whole in the journal. -/
def decJ (s : List (List UInt8)) : Option CL := if toldOf s ≠ [] ∧ May (s.length - 42) (toldOf s) ∧ s.getD 0 [] = headOf (toldOf s) then some (toldOf s) else none

theorem fours (l : CL) : (l.flatMap fun c => le c.1.toNat 4).length = 4 * l.length := by
  induction l with
  | nil => rfl
  | cons c r ih => rw [List.flatMap_cons, List.length_append, le_length, ih, List.length_cons]; omega

theorem hblk_length (l : CL) (k : Nat) (hk : k ≤ l.length) : (hblk l k).length = 4 + 4 * k + (252 - 4 * k) := by
  rw [hblk, List.length_append, List.length_append, le_length, fours, List.length_replicate, List.length_take, Nat.min_eq_left hk]

theorem hblk_256 (l : CL) (k : Nat) (hk : k ≤ l.length) (h40 : l.length ≤ 40) : (hblk l k).length = 256 := by
  rw [hblk_length l k hk]
  omega

theorem hfront_length (l : CL) : (hfront l).length = 224 := by
  rw [hfront, List.length_take, hblk_length l _ (Nat.le_refl _)]
  omega

theorem headOf_length (l : CL) : (headOf l).length = 256 := by rw [headOf, List.length_append, hfront_length, sha_length]

theorem hblk_zero (l : CL) : hblk l 0 = le l.length 4 ++ List.replicate 252 0 := by
  rw [hblk, List.take_zero, List.flatMap_nil, List.append_nil]

/-- The number over bytes 0. -/
theorem hblk_first (l : CL) : (zero256.take 0 ++ le l.length 4 ++ zero256.drop (0 + (le l.length 4).length)) = hblk l 0 := by
  rw [hblk_zero, le_length, List.take_zero, List.nil_append, zero256, List.drop_replicate]

/-- A block more. -/
theorem hblk_next (l : CL) (k : Nat) (hk : k < l.length) (h40 : l.length ≤ 40) (c : Int × List UInt8) (hc : c = l.getD k (0, [])) :
    (hblk l k).take (4 * (1 + k)) ++ le c.1.toNat 4 ++ (hblk l k).drop (4 * (1 + k) + (le c.1.toNat 4).length) = hblk l (k + 1) := by
  have hp : (le l.length 4 ++ ((l.take k).flatMap fun c => le c.1.toNat 4)).length = 4 * (1 + k) := by
    rw [List.length_append, le_length, fours, List.length_take, Nat.min_eq_left (Nat.le_of_lt hk)]
    omega
  have e1 : (hblk l k).take (4 * (1 + k)) = le l.length 4 ++ ((l.take k).flatMap fun c => le c.1.toNat 4) := by
    rw [hblk, ← hp, List.take_left]
  have e2 : (hblk l k).drop (4 * (1 + k) + (le c.1.toNat 4).length) = List.replicate (252 - 4 * (k + 1)) 0 := by
    rw [hblk, ← hp, List.drop_append, List.drop_eq_nil_of_le (by omega), List.nil_append, le_length, Nat.add_sub_cancel_left, List.drop_replicate]
    first | done | (congr 1 <;> omega)
  have e3 : l.take (k + 1) = l.take k ++ [c] := by
    rw [List.take_add_one, List.getElem?_eq_getElem hk, hc, List.getD_eq_getElem?_getD, List.getElem?_eq_getElem hk]
    rfl
  rw [e1, e2, hblk, e3, List.flatMap_append, List.flatMap_singleton]
  simp only [List.append_assoc]

/-- The digest behind the front. -/
theorem head_done (l : CL) (h40 : l.length ≤ 40) : (hblk l l.length).take 224 ++ sha (hdata l ++ hfront l) ++ (hblk l l.length).drop (224 + (sha (hdata l ++ hfront l)).length) = headOf l := by
  rw [sha_length, List.drop_eq_nil_of_le (by rw [hblk_256 l _ (Nat.le_refl _) h40]; decide), List.append_nil]
  rfl

theorem hdata_next (l : CL) (k : Nat) (hk : k < l.length) (c : Int × List UInt8) (hc : c = l.getD k (0, [])) : hdata (l.take k) ++ c.2 = hdata (l.take (k + 1)) := by
  have e3 : l.take (k + 1) = l.take k ++ [c] := by
    rw [List.take_add_one, List.getElem?_eq_getElem hk, hc, List.getD_eq_getElem?_getD, List.getElem?_eq_getElem hk]
    rfl
  rw [hdata, hdata, e3, List.flatMap_append, List.flatMap_singleton]

theorem hdata_le (l : CL) (h : ∀ c ∈ l, c.2.length = 256) : (hdata l).length = 256 * l.length := by
  induction l with
  | nil => rfl
  | cons c r ih =>
    have := ih fun d hd => h d (List.mem_cons_of_mem _ hd)
    rw [hdata] at this ⊢
    rw [List.flatMap_cons, List.length_append, this, h c (List.mem_cons_self ..), List.length_cons]
    omega

theorem gl_same (a b : List UInt8) : ∀ k, (∀ i, i < k → a.getD i 0 = b.getD i 0) → gl a k = gl b k
  | 0, _ => rfl
  | k + 1, h => by rw [gl, gl, gl_same a b k fun i hi => h i (by omega), h k (by omega)]

theorem gl_front (v n : Nat) (r : List UInt8) (h : v < 256 ^ n) : gl (le v n ++ r) n = v := by
  refine (gl_same _ (le v n) n fun i hi => ?_).trans (gl_of_le v n h)
  rw [List.getD_eq_getElem?_getD, List.getD_eq_getElem?_getD, List.getElem?_append_left (by rw [le_length]; exact hi)]

theorem headOf_split (l : CL) (h40 : l.length ≤ 40) : ∃ r, headOf l = le l.length 4 ++ ((l.flatMap fun c => le c.1.toNat 4) ++ r) := by
  refine ⟨List.replicate (220 - 4 * l.length) 0 ++ sha (hdata l ++ hfront l), ?_⟩
  have hp : (le l.length 4 ++ (l.flatMap fun c => le c.1.toNat 4)).length = 4 + 4 * l.length := by rw [List.length_append, le_length, fours]
  have e : hfront l = le l.length 4 ++ (l.flatMap fun c => le c.1.toNat 4) ++ List.replicate (220 - 4 * l.length) 0 := by
    rw [hfront, hblk, List.take_length, List.take_append, List.take_of_length_le (by omega), hp, List.take_replicate]
    congr 2
    omega
  rw [headOf, e]
  simp only [List.append_assoc]

theorem fours_drop : ∀ (l : CL) (i : Nat) (r : List UInt8), i < l.length → ∃ t, ((l.flatMap fun c => le c.1.toNat 4) ++ r).drop (4 * i) = le (l.getD i (0, [])).1.toNat 4 ++ t
  | c :: l, 0, r, _ => ⟨(l.flatMap fun c => le c.1.toNat 4) ++ r, by rw [Nat.mul_zero, List.drop_zero, List.flatMap_cons, List.append_assoc]; rfl⟩
  | c :: l, i + 1, r, h => by
    obtain ⟨t, ht⟩ := fours_drop l i r (by simpa using h)
    refine ⟨t, ?_⟩
    rw [List.flatMap_cons, List.append_assoc, List.drop_append, List.drop_eq_nil_of_le (by rw [le_length]; omega), List.nil_append, le_length, show 4 * (i + 1) - 4 = 4 * i by omega, ht]
    rfl

theorem told_head (s : List (List UInt8)) (l : CL) (hn : s.length - 42 ≤ 4294967296) (hm : May (s.length - 42) l) (h0 : s.getD 0 [] = headOf l) (hb : ∀ i, i < l.length → s.getD (1 + i) [] = (l.getD i (0, [])).2) : toldOf s = l := by
  obtain ⟨r, hr⟩ := headOf_split l hm.1
  have n1 : toldN s = l.length := by
    have := hm.1
    rw [toldN, h0, hr, gl_front l.length 4 _ (by rw [show (256 : Nat) ^ 4 = 4294967296 from rfl]; omega)]
    omega
  apply List.ext_getElem
  · rw [toldOf, List.length_map, List.length_range, n1]
  · intro i h1 h2
    have e0 : (toldOf s)[i] = toldAt s i := by simp [toldOf]
    rw [e0, toldAt, h0, hr]
    have hg : l.getD i (0, []) = l[i] := by rw [List.getD_eq_getElem?_getD, List.getElem?_eq_getElem h2]; rfl
    obtain ⟨t, ht⟩ := fours_drop l i r h2
    have e1 : (le l.length 4 ++ ((l.flatMap fun c => le c.1.toNat 4) ++ r)).drop (4 * (1 + i)) = le (l.getD i (0, [])).1.toNat 4 ++ t := by
      rw [List.drop_append, List.drop_eq_nil_of_le (by rw [le_length]; omega), List.nil_append, le_length, show 4 * (1 + i) - 4 = 4 * i by omega, ht]
    have hc := hm.2 l[i] (List.getElem_mem h2)
    have hlt : (l.getD i (0, [])).1.toNat < 256 ^ 4 := by
      rw [hg, show (256 : Nat) ^ 4 = 4294967296 from rfl]
      omega
    rw [e1, gl_front _ 4 t hlt, hb i h2, hg]
    refine Prod.ext ?_ rfl
    show ((l[i].1.toNat : Nat) : Int) = l[i].1
    omega

theorem decJ_journal : Journal decJ headOf where
  zero := fun s h => by
    have e : toldOf s = [] := by
      have n0 : toldN s = 0 := by rw [toldN, h, show gl zero256 4 = 0 by decide]; rfl
      rw [toldOf, n0]
      rfl
    rw [decJ, if_neg]
    rintro ⟨h1, _⟩
    exact h1 e
  front := fun s t hl h => by
    have e : toldOf s = toldOf t := by
      have n1 : toldN s = toldN t := by rw [toldN, toldN, h 0 (by decide)]
      rw [toldOf, toldOf, ← n1]
      apply List.map_congr_left
      intro i hi
      have : i < toldN s := List.mem_range.1 hi
      have h40 : toldN s ≤ 40 := Nat.min_le_right _ _
      rw [toldAt, toldAt, h 0 (by decide), h (1 + i) (by omega)]
    rw [decJ, decJ, e, hl, h 0 (by decide)]
  told := fun s l h42 h => by
    rw [decJ] at h
    split at h
    · rename_i hh
      injection h with h
      exact h ▸ hh.2.1
    · cases h
  whole := fun s l h42 hfew hm hne h0 hb => by
    have e := told_head s l (by omega) hm h0 hb
    rw [decJ, e, if_pos ⟨hne, hm, h0⟩]
  len := headOf_length

end Go.Proofs.YtphcbpfpelonaaaGreatDoor.M

namespace Go.Proofs.YtphcbpfpelonaaaGreatDoor
open Go.RowKit
set_option linter.unusedVariables false
set_option maxRecDepth 100000

theorem str_of (bs : List UInt8) : strOfNums (bs.map fun c => (c.toNat : Int)) = ⟨bs.toArray⟩ := by
  rw [strOfNums]
  congr 2
  rw [List.map_map]
  conv => rhs; rw [← List.map_id bs]
  apply List.map_congr_left
  intro c _
  simp

theorem str_run {w : World} {v : Value} {bs : List UInt8} (h : IsB w v bs) (hn : bs ≠ []) : (convert 38 9 v).run Tryz.prog w = .ok (.string ⟨bs.toArray⟩) w := by
  obtain ⟨ao, cap, rfl, h1, h2, h3⟩ := h
  obtain ⟨b, off, rfl, hc⟩ := h3.resolve_left hn
  have := run_convert_bytes_arg (P := Tryz.prog) (w := w) 38 5 Tryz.underlying38 Tryz.underlying5 b off bs.length cap (bs.map fun c => (c.toNat : Int)) (by simp) (fun i hi => by
    rw [hc i hi]
    simp [List.getD_eq_getElem?_getD, hi]) 9 Tryz.underlying9
  rw [str_of] at this
  exact this

set_option maxHeartbeats 2000000 in
theorem bytesEqual_any (v1 v2 : Value) (xs ys : List UInt8) (w : World) (h1 : IsB w v1 xs) (h2 : IsB w v2 ys) (n1 : xs ≠ []) (n2 : ys ≠ []) : Calls Tryz.prog 39 #[v1, v2] w fun e w' => e = .returned (.bool (decide (xs = ys))) ∧ w' = w := by
  have r1 := str_run h1 n1
  have r2 := str_run h2 n2
  obtain ⟨a1, c1, rfl⟩ := h1.shape
  obtain ⟨a2, c2, rfl⟩ := h2.shape
  clear h1 h2 n1 n2
  go_enter Tryz.func39, Tryz.ntmps39
  have e1 : (xs == ys) = decide (xs = ys) := by
    by_cases h : xs = ys
    · rw [decide_eq_true h, h]; simp
    · rw [decide_eq_false h]; simpa using h
  have E1 := Lib.hid e1
  clear e1
  go_wp2
  go_ret
  exact ⟨by rw [← E1.out]; rfl, rfl⟩

theorem M.sync_ok (m : M.Dsk) (h : m.doSync.2 = 0) : m.doSync.1.wait = [] ∧ m.doSync.1.safe.length = m.safe.length := by
  rw [M.Dsk.doSync] at h ⊢
  split
  · rename_i hd
    rw [if_pos hd] at h
    cases h
  · rename_i hd
    rw [if_neg hd] at h
    split
    · rename_i hg
      rw [if_pos hg] at h
      cases h
    · refine ⟨rfl, ?_⟩
      show (M.laid m.goes.1.safe m.goes.1.wait).length = _
      rw [M.laid_len, M.Dsk.goes]
      split
      · rfl
      · split <;> rfl

theorem M.sync_len (m : M.Dsk) : m.doSync.1.safe.length = m.safe.length := by
  rw [M.Dsk.doSync]
  split
  · rfl
  · split
    · show m.goes.1.safe.length = _
      rw [M.Dsk.goes]
      split
      · rfl
      · split <;> rfl
    · show (M.laid m.goes.1.safe m.goes.1.wait).length = _
      rw [M.laid_len, M.Dsk.goes]
      split
      · rfl
      · split <;> rfl

theorem M.write_len (m : M.Dsk) (i : Int) (b : List UInt8) : (m.doWrite i b).1.safe.length = m.safe.length := by
  rw [M.Dsk.doWrite]
  split
  · split
    · rfl
    · show (m.write i.toNat b).safe.length = _
      rw [M.Dsk.write, M.Dsk.goes]
      split
      · rfl
      · split <;> rfl
  · rfl

theorem M.lays_len : ∀ (l : M.CL) (m : M.Dsk), (M.lays l m).1.safe.length = m.safe.length
  | [], m => rfl
  | c :: r, m => by
    rw [M.lays]
    split
    · rw [M.lays_len r, M.write_len]
    · exact M.write_len _ _ _

/-- What whole owes: the changes that the journal tells, in memory of the call's own. -/
def WholeOk (Ld : World → Prop) (dec : List (List UInt8) → Option M.CL) : Prop := ∀ {T : Nat → Prop} {x : World} {gw g : Nat} {m : M.Dsk}, CodeDk T x g m → m.wait = [] → 42 < m.safe.length → WalIs x gw g → Ld x → ∀ hv, IsB x hv (m.safe.getD 0 []) →
  Calls Tryz.prog 75 #[.pointer (some ⟨gw, 0, none⟩), hv] x fun e x' => ∃ v xs, e = .returned v ∧ Below x.heap.size x x' ∧ Gains x x' (fun _ => True) (fun y => IsCL y v ((dec m.safe).getD []) xs)

set_option maxHeartbeats 8000000 in
theorem does_settle {Ld : World → Prop} {dec : List (List UInt8) → Option M.CL} (WH : WholeOk Ld dec) (hmay : ∀ s, 42 < s.length → M.May (s.length - 42) ((dec s).getD [])) (KP : World → Prop) (gw g n : Nat) (h42 : 42 < n) (hn : n ≤ 2176) (hk : ∀ x, KP x → WalIs x gw g ∧ Ld x) (T : Nat → Prop) (x : World) (m : M.Dsk) (d : CodeDk T x g m) (hs : m.safe.length = n) (hw : m.wait.length < 900000) (k : Keeps T x KP) :
    Calls Tryz.prog 47 #[.pointer (some ⟨gw, 0, none⟩)] x fun e x' => e = .returned (.int .i64 (M.settle dec m).2) ∧ Chg T x x' ∧ ∃ T', CodeDk T' x' g (M.settle dec m).1 ∧ ∀ k, T' k → T k ∨ x.heap.size ≤ k := by
  have hmf : ∀ (fn : Fn) (first cap : Array Value) (w : World), (Instr.makeFunc fn first cap).run Tryz.prog w = .ok (.func fn first cap) w := fun _ _ _ _ => rfl
  have HK := Lib.hid hk
  have KK := Lib.hid k
  have H42 := Lib.hid h42
  have HMAY := Lib.hid hmay
  have c0 : x.cell? ⟨gw, 0, none⟩ = some (.pointer (some ⟨g, 0, none⟩)) := (hk x k.now).1.cell 0
  have CS := Lib.hid (codeDk_sync d)
  have HSL := Lib.hid hs
  obtain ⟨R, hR⟩ : ∃ R, Hid (R = M.settle dec m) := ⟨_, rfl⟩
  rw [← hR.out]
  obtain ⟨q, hq⟩ : ∃ q, Hid (q = m.doSync) := ⟨_, rfl⟩
  rw [← hq.out] at CS
  obtain ⟨cd, hcd⟩ : ∃ c, Hid (c = q.2) := ⟨_, rfl⟩
  rw [← hcd.out] at CS
  have HTL : Hid (∀ j, T j → j < x.heap.size) := d.there
  have HN0 : Hid (n - 42 < 1000000) := by rw [Hid]; omega
  clear d hs hw k hk h42 hn hmay
  go_enter Tryz.func47, Tryz.ntmps47
  go_wp2_with fail
  refine CS.out.mono ?_
  rintro e x1 ⟨rfl, c1, T1, d1, t1⟩
  have CC := Lib.hid c1
  have DD := Lib.hid d1
  have TT := Lib.hid t1
  have K1 := Lib.hid (KK.out.next c1 t1)
  have HX := Lib.hid c1.size
  clear CS c1 d1 t1 c0
  by_cases h0 : cd = 0
  · have t0 : (cd != 0) = false := by rw [h0]; rfl
    have hq0 : m.doSync.2 = 0 := by rw [← hq.out, ← hcd.out, h0]
    have hsy := M.sync_ok m hq0
    rw [← hq.out] at hsy
    have hRq : R = if q.1.read 0 = M.zero256 then (q.1, 0) else M.phases [M.lays ((dec q.1.safe).getD []), M.Dsk.doSync, M.forgets, M.Dsk.doSync] q.1 := by rw [hR.out, M.settle, ← hq.out, ← hcd.out, if_pos h0]
    have HRQ := Lib.hid hRq
    have HQ0 : Hid (q.1.wait = [] ∧ q.1.safe.length = n) := ⟨hsy.1, hsy.2.trans HSL.out⟩
    have CR := Lib.hid (codeDk_read DD.out (by rw [hsy.1]; decide) 0)
    have e0 : q.1.doRead 0 = (q.1.read 0, 0) := by
      have h9 : (0 : Int) ≤ 0 ∧ (0 : Int) < (q.1.safe.length : Int) := ⟨by omega, by have := HQ0.out.2; have := H42.out; omega⟩
      rw [M.Dsk.doRead, if_pos h9]
      rfl
    rw [e0] at CR
    have cw : x1.cell? ⟨gw, 0, none⟩ = some (.pointer (some ⟨g, 0, none⟩)) := (HK.out _ K1.out.now).1.cell 0
    obtain ⟨hd, hhd⟩ : ∃ b, Hid (b = q.1.read 0) := ⟨_, rfl⟩
    rw [← hhd.out] at CR HRQ
    have HHL : Hid (hd.length = 256) := by
      have e : q.1.read 0 = q.1.safe.getD 0 [] := by rw [M.Dsk.read, HQ0.out.1]; rfl
      rw [hhd.out, e]
      refine DD.out.ok.full _ ?_
      rw [List.getD_eq_getElem?_getD, List.getElem?_eq_getElem (by rw [HQ0.out.2]; have := H42.out; omega)]
      exact List.getElem_mem _
    clear h0 hq0 hsy hRq e0
    go_wp2_with fail
    refine CR.out.mono ?_
    rintro e x2 ⟨hv, rfl, o2, k2⟩
    have IH := Lib.hid o2.isB
    have NH := Lib.hid o2.nil0
    have D2 := Lib.hid (DD.out.below k2)
    have K2 := Lib.hid (K1.out.below k2)
    have C2 : Hid (Chg T x x2) := CC.out.trans (Chg.of_below k2 : Chg T x1 x2) fun _ _ h => h
    have S2 : Hid (x1.heap.size ≤ x2.heap.size) := k2.size
    clear CR cw o2 k2 CC DD K1
    go_wp2_with fail
    refine (emptyHead_any x2).mono ?_
    rintro e x3 ⟨zv, rfl, o3, k3⟩
    have IH3 := Lib.hid (IH.out.below k3)
    have D3 := Lib.hid (D2.out.below k3)
    have K3 := Lib.hid (K2.out.below k3)
    have C3 : Hid (Chg T x x3) := C2.out.trans (Chg.of_below k3 : Chg T x2 x3) fun _ _ h => h
    have S3 : Hid (x1.heap.size ≤ x3.heap.size) := Nat.le_trans S2.out k3.size
    have CE := Lib.hid (bytesEqual_any hv zv hd M.zero256 x3 IH3.out o3.isB (by intro e; have := HHL.out; rw [e] at this; cases this) (by intro e; have := M.zero_len; rw [e] at this; cases this))
    obtain ⟨eq, heq⟩ : ∃ b, b = decide (hd = M.zero256) := ⟨_, rfl⟩
    rw [← heq] at CE
    have HEQ := Lib.hid heq
    clear IH D2 K2 C2 S2 o3 k3 heq
    go_wp2_with fail
    refine CE.out.mono ?_
    rintro e x4 ⟨rfl, rfl⟩
    clear CE
    obtain ⟨x3, rfl⟩ : ∃ y, y = x4 := ⟨_, rfl⟩
    cases eq with
    | true =>
      have HR2 : Hid (R = (q.1, 0)) := by have h := HRQ.out; rw [if_pos (of_decide_eq_true HEQ.out.symm)] at h; exact h
      clear HRQ HEQ
      go_wp2
      go_ret
      exact ⟨by rw [HR2.out]; rfl, C3.out, T1, by rw [HR2.out]; exact D3.out, TT.out⟩
    | false =>
      have HR2 : Hid (R = M.phases [M.lays ((dec q.1.safe).getD []), M.Dsk.doSync, M.forgets, M.Dsk.doSync] q.1) := by have h := HRQ.out; rw [if_neg (of_decide_eq_false HEQ.out.symm)] at h; exact h
      clear HRQ HEQ
      obtain ⟨L, hL⟩ : ∃ L, Hid (L = (dec q.1.safe).getD []) := ⟨_, rfl⟩
      have hML : M.May (n - 42) L := by rw [hL.out, ← HQ0.out.2]; exact HMAY.out _ (by rw [HQ0.out.2]; exact H42.out)
      have HML := Lib.hid hML
      rw [← hL.out] at HR2
      have CWH : Hid (∀ y, Below x3.heap.size x3 y → Calls Tryz.prog 75 #[.pointer (some ⟨gw, 0, none⟩), hv] y fun e x' => ∃ v xs, e = .returned v ∧ Below y.heap.size y x' ∧ Gains y x' (fun _ => True) (fun z => IsCL z v L xs)) := fun y ky => by
        have kk := HK.out _ (K3.out.below ky).now
        have e : q.1.read 0 = q.1.safe.getD 0 [] := by rw [M.Dsk.read, HQ0.out.1]; rfl
        have := WH (D3.out.below ky) HQ0.out.1 (by rw [HQ0.out.2]; exact H42.out) kk.1 kk.2 hv (by rw [← e, ← hhd.out]; exact IH3.out.below ky)
        rw [← hL.out] at this
        exact this
      have HGW : Hid (∀ y, Below x3.heap.size x3 y → y.cell? ⟨gw, 0, none⟩ = some (.pointer (some ⟨g, 0, none⟩))) := fun y ky => (HK.out _ (K3.out.below ky).now).1.cell 0
      have HT1 : Hid (∀ j, T1 j → j < x3.heap.size) := D3.out.there
      clear hML IH3 NH HHL
      go_upto_region 7 with fail
      refine wp_region_any (by kernel_rfl) ?_
      change wpAny _ _ _ _ _ _ _ (World.drew _)
      refine wpAny_of_held (S := fun w' => w'.cell? ⟨gw, 0, none⟩ = some (.pointer (some ⟨g, 0, none⟩))) _ _ _ _ ?_
      have S0 : x3.drew.cell? ⟨gw, 0, none⟩ = some (.pointer (some ⟨g, 0, none⟩)) := HGW.out _ (Below.refl _ _).drew
      refine wpAnyH_take_at (i := 0) (v := .pointer (some ⟨gw, 0, none⟩)) rfl rfl (by kernel_rfl) (by kernel_rfl) (by kernel_rfl) (fun _ _ _ h => h) (Or.inl ⟨by rfl, fun w hS => by go_simp⟩) S0 ?_
      simp only [List.setIfInBounds_toArray, List.set_cons_zero, List.set_cons_succ]
      refine wpAnyH_take_at (i := 1) (v := .pointer (some ⟨gw, 0, none⟩)) rfl rfl (by kernel_rfl) (by kernel_rfl) (by kernel_rfl) (fun _ _ _ h => h) (Or.inl ⟨by rfl, fun w hS => by go_simp⟩) S0 ?_
      simp only [List.setIfInBounds_toArray, List.set_cons_zero, List.set_cons_succ]
      refine wpAnyH_take_at (i := 2) (v := .pointer (some ⟨gw, 0, none⟩)) rfl rfl (by kernel_rfl) (by kernel_rfl) (by kernel_rfl) (fun _ _ _ h => h) (Or.inl ⟨by rfl, fun w hS => by go_simp⟩) S0 ?_
      simp only [List.setIfInBounds_toArray, List.set_cons_zero, List.set_cons_succ]
      refine wpAnyH_take_at (i := 3) (v := .pointer (some ⟨g, 0, none⟩)) rfl rfl (by kernel_rfl) (by kernel_rfl) (by kernel_rfl) (fun _ _ _ h => h) (Or.inl ⟨by rfl, fun w hS => by have c := hS; go_simp⟩) S0 ?_
      simp only [List.setIfInBounds_toArray, List.set_cons_zero, List.set_cons_succ]
      refine wpAnyH_take_at (i := 4) (v := .pointer (some ⟨gw, 0, none⟩)) rfl rfl (by kernel_rfl) (by kernel_rfl) (by kernel_rfl) (fun _ _ _ h => h) (Or.inl ⟨by rfl, fun w hS => by go_simp⟩) S0 ?_
      simp only [List.setIfInBounds_toArray, List.set_cons_zero, List.set_cons_succ]
      refine wpAnyH_take_at (i := 5) (v := hv) rfl rfl (by kernel_rfl) (by kernel_rfl) (by kernel_rfl) (fun _ _ _ h => h) (Or.inl ⟨by rfl, fun w hS => by go_simp⟩) S0 ?_
      simp only [List.setIfInBounds_toArray, List.set_cons_zero, List.set_cons_succ]
      refine wpAnyH_ready (rs := [6, 8]) (by kernel_rfl) (by simp) ?_
      refine AllReadyH.cons rfl (fun K hK => ?_) (AllReadyH.cons rfl (fun K hK => ?_) AllReadyH.nil)
      focus
        go_simp
        have kd := (Below.refl x3.heap.size x3).drew
        refine (CWH.out _ kd).mono ?_
        rintro e x4 ⟨v, xs, rfl, k4, gn⟩
        obtain ⟨va, vc, rfl⟩ := (gn (fun _ => False) x4 (Chg.refl _ _) (fun _ h => h.elim) trivial).shape
        have k34 : Below x3.heap.size x3 x4 := kd.trans (k4.mono kd.size)
        refine hK.out _ _ (HGW.out _ k34) (fun _ => ?_)
        clear hK K S0
        refine wpAnyH_take_at (i := 7) (v := .agg #[.pointer (some ⟨g, 0, none⟩), .slice va L.length vc]) rfl rfl (by kernel_rfl) (by kernel_rfl) (by kernel_rfl) (fun _ _ _ h => h) (Or.inl ⟨by rfl, fun w hS => by go_simp⟩) (HGW.out _ k34) ?_
        simp only [List.setIfInBounds_toArray, List.set_cons_zero, List.set_cons_succ]
        refine wpAnyH_ready (rs := [8]) (by kernel_rfl) (by simp) ?_
        refine AllReadyH.cons rfl (fun K hK => ?_) AllReadyH.nil
        go_simp
        obtain ⟨x5, hx5⟩ : ∃ y, Hid (y = x4.alloc (.cells #[.pointer none, .slice none 0 0] 129)) := ⟨_, rfl⟩
        obtain ⟨yb, hyb⟩ : ∃ y, Hid (y = x4.heap.size) := ⟨_, rfl⟩
        rw [← hx5.out, ← hyb.out]
        have k45 : Below x4.heap.size x4 x5 := by rw [hx5.out]; exact (Below.refl _ _).alloc (Nat.le_refl _) _
        have ZB : Hid (Blk x5 yb 129 [.pointer none, .slice none 0 0]) := by rw [hx5.out]; exact Blk.newAt _ _ _ _ _ hyb.out rfl
        have K5 : Hid (Below x3.heap.size x3 x5) := k34.trans (k45.mono k34.size)
        have HYB : Hid (x3.heap.size ≤ yb) := by rw [hyb.out]; exact k34.size
        have HGN : Hid (∀ F z, Chg F x5 z → (∀ k, F k → k < x3.heap.size ∨ k = yb ∨ x5.heap.size ≤ k) → IsCL z (.slice va L.length vc) L xs) := fun F z c hf => gn F z ((Chg.of_below k45 : Chg F x4 x5).trans c fun _ _ h => h) (fun k h => by
          have h1 := hf k h
          have h2 := hyb.out
          have h3 := k45.size
          show k < x3.heap.size ∨ _
          omega) trivial
        refine hK.out _ _ (HGW.out _ K5.out) (fun _ => ?_)
        clear hK K k4 gn k34 k45 hx5 hyb kd
      rotate_left
      focus
        go_simp
        obtain ⟨y5, hy5⟩ : ∃ y, Hid (y = (x3.alloc (.cells #[.pointer none, .slice none 0 0] 129)).drew) := ⟨_, rfl⟩
        obtain ⟨yb, hyb⟩ : ∃ y, Hid (y = x3.heap.size) := ⟨_, rfl⟩
        rw [← hy5.out, ← hyb.out]
        have k35 : Below x3.heap.size x3 y5 := by rw [hy5.out]; exact ((Below.refl _ _).alloc (Nat.le_refl _) _).drew
        have zb : Blk y5 yb 129 [.pointer none, .slice none 0 0] := by rw [hy5.out]; exact Blk.newAt _ _ _ _ _ hyb.out rfl
        refine hK.out _ _ (HGW.out _ k35) (fun _ => ?_)
        clear hK K S0
        refine wpAnyH_ready (rs := [6]) (by kernel_rfl) (by simp) ?_
        refine AllReadyH.cons rfl (fun K hK => ?_) AllReadyH.nil
        go_simp
        refine (CWH.out _ k35).mono ?_
        rintro e x5 ⟨v, xs, rfl, k4, gn⟩
        obtain ⟨va, vc, rfl⟩ := (gn (fun _ => False) x5 (Chg.refl _ _) (fun _ h => h.elim) trivial).shape
        have K5 : Hid (Below x3.heap.size x3 x5) := k35.trans (k4.mono k35.size)
        have ZB : Hid (Blk x5 yb 129 [.pointer none, .slice none 0 0]) := zb.below k4 zb.lt
        have HYB : Hid (x3.heap.size ≤ yb) := by rw [hyb.out]; exact Nat.le_refl _
        have HGN : Hid (∀ F z, Chg F x5 z → (∀ k, F k → k < x3.heap.size ∨ k = yb ∨ x5.heap.size ≤ k) → IsCL z (.slice va L.length vc) L xs) := fun F z c hf => gn F z c (fun k h => by
          have h1 := hf k h
          have h2 := zb.lt
          have h3 := k35.size
          omega) trivial
        refine hK.out _ _ (HGW.out _ K5.out) (fun _ => ?_)
        clear hK K k4 gn k35 zb hy5 hyb
        refine wpAnyH_take_at (i := 7) (v := .agg #[.pointer (some ⟨g, 0, none⟩), .slice va L.length vc]) rfl rfl (by kernel_rfl) (by kernel_rfl) (by kernel_rfl) (fun _ _ _ h => h) (Or.inl ⟨by rfl, fun w hS => by go_simp⟩) (HGW.out _ K5.out) ?_
        simp only [List.setIfInBounds_toArray, List.set_cons_zero, List.set_cons_succ]
      all_goals
        refine wpAnyH_ready (rs := [9]) (by kernel_rfl) (by simp) ?_
        refine AllReadyH.cons rfl (fun K hK => ?_) AllReadyH.nil
        refine step_store_blk rfl 129 (.tmp 6) (.tmp 38) rfl yb #[.pointer (some ⟨g, 0, none⟩), .slice va L.length vc] rfl rfl _ _ ZB.out (by kernel_rfl) rfl (by intro u hu; simp only [List.mem_cons, List.not_mem_nil, or_false] at hu; rcases hu with rfl | rfl <;> rfl) ?_
        intro x6 B6 o6
        have k6 : Below x3.heap.size x3 x6 := K5.out.trans (Only.below o6 K5.out.size HYB.out)
        refine hK.out _ _ (HGW.out _ k6) (fun _ => ?_)
        have BB := Lib.hid B6
        have HYL : Hid (yb < x6.heap.size) := B6.lt
        have KN : Hid (Keeps T1 x6 (fun z => KP z ∧ Blk z yb 129 [.pointer (some ⟨g, 0, none⟩), .slice va L.length vc] ∧ IsCL z (.slice va L.length vc) L xs)) := fun z c => by
          have hy := HYB.out
          refine ⟨K3.out.below k6 z c, B6.chg c fun h => by have := HT1.out _ h; omega, HGN.out (fun j => T1 j ∨ j = yb) z ((Chg.of_grown (F := fun j => T1 j ∨ j = yb) o6 fun j hj => .inr (by injection hj with hj; exact hj.symm)).trans c fun j _ h => .inl h) (fun j h => ?_)⟩
          rcases h with h | h
          · exact .inl (HT1.out _ h)
          · exact .inr (.inl h)
        have D6 := Lib.hid (D3.out.below k6)
        have C6 : Hid (Chg T x x6) := C3.out.trans (Chg.of_below k6 : Chg T x3 x6) fun _ _ h => h
        have S6 : Hid (x1.heap.size ≤ x6.heap.size) := Nat.le_trans S3.out k6.size
        have c6 := HGW.out _ k6
        clear hK K o6 B6
        refine wpAnyH_done (by kernel_rfl) ?_ _
        have CG6 := Lib.hid c6
        clear k6 c6 HGN ZB K5 HYB K3 D3 C3 S3 HGW CWH HT1
        obtain ⟨LV, hLV⟩ : ∃ v, Hid (v = Value.slice va L.length vc) := ⟨_, rfl⟩
        have hlv : ∃ a n c, LV = .slice a n c := ⟨_, _, _, hLV.out⟩
        rw [← hLV.out] at KN BB ⊢
        obtain ⟨F1, hF1⟩ : ∃ v, Hid (v = Value.func (.func 77) #[.agg #[.pointer (some ⟨g, 0, none⟩), LV]] #[]) := ⟨_, rfl⟩
        obtain ⟨F2, hF2⟩ : ∃ v, Hid (v = Value.func (.func 72) #[.pointer (some ⟨g, 0, none⟩)] #[]) := ⟨_, rfl⟩
        obtain ⟨F3, hF3⟩ : ∃ v, Hid (v = Value.func (.func 78) #[.agg #[.pointer (some ⟨g, 0, none⟩), LV]] #[]) := ⟨_, rfl⟩
        go_upto_region 8 with fail
        refine wp_region_any (by kernel_rfl) ?_
        change wpAny _ _ _ _ _ _ _ (World.drew _)
        refine wpAny_of_held (S := fun w' => w'.cell? ⟨gw, 0, none⟩ = some (.pointer (some ⟨g, 0, none⟩)) ∧ w'.cell? ⟨yb, 0, none⟩ = some (.pointer (some ⟨g, 0, none⟩)) ∧ w'.cell? ⟨yb, 1, none⟩ = some LV) _ _ _ _ ?_
        have S0 : x6.drew.cell? ⟨gw, 0, none⟩ = some (.pointer (some ⟨g, 0, none⟩)) ∧ x6.drew.cell? ⟨yb, 0, none⟩ = some (.pointer (some ⟨g, 0, none⟩)) ∧ x6.drew.cell? ⟨yb, 1, none⟩ = some LV := ⟨CG6.out, BB.out.cell 0, BB.out.cell 1⟩
        refine wpAnyH_take_at (i := 0) (v := .agg #[.pointer (some ⟨g, 0, none⟩), LV]) rfl rfl (by kernel_rfl) (by kernel_rfl) (by kernel_rfl) (fun _ _ _ h => h) (Or.inl ⟨by rfl, fun w hS => by have c := hS.2.1; have d := hS.2.2; go_simp⟩) S0 ?_
        simp only [List.setIfInBounds_toArray, List.set_cons_zero, List.set_cons_succ]
        refine wpAnyH_take_at (i := 1) (v := .func (.func 77) #[.agg #[.pointer (some ⟨g, 0, none⟩), LV]] #[]) rfl rfl (by kernel_rfl) (by kernel_rfl) (by kernel_rfl) (fun _ _ _ h => h) (Or.inl ⟨by rfl, fun w hS => by go_simp⟩) S0 ?_
        simp only [List.setIfInBounds_toArray, List.set_cons_zero, List.set_cons_succ]
        refine wpAnyH_take_at (i := 2) (v := .pointer (some ⟨gw, 0, none⟩)) rfl rfl (by kernel_rfl) (by kernel_rfl) (by kernel_rfl) (fun _ _ _ h => h) (Or.inl ⟨by rfl, fun w hS => by go_simp⟩) S0 ?_
        simp only [List.setIfInBounds_toArray, List.set_cons_zero, List.set_cons_succ]
        refine wpAnyH_take_at (i := 3) (v := .pointer (some ⟨gw, 0, none⟩)) rfl rfl (by kernel_rfl) (by kernel_rfl) (by kernel_rfl) (fun _ _ _ h => h) (Or.inl ⟨by rfl, fun w hS => by go_simp⟩) S0 ?_
        simp only [List.setIfInBounds_toArray, List.set_cons_zero, List.set_cons_succ]
        refine wpAnyH_take_at (i := 4) (v := .pointer (some ⟨gw, 0, none⟩)) rfl rfl (by kernel_rfl) (by kernel_rfl) (by kernel_rfl) (fun _ _ _ h => h) (Or.inl ⟨by rfl, fun w hS => by go_simp⟩) S0 ?_
        simp only [List.setIfInBounds_toArray, List.set_cons_zero, List.set_cons_succ]
        refine wpAnyH_take_at (i := 5) (v := .pointer (some ⟨g, 0, none⟩)) rfl rfl (by kernel_rfl) (by kernel_rfl) (by kernel_rfl) (fun _ _ _ h => h) (Or.inl ⟨by rfl, fun w hS => by have c := hS.1; go_simp⟩) S0 ?_
        simp only [List.setIfInBounds_toArray, List.set_cons_zero, List.set_cons_succ]
        refine wpAnyH_take_at (i := 6) (v := .func (.func 72) #[.pointer (some ⟨g, 0, none⟩)] #[]) rfl rfl (by kernel_rfl) (by kernel_rfl) (by kernel_rfl) (fun _ _ _ h => h) (Or.inl ⟨by rfl, fun w hS => by go_simp⟩) S0 ?_
        simp only [List.setIfInBounds_toArray, List.set_cons_zero, List.set_cons_succ]
        refine wpAnyH_take_at (i := 7) (v := .agg #[.pointer (some ⟨g, 0, none⟩), LV]) rfl rfl (by kernel_rfl) (by kernel_rfl) (by kernel_rfl) (fun _ _ _ h => h) (Or.inl ⟨by rfl, fun w hS => by have c := hS.2.1; have d := hS.2.2; go_simp⟩) S0 ?_
        simp only [List.setIfInBounds_toArray, List.set_cons_zero, List.set_cons_succ]
        refine wpAnyH_take_at (i := 8) (v := .func (.func 78) #[.agg #[.pointer (some ⟨g, 0, none⟩), LV]] #[]) rfl rfl (by kernel_rfl) (by kernel_rfl) (by kernel_rfl) (fun _ _ _ h => h) (Or.inl ⟨by rfl, fun w hS => by go_simp⟩) S0 ?_
        simp only [List.setIfInBounds_toArray, List.set_cons_zero, List.set_cons_succ]
        refine wpAnyH_take_at (i := 9) (v := .pointer (some ⟨gw, 0, none⟩)) rfl rfl (by kernel_rfl) (by kernel_rfl) (by kernel_rfl) (fun _ _ _ h => h) (Or.inl ⟨by rfl, fun w hS => by go_simp⟩) S0 ?_
        simp only [List.setIfInBounds_toArray, List.set_cons_zero, List.set_cons_succ]
        refine wpAnyH_take_at (i := 10) (v := .pointer (some ⟨gw, 0, none⟩)) rfl rfl (by kernel_rfl) (by kernel_rfl) (by kernel_rfl) (fun _ _ _ h => h) (Or.inl ⟨by rfl, fun w hS => by go_simp⟩) S0 ?_
        simp only [List.setIfInBounds_toArray, List.set_cons_zero, List.set_cons_succ]
        refine wpAnyH_take_at (i := 11) (v := .pointer (some ⟨gw, 0, none⟩)) rfl rfl (by kernel_rfl) (by kernel_rfl) (by kernel_rfl) (fun _ _ _ h => h) (Or.inl ⟨by rfl, fun w hS => by go_simp⟩) S0 ?_
        simp only [List.setIfInBounds_toArray, List.set_cons_zero, List.set_cons_succ]
        refine wpAnyH_take_at (i := 12) (v := .pointer (some ⟨g, 0, none⟩)) rfl rfl (by kernel_rfl) (by kernel_rfl) (by kernel_rfl) (fun _ _ _ h => h) (Or.inl ⟨by rfl, fun w hS => by have c := hS.1; go_simp⟩) S0 ?_
        simp only [List.setIfInBounds_toArray, List.set_cons_zero, List.set_cons_succ]
        refine wpAnyH_take_at (i := 13) (v := .func (.func 72) #[.pointer (some ⟨g, 0, none⟩)] #[]) rfl rfl (by kernel_rfl) (by kernel_rfl) (by kernel_rfl) (fun _ _ _ h => h) (Or.inl ⟨by rfl, fun w hS => by go_simp⟩) S0 ?_
        simp only [List.setIfInBounds_toArray, List.set_cons_zero, List.set_cons_succ]
        refine wpAnyH_ready (rs := [14]) (by kernel_rfl) (by simp) ?_
        refine AllReadyH.cons rfl (fun K hK => ?_) AllReadyH.nil
        go_simp
        obtain ⟨W8, hW8⟩ : ∃ y, Hid (y = (x6.alloc (.cells #[.func (.func 77) #[.agg #[.pointer (some ⟨g, 0, none⟩), LV]] #[], .func (.func 72) #[.pointer (some ⟨g, 0, none⟩)] #[], .func (.func 78) #[.agg #[.pointer (some ⟨g, 0, none⟩), LV]] #[], .func (.func 72) #[.pointer (some ⟨g, 0, none⟩)] #[]] 54)).drew) := ⟨_, rfl⟩
        obtain ⟨zb, hzb⟩ : ∃ y, Hid (y = x6.heap.size) := ⟨_, rfl⟩
        rw [← hW8.out, ← hzb.out]
        have k8 : Below x6.heap.size x6 W8 := by rw [hW8.out]; exact ((Below.refl _ _).alloc (Nat.le_refl _) _).drew
        have BZ : Blk W8 zb 54 [.func (.func 77) #[.agg #[.pointer (some ⟨g, 0, none⟩), LV]] #[], .func (.func 72) #[.pointer (some ⟨g, 0, none⟩)] #[], .func (.func 78) #[.agg #[.pointer (some ⟨g, 0, none⟩), LV]] #[], .func (.func 72) #[.pointer (some ⟨g, 0, none⟩)] #[]] := by
          rw [hW8.out]
          exact Blk.newAt _ _ _ _ _ hzb.out rfl
        have KN8 := KN.out.gain D6.out.there k8 (Gains.blk (K := fun z => KP z ∧ Blk z yb 129 [.pointer (some ⟨g, 0, none⟩), LV] ∧ IsCL z LV L xs) BZ (by rw [hzb.out]; exact Nat.le_refl _))
        have CI := Lib.hid (inOrder_any _ g n [(77, #[.agg #[.pointer (some ⟨g, 0, none⟩), LV]]), (72, #[.pointer (some ⟨g, 0, none⟩)]), (78, #[.agg #[.pointer (some ⟨g, 0, none⟩), LV]]), (72, #[.pointer (some ⟨g, 0, none⟩)])]
          [M.lays L, M.Dsk.doSync, M.forgets, M.Dsk.doSync] rfl (by show 4 ≤ 100; decide) (some ⟨zb, 0, none⟩) 4 (fun z hz => ⟨zb, 0, rfl, fun i hi => by
            rw [Nat.zero_add]
            match i, hi with
            | 0, _ => exact hz.2.cell 0
            | 1, _ => exact hz.2.cell 1
            | 2, _ => exact hz.2.cell 2
            | 3, _ => exact hz.2.cell 3⟩) (fun i hi => by
            match i, hi with
            | 0, _ => exact enters_of Tryz.func77 (by kernel_rfl) rfl
            | 1, _ => exact enters_of Tryz.func72 (by kernel_rfl) rfl
            | 2, _ => exact enters_of Tryz.func78 (by kernel_rfl) rfl
            | 3, _ => exact enters_of Tryz.func72 (by kernel_rfl) rfl) (fun i hi => by
            match i, hi with
            | 0, _ => exact does_lay _ g n LV L xs (fun z hz => hz.1.2.2) HML.out.1 (fun i hi => by
                have := ((M.may_iff _ L).1 HML.out).2 i hi
                exact ⟨this.1, by have := this.2.1; have := HN0.out; omega⟩)
            | 1, _ => exact does_sync _ g n
            | 2, _ => exact does_forget _ g n LV hlv
            | 3, _ => exact does_sync _ g n) (fun p hp => by
            intro m'
            rcases List.mem_cons.1 hp with rfl | hp
            · have h1 := M.wait_lays L m'
              have h2 := HML.out.1
              exact ⟨by omega, M.lays_len L m'⟩
            · rcases List.mem_cons.1 hp with rfl | hp
              · have h1 := M.wait_sync m'
                exact ⟨by omega, M.sync_len m'⟩
              · rcases List.mem_cons.1 hp with rfl | hp
                · have h1 := M.wait_write m' 0 M.zero256
                  exact ⟨by show (m'.doWrite 0 M.zero256).1.wait.length ≤ _; omega, M.write_len m' 0 M.zero256⟩
                · rcases List.mem_cons.1 hp with rfl | hp
                  · have h1 := M.wait_sync m'
                    exact ⟨by omega, M.sync_len m'⟩
                  · cases hp) T1 W8 q.1 (D6.out.below k8) HQ0.out.2 (by rw [HQ0.out.1]; decide) KN8)
        have C8 : Hid (Chg T x W8) := C6.out.trans (Chg.of_below k8 : Chg T x6 W8) fun _ _ h => h
        have S8 : Hid (x1.heap.size ≤ W8.heap.size) := Nat.le_trans S6.out k8.size
        have KN9 := Lib.hid KN8
        refine hK.out _ _ ⟨(HK.out _ KN8.now.1.1).1.cell 0, KN8.now.1.2.1.cell 0, KN8.now.1.2.1.cell 1⟩ (fun _ => ?_)
        clear hK K S0 k8 BZ KN8 hW8 hzb C6 S6 D6 KN BB CG6
        refine wpAnyH_ready (rs := [15]) (by kernel_rfl) (by simp) ?_
        refine AllReadyH.cons rfl (fun K hK => ?_) AllReadyH.nil
        go_simp
        refine CI.out.mono ?_
        rintro e x9 ⟨rfl, c9, T9, d9, t9⟩
        have KX := (KN9.out.next c9 t9).now
        have S9 := (⟨(HK.out _ KX.1.1).1.cell 0, KX.1.2.1.cell 0, KX.1.2.1.cell 1⟩ : x9.cell? ⟨gw, 0, none⟩ = some (.pointer (some ⟨g, 0, none⟩)) ∧ x9.cell? ⟨yb, 0, none⟩ = some (.pointer (some ⟨g, 0, none⟩)) ∧ x9.cell? ⟨yb, 1, none⟩ = some LV)
        rw [← HR2.out] at d9 ⊢
        have C9 : Hid (Chg T x x9) := C8.out.trans c9 fun k hk h => (TT.out k h).resolve_right (by omega)
        have D9 := Lib.hid d9
        have hx := HX.out
        have hs8 := S8.out
        have T9' : Hid (∀ k, T9 k → T k ∨ x.heap.size ≤ k) := fun k h => by
          rcases t9 k h with h | h
          · exact TT.out k h
          · exact .inr (by omega)
        refine hK.out _ _ S9 (fun _ => ?_)
        clear hK K KX c9 t9 d9 CI hx hs8
        refine wpAnyH_take_at (i := 16) (v := .int .i64 R.2) rfl rfl (by kernel_rfl) (by kernel_rfl) (by kernel_rfl) (fun _ _ _ h => h) (Or.inl ⟨by rfl, fun w hS => by go_simp⟩) S9 ?_
        simp only [List.setIfInBounds_toArray, List.set_cons_zero, List.set_cons_succ]
        refine wpAnyH_done (by kernel_rfl) ?_ _
        clear S9
        go_wp2
        go_ret
        exact ⟨rfl, C9.out, T9, D9.out, T9'.out⟩
  · have t0 : (cd != 0) = true := by simpa using h0
    have HR2 : Hid (R = q) := by rw [hR.out, M.settle, ← hq.out, ← hcd.out, if_neg h0]; rfl
    clear h0
    go_wp2
    go_ret
    exact ⟨by rw [HR2.out, ← hcd.out]; rfl, CC.out, T1, by rw [HR2.out]; exact DD.out, TT.out⟩

end Go.Proofs.YtphcbpfpelonaaaGreatDoor
