/-
  CONTRACT OF orlopref17.Cut: bytes in pieces, as a row of rows of the call's own. Conditions: up to 2^24 bytes.
-/
import Derived.Test.YtdojalhaklkegaaSealD
import Derived.Test.YtdojalhaklkegaaWalRows
namespace Go.Proofs.Ytdojalhaklkegaa
open Go.RowKit Go.Maps
set_option linter.unusedVariables false
set_option maxRecDepth 100000

/-- A row of rows; the row is the call's own, from block B on; what is nil has no spare room. -/
structure SpLL (w : World) (B : Nat) (v : Value) (L : List (List UInt8)) (rows : List Value) : Prop where
  row : w.ownsRow B 22 1 v L.length rows
  each : ∀ i, i < L.length → IsB w (rows.getD i undef) (L.getD i []) ∧ ∀ n c, rows.getD i undef = .slice none n c → c = 0

theorem SpLL.len {w : World} {B : Nat} {v : Value} {L : List (List UInt8)} {rows : List Value} (h : SpLL w B v L rows) : rows.length = L.length := by
  have := h.row.1
  omega
theorem SpLL.nil (w : World) (B : Nat) : SpLL w B (.slice none 0 0) [] [] := ⟨World.ownsRow_nil _ _ _ _, fun i hi => by cases hi⟩
theorem SpLL.below {w w' : World} {B : Nat} {v : Value} {L : List (List UInt8)} {rows : List Value} (h : SpLL w B v L rows) (k : Below w.heap.size w w') : SpLL w' B v L rows :=
  ⟨own_chg h.row (Chg.of_below (F := fun _ => False) k) (fun _ _ h => h), fun i hi => ⟨(h.each i hi).1.below k, (h.each i hi).2⟩⟩
theorem SpLL.mono {w : World} {B B' : Nat} {v : Value} {L : List (List UInt8)} {rows : List Value} (h : SpLL w B v L rows) (hB : B' ≤ B) : SpLL w B' v L rows := by
  refine ⟨?_, h.each⟩
  obtain ⟨h1, h2⟩ := h.row
  refine ⟨h1, ?_⟩
  rcases h2 with h2 | ⟨g, cap, cur, e, hb, h3⟩
  · exact .inl h2
  · exact .inr ⟨g, cap, cur, e, Nat.le_trans hB hb, h3⟩

/-- What is not in the row that has turned stays. -/
theorem IsB.grownOut {w w' : World} {v : Value} {bs : List UInt8} {row : Option Nat} (h : IsB w v bs) (g : w.grownBy w' row) (hl : Lies (fun k => row ≠ some k) v) : IsB w' v bs :=
  h.chg (Chg.of_grown (F := fun k => row = some k) g fun k hk => hk) fun ad n c e => hl ad n c e

theorem getD_snoc_lt {α : Type} (l : List α) (x d : α) (i : Nat) (h : i < l.length) : (l ++ [x]).getD i d = l.getD i d := by
  rw [List.getD_eq_getElem?_getD, List.getD_eq_getElem?_getD, List.getElem?_append_left h]
theorem getD_snoc_eq {α : Type} (l : List α) (x d : α) : (l ++ [x]).getD l.length d = x := by
  rw [List.getD_eq_getElem?_getD, List.getElem?_append_right (Nat.le_refl _), Nat.sub_self]
  rfl

/-- One row more: rows lie out of the spine. -/
theorem SpLL.snoc {w w' : World} {B : Nat} {v v' x : Value} {L : List (List UInt8)} {rows : List Value} {bs : List UInt8} (h : SpLL w B v L rows) (hx : IsB w x bs) (hn : ∀ n c, x = .slice none n c → c = 0)
    (ho : w'.ownsRow B 22 1 v' (L.length + 1) (rows ++ [x])) (g : w.grownBy w' v.ownBlock) (hout : ∀ i, i < L.length → Lies (fun k => v.ownBlock ≠ some k) (rows.getD i undef)) (hxo : Lies (fun k => v.ownBlock ≠ some k) x) : SpLL w' B v' (L ++ [bs]) (rows ++ [x]) := by
  have hl := h.len
  refine ⟨by rw [List.length_append]; exact ho, fun i hi => ?_⟩
  rw [List.length_append] at hi
  by_cases e : i < L.length
  · rw [getD_snoc_lt _ _ _ _ (by omega), getD_snoc_lt _ _ _ _ e]
    exact ⟨(h.each i e).1.grownOut g (hout i e), (h.each i e).2⟩
  · have : i = L.length := by simp at hi; omega
    subst this
    rw [getD_snoc_eq]
    rw [← hl, getD_snoc_eq]
    exact ⟨hx.grownOut g hxo, hn⟩

theorem M.np_stop {len n i : Nat} (hn : 1 ≤ n) (h1 : i = 0 ∨ i * n < len) (h2 : len ≤ i * n + n) : M.np len n = i + 1 := by
  unfold M.np
  have hn0 : 0 < n := hn
  rcases h1 with rfl | h1
  · have : (len + n - 1) / n ≤ 1 := by
      rw [Nat.div_le_iff_le_mul_add_pred hn0]
      omega
    omega
  · have : (len + n - 1) / n = i + 1 := by
      rw [Nat.div_eq_iff hn0, Nat.succ_mul]
      omega
    omega

def lenV : Value → Nat
  | .slice _ n _ => n
  | _ => 0

/-- 'b[:i]', and where it lies. -/
theorem IsB.upL {w : World} {ao : Option Addr} {n cap : Nat} {bs : List UInt8} (t : TypeId) (hu : Try.prog.underlying t = some (.slice 5)) (h : IsB w (.slice ao n cap) bs) (i : Nat) (hi : i ≤ n) :
    (∀ W : World, (Instr.slice t (.slice ao n cap) none (some (.int .i64 (i : Int))) none).run Try.prog W = .ok (.slice ao i cap) W) ∧ IsB w (.slice ao i cap) (bs.take i) := by
  have hel : Try.prog.elem t = 5 := by simp [Program.elem, hu]
  have hn : n = bs.length := by obtain ⟨_, _, e, _⟩ := h; injection e
  have hcap : bs.length ≤ cap := by obtain ⟨_, _, e, hh, _⟩ := h; injection e with _ _ e; omega
  refine ⟨fun W => ?_, h.take i hi⟩
  rw [run_slice_h W t ao n cap (by rw [hel]; exact hu) .i64 (i : Int) (by omega) (by omega), hel, Try.sizeOf5]
  by_cases hc : cap = 0
  · simp [Result.andThen_ok, sliced, Addr.add_lit, hc]
  · cases ao with
    | none => simp [Result.andThen_ok, sliced]
    | some ad =>
      simp [Result.andThen_ok, sliced, Addr.add_lit]
      intro _
      first | exact Addr.add_zero ad | (obtain ⟨b, o, sp⟩ := ad; cases sp <;> rfl)
theorem IsB.fromL {w : World} {ao : Option Addr} {n cap : Nat} {bs : List UInt8} (t : TypeId) (hu : Try.prog.underlying t = some (.slice 5)) (h : IsB w (.slice ao n cap) bs) (i : Nat) (hi : i ≤ n) :
    ∃ a, (∀ W : World, (Instr.slice t (.slice ao n cap) (some (.int .i64 (i : Int))) none none).run Try.prog W = .ok (.slice a (n - i) (cap - i)) W) ∧ IsB w (.slice a (n - i) (cap - i)) (bs.drop i) ∧ ∀ S : Nat → Prop, Lies S (.slice ao n cap) → Lies S (.slice a (n - i) (cap - i)) := by
  obtain ⟨a, h1, h2⟩ := h.fromT t hu i hi
  have hel : Try.prog.elem t = 5 := by simp [Program.elem, hu]
  refine ⟨a, h1, h2, fun S hS ad m c e => ?_⟩
  injection e with e1 e2 e3
  subst e1
  have := h1 w
  rw [run_slice_l w t ao n cap (by rw [hel]; exact hu) .i64 (i : Int) (by omega) (by omega), hel, Try.sizeOf5] at this
  simp only [Result.andThen_ok, sliced, Int.toNat_natCast, Nat.mul_one] at this
  injection this with this
  injection this with this
  cases ao with
  | none =>
    split at this
    · cases this
    · cases this
  | some ad0 =>
    have hb : ad.block = ad0.block := by
      split at this
      · injection this with this; rw [← this]
      · simp only [Option.map_some] at this
        injection this with this
        rw [← this]
        simp only [Addr.add]
        split <;> rfl
    rw [hb]
    exact hS ad0 n cap rfl

theorem map_range_succ {α : Type} (f : Nat → α) (i : Nat) : (List.range (i + 1)).map f = (List.range i).map f ++ [f i] := by
  rw [List.range_succ, List.map_append]
  rfl

set_option maxHeartbeats 16000000 in
theorem cut_any (bv : Value) (b : List UInt8) (n : Nat) (w : World) (hb : IsB w bv b) (hbl : Lies (fun k => k < w.heap.size) bv) (hbn : ∀ m c, bv = .slice none m c → c = 0) (hn : 1 ≤ n) (hn2 : n ≤ 16777216) (hl : b.length ≤ 16777216) :
    Calls Try.prog 9 #[bv, .int .i64 (n : Int)] w fun e w' => ∃ v rows, e = .returned v ∧ SpLL w' w.heap.size v ((List.range (M.np b.length n)).map (M.pc b n)) rows ∧ (∀ i, i < rows.length → Lies (fun k => k < w.heap.size) (rows.getD i undef)) ∧ Below w.heap.size w w' := by
  have HB := Lib.hid hb
  have HBL := Lib.hid hbl
  have HBN := Lib.hid hbn
  have HN : Hid (1 ≤ n ∧ n ≤ 16777216 ∧ b.length ≤ 16777216) := ⟨hn, hn2, hl⟩
  obtain ⟨ba, bc, rfl⟩ := hb.shape
  obtain ⟨m, hm⟩ : ∃ m, m = b.length := ⟨_, rfl⟩
  rw [← hm] at HB HBL HBN ⊢
  have HM := Lib.hid hm
  clear hb hbl hbn hn hn2 hl hm
  go_enter Try.func9, Try.ntmps9
  go_wp2
  go_loopw [0, 5] (fun x v wr => ∃ (i q : Nat) (xa : Option Addr) (xc : Nat) (rows : List Value), x = .slice xa q xc ∧ Hid (q = m - i * n ∧ i * n ≤ m ∧ (i = 0 ∨ i * n < m)) ∧ Hid (IsB wr (.slice xa q xc) (b.drop (i * n))) ∧ Hid (Lies (fun k => k < w.heap.size) (.slice xa q xc)) ∧ Hid (∀ m c, Value.slice xa q xc = .slice none m c → c = 0) ∧
    Hid (SpLL wr w.heap.size v ((List.range i).map (M.pc b n)) rows) ∧ Hid (∀ j, j < rows.length → Lies (fun k => k < w.heap.size) (rows.getD j undef)) ∧ Hid (Below w.heap.size w wr)) (fun x _ _ => lenV x)
  case atStart => exact ⟨0, m, ba, bc, [], rfl, ⟨by omega, by omega, .inl rfl⟩, by rw [Hid, Nat.zero_mul, List.drop_zero]; exact HB.out, HBL, HBN, SpLL.nil _ _, fun j hj => absurd hj (Nat.not_lt_zero j), Below.refl _ _⟩
  case round =>
    obtain ⟨wz, rfl⟩ : ∃ x, x = wr := ⟨_, rfl⟩
    obtain ⟨i, q, xa, xc, rows, rfl, hq, hx, hxl, hxn, hsp, hrl, kz⟩ := hrel
    obtain ⟨vv, rfl⟩ : ∃ z, z = u5 := ⟨_, rfl⟩
    have hrlen : rows.length = i := by have := hsp.out.len; rwa [List.length_map, List.length_range] at this
    have hib : i ≤ 16777216 := by
      have h1 := HN.out
      have h2 : i ≤ i * n := Nat.le_mul_of_pos_right i h1.1
      have := HM.out
      have := hq.out.2.1
      omega
    have hx' : IsB wz (.slice xa q xc) (b.drop (i * n)) := hx.out
    by_cases hlt : n < q
    · have b1 : (n : Int) < (q : Int) := by omega
      obtain ⟨hs1, hp⟩ := hx'.upL 22 Try.underlying22 n (by omega)
      obtain ⟨ra, hs2, hr, hrS⟩ := hx'.fromL 22 Try.underlying22 n (by omega)
      have HRL : Hid (Lies (fun k => k < w.heap.size) (.slice ra (q - n) (xc - n))) := hrS _ hxl.out
      obtain ⟨r, hrr⟩ : ∃ r, r = q - n := ⟨_, rfl⟩
      obtain ⟨rc, hrc⟩ : ∃ r, r = xc - n := ⟨_, rfl⟩
      rw [← hrr, ← hrc] at hs2 hr HRL
      have hpp : (b.drop (i * n)).take n = M.pc b n i := rfl
      rw [hpp] at hp
      have hdd : (b.drop (i * n)).drop n = b.drop ((i + 1) * n) := by rw [List.drop_drop, Nat.succ_mul]
      rw [hdd] at hr
      have HPL : Hid (Lies (fun k => k < w.heap.size) (.slice xa n xc)) := fun ad m c e => by injection e with e; exact hxl.out ad q xc (by rw [e])
      have HPN : Hid (∀ m c, Value.slice xa n xc = .slice none m c → c = 0) := fun m c e => by
        injection e with e1 e2 e3
        exact hxn.out q c (by rw [e1, e3])
      have HRN : Hid (∀ m c, Value.slice ra r rc = .slice none m c → c = 0) := fun m c e => by
        obtain ⟨xb, xo, xcc, h⟩ := hr.some_ (by
          intro e
          have : r = (b.drop ((i + 1) * n)).length := by obtain ⟨_, _, e, _⟩ := hr; injection e
          rw [e] at this
          simp at this
          omega)
        rw [h] at e; cases e
      have hz := kz.out.size
      have HQ : Hid (r = m - (i + 1) * n ∧ (i + 1) * n ≤ m ∧ ((i + 1) = 0 ∨ (i + 1) * n < m)) := by
        have := hq.out
        rw [Hid, Nat.succ_mul]
        generalize i * n = y at this ⊢
        omega
      have HP := Lib.hid hp
      have HR := Lib.hid hr
      have HI : Hid (i + 1 ≤ 16777217 ∧ rows.length = i) := ⟨by omega, hrlen⟩
      have HMS : Hid (r < q) := by have := HN.out.1; rw [Hid]; omega
      have HSZ := Lib.hid hz
      -- the new spine
      have ka : Below wz.heap.size wz (wz.alloc (.cells #[.slice xa n xc] 22)) := (Below.refl _ _).alloc (Nat.le_refl _) _
      have SP2 : Hid (SpLL (wz.alloc (.cells #[.slice xa n xc] 22)) w.heap.size vv ((List.range i).map (M.pc b n)) rows) := hsp.out.below ka
      have B2 : Hid (Blk (wz.alloc (.cells #[.slice xa n xc] 22)) wz.heap.size 22 [.slice xa n xc]) := Blk.newAt _ _ _ _ _ rfl rfl
      have HP2 : Hid (IsB (wz.alloc (.cells #[.slice xa n xc] 22)) (.slice xa n xc) (M.pc b n i)) := hp.below ka
      have HR2 : Hid (IsB (wz.alloc (.cells #[.slice xa n xc] 22)) (.slice ra r rc) (b.drop ((i + 1) * n))) := hr.below ka
      have K2 : Hid (Below w.heap.size w (wz.alloc (.cells #[.slice xa n xc] 22))) := kz.out.trans (ka.mono hz)
      have HC1 : Hid (∀ u ∈ [Value.slice xa n xc], u.oneCell' = true) := by intro u hu; simp only [List.mem_cons, List.not_mem_nil, or_false] at hu; rw [hu]; rfl
      clear hp hr hrS hpp hdd hrr hrc ka hlt hx hx' hq hib hrlen hsp hz
      go_wp2_with (at_builtin; go_must (refine wpList_app_row rows10 _ rfl _ _ rfl w.heap.size vv _ rows rfl SP2.out.row ⟨wz.heap.size, 0, none⟩ 1 1 [.slice xa n xc] rfl rfl ?d1 HC1.out ?d2 ?d3 K2.out.size ?_))
      case d1 => exact fun j u hj => by rw [Addr.add_lit, Nat.zero_add, B2.out.cell]; exact hj
      case d2 => have := HI.out; rw [List.length_map, List.length_range]; unfold maxLen; omega
      case d3 => have := HI.out; rw [List.length_map, List.length_range]; omega
      intro v4 w4 o4 g4 a4
      have hown := SP2.out.row
      have hrow : ∀ k, vv.ownBlock = some k → w.heap.size ≤ k := fun k hk => (hown.lt k hk).1
      have SP4 : Hid (SpLL w4 w.heap.size v4 ((List.range (i + 1)).map (M.pc b n)) (rows ++ [.slice xa n xc])) := by
        rw [Hid, map_range_succ]
        refine SP2.out.snoc HP2.out HPN.out (by rw [List.length_map, List.length_range]; exact o4) g4 (fun j hj => ?_) ?_
        · exact (hrl.out j (by rw [SP2.out.len]; exact hj)).mono fun k hk e => by have := hrow k e; omega
        · exact HPL.out.mono fun k hk e => by have := hrow k e; omega
      have RL4 : Hid (∀ j, j < (rows ++ [Value.slice xa n xc]).length → Lies (fun k => k < w.heap.size) ((rows ++ [Value.slice xa n xc]).getD j undef)) := by
        intro j hj
        rw [List.length_append] at hj
        by_cases e : j < rows.length
        · rw [getD_snoc_lt _ _ _ _ e]; exact hrl.out j e
        · have : j = rows.length := by simp at hj; omega
          rw [this, getD_snoc_eq]; exact HPL.out
      have HR4 : Hid (IsB w4 (.slice ra r rc) (b.drop ((i + 1) * n))) := HR2.out.grownOut g4 (HRL.out.mono fun k hk e => by have := hrow k e; omega)
      have K4 : Hid (Below w.heap.size w w4) := K2.out.grown g4 K2.out.size fun k hk => hrow k hk
      clear o4 g4 a4 hown hrow SP2 B2 HP2 HR2 K2 HC1 kz
      go_wp2
      go_roundw
      case rel => exact ⟨i + 1, r, ra, rc, _, rfl, HQ, HR4, HRL, HRN, SP4, RL4, K4⟩
      case measure => exact HMS.out
    · have b1 : ¬ (n : Int) < (q : Int) := by omega
      have hz := kz.out.size
      have hpc : b.drop (i * n) = M.pc b n i := by
        have : q = (b.drop (i * n)).length := by obtain ⟨_, _, e, _⟩ := hx'; injection e
        rw [M.pc, List.take_of_length_le (by omega)]
      have HNP : Hid (M.np m n = i + 1) := by
        have h1 := hq.out
        refine M.np_stop HN.out.1 h1.2.2 ?_
        generalize i * n = y at h1 ⊢
        omega
      rw [hpc] at hx'
      have ka : Below wz.heap.size wz (wz.alloc (.cells #[.slice xa q xc] 22)) := (Below.refl _ _).alloc (Nat.le_refl _) _
      have SP2 : Hid (SpLL (wz.alloc (.cells #[.slice xa q xc] 22)) w.heap.size vv ((List.range i).map (M.pc b n)) rows) := hsp.out.below ka
      have B2 : Hid (Blk (wz.alloc (.cells #[.slice xa q xc] 22)) wz.heap.size 22 [.slice xa q xc]) := Blk.newAt _ _ _ _ _ rfl rfl
      have HP2 : Hid (IsB (wz.alloc (.cells #[.slice xa q xc] 22)) (.slice xa q xc) (M.pc b n i)) := hx'.below ka
      have K2 : Hid (Below w.heap.size w (wz.alloc (.cells #[.slice xa q xc] 22))) := kz.out.trans (ka.mono hz)
      have HC1 : Hid (∀ u ∈ [Value.slice xa q xc], u.oneCell' = true) := by intro u hu; simp only [List.mem_cons, List.not_mem_nil, or_false] at hu; rw [hu]; rfl
      have HI : Hid (i + 1 ≤ 16777217 ∧ rows.length = i) := ⟨by omega, hrlen⟩
      clear hx hx' hpc ka hlt hq hib hrlen hsp hz
      go_wp2_with (at_builtin; go_must (refine wpList_app_row rows10 _ rfl _ _ rfl w.heap.size vv _ rows rfl SP2.out.row ⟨wz.heap.size, 0, none⟩ 1 1 [.slice xa q xc] rfl rfl (fun j u hj => by rw [Addr.add_lit, Nat.zero_add, B2.out.cell]; exact hj) HC1.out ?f2 ?f3 K2.out.size ?_))
      case f2 => have := HI.out; first | (unfold maxLen; omega) | (rw [List.length_map, List.length_range]; unfold maxLen; omega)
      case f3 => have := HI.out; first | omega | (rw [List.length_map, List.length_range]; omega)
      intro v4 w4 o4 g4 a4
      have hown := SP2.out.row
      have hrow : ∀ k, vv.ownBlock = some k → w.heap.size ≤ k := fun k hk => (hown.lt k hk).1
      have SP4 : Hid (SpLL w4 w.heap.size v4 ((List.range (M.np m n)).map (M.pc b n)) (rows ++ [.slice xa q xc])) := by
        rw [Hid, HNP.out, map_range_succ]
        refine SP2.out.snoc HP2.out hxn.out (by first | exact o4 | (rw [List.length_map, List.length_range]; exact o4)) g4 (fun j hj => ?_) ?_
        · exact (hrl.out j (by rw [SP2.out.len]; exact hj)).mono fun k hk e => by have := hrow k e; omega
        · exact hxl.out.mono fun k hk e => by have := hrow k e; omega
      have RL4 : Hid (∀ j, j < (rows ++ [Value.slice xa q xc]).length → Lies (fun k => k < w.heap.size) ((rows ++ [Value.slice xa q xc]).getD j undef)) := by
        intro j hj
        rw [List.length_append] at hj
        by_cases e : j < rows.length
        · rw [getD_snoc_lt _ _ _ _ e]; exact hrl.out j e
        · have : j = rows.length := by simp at hj; omega
          rw [this, getD_snoc_eq]; exact hxl.out
      have K4 : Hid (Below w.heap.size w w4) := K2.out.grown g4 K2.out.size fun k hk => hrow k hk
      clear o4 g4 a4 hown hrow SP2 B2 HP2 K2 HC1 kz
      go_wp2
      go_ret
      exact ⟨v4, _, rfl, SP4.out, RL4.out, K4.out⟩

end Go.Proofs.Ytdojalhaklkegaa
