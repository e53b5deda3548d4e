/-
  LAWS FOR REGIONS THAT DRAW THEIR ORDER: a whole row stored and loaded as one step; an operation that yields in every world that meets S, taken first. Nothing of the program. Conditions: as each says.
  CONTRACTS OF orlopref15.blanks, stands, hex. Conditions: rows of up to 2^40 bytes.
  CONTRACTS OF orlopref15.stands AND hex. Conditions: rows of up to 2^40 bytes.
  CONTRACT OF orlopref15.hex. Conditions: rows of up to 2^40 bytes.
-/
import Derived.Test.YtbgadfaiehkanaaGreatDoorPj3
import Derived.Deep.RegionHeld3
import Derived.Test.YtbgadfaiehkanaaGreatDoorPj1
import Derived.Test.YtbgadfaiehkanaaGreatDoorPj4
import Derived.WalkSpells
import Derived.Lib.Hide
import Derived.Deep.Cut
import Derived.BigQuiet

namespace Go.Proofs.YtbgadfaiehkanaaGreatDoor
open Go.RowKit
set_option linter.unusedVariables false

/-- A whole array into a block that is known, as one step of a region that draws. -/
theorem step_store_blk {P : Program} {ops : Array Oper} {o : Oper} {a : Act} {w : World} {K : Act → World → Prop} {Q : Exit → Act → World → Prop} {E : Prop} (hgd : o.guard = none) (ty : TypeId) (x y : Operand) (ho : o.op = .store ty x y)
    (g : Nat) (cells : Array Value) (hx : a.eval x = .pointer (some ⟨g, 0, none⟩)) (hy : a.eval y = .agg cells) (t : TypeId) (cs : List Value) (hg : Blk w g t cs)
    (hi : (P.info? ty).map (·.size) = some cells.size) (hl : cs.length = cells.size) (h1 : ∀ v ∈ cells.toList, v.oneCell' = true)
    (h : ∀ w', Blk w' g t cells.toList → Only g w w' → K (a.put o.dst undef) w') : if Region.wanted o (yielded ops a.tmps) = true then Oper.wp P o a w K Q else E := by
  have hw : Region.wanted o (yielded ops a.tmps) = true := by simp [Region.wanted, hgd]
  rw [if_pos hw]
  unfold Oper.wp execOp
  have h1' : cells.all (·.oneCell') = true := Array.all_eq_true_iff_forall_mem.2 fun v hv => h1 v (by simpa using hv)
  simp only [ho, hx, hy, Instr.storeAt, Instr.sureAddr, Sem.run_bind, Sem.run_pure, Result.andThen_ok, run_storeVar_row w g t ty cs.toArray cells hg hi (by simpa using hl) h1']
  refine h _ ?_ ⟨rfl, rfl, rfl, by simp, fun k _ hne => ?_⟩
  · have := setRow_heap w g cs.toArray cells t (0, 0) hg
    simpa [Blk] using this
  · exact setRow_other w g k cells (fun e => hne (by rw [e]))

/-- A whole array out of a block, likewise. -/
theorem step_load_mid {P : Program} {ops : Array Oper} {o : Oper} {a : Act} {w : World} {K : Act → World → Prop} {Q : Exit → Act → World → Prop} {E : Prop} (hgd : o.guard = none) (ty : TypeId) (x : Operand) (ho : o.op = .load ty x)
    (b off : Nat) (hx : a.eval x = .pointer (some ⟨b, off, none⟩)) (cs : List Value) (d : TypeDesc) (hS : w.rangeAt b off cs)
    (hu : P.underlying ty = some d) (hd : d.isRow = true) (hi : (P.info? ty).map (·.size) = some cs.length) (h : K (a.put o.dst (.agg cs.toArray)) w) : if Region.wanted o (yielded ops a.tmps) = true then Oper.wp P o a w K Q else E := by
  have hw : Region.wanted o (yielded ops a.tmps) = true := by simp [Region.wanted, hgd]
  rw [if_pos hw]
  unfold Oper.wp execOp
  simp only [ho, hx, Instr.loadAt, Instr.sureAddr, Sem.run_bind, Sem.run_pure, Result.andThen_ok, run_loadVar_mid w b off ty cs d hS hu hd hi]
  exact h

/-- An operation that yields in every world that meets S, taken first; the slot that it writes known. -/
theorem wpAnyH_take_at {P : Program} {ops : Array Oper} {md : Region.Mode} {Q : Exit → Act → World → Prop} {S : World → Prop} {i d : Nat} {oi : Oper} {v : Value} {fuel : Nat} {listed : Array Bool} {tmps : Array Value} {defers : List Deferred} {w : World} (hi : ops[i]? = some oi) (hdst : oi.dst = some d)
    (hs : Region.noSelect ops = true) (hf : Region.free md ops listed i = true) (hr : (Region.ready md ops listed).contains i = true)
    (hQ : ∀ c a w, Q (.panic c) (a.put oi.dst v) w → Q (.panic c) a w) (hy : YieldsIf P ops S oi v { tmps := tmps, defers := defers }) (hS : S w)
    (h : wpAnyH P md ops Q S fuel (listed.setIfInBounds i true) { tmps := tmps.setIfInBounds d v, defers := defers } w) : wpAnyH P md ops Q S (fuel + 1) listed { tmps := tmps, defers := defers } w := by
  refine wpAnyH_take hi hs hf hr hQ hy hS ?_
  rw [hdst]
  exact h

end Go.Proofs.YtbgadfaiehkanaaGreatDoor

namespace Go.Proofs.YtbgadfaiehkanaaGreatDoor
open Go.RowKit
set_option linter.unusedVariables false
set_option maxRecDepth 100000

theorem drop_cons64 {b : List UInt8} {i : Nat} (h : i < b.length) : b.drop i = b.getD i 0 :: b.drop (i + 1) := by
  rw [List.drop_eq_getElem_cons h, List.getD_eq_getElem?_getD, List.getElem?_eq_getElem h]
  rfl

theorem M.blk_yes {s : List UInt8} {c : UInt8} {r : List UInt8} (h : s = c :: r) (hc : M.isBl c = true) : M.blk s = M.blk r := by
  rw [h, M.blk, List.dropWhile_cons, if_pos hc]
  rfl
theorem M.blk_no {s : List UInt8} {c : UInt8} {r : List UInt8} (h : s = c :: r) (hc : M.isBl c = false) : M.blk s = s := by
  rw [h, M.blk, List.dropWhile_cons, if_neg (by rw [hc]; decide)]

theorem isBl_of {c : UInt8} (h : c.toNat = 9 ∨ c.toNat = 10 ∨ c.toNat = 13 ∨ c.toNat = 32) : M.isBl c = true := by
  have e : ∀ k : UInt8, c.toNat = k.toNat → c = k := fun k h => UInt8.toNat_inj.1 h
  rcases h with h | h | h | h
  · rw [e 9 h]; rfl
  · rw [e 10 h]; rfl
  · rw [e 13 h]; rfl
  · rw [e 32 h]; rfl

theorem not_isBl_of {c : UInt8} (h1 : ¬ c.toNat = 9) (h2 : ¬ c.toNat = 10) (h3 : ¬ c.toNat = 13) (h4 : ¬ c.toNat = 32) : M.isBl c = false := by
  simp only [M.isBl, Bool.or_eq_false_iff, beq_eq_false_iff_ne]
  exact ⟨⟨⟨fun e => h1 (by rw [e]; rfl), fun e => h2 (by rw [e]; rfl)⟩, fun e => h3 (by rw [e]; rfl)⟩, fun e => h4 (by rw [e]; rfl)⟩

theorem eqb_true {x y : Nat} (h : x = y) : ((x : Int) == (y : Int)) = true := by simp [h]
theorem eqb_false {x y : Nat} (h : ¬ x = y) : ((x : Int) == (y : Int)) = false := by
  rw [beq_eq_false_iff_ne]
  omega


set_option maxHeartbeats 2000000 in
theorem rblanks_any (bv : Value) (b : List UInt8) (w : World) (h : IsB w bv b) (i : Nat) (hi : i ≤ b.length) (hl : b.length ≤ 1099511627776) :
    Calls Tryz.prog 40 #[bv, .int .i64 (i : Int)] w fun e w' => ∃ j : Nat, e = .returned (.int .i64 (j : Int)) ∧ i ≤ j ∧ j ≤ b.length ∧ b.drop j = M.blk (b.drop i) ∧ w' = w := by
  have HI := Lib.hid h
  obtain ⟨ao, cap, rfl, h1, h2, h3⟩ := h
  obtain ⟨n, hn⟩ : ∃ n, n = b.length := ⟨_, rfl⟩
  rw [← hn] at hi hl h1 HI ⊢
  have HN := Lib.hid hn
  have HL := Lib.hid hl
  have HII := Lib.hid hi
  unfold maxLen at h2
  clear h3 hn hl hi
  go_enter Tryz.func40, Tryz.ntmps40
  go_wp2
  go_loop [1] (fun x => ∃ k : Nat, x = .int .i64 (k : Int) ∧ Hid (i ≤ k) ∧ Hid (M.blk (b.drop k) = M.blk (b.drop i)) ∧ Hid (k ≤ n)) (fun x => n - natOf x)
  case atStart => exact ⟨i, rfl, Nat.le_refl _, rfl, HII.out⟩
  case round =>
    obtain ⟨k, rfl, hik, hbl, hkn⟩ := hrel
    by_cases hlt : k < n
    · have hlb : k < b.length := by rw [← HN.out]; exact hlt
      obtain ⟨c, hc⟩ : ∃ c, c = b.getD k 0 := ⟨_, rfl⟩
      have hdr := drop_cons64 hlb
      rw [← hc] at hdr
      obtain ⟨_, _, e, _, _, hat⟩ := HI.out
      injection e with e1 e2 e3
      subst e1 e3
      clear e2
      rcases hat with hat | ⟨bk, off, rfl, hcs⟩
      · rw [hat] at hlb; simp at hlb
      have c1 := hcs k hlb
      rw [← hc] at c1
      have b0 : (k : Int) < (n : Int) := by omega
      have g2 : (0 : Int) ≤ (k : Int) := Int.natCast_nonneg k
      have g3 : ((k : Int)).toNat = k := Int.toNat_natCast k
      have HLT := Lib.hid hlt
      have HDR := Lib.hid hdr
      have hki : (k : Int) < 1099511627777 := by have := HL.out; omega
      clear hcs hc hlb hdr hlt
      by_cases e9 : c.toNat = 9
      · have t1 : ((c.toNat : Int) == 9) = true := by rw [beq_iff_eq]; omega
        have HB1 : Hid (M.blk (b.drop k) = M.blk (b.drop (k + 1))) := M.blk_yes HDR.out (isBl_of (by omega))
        clear e9
        go_upto_region 2 with fail
        clear t1 c1
        go_wp2
        refine ⟨⟨k + 1, by go_num, ?_, ?_, HLT.out⟩, by simp only [natOf]; have := HLT.out; omega⟩
        · rw [Hid]; have := hik.out; omega
        · rw [Hid, ← HB1.out]; exact hbl.out
      have f1 : ((c.toNat : Int) == 9) = false := by rw [beq_eq_false_iff_ne]; omega
      by_cases e10 : c.toNat = 10
      · have t1 : ((c.toNat : Int) == 10) = true := by rw [beq_iff_eq]; omega
        have HB1 : Hid (M.blk (b.drop k) = M.blk (b.drop (k + 1))) := M.blk_yes HDR.out (isBl_of (by omega))
        clear e9 e10
        go_upto_region 2 with fail
        clear t1 f1 c1
        go_wp2
        refine ⟨⟨k + 1, by go_num, ?_, ?_, HLT.out⟩, by simp only [natOf]; have := HLT.out; omega⟩
        · rw [Hid]; have := hik.out; omega
        · rw [Hid, ← HB1.out]; exact hbl.out
      have f2 : ((c.toNat : Int) == 10) = false := by rw [beq_eq_false_iff_ne]; omega
      by_cases e13 : c.toNat = 13
      · have t1 : ((c.toNat : Int) == 13) = true := by rw [beq_iff_eq]; omega
        have HB1 : Hid (M.blk (b.drop k) = M.blk (b.drop (k + 1))) := M.blk_yes HDR.out (isBl_of (by omega))
        clear e9 e10 e13
        go_upto_region 2 with fail
        clear t1 f1 f2 c1
        go_wp2
        refine ⟨⟨k + 1, by go_num, ?_, ?_, HLT.out⟩, by simp only [natOf]; have := HLT.out; omega⟩
        · rw [Hid]; have := hik.out; omega
        · rw [Hid, ← HB1.out]; exact hbl.out
      have f3 : ((c.toNat : Int) == 13) = false := by rw [beq_eq_false_iff_ne]; omega
      by_cases e32 : c.toNat = 32
      · have t1 : ((c.toNat : Int) == 32) = true := by rw [beq_iff_eq]; omega
        have HB1 : Hid (M.blk (b.drop k) = M.blk (b.drop (k + 1))) := M.blk_yes HDR.out (isBl_of (by omega))
        clear e9 e10 e13 e32
        go_upto_region 2 with fail
        clear t1 f1 f2 f3 c1
        go_wp2
        refine ⟨⟨k + 1, by go_num, ?_, ?_, HLT.out⟩, by simp only [natOf]; have := HLT.out; omega⟩
        · rw [Hid]; have := hik.out; omega
        · rw [Hid, ← HB1.out]; exact hbl.out
      have f4 : ((c.toNat : Int) == 32) = false := by rw [beq_eq_false_iff_ne]; omega
      have HB1 : Hid (M.blk (b.drop k) = b.drop k) := M.blk_no HDR.out (not_isBl_of e9 e10 e13 e32)
      clear e9 e10 e13 e32
      go_wp2
      go_ret
      exact ⟨k, rfl, hik.out, hkn.out, by rw [← hbl.out, HB1.out], rfl⟩
    · have b0 : ¬ (k : Int) < (n : Int) := by omega
      have HB1 : Hid (M.blk (b.drop k) = b.drop k) := by
        have : b.drop k = [] := List.drop_eq_nil_of_le (by rw [← HN.out]; omega)
        rw [Hid, this]
        rfl
      clear hlt
      go_wp2
      go_ret
      exact ⟨k, rfl, hik.out, hkn.out, by rw [← hbl.out, HB1.out], rfl⟩

end Go.Proofs.YtbgadfaiehkanaaGreatDoor

namespace Go.Proofs.YtbgadfaiehkanaaGreatDoor
open Go.RowKit
set_option linter.unusedVariables false
set_option maxRecDepth 100000

/-- The bytes of a slice, one by one. -/
theorem IsB.cellAt {w : World} {ao : Option Addr} {n cap : Nat} {b : List UInt8} (h : IsB w (.slice ao n cap) b) (hn : 0 < b.length) : ∃ bk off, ao = some ⟨bk, off, none⟩ ∧ ∀ i, i < b.length → w.cell? ⟨bk, off + i, none⟩ = some (.int .u8 ((b.getD i 0).toNat : Int)) := by
  obtain ⟨_, _, e, _, _, hat⟩ := h
  injection e with e1 e2 e3
  subst e1
  rcases hat with hat | ⟨bk, off, rfl, hcs⟩
  · rw [hat] at hn; simp at hn
  · exact ⟨bk, off, rfl, hcs⟩

theorem pre_iff (s r : List UInt8) : s <+: r ↔ ∀ j, j < s.length → r[j]? = s[j]? := by
  constructor
  · rintro ⟨t, rfl⟩ j hj
    rw [List.getElem?_append_left hj]
  · intro h
    refine ⟨r.drop s.length, ?_⟩
    apply List.ext_getElem?
    intro j
    by_cases hj : j < s.length
    · rw [List.getElem?_append_left hj, h j hj]
    · rw [List.getElem?_append_right (by omega), List.getElem?_drop]
      congr 1
      omega

theorem nat_at {b : List UInt8} {q : Nat} (h : q < b.length) : b[q]? = some (b.getD q 0) := by
  rw [List.getD_eq_getElem?_getD, List.getElem?_eq_getElem h]
  rfl

set_option maxHeartbeats 4000000 in
theorem rstands_any (bv : Value) (b s : List UInt8) (w : World) (h : IsB w bv b) (i : Nat) (hi : i ≤ b.length) (hl : b.length ≤ 1099511627776) (hs : s.length ≤ 1000) :
    Calls Tryz.prog 90 #[bv, .int .i64 (i : Int), .string ⟨s.toArray⟩] w fun e w' => e = .returned (.bool (decide (s <+: b.drop i))) ∧ Below w.heap.size w w' := by
  have HI := Lib.hid h
  obtain ⟨ao, cap, rfl, h1, h2, h3⟩ := h
  obtain ⟨n, hn⟩ : ∃ n, n = b.length := ⟨_, rfl⟩
  rw [← hn] at hi hl h1 HI ⊢
  obtain ⟨S, hS⟩ : ∃ S : ByteArray, S = ⟨s.toArray⟩ := ⟨_, rfl⟩
  obtain ⟨m, hm⟩ : ∃ m, m = s.length := ⟨_, rfl⟩
  have hsz : S.size = m := by rw [hS, hm]; rfl
  have HPRE := Lib.hid (pre_iff s (b.drop i))
  obtain ⟨bo, hbo⟩ : ∃ x, x = decide (s <+: b.drop i) := ⟨_, rfl⟩
  have HBO := Lib.hid hbo
  rw [← hS, ← hbo]
  rw [← hm] at hs
  have HN := Lib.hid hn
  have HM := Lib.hid hm
  have HS := Lib.hid hS
  have HL := Lib.hid hl
  have HII := Lib.hid hi
  have HSL := Lib.hid hs
  unfold maxLen at h2
  clear h3 hn hl hi hS hm hs hbo
  go_enter Tryz.func90, Tryz.ntmps90
  go_wp2
  go_loopw [7] (fun x wr => ∃ k : Nat, x = .int .i64 (k : Int) ∧ Hid (k ≤ m) ∧ Hid (∀ j, j < k → (b.drop i)[j]? = s[j]?) ∧ Hid (Below w.heap.size w wr)) (fun x _ => m - natOf x)
  case atStart => exact ⟨0, rfl, Nat.zero_le _, (fun j hj => absurd hj (Nat.not_lt_zero j)), Below.refl _ _⟩
  case round =>
    obtain ⟨wz, rfl⟩ : ∃ x, x = wr := ⟨_, rfl⟩
    obtain ⟨k, rfl, hkm, hall, kb⟩ := hrel
    by_cases hlt : k < m
    · have b0 : (k : Int) < (m : Int) := by omega
      have hk1 : (k : Int) < 1001 := by have := HSL.out; omega
      obtain ⟨q, hq⟩ : ∃ q, q = i + k := ⟨_, rfl⟩
      have hik : (i : Int) + (k : Int) = (q : Int) := by omega
      have hqw : wrap64 (q : Int) = (q : Int) := by have := HII.out; have := HL.out; have := HSL.out; unfold wrap64; omega
      have hqv : IntKind.i64.wrap (q : Int) = (q : Int) := by rw [IntKind.wrap_i64]; have := HII.out; have := HL.out; have := HSL.out; omega
      have HQ := Lib.hid hq
      have HLT := Lib.hid hlt
      by_cases hin : q < n
      · have d1 : decide (n ≤ q) = false := decide_eq_false (by omega)
        obtain ⟨bk, off, rfl, hcs⟩ := (HI.out.below kb.out).cellAt (by rw [← HN.out]; omega)
        have c1 := hcs q (by rw [← HN.out]; exact hin)
        obtain ⟨c, hc⟩ : ∃ c, c = b.getD q 0 := ⟨_, rfl⟩
        rw [← hc] at c1
        have hks : k < s.length := by rw [← HM.out]; exact hlt
        have hkS : k < S.size := by rw [hsz]; exact hlt
        obtain ⟨d, hd⟩ : ∃ d, d = s.getD k 0 := ⟨_, rfl⟩
        have hSk : S[k]'hkS = d := by
          have h0 := HS.out
          subst h0
          show (s.toArray)[k]'_ = d
          have := nat_at hks
          rw [← hd, List.getElem?_eq_getElem hks] at this
          simpa using Option.some.inj this
        have HBK : Hid ((b.drop i)[k]? = some c) := by rw [Hid, List.getElem?_drop, ← HQ.out, hc]; exact nat_at (by rw [← HN.out]; exact hin)
        have HSK : Hid (s[k]? = some d) := by rw [Hid, hd]; exact nat_at hks
        have g2 : (0 : Int) ≤ (q : Int) := Int.natCast_nonneg q
        have g3 : ((q : Int)).toNat = q := Int.toNat_natCast q
        have g4 : (q : Int) < (n : Int) := by omega
        have g5 : (0 : Int) ≤ (k : Int) := Int.natCast_nonneg k
        have g6 : ((k : Int)).toNat = k := Int.toNat_natCast k
        clear hcs hc hks hd hq hlt hin
        by_cases hcd : c.toNat = d.toNat
        · have t1 : ((c.toNat : Int) != (d.toNat : Int)) = false := by simp [hcd]
          have HEQ : Hid (c = d) := UInt8.toNat_inj.1 hcd
          clear hcd
          go_upto_region 4 with fail
          go_quiet (fail)
          clear t1 c1 hqw hqv hik d1
          go_wp2
          refine ⟨⟨k + 1, by go_num, ?_, ?_, drewN_below kb.out _⟩, by simp only [natOf]; have := HLT.out; omega⟩
          · rw [Hid]; exact HLT.out
          · intro j hj
            by_cases hjk : j < k
            · exact hall.out j hjk
            · obtain rfl : j = k := by omega
              rw [HBK.out, HSK.out, HEQ.out]
        · have t1 : ((c.toNat : Int) != (d.toNat : Int)) = true := by simp; omega
          have HNE : Hid (¬ c = d) := fun e => hcd (by rw [e])
          clear hcd
          go_upto_region 4 with fail
          go_quiet (fail)
          clear t1 c1 hqw hqv hik d1
          go_wp2
          have HF : Hid (bo = false) := by
            rw [Hid, HBO.out, decide_eq_false_iff_not]
            intro hp
            have h1 := HPRE.out.1 hp k (by rw [← HM.out]; exact HLT.out)
            rw [HBK.out, HSK.out] at h1
            exact HNE.out (Option.some.inj h1)
          go_ret
          exact ⟨by rw [HF.out]; rfl, drewN_below kb.out _⟩
      · have d1 : decide (n ≤ q) = true := decide_eq_true (by omega)
        have HF : Hid (bo = false) := by
          rw [Hid, HBO.out, decide_eq_false_iff_not]
          intro hp
          have h1 := HPRE.out.1 hp k (by rw [← HM.out]; exact HLT.out)
          rw [List.getElem?_drop, ← HQ.out, List.getElem?_eq_none (by rw [← HN.out]; omega)] at h1
          rw [nat_at (by rw [← HM.out]; exact HLT.out)] at h1
          cases h1
        clear hq hlt hin
        go_upto_region 4 with fail
        go_quiet (fail)
        clear hqw hqv hik d1
        go_wp2
        go_ret
        exact ⟨by rw [HF.out]; rfl, drewN_below kb.out _⟩
    · have b0 : ¬ (k : Int) < (m : Int) := by omega
      have HF : Hid (bo = true) := by
        rw [Hid, HBO.out, decide_eq_true_iff]
        refine HPRE.out.2 fun j hj => hall.out j ?_
        rw [← HM.out] at hj
        omega
      clear hlt
      go_wp2
      go_ret
      exact ⟨by rw [HF.out]; rfl, kb.out⟩

end Go.Proofs.YtbgadfaiehkanaaGreatDoor

namespace Go.Proofs.YtbgadfaiehkanaaGreatDoor
open Go.RowKit
set_option linter.unusedVariables false
set_option maxRecDepth 100000

/-- A number that may not be there, as the document hands it on. -/
def M.opt : Option Nat → Int
  | none => -1
  | some v => (v : Int)

theorem hexv_lt {v d k : Nat} (h : v < 16 ^ k) (hd : d < 16) : v * 16 + d < 16 ^ (k + 1) := by
  rw [Nat.pow_succ]
  omega

theorem M.hexG_nil (k v : Nat) (h : 0 < k) : M.hexG k [] v = none := by
  cases k with
  | zero => omega
  | succ k => rfl

set_option maxHeartbeats 4000000 in
theorem rhex_any (bv : Value) (b : List UInt8) (w : World) (h : IsB w bv b) (i : Nat) (hi : i ≤ b.length) (hl : b.length ≤ 1099511627776) :
    Calls Tryz.prog 170 #[bv, .int .i64 (i : Int)] w fun e w' => e = .returned (.int .i64 (M.opt (M.hex4 (b.drop i)))) ∧ w' = w := by
  have HI := Lib.hid h
  obtain ⟨ao, cap, rfl, h1, h2, h3⟩ := h
  obtain ⟨n, hn⟩ : ∃ n, n = b.length := ⟨_, rfl⟩
  rw [← hn] at hi hl h1 HI ⊢
  have HN := Lib.hid hn
  have HL := Lib.hid hl
  have hii : (i : Int) ≤ 1099511627776 := by omega
  unfold maxLen at h2
  clear h3 hn hl hi h1
  go_enter Tryz.func170, Tryz.ntmps170
  go_wp2
  go_loop [5, 6] (fun vv x => ∃ k v : Nat, x = .int .i64 (k : Int) ∧ vv = .int .i64 (v : Int) ∧ Hid (k ≤ 4) ∧ Hid (v < 16 ^ k) ∧ Hid (M.hexG (4 - k) ((b.drop i).drop k) v = M.hex4 (b.drop i))) (fun _ x => 4 - (intOf x).toNat)
  case atStart => exact ⟨0, 0, rfl, rfl, Lib.hid (Nat.zero_le 4), Lib.hid (show 0 < 16 ^ 0 from Nat.zero_lt_one), Lib.hid rfl⟩
  case round =>
    obtain ⟨k, v, rfl, rfl, hk, HV, HST⟩ := hrel
    by_cases hlt : k < 4
    · have b0 : (k : Int) < 4 := by omega
      have hvb : v < 65536 := by
        have h1 := HV.out
        have h2 : 16 ^ k ≤ 16 ^ 4 := Nat.pow_le_pow_right (by decide) (by omega)
        omega
      have hvi : (v : Int) < 65536 := by omega
      obtain ⟨q, hq⟩ : ∃ q, q = i + k := ⟨_, rfl⟩
      have hik : (i : Int) + (k : Int) = (q : Int) := by omega
      have hqb : (q : Int) ≤ 1099511627780 := by omega
      have HQ := Lib.hid hq
      have HLT := Lib.hid hlt
      by_cases hin : q < n
      · have d1 : ¬ (n : Int) ≤ (q : Int) := by omega
        obtain ⟨bk, off, rfl, hcs⟩ := HI.out.cellAt (by rw [← HN.out]; omega)
        have c1 := hcs q (by rw [← HN.out]; exact hin)
        obtain ⟨c, hc⟩ : ∃ c, c = b.getD q 0 := ⟨_, rfl⟩
        rw [← hc] at c1
        obtain ⟨x, hx⟩ : ∃ x, x = c.toNat := ⟨_, rfl⟩
        have hx8 : x < 256 := by rw [hx]; exact c.toNat_lt
        rw [← hx] at c1
        have HX := Lib.hid hx
        have HDR : Hid ((b.drop i).drop k = c :: (b.drop i).drop (k + 1)) := by
          rw [Hid, List.drop_drop, ← HQ.out, drop_cons64 (by rw [← HN.out]; exact hin), ← hc, HQ.out, List.drop_drop]
          rfl
        have HK4 : Hid (4 - k = (4 - (k + 1)) + 1) := by rw [Hid]; omega
        have g2 : (0 : Int) ≤ (q : Int) := Int.natCast_nonneg q
        have g3 : ((q : Int)).toNat = q := Int.toNat_natCast q
        have g4 : (q : Int) < (n : Int) := by omega
        clear hcs hc hq hlt hin hx hvb
        by_cases klt48 : 0 ≤ x ∧ x ≤ 47
        · have g48 : decide ((48 : Int) ≤ (x : Int)) = false := decide_eq_false (by omega)
          have g57 : decide ((x : Int) ≤ 57) = true := decide_eq_true (by omega)
          have g97 : decide ((97 : Int) ≤ (x : Int)) = false := decide_eq_false (by omega)
          have g102 : decide ((x : Int) ≤ 102) = true := decide_eq_true (by omega)
          have g65 : decide ((65 : Int) ≤ (x : Int)) = false := decide_eq_false (by omega)
          have g70 : decide ((x : Int) ≤ 70) = true := decide_eq_true (by omega)
          have xl : (0 : Int) ≤ (x : Int) := by omega
          have xh : (x : Int) ≤ 47 := by omega
          have HD : Hid (M.hx c = none) := by rw [Hid, M.hx, ← HX.out, if_neg (by omega), if_neg (by omega), if_neg (by omega)]
          have HNX : Hid (M.hex4 (b.drop i) = none) := by rw [Hid, ← HST.out, HDR.out, HK4.out, M.hexG, HD.out]; rfl
          clear klt48
          go_wp2
          go_ret
          exact ⟨by rw [HNX.out]; rfl, rfl⟩
        by_cases kdig : 48 ≤ x ∧ x ≤ 57
        · have g48 : decide ((48 : Int) ≤ (x : Int)) = true := decide_eq_true (by omega)
          have g57 : decide ((x : Int) ≤ 57) = true := decide_eq_true (by omega)
          have g97 : decide ((97 : Int) ≤ (x : Int)) = false := decide_eq_false (by omega)
          have g102 : decide ((x : Int) ≤ 102) = true := decide_eq_true (by omega)
          have g65 : decide ((65 : Int) ≤ (x : Int)) = false := decide_eq_false (by omega)
          have g70 : decide ((x : Int) ≤ 70) = true := decide_eq_true (by omega)
          have xl : (48 : Int) ≤ (x : Int) := by omega
          have xh : (x : Int) ≤ 57 := by omega
          obtain ⟨dv, hdv⟩ : ∃ d, d = x - 48 := ⟨_, rfl⟩
          have hd16 : dv < 16 := by omega
          have HD : Hid (M.hx c = some dv) := by rw [Hid, M.hx, ← HX.out]; rw [if_pos (by omega), hdv]
          have hdi : (x : Int) - 48 = (dv : Int) := by omega
          have z1 : ¬ (dv : Int) < 0 := by omega
          have z2 : (dv : Int) < 16 := by omega
          have HNX : Hid (M.hexG (4 - (k + 1)) ((b.drop i).drop (k + 1)) (v * 16 + dv) = M.hex4 (b.drop i)) := by rw [Hid, ← HST.out, HDR.out, HK4.out, M.hexG, HD.out]; rfl
          clear kdig hdv
          go_wp2
          refine ⟨⟨k + 1, v * 16 + dv, by go_num, by go_num, HLT.out, ?_, HNX⟩, by simp only [intOf]; have := HLT.out; omega⟩
          exact hexv_lt HV.out hd16
        by_cases kgap1 : 58 ≤ x ∧ x ≤ 64
        · have g48 : decide ((48 : Int) ≤ (x : Int)) = true := decide_eq_true (by omega)
          have g57 : decide ((x : Int) ≤ 57) = false := decide_eq_false (by omega)
          have g97 : decide ((97 : Int) ≤ (x : Int)) = false := decide_eq_false (by omega)
          have g102 : decide ((x : Int) ≤ 102) = true := decide_eq_true (by omega)
          have g65 : decide ((65 : Int) ≤ (x : Int)) = false := decide_eq_false (by omega)
          have g70 : decide ((x : Int) ≤ 70) = true := decide_eq_true (by omega)
          have xl : (58 : Int) ≤ (x : Int) := by omega
          have xh : (x : Int) ≤ 64 := by omega
          have HD : Hid (M.hx c = none) := by rw [Hid, M.hx, ← HX.out, if_neg (by omega), if_neg (by omega), if_neg (by omega)]
          have HNX : Hid (M.hex4 (b.drop i) = none) := by rw [Hid, ← HST.out, HDR.out, HK4.out, M.hexG, HD.out]; rfl
          clear kgap1
          go_wp2
          go_ret
          exact ⟨by rw [HNX.out]; rfl, rfl⟩
        by_cases kAF : 65 ≤ x ∧ x ≤ 70
        · have g48 : decide ((48 : Int) ≤ (x : Int)) = true := decide_eq_true (by omega)
          have g57 : decide ((x : Int) ≤ 57) = false := decide_eq_false (by omega)
          have g97 : decide ((97 : Int) ≤ (x : Int)) = false := decide_eq_false (by omega)
          have g102 : decide ((x : Int) ≤ 102) = true := decide_eq_true (by omega)
          have g65 : decide ((65 : Int) ≤ (x : Int)) = true := decide_eq_true (by omega)
          have g70 : decide ((x : Int) ≤ 70) = true := decide_eq_true (by omega)
          have xl : (65 : Int) ≤ (x : Int) := by omega
          have xh : (x : Int) ≤ 70 := by omega
          obtain ⟨dv, hdv⟩ : ∃ d, d = x - 65 + 10 := ⟨_, rfl⟩
          have hd16 : dv < 16 := by omega
          have HD : Hid (M.hx c = some dv) := by rw [Hid, M.hx, ← HX.out]; rw [if_neg (by omega), if_neg (by omega), if_pos (by omega), hdv]
          have hdi : (x : Int) - 65 + 10 = (dv : Int) := by omega
          have z1 : ¬ (dv : Int) < 0 := by omega
          have z2 : (dv : Int) < 16 := by omega
          have HNX : Hid (M.hexG (4 - (k + 1)) ((b.drop i).drop (k + 1)) (v * 16 + dv) = M.hex4 (b.drop i)) := by rw [Hid, ← HST.out, HDR.out, HK4.out, M.hexG, HD.out]; rfl
          clear kAF hdv
          go_wp2
          refine ⟨⟨k + 1, v * 16 + dv, by go_num, by go_num, HLT.out, ?_, HNX⟩, by simp only [intOf]; have := HLT.out; omega⟩
          exact hexv_lt HV.out hd16
        by_cases kgap2 : 71 ≤ x ∧ x ≤ 96
        · have g48 : decide ((48 : Int) ≤ (x : Int)) = true := decide_eq_true (by omega)
          have g57 : decide ((x : Int) ≤ 57) = false := decide_eq_false (by omega)
          have g97 : decide ((97 : Int) ≤ (x : Int)) = false := decide_eq_false (by omega)
          have g102 : decide ((x : Int) ≤ 102) = true := decide_eq_true (by omega)
          have g65 : decide ((65 : Int) ≤ (x : Int)) = true := decide_eq_true (by omega)
          have g70 : decide ((x : Int) ≤ 70) = false := decide_eq_false (by omega)
          have xl : (71 : Int) ≤ (x : Int) := by omega
          have xh : (x : Int) ≤ 96 := by omega
          have HD : Hid (M.hx c = none) := by rw [Hid, M.hx, ← HX.out, if_neg (by omega), if_neg (by omega), if_neg (by omega)]
          have HNX : Hid (M.hex4 (b.drop i) = none) := by rw [Hid, ← HST.out, HDR.out, HK4.out, M.hexG, HD.out]; rfl
          clear kgap2
          go_wp2
          go_ret
          exact ⟨by rw [HNX.out]; rfl, rfl⟩
        by_cases kaf : 97 ≤ x ∧ x ≤ 102
        · have g48 : decide ((48 : Int) ≤ (x : Int)) = true := decide_eq_true (by omega)
          have g57 : decide ((x : Int) ≤ 57) = false := decide_eq_false (by omega)
          have g97 : decide ((97 : Int) ≤ (x : Int)) = true := decide_eq_true (by omega)
          have g102 : decide ((x : Int) ≤ 102) = true := decide_eq_true (by omega)
          have g65 : decide ((65 : Int) ≤ (x : Int)) = true := decide_eq_true (by omega)
          have g70 : decide ((x : Int) ≤ 70) = false := decide_eq_false (by omega)
          have xl : (97 : Int) ≤ (x : Int) := by omega
          have xh : (x : Int) ≤ 102 := by omega
          obtain ⟨dv, hdv⟩ : ∃ d, d = x - 97 + 10 := ⟨_, rfl⟩
          have hd16 : dv < 16 := by omega
          have HD : Hid (M.hx c = some dv) := by rw [Hid, M.hx, ← HX.out]; rw [if_neg (by omega), if_pos (by omega), hdv]
          have hdi : (x : Int) - 97 + 10 = (dv : Int) := by omega
          have z1 : ¬ (dv : Int) < 0 := by omega
          have z2 : (dv : Int) < 16 := by omega
          have HNX : Hid (M.hexG (4 - (k + 1)) ((b.drop i).drop (k + 1)) (v * 16 + dv) = M.hex4 (b.drop i)) := by rw [Hid, ← HST.out, HDR.out, HK4.out, M.hexG, HD.out]; rfl
          clear kaf hdv
          go_wp2
          refine ⟨⟨k + 1, v * 16 + dv, by go_num, by go_num, HLT.out, ?_, HNX⟩, by simp only [intOf]; have := HLT.out; omega⟩
          exact hexv_lt HV.out hd16
        by_cases kgt : 103 ≤ x ∧ x ≤ 255
        · have g48 : decide ((48 : Int) ≤ (x : Int)) = true := decide_eq_true (by omega)
          have g57 : decide ((x : Int) ≤ 57) = false := decide_eq_false (by omega)
          have g97 : decide ((97 : Int) ≤ (x : Int)) = true := decide_eq_true (by omega)
          have g102 : decide ((x : Int) ≤ 102) = false := decide_eq_false (by omega)
          have g65 : decide ((65 : Int) ≤ (x : Int)) = true := decide_eq_true (by omega)
          have g70 : decide ((x : Int) ≤ 70) = false := decide_eq_false (by omega)
          have xl : (103 : Int) ≤ (x : Int) := by omega
          have xh : (x : Int) ≤ 255 := by omega
          have HD : Hid (M.hx c = none) := by rw [Hid, M.hx, ← HX.out, if_neg (by omega), if_neg (by omega), if_neg (by omega)]
          have HNX : Hid (M.hex4 (b.drop i) = none) := by rw [Hid, ← HST.out, HDR.out, HK4.out, M.hexG, HD.out]; rfl
          clear kgt
          go_wp2
          go_ret
          exact ⟨by rw [HNX.out]; rfl, rfl⟩
        exfalso; omega
      · have d1 : (n : Int) ≤ (q : Int) := by omega
        have HNX : Hid (M.hex4 (b.drop i) = none) := by
          rw [Hid, ← HST.out, List.drop_drop, List.drop_eq_nil_of_le (by rw [← HN.out, ← HQ.out]; omega), M.hexG_nil _ _ (by omega)]
        clear hq hlt hin hvb
        go_wp2
        go_ret
        exact ⟨by rw [HNX.out]; rfl, rfl⟩
    · have b0 : ¬ (k : Int) < 4 := by omega
      have HNX : Hid (M.hex4 (b.drop i) = some v) := by
        obtain rfl : k = 4 := by have := hk.out; omega
        exact HST.out.symm
      clear hlt
      go_wp2
      go_ret
      exact ⟨by rw [HNX.out]; rfl, rfl⟩

end Go.Proofs.YtbgadfaiehkanaaGreatDoor
