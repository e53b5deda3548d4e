/-
  CONTRACT OF orloplaw17.cutChunks: whatever is done with the chunks, it hands back rows of a few bytes each; where nothing is done, the very same. Conditions: as said.
-/
import Derived.Test.YtdojalhaklkegaaSealCut
import Derived.Test.YtdojalhaklkegaaInRound
namespace Go.Proofs.Ytdojalhaklkegaa
open Go.RowKit Go.Maps
set_option linter.unusedVariables false
set_option maxRecDepth 100000

/-- A few bytes. -/
def El (w : World) (x : Value) : Prop := ∃ bs, IsB w x bs ∧ (∀ n c, x = .slice none n c → c = 0) ∧ bs.length ≤ 2500
theorem El.below {w w' : World} {x : Value} (h : El w x) (k : Below w.heap.size w w') : El w' x := by
  obtain ⟨bs, h1, h2, h3⟩ := h
  exact ⟨bs, h1.below k, h2, h3⟩

/-- A row of rows of few bytes. -/
def ElLL (w : World) (v : Value) (n : Nat) (xs : List Value) : Prop := ∃ b off cap, v = .slice (some ⟨b, off, none⟩) n cap ∧ n ≤ cap ∧ cap ≤ maxLen ∧ xs.length = n ∧ (∀ i, i < n → w.cell? ⟨b, off + i, none⟩ = some (xs.getD i undef)) ∧ ∀ i, i < n → El w (xs.getD i undef)

theorem ElLL.below {w w' : World} {v : Value} {n : Nat} {xs : List Value} (h : ElLL w v n xs) (k : Below w.heap.size w w') : ElLL w' v n xs := by
  obtain ⟨b, off, cap, rfl, h1, h2, h3, h4, h5⟩ := h
  exact ⟨b, off, cap, rfl, h1, h2, h3, fun i hi => (k.cell (p := ⟨b, off + i, none⟩) (World.block_lt_of_cell? _ _ (h4 i hi))).trans (h4 i hi), fun i hi => (h5 i hi).below k⟩

theorem El.one {w : World} {x : Value} (h : El w x) : x.oneCell' = true := by
  obtain ⟨bs, h1, _⟩ := h
  obtain ⟨a, c, rfl⟩ := h1.shape
  rfl

theorem SpLL.el {w : World} {B : Nat} {v : Value} {L : List (List UInt8)} {rows : List Value} (h : SpLL w B v L rows) (hn : L ≠ []) (hl : ∀ b ∈ L, b.length ≤ 2500) : ElLL w v L.length rows := by
  have hlen := h.len
  obtain ⟨g, cap, rfl, h1, h2⟩ : ∃ g cap, v = .slice (some ⟨g, 0, none⟩) L.length cap ∧ L.length ≤ cap ∧ cap ≤ maxLen := by
    rcases h.row.2 with ⟨e, hz⟩ | ⟨g, cap, cur, e, hb, hg, h1, h2, _⟩
    · exact absurd (List.eq_nil_of_length_eq_zero hz) hn
    · exact ⟨g, cap, e, h1, h2⟩
  refine ⟨g, 0, cap, rfl, h1, h2, hlen, fun i hi => ?_, fun i hi => ⟨_, (h.each i hi).1, (h.each i hi).2, ?_⟩⟩
  · have := h.row.cells (g := g) rfl i (rows.getD i undef) (by rw [List.getD_eq_getElem?_getD, List.getElem?_eq_getElem (by omega)]; rfl)
    rwa [Addr.add_lit] at this
  · exact hl _ (by rw [List.getD_eq_getElem?_getD, List.getElem?_eq_getElem hi]; exact List.getElem_mem _)

/-- An own spine of rows of few bytes. -/
structure SpEl (w : World) (B : Nat) (v : Value) (xs : List Value) : Prop where
  row : w.ownsRow B 22 1 v xs.length xs
  each : ∀ x ∈ xs, El w x
  out : ∀ x ∈ xs, Lies (fun k => k < B) x

theorem El.grown {w w' : World} {x : Value} {row : Option Nat} {B : Nat} (h : El w x) (g : w.grownBy w' row) (hl : Lies (fun k => k < B) x) (hr : ∀ k, row = some k → B ≤ k) : El w' x := by
  obtain ⟨bs, h1, h2, h3⟩ := h
  exact ⟨bs, h1.grownOut g (hl.mono fun k hk e => by have := hr k e; omega), h2, h3⟩

theorem spel_empty (w : World) (B : Nat) (hB : B ≤ w.heap.size) : SpEl (w.alloc (.cells #[] 22)) B (.slice (some ⟨w.heap.size, 0, none⟩) 0 0) [] :=
  ⟨World.ownsRow_made w #[] 0 hB (Nat.zero_le _) rfl, fun x hx => absurd hx List.not_mem_nil, fun x hx => absurd hx List.not_mem_nil⟩

theorem SpEl.app {w w' : World} {B m : Nat} {v v' : Value} {xs news : List Value} (h : SpEl w B v xs) (hn : ∀ x ∈ news, El w x ∧ Lies (fun k => k < B) x) (hm : news.length = m) (ho : w'.ownsRow B 22 1 v' (xs.length + m) (xs ++ news)) (g : w.grownBy w' v.ownBlock) : SpEl w' B v' (xs ++ news) := by
  have hr : ∀ k, v.ownBlock = some k → B ≤ k := fun k hk => (h.row.lt k hk).1
  refine ⟨by rw [List.length_append, hm]; exact ho, fun x hx => ?_, fun x hx => ?_⟩
  · rcases List.mem_append.1 hx with hx | hx
    · exact (h.each x hx).grown g (h.out x hx) hr
    · exact (hn x hx).1.grown g (hn x hx).2 hr
  · rcases List.mem_append.1 hx with hx | hx
    · exact h.out x hx
    · exact (hn x hx).2

theorem SpEl.drew {w : World} {B : Nat} {v : Value} {xs : List Value} (h : SpEl w B v xs) : SpEl w.drew B v xs :=
  ⟨own_chg h.row (Chg.of_below (F := fun _ => False) ((Below.refl _ w).drew)) (fun _ _ h => h), fun x hx => (h.each x hx).below ((Below.refl _ w).drew), h.out⟩
theorem SpEl.below {w w' : World} {B : Nat} {v : Value} {xs : List Value} (h : SpEl w B v xs) (k : Below w.heap.size w w') : SpEl w' B v xs :=
  ⟨own_chg h.row (Chg.of_below (F := fun _ => False) k) (fun _ _ h => h), fun x hx => (h.each x hx).below k, h.out⟩

theorem SpEl.ll {w : World} {B : Nat} {v : Value} {xs : List Value} (h : SpEl w B v xs) (hn : xs ≠ []) : ElLL w v xs.length xs := by
  obtain ⟨g, cap, rfl, h1, h2⟩ : ∃ g cap, v = .slice (some ⟨g, 0, none⟩) xs.length cap ∧ xs.length ≤ cap ∧ cap ≤ maxLen := by
    rcases h.row.2 with ⟨e, hz⟩ | ⟨g, cap, cur, e, hb, hg, h1, h2, _⟩
    · exact absurd (List.eq_nil_of_length_eq_zero hz) hn
    · exact ⟨g, cap, e, h1, h2⟩
  refine ⟨g, 0, cap, rfl, h1, h2, rfl, fun i hi => ?_, fun i hi => h.each _ ?_⟩
  · have := h.row.cells (g := g) rfl i (xs.getD i undef) (by rw [List.getD_eq_getElem?_getD, List.getElem?_eq_getElem hi]; rfl)
    rwa [Addr.add_lit] at this
  · rw [List.getD_eq_getElem?_getD, List.getElem?_eq_getElem hi]; exact List.getElem_mem _

/-- A part of a row of rows, to be appended. -/
theorem ElLL.part {w : World} {b off cap n : Nat} {xs : List Value} (h : ElLL w (.slice (some ⟨b, off, none⟩) n cap) n xs) (i m : Nat) (hm : i + m ≤ n) : ∀ j u, ((xs.drop i).take m)[j]? = some u → w.cell? ((⟨b, off + i, none⟩ : Addr).add j) = some u := by
  obtain ⟨b', off', cap', e, h1, h2, h3, h4, h5⟩ := h
  injection e with e1 e2 e3
  injection e1 with e1
  injection e1 with e4 e5 e6
  subst e4 e5
  intro j u hj
  have hjm : j < m := by
    have := (List.getElem?_eq_some_iff.1 hj).1
    rw [List.length_take] at this
    omega
  rw [List.getElem?_take_of_lt hjm, List.getElem?_drop] at hj
  rw [Addr.add_mid, Nat.add_assoc, h4 (i + j) (by omega), List.getD_eq_getElem?_getD, hj]
  rfl
theorem ElLL.mem {w : World} {v : Value} {n : Nat} {xs : List Value} (h : ElLL w v n xs) : ∀ x ∈ xs, El w x := by
  obtain ⟨b', off', cap', e, h1, h2, h3, h4, h5⟩ := h
  intro x hx
  obtain ⟨i, hi, rfl⟩ := List.mem_iff_getElem.1 hx
  have := h5 i (by omega)
  rwa [List.getD_eq_getElem?_getD, List.getElem?_eq_getElem hi] at this

/-- A row of rows of few bytes, that may have none. -/
def LLr (w : World) (v : Value) (xs : List Value) : Prop := ∃ ao cap, v = .slice ao xs.length cap ∧ (∀ i, i < xs.length → ∃ b off, ao = some ⟨b, off, none⟩ ∧ w.cell? ⟨b, off + i, none⟩ = some (xs.getD i undef)) ∧ ∀ x ∈ xs, El w x
theorem ElLL.llr {w : World} {v : Value} {n : Nat} {xs : List Value} (h : ElLL w v n xs) : LLr w v xs := by
  have hm := h.mem
  obtain ⟨b, off, cap, rfl, h1, h2, rfl, h4, h5⟩ := h
  exact ⟨_, cap, rfl, fun i hi => ⟨b, off, rfl, h4 i hi⟩, hm⟩
theorem SpEl.llr {w : World} {B : Nat} {v : Value} {xs : List Value} (h : SpEl w B v xs) : LLr w v xs := by
  by_cases hx : xs = []
  · subst hx
    obtain ⟨ao, cap, rfl⟩ := ownShape h.row
    exact ⟨ao, cap, rfl, fun i hi => absurd hi (Nat.not_lt_zero i), h.each⟩
  · exact (h.ll hx).llr
theorem LLr.below {w w' : World} {v : Value} {xs : List Value} (h : LLr w v xs) (k : Below w.heap.size w w') : LLr w' v xs := by
  obtain ⟨ao, cap, rfl, h1, h2⟩ := h
  exact ⟨ao, cap, rfl, fun i hi => by
    obtain ⟨b, off, e, hc⟩ := h1 i hi
    exact ⟨b, off, e, (k.cell (p := ⟨b, off + i, none⟩) (World.block_lt_of_cell? _ _ hc)).trans hc⟩, fun x hx => (h2 x hx).below k⟩

theorem elemLL : Try.prog.elem 36 = 22 := by simp [Program.elem, Try.underlying36]

/-- 'l[:i]'. -/
theorem slLL_up (b off n cap i : Nat) (hi : i ≤ n) (hn : n ≤ cap) (W : World) : (Instr.slice 36 (.slice (some ⟨b, off, none⟩) n cap) none (some (.int .i64 (i : Int))) none).run Try.prog W = .ok (.slice (some ⟨b, off, none⟩) i cap) W := by
  rw [run_slice_h W 36 _ n cap (by rw [elemLL]; exact Try.underlying36) .i64 (i : Int) (by omega) (by omega), elemLL, Try.sizeOf22]
  by_cases hc : cap = 0
  · simp [Result.andThen_ok, sliced, Addr.add_lit, hc]
  · simp [Result.andThen_ok, sliced, Addr.add_lit]
/-- 'l[i:]', and its cells. -/
theorem ElLL.from_ {w : World} {b off cap n : Nat} {xs : List Value} (h : ElLL w (.slice (some ⟨b, off, none⟩) n cap) n xs) (i : Nat) (hi : i ≤ n) : ∃ o, (∀ W : World, (Instr.slice 36 (.slice (some ⟨b, off, none⟩) n cap) (some (.int .i64 (i : Int))) none none).run Try.prog W = .ok (.slice (some ⟨b, o, none⟩) (n - i) (cap - i)) W) ∧
    ∀ j u, (xs.drop i)[j]? = some u → w.cell? ((⟨b, o, none⟩ : Addr).add j) = some u := by
  have hcap : n ≤ cap := by obtain ⟨_, _, _, e, h1, _⟩ := h; injection e with _ _ e; omega
  have hlen : xs.length = n := by obtain ⟨_, _, _, _, _, _, h3, _⟩ := h; exact h3
  refine ⟨if cap = i then off else off + i, fun W => ?_, fun j u hj => ?_⟩
  · rw [run_slice_l W 36 _ n cap (by rw [elemLL]; exact Try.underlying36) .i64 (i : Int) (by omega) (by omega), elemLL, Try.sizeOf22]
    by_cases hc : cap = i
    · simp [Result.andThen_ok, sliced, hc]
    · simp [Result.andThen_ok, sliced, hc, Addr.add_lit]
  · by_cases hc : cap = i
    · have := (List.getElem?_eq_some_iff.1 hj).1
      rw [List.length_drop] at this
      omega
    · rw [if_neg hc]
      have hjl := (List.getElem?_eq_some_iff.1 hj).1
      rw [List.length_drop] at hjl
      exact h.part i (n - i) (by omega) j u (by rw [List.take_of_length_le (by rw [List.length_drop]; omega)]; exact hj)

/-- 'append' onto a spine of rows of few bytes, as a step. -/
theorem step_spel {w : World} {ops : Array Oper} {o : Oper} {a : Act} {K : Act → World → Prop} {Q : Exit → Act → World → Prop} {E : Prop} (hg : o.guard = none) (s x : Operand)
    (ho : o.op = .call { callee := .builtin .append, args := #[s, x], argTypes := #[36, 36] })
    (B : Nat) (v : Value) (xs : List Value) (hs : a.eval s = v) (h : SpEl w B v xs) (ad : Addr) (m c : Nat) (news : List Value) (hx : a.eval x = .slice (some ad) m c) (hl : news.length = m)
    (hc : ∀ j u, news[j]? = some u → w.cell? (ad.add j) = some u) (hn : ∀ x ∈ news, El w x ∧ Lies (fun k => k < B) x) (hfew : xs.length + m ≤ 300000) (hB : B ≤ w.heap.size)
    (k : ∀ v' w', SpEl w' B v' (xs ++ news) → Below B w w' → w.grownBy w' v.ownBlock → K (a.put o.dst v') w') : if Region.wanted o (yielded ops a.tmps) = true then Oper.wp Try.prog o a w K Q else E := by
  refine step_app_row rows10 hg s x ho B v xs.length xs hs h.row ad m c news hx (by rw [Nat.mul_one]; exact hl) hc (fun u hu => (hn u hu).1.one) (by unfold maxLen; omega) (by omega) hB ?_
  intro v' w' h2 h3 _
  exact k v' w' (h.app hn hl h2 h3) ((Below.refl B w).grown h3 hB fun q hq => (h.row.lt q hq).1) h3
theorem wpList_spel {w : World} {ops : Array Oper} {rest : List Oper} {o : Oper} {a : Act} {Q : Exit → Act → World → Prop} (hg : o.guard = none) (s x : Operand)
    (ho : o.op = .call { callee := .builtin .append, args := #[s, x], argTypes := #[36, 36] })
    (B : Nat) (v : Value) (xs : List Value) (hs : a.eval s = v) (h : SpEl w B v xs) (ad : Addr) (m c : Nat) (news : List Value) (hx : a.eval x = .slice (some ad) m c) (hl : news.length = m)
    (hc : ∀ j u, news[j]? = some u → w.cell? (ad.add j) = some u) (hn : ∀ x ∈ news, El w x ∧ Lies (fun k => k < B) x) (hfew : xs.length + m ≤ 300000) (hB : B ≤ w.heap.size)
    (k : ∀ v' w', SpEl w' B v' (xs ++ news) → Below B w w' → wpList Try.prog ops Q rest (a.put o.dst v') w') : wpList Try.prog ops Q (o :: rest) a w := by
  refine wpList_app_row rows10 w hg s x ho B v xs.length xs hs h.row ad m c news hx (by rw [Nat.mul_one]; exact hl) hc (fun u hu => (hn u hu).1.one) (by unfold maxLen; omega) (by omega) hB ?_
  intro v' w' h2 h3 _
  exact k v' w' (h.app hn hl h2 h3) ((Below.refl B w).grown h3 hB fun q hq => (h.row.lt q hq).1)

theorem SpEl.shape {w : World} {B : Nat} {v : Value} {xs : List Value} (h : SpEl w B v xs) (hn : 0 < xs.length) : ∃ g cap, v = .slice (some ⟨g, 0, none⟩) xs.length cap ∧ B ≤ g ∧ g < w.heap.size := by
  rcases h.row.2 with ⟨e, hz⟩ | ⟨g, cap, cur, e, hb, hg, h1, h2, _⟩
  · omega
  · exact ⟨g, cap, e, hb, (Array.getElem?_eq_some_iff.1 hg).1⟩
theorem SpEl.cell {w : World} {B g cap : Nat} {xs : List Value} (h : SpEl w B (.slice (some ⟨g, 0, none⟩) xs.length cap) xs) {i : Nat} (hi : i < xs.length) : w.cell? ⟨g, i, none⟩ = some (xs.getD i undef) := by
  rw [h.row.cellAt i (by omega), List.getD_eq_getElem?_getD, List.getElem?_eq_getElem hi]
  rfl
theorem SpEl.set {w : World} {B g cap : Nat} {xs : List Value} (h : SpEl w B (.slice (some ⟨g, 0, none⟩) xs.length cap) xs) (hB : B ≤ g) {x : Value} (hx : El w x) (hl : Lies (fun k => k < B) x) (i : Nat) : SpEl (w.setCell ⟨g, i, none⟩ x) B (.slice (some ⟨g, 0, none⟩) xs.length cap) (xs.set i x) := by
  have st : ∀ y, El w y → Lies (fun k => k < B) y → El (w.setCell ⟨g, i, none⟩ x) y := fun y hy hly => by
    obtain ⟨bs, h1, h2, h3⟩ := hy
    exact ⟨bs, h1.chg ((Chg.refl (fun b => b = g) w).cell i x) (hly.mono fun k hk e => by omega), h2, h3⟩
  refine ⟨by rw [List.length_set]; exact (h.row.stored i x).1, fun y hy => ?_, fun y hy => ?_⟩
  · rcases List.mem_or_eq_of_mem_set hy with hy | rfl
    · exact st y (h.each y hy) (h.out y hy)
    · exact st _ hx hl
  · rcases List.mem_or_eq_of_mem_set hy with hy | rfl
    · exact h.out y hy
    · exact hl

/-- How cutChunks ends. -/
def ChEnds (w : World) (lv : Value) (n r : Nat) (e : Ending) (w' : World) : Prop :=
  ∃ v xs, e = .returned v ∧ LLr w' v xs ∧ xs.length ≤ n + 1 ∧ Below w.heap.size w w' ∧ (r ≠ 0 → r ≠ 1 → r ≠ 2 → r ≠ 3 → r ≠ 8 → v = lv)

set_option maxHeartbeats 16000000 in
theorem cutChunks_any (lv ov : Value) (n m : Nat) (xs ys : List Value) (ck ca cb : Nat) (w : World) (hl : ElLL w lv n xs) (ho : ElLL w ov m ys) (hn1 : 1 ≤ n) (hn2 : n ≤ 100000) (hk : ck < 256) (ha : ca < 65536) (hb : cb < 256) (hlx : ∀ x ∈ xs, Lies (fun k => k < w.heap.size) x) (hly : ∀ x ∈ ys, Lies (fun k => k < w.heap.size) x) :
    Calls Try.prog 8 #[lv, ov, .agg #[.int .u8 (ck : Int), .int .u16 (ca : Int), .int .u8 (cb : Int)]] w (ChEnds w lv n (ck % 9)) := by
  have HL := Lib.hid hl
  have HO := Lib.hid ho
  obtain ⟨b, off, cap, rfl, h1, h2, h3, h4, h5⟩ := hl
  obtain ⟨b2, off2, cap2, rfl, g1, g2, g3, g4, g5⟩ := ho
  obtain ⟨W1, hW1⟩ : ∃ W, W = w.alloc (.cells #[.int .u8 (ck : Int), .int .u16 (ca : Int), .int .u8 (cb : Int)] 27) := ⟨_, rfl⟩
  obtain ⟨gB, hgB⟩ : ∃ g, g = w.heap.size := ⟨_, rfl⟩
  have B1 : Blk W1 gB 27 [.int .u8 (ck : Int), .int .u16 (ca : Int), .int .u8 (cb : Int)] := by rw [hW1]; exact Blk.newAt _ _ _ _ _ hgB rfl
  have k1 : Below w.heap.size w W1 := by rw [hW1]; exact (Below.refl _ _).alloc (Nat.le_refl _) _
  have c0 : W1.cell? ⟨gB, 0, none⟩ = some (.int .u8 (ck : Int)) := B1.cell 0
  have c1 : W1.cell? ⟨gB, 1, none⟩ = some (.int .u16 (ca : Int)) := B1.cell 1
  have c2 : W1.cell? ⟨gB, 2, none⟩ = some (.int .u8 (cb : Int)) := B1.cell 2
  obtain ⟨i, hi⟩ : ∃ i, i = ca % n := ⟨_, rfl⟩
  obtain ⟨k, hkk⟩ : ∃ k, k = cb % n := ⟨_, rfl⟩
  obtain ⟨r, hr⟩ : ∃ r, r = ck % 9 := ⟨_, rfl⟩
  have hin : i < n := by rw [hi]; exact Nat.mod_lt _ (by omega)
  have hkn : k < n := by rw [hkk]; exact Nat.mod_lt _ (by omega)
  have w1 : IntKind.i64.wrap (ca : Int) = (ca : Int) := by rw [IntKind.wrap_i64]; omega
  have w2 : IntKind.i64.wrap (cb : Int) = (cb : Int) := by rw [IntKind.wrap_i64]; omega
  have v1 : (ca : Int).tmod (n : Int) = (i : Int) := by rw [hi]; rfl
  have v2 : (cb : Int).tmod (n : Int) = (k : Int) := by rw [hkk]; rfl
  have v3 : (ck : Int).tmod 9 = (r : Int) := by rw [hr]; rfl
  have zn : ¬ n = 0 := by omega
  rw [← hr]
  have E1 := Lib.hid hW1
  have EG := Lib.hid hgB
  have HK1 := Lib.hid k1
  have HB1 := Lib.hid B1
  have HR : Hid (r < 9) := by rw [Hid, hr]; omega
  have HIN : Hid (i < n ∧ k < n ∧ n ≤ 100000 ∧ n ≤ cap ∧ cap ≤ maxLen ∧ xs.length = n ∧ 1 ≤ n) := ⟨hin, hkn, hn2, h1, h2, h3, hn1⟩
  clear hW1 hgB k1 B1 hi hkk hr hin hkn h1 h2 h3 h4 h5 g1 g2 g3 g4 g5 hk ha hb hn1 hn2
  go_enter Try.func8, Try.ntmps8
  go_upto_region 1 with fail
  rw [← E1.out, ← EG.out]
  go_upto_region 4 with fail
  clear c0 c1 c2 w1 w2 v1 v2 v3 zn
  have HW1 := Lib.hid HK1.out
  have HLX : Hid (∀ x ∈ xs, Lies (fun k => k < W1.heap.size) x) := fun x hx => (hlx x hx).mono fun k hk => Nat.lt_of_lt_of_le hk HK1.out.size
  have HLY : Hid (∀ x ∈ ys, Lies (fun k => k < W1.heap.size) x) := fun x hx => (hly x hx).mono fun k hk => Nat.lt_of_lt_of_le hk HK1.out.size
  clear hlx hly
  have HL1 := Lib.hid (HL.out.below HK1.out)
  have HO1 := Lib.hid (HO.out.below HK1.out)
  clear HL HO HB1 E1 EG HK1
  by_cases r0 : r = 0
  · subst r0
    obtain ⟨o, hs2, hpc⟩ := HL1.out.from_ (i + 1) (by have := HIN.out; omega)
    have hs1 := fun W => slLL_up b off n cap i (by have := HIN.out; omega) HIN.out.2.2.2.1 W
    have y3 : (i : Int) + 1 = ((i + 1 : Nat) : Int) := rfl
    have y4 : IntKind.i64.wrap ((i + 1 : Nat) : Int) = ((i + 1 : Nat) : Int) := by have := HIN.out; rw [IntKind.wrap_i64]; omega
    obtain ⟨i1, hi1⟩ : ∃ z, z = i + 1 := ⟨_, rfl⟩
    rw [← hi1] at y3 y4 hs2 hpc
    obtain ⟨q, hq⟩ : ∃ q, q = n - i1 := ⟨_, rfl⟩
    obtain ⟨qc, hqc⟩ : ∃ q, q = cap - i1 := ⟨_, rfl⟩
    rw [← hq, ← hqc] at hs2
    have HPC := Lib.hid hpc
    have HQ : Hid (i1 = i + 1 ∧ q = n - i1) := ⟨hi1, hq⟩
    have hp0 := Lib.hid (HL1.out.part 0 i (by have := HIN.out; omega))
    clear hpc hi1 hq hqc
    go_upto_region 5 with fail
    refine wp_region_any (by kernel_rfl) ?_
    change wpAny _ _ _ _ _ _ _ (World.drew _)
    refine wpAny_of_held (S := fun _ => True) _ _ _ _ ?_
    have S0 : True := trivial
    refine wpAnyH_take_at (i := 1) (v := .slice (some ⟨b, off, none⟩) n cap) rfl rfl (by kernel_rfl) (by kernel_rfl) (by kernel_rfl) (fun _ _ _ h => h) (Or.inl ⟨by rfl, fun w hS => by go_simp⟩) S0 ?_
    try simp only [List.setIfInBounds_toArray, List.set_cons_zero, List.set_cons_succ]
    refine wpAnyH_take_at (i := 2) (v := .int .i64 (i : Int)) rfl rfl (by kernel_rfl) (by kernel_rfl) (by kernel_rfl) (fun _ _ _ h => h) (Or.inl ⟨by rfl, fun w hS => by go_simp⟩) S0 ?_
    try simp only [List.setIfInBounds_toArray, List.set_cons_zero, List.set_cons_succ]
    refine wpAnyH_take_at (i := 3) (v := .slice (some ⟨b, off, none⟩) i cap) rfl rfl (by kernel_rfl) (by kernel_rfl) (by kernel_rfl) (fun _ _ _ h => h) (Or.inl ⟨by rfl, fun w hS => by go_simp⟩) S0 ?_
    try simp only [List.setIfInBounds_toArray, List.set_cons_zero, List.set_cons_succ]
    refine wpAnyH_take_at (i := 5) (v := .slice (some ⟨b, off, none⟩) n cap) rfl rfl (by kernel_rfl) (by kernel_rfl) (by kernel_rfl) (fun _ _ _ h => h) (Or.inl ⟨by rfl, fun w hS => by go_simp⟩) S0 ?_
    try simp only [List.setIfInBounds_toArray, List.set_cons_zero, List.set_cons_succ]
    refine wpAnyH_take_at (i := 6) (v := .int .i64 (i : Int)) rfl rfl (by kernel_rfl) (by kernel_rfl) (by kernel_rfl) (fun _ _ _ h => h) (Or.inl ⟨by rfl, fun w hS => by go_simp⟩) S0 ?_
    try simp only [List.setIfInBounds_toArray, List.set_cons_zero, List.set_cons_succ]
    refine wpAnyH_take_at (i := 7) (v := .int .i64 (i1 : Int)) rfl rfl (by kernel_rfl) (by kernel_rfl) (by kernel_rfl) (fun _ _ _ h => h) (Or.inl ⟨by rfl, fun w hS => by go_simp⟩) S0 ?_
    try simp only [List.setIfInBounds_toArray, List.set_cons_zero, List.set_cons_succ]
    refine wpAnyH_take_at (i := 8) (v := .slice (some ⟨b, o, none⟩) q qc) rfl rfl (by kernel_rfl) (by kernel_rfl) (by kernel_rfl) (fun _ _ _ h => h) (Or.inl ⟨by rfl, fun w hS => by go_simp⟩) S0 ?_
    try simp only [List.setIfInBounds_toArray, List.set_cons_zero, List.set_cons_succ]
    refine wpAnyH_ready (rs := [0]) (by kernel_rfl) (by simp) ?_
    refine AllReadyH.cons rfl (fun K hK => ?_) AllReadyH.nil
    go_simp
    have SPA := spel_empty W1.drew W1.heap.size (Nat.le_refl _)
    have kA : Below W1.heap.size W1 (W1.drew.alloc (.cells #[] 22)) := ((Below.refl _ W1).drew).alloc (Nat.le_refl _) _
    obtain ⟨W2, hW2⟩ : ∃ W, W = W1.drew.alloc (.cells #[] 22) := ⟨_, rfl⟩
    rw [← hW2] at SPA kA
    rw [show (W1.alloc (.cells #[] 22)).drew = W2 by rw [hW2]; rfl]
    refine hK.out _ _ trivial (fun _ => ?_)
    clear hK hW2
    refine wpAnyH_ready (rs := [4]) (by kernel_rfl) (by simp) ?_
    refine AllReadyH.cons rfl (fun K hK => ?_) AllReadyH.nil
    have hL2 := HL1.out.below kA
    have hxlen := HIN.out.2.2.2.2.2.1
    refine step_spel rfl (.tmp 29) (.tmp 32) rfl W1.heap.size _ [] rfl SPA ⟨b, off, none⟩ i cap (xs.take i) rfl (by rw [List.length_take, hxlen]; have := HIN.out; omega) (fun j u hj => hL2.part 0 i (by have := HIN.out; omega) j u (by rw [List.drop_zero]; exact hj)) (fun x hx => ⟨hL2.mem x (List.mem_of_mem_take hx), HLX.out x (List.mem_of_mem_take hx)⟩) (by have := HIN.out; rw [List.length_nil]; omega) kA.size ?_
    intro v3 w3 SP3 k3 _
    rw [List.nil_append] at SP3
    have kB : Below W1.heap.size W1 w3 := kA.trans k3
    refine hK.out _ _ trivial (fun _ => ?_)
    clear hK
    refine wpAnyH_ready (rs := [9]) (by kernel_rfl) (by simp) ?_
    refine AllReadyH.cons rfl (fun K hK => ?_) AllReadyH.nil
    have hL3 := HL1.out.below kB
    refine step_spel rfl (.tmp 33) (.tmp 37) rfl W1.heap.size _ (xs.take i) rfl SP3 ⟨b, o, none⟩ q qc (xs.drop i1) rfl (by rw [List.length_drop, hxlen, HQ.out.2]) (fun j u hj => ?b1) (fun x hx => ⟨hL3.mem x (List.mem_of_mem_drop hx), HLX.out x (List.mem_of_mem_drop hx)⟩) (by have := HIN.out; have := HQ.out; rw [List.length_take]; omega) kB.size ?_
    case b1 =>
      have h0 := HPC.out j u hj
      rw [← h0]
      exact (kB.cell (World.block_lt_of_cell? _ _ h0))
    intro v4 w4 SP4 k4 _
    have K4 : Hid (Below w.heap.size w w4) := HW1.out.trans ((kB.trans k4).mono HW1.out.size)
    have HLLR := Lib.hid SP4.llr
    have HLEN4 : Hid ((xs.take i ++ xs.drop i1).length ≤ n + 1) := by rw [Hid, List.length_append, List.length_take, List.length_drop, hxlen]; have := HIN.out; have := HQ.out; omega
    refine hK.out _ _ trivial (fun _ => ?_)
    clear hK
    refine wpAnyH_take_at (i := 10) (v := v4) rfl rfl (by kernel_rfl) (by kernel_rfl) (by kernel_rfl) (fun _ _ _ h => h) (Or.inl ⟨by rfl, fun w hS => by go_simp⟩) S0 ?_
    try simp only [List.setIfInBounds_toArray, List.set_cons_zero, List.set_cons_succ]
    refine wpAnyH_done (by kernel_rfl) ?_ _
    clear SP4 SP3 SPA k3 k4 kA kB hL2 hL3 hp0 HPC hs1 hs2 y3 y4
    go_wp2
    go_ret
    exact ⟨v4, _, rfl, HLLR.out, HLEN4.out, K4.out, fun h => absurd rfl h⟩
  · by_cases r1 : r = 1
    · subst r1
      obtain ⟨o, hs2, hpc⟩ := HL1.out.from_ i (by have := HIN.out; omega)
      have hs1 := fun W => slLL_up b off n cap i (by have := HIN.out; omega) HIN.out.2.2.2.1 W
      obtain ⟨q, hq⟩ : ∃ q, q = n - i := ⟨_, rfl⟩
      obtain ⟨qc, hqc⟩ : ∃ q, q = cap - i := ⟨_, rfl⟩
      rw [← hq, ← hqc] at hs2
      have HPC := Lib.hid hpc
      have HQ : Hid (q = n - i) := hq
      have hxlen := HIN.out.2.2.2.2.2.1
      have hcell : W1.cell? ⟨b, off + i, none⟩ = some (xs.getD i undef) := by
        obtain ⟨_, _, _, e, _, _, _, h4, _⟩ := HL1.out
        injection e with e _ _
        injection e with e
        injection e with e1 e2 _
        subst e1 e2
        exact h4 i HIN.out.1
      have hxi : xs.getD i undef ∈ xs := by rw [List.getD_eq_getElem?_getD, List.getElem?_eq_getElem (by have := HIN.out; omega)]; exact List.getElem_mem _
      obtain ⟨xi, hxe⟩ : ∃ x, x = xs.getD i undef := ⟨_, rfl⟩
      rw [← hxe] at hcell hxi
      have HXI := Lib.hid hxi
      have HCELL := Lib.hid hcell
      have hElx := (HL1.out.mem xi hxi)
      obtain ⟨xia, xin, xic, hxsh⟩ : ∃ a n c, xi = .slice a n c := by
        obtain ⟨bs, h1, _⟩ := hElx
        obtain ⟨a, c, e⟩ := h1.shape
        exact ⟨a, _, c, e⟩
      subst hxsh
      have i0 : (0 : Int) ≤ (i : Int) := Int.natCast_nonneg i
      have i1 : (i : Int) < (n : Int) := by have := HIN.out.1; omega
      clear hpc hq hqc hcell hxi hxe hElx r0
      go_upto_region 7 with fail
      refine wp_region_any (by kernel_rfl) ?_
      change wpAny _ _ _ _ _ _ _ (World.drew _)
      refine wpAny_of_held (S := fun w' => w'.cell? ⟨b, off + i, none⟩ = some (.slice xia xin xic)) _ _ _ _ ?_
      have S0 : W1.drew.cell? ⟨b, off + i, none⟩ = some (.slice xia xin xic) := HCELL.out
      refine wpAnyH_take_at (i := 1) (v := .slice (some ⟨b, off, none⟩) n cap) rfl rfl (by kernel_rfl) (by kernel_rfl) (by kernel_rfl) (fun _ _ _ h => h) (Or.inl ⟨by rfl, fun w hS => by go_simp⟩) S0 ?_
      try simp only [List.setIfInBounds_toArray, List.set_cons_zero, List.set_cons_succ]
      refine wpAnyH_take_at (i := 2) (v := .int .i64 (i : Int)) rfl rfl (by kernel_rfl) (by kernel_rfl) (by kernel_rfl) (fun _ _ _ h => h) (Or.inl ⟨by rfl, fun w hS => by go_simp⟩) S0 ?_
      try simp only [List.setIfInBounds_toArray, List.set_cons_zero, List.set_cons_succ]
      refine wpAnyH_take_at (i := 3) (v := .slice (some ⟨b, off, none⟩) i cap) rfl rfl (by kernel_rfl) (by kernel_rfl) (by kernel_rfl) (fun _ _ _ h => h) (Or.inl ⟨by rfl, fun w hS => by go_simp⟩) S0 ?_
      try simp only [List.setIfInBounds_toArray, List.set_cons_zero, List.set_cons_succ]
      refine wpAnyH_take_at (i := 5) (v := .slice (some ⟨b, off, none⟩) n cap) rfl rfl (by kernel_rfl) (by kernel_rfl) (by kernel_rfl) (fun _ _ _ h => h) (Or.inl ⟨by rfl, fun w hS => by go_simp⟩) S0 ?_
      try simp only [List.setIfInBounds_toArray, List.set_cons_zero, List.set_cons_succ]
      refine wpAnyH_take_at (i := 6) (v := .int .i64 (i : Int)) rfl rfl (by kernel_rfl) (by kernel_rfl) (by kernel_rfl) (fun _ _ _ h => h) (Or.inl ⟨by rfl, fun w hS => by go_simp⟩) S0 ?_
      try simp only [List.setIfInBounds_toArray, List.set_cons_zero, List.set_cons_succ]
      refine wpAnyH_take_at (i := 7) (v := .pointer (some ⟨b, off + i, none⟩)) rfl rfl (by kernel_rfl) (by kernel_rfl) (by kernel_rfl) (fun _ _ _ h => h) (Or.inl ⟨by rfl, fun w hS => by go_simp⟩) S0 ?_
      try simp only [List.setIfInBounds_toArray, List.set_cons_zero, List.set_cons_succ]
      refine wpAnyH_take_at (i := 8) (v := .slice xia xin xic) rfl rfl (by kernel_rfl) (by kernel_rfl) (by kernel_rfl) (fun _ _ _ h => h) (Or.inl ⟨by rfl, fun w hS => by have c := hS; go_simp⟩) S0 ?_
      try simp only [List.setIfInBounds_toArray, List.set_cons_zero, List.set_cons_succ]
      refine wpAnyH_take_at (i := 11) (v := .slice (some ⟨b, off, none⟩) n cap) rfl rfl (by kernel_rfl) (by kernel_rfl) (by kernel_rfl) (fun _ _ _ h => h) (Or.inl ⟨by rfl, fun w hS => by go_simp⟩) S0 ?_
      try simp only [List.setIfInBounds_toArray, List.set_cons_zero, List.set_cons_succ]
      refine wpAnyH_take_at (i := 12) (v := .int .i64 (i : Int)) rfl rfl (by kernel_rfl) (by kernel_rfl) (by kernel_rfl) (fun _ _ _ h => h) (Or.inl ⟨by rfl, fun w hS => by go_simp⟩) S0 ?_
      try simp only [List.setIfInBounds_toArray, List.set_cons_zero, List.set_cons_succ]
      refine wpAnyH_take_at (i := 13) (v := .slice (some ⟨b, o, none⟩) q qc) rfl rfl (by kernel_rfl) (by kernel_rfl) (by kernel_rfl) (fun _ _ _ h => h) (Or.inl ⟨by rfl, fun w hS => by go_simp⟩) S0 ?_
      try simp only [List.setIfInBounds_toArray, List.set_cons_zero, List.set_cons_succ]
      refine wpAnyH_ready (rs := [0, 9]) (by kernel_rfl) (by simp) ?_
      refine AllReadyH.cons rfl (fun K hK => ?_) (AllReadyH.cons rfl (fun K hK => ?_) AllReadyH.nil)
      · go_simp
        have SPP0 := spel_empty W1.drew W1.heap.size (Nat.le_refl _)
        have kP0 : Below W1.heap.size W1 (W1.drew.alloc (.cells #[] 22)) := ((Below.refl _ W1).drew).alloc (Nat.le_refl _) _
        have hz0 : (W1.drew.alloc (.cells #[] 22)).heap.size = W1.heap.size + 1 := by simp
        obtain ⟨W2, hW2⟩ : ∃ W, W = W1.drew.alloc (.cells #[] 22) := ⟨_, rfl⟩
        rw [← hW2] at SPP0 kP0 hz0
        have HZ0 := Lib.hid hz0
        clear hz0
        rw [show (W1.alloc (.cells #[] 22)).drew = W2 by rw [hW2]; rfl]
        refine hK.out _ _ (by rw [← HCELL.out]; exact kP0.cell (World.block_lt_of_cell? _ _ HCELL.out)) (fun _ => ?_)
        clear hK hW2
        refine wpAnyH_ready (rs := [4, 9]) (by kernel_rfl) (by simp) ?_
        refine AllReadyH.cons rfl (fun K hK => ?_) (AllReadyH.cons rfl (fun K hK => ?_) AllReadyH.nil)
        · have SPP := SPP0
          have kP := kP0

          have hL2 := HL1.out.below kP
          refine step_spel rfl (.tmp 41) (.tmp 44) rfl W1.heap.size _ [] rfl SPP ⟨b, off, none⟩ i cap (xs.take i) rfl (by rw [List.length_take, hxlen]; have := HIN.out; omega) (fun j u hj => hL2.part 0 i (by have := HIN.out; omega) j u (by rw [List.drop_zero]; exact hj)) (fun x hx => ⟨hL2.mem x (List.mem_of_mem_take hx), HLX.out x (List.mem_of_mem_take hx)⟩) (by have := HIN.out; rw [List.length_nil]; omega) kP.size ?_
          intro v3 w3 SPQ k3 g3
          rw [List.nil_append] at SPQ
          have kQ : Below W1.heap.size W1 w3 := kP.trans k3

          refine hK.out _ _ (by rw [← HCELL.out]; exact kQ.cell (World.block_lt_of_cell? _ _ HCELL.out)) (fun _ => ?_)
          clear hK
          refine wpAnyH_ready (rs := [9]) (by kernel_rfl) (by simp) ?_
          refine AllReadyH.cons rfl (fun K hK => ?_) AllReadyH.nil
          go_simp
          obtain ⟨W4, hW4⟩ : ∃ W, W = w3.alloc (.cells #[.slice xia xin xic] 22) := ⟨_, rfl⟩
          have k34 : Below w3.heap.size w3 W4 := by rw [hW4]; exact (Below.refl _ _).alloc (Nat.le_refl _) _
          obtain ⟨gT, hgT⟩ : ∃ g, g = w3.heap.size := ⟨_, rfl⟩
          have bT : Blk W4 gT 22 [Value.slice xia xin xic] := by rw [hW4, hgT]; exact Blk.newAt _ _ _ _ _ rfl rfl
          have cT : W4.cell? ⟨gT, 0, none⟩ = some (.slice xia xin xic) := bT.cell 0
          have SPT := SPQ.below k34
          have kT : Below W1.heap.size W1 W4 := kQ.trans (k34.mono kQ.size)
          rw [← hW4, ← hgT]
          refine hK.out _ _ (by rw [← HCELL.out]; exact kT.cell (World.block_lt_of_cell? _ _ HCELL.out)) (fun _ => ?_)
          clear hK hW4 hgT

          refine wpAnyH_ready (rs := [10]) (by kernel_rfl) (by simp) ?_
          refine AllReadyH.cons rfl (fun K hK => ?_) AllReadyH.nil
          have hL5 := HL1.out.below kT
          refine step_spel rfl (.tmp 45) (.tmp 50) rfl W1.heap.size _ (xs.take i) rfl SPT ⟨gT, 0, none⟩ 1 1 [Value.slice xia xin xic] rfl rfl (fun j u hj => ?t1) (fun x hx => ?t2) (by have := HIN.out; rw [List.length_take]; omega) kT.size ?_
          case t1 =>
            have hj0 : j = 0 := by have := (List.getElem?_eq_some_iff.1 hj).1; simp at this; omega
            subst hj0
            simp only [List.getElem?_cons_zero, Option.some.injEq] at hj
            rw [Addr.add_lit, ← hj]
            exact cT
          case t2 =>
            have e := List.mem_singleton.1 hx
            rw [e]
            exact ⟨hL5.mem _ HXI.out, HLX.out _ HXI.out⟩
          intro v6 w6 SP6 k6 _
          have kC : Below W1.heap.size W1 w6 := kT.trans k6
          refine hK.out _ _ (by rw [← HCELL.out]; exact kC.cell (World.block_lt_of_cell? _ _ HCELL.out)) (fun _ => ?_)
          clear hK
          refine wpAnyH_ready (rs := [14]) (by kernel_rfl) (by simp) ?_
          refine AllReadyH.cons rfl (fun K hK => ?_) AllReadyH.nil
          have hL6 := HL1.out.below kC
          refine step_spel rfl (.tmp 51) (.tmp 54) rfl W1.heap.size _ (xs.take i ++ [Value.slice xia xin xic]) rfl SP6 ⟨b, o, none⟩ q qc (xs.drop i) rfl (by rw [List.length_drop, hxlen, HQ.out]) (fun j u hj => ?t3) (fun x hx => ⟨hL6.mem x (List.mem_of_mem_drop hx), HLX.out x (List.mem_of_mem_drop hx)⟩) (by have := HIN.out; have := HQ.out; rw [List.length_append, List.length_take, List.length_singleton]; omega) kC.size ?_
          case t3 =>
            have h0 := HPC.out j u hj
            rw [← h0]
            exact (kC.cell (World.block_lt_of_cell? _ _ h0))
          intro v7 w7 SP7 k7 _
          have K7 : Hid (Below w.heap.size w w7) := HW1.out.trans ((kC.trans k7).mono HW1.out.size)
          have HLLR := Lib.hid SP7.llr
          have HLEN7 : Hid ((xs.take i ++ [Value.slice xia xin xic] ++ xs.drop i).length ≤ n + 1) := by rw [Hid, List.length_append, List.length_append, List.length_take, List.length_drop, hxlen, List.length_singleton]; have := HIN.out; omega
          have S7 : w7.cell? ⟨b, off + i, none⟩ = some (.slice xia xin xic) := by rw [← HCELL.out]; exact (kC.trans k7).cell (World.block_lt_of_cell? _ _ HCELL.out)
          refine hK.out _ _ S7 (fun _ => ?_)
          clear hK
          refine wpAnyH_take_at (i := 15) (v := v7) rfl rfl (by kernel_rfl) (by kernel_rfl) (by kernel_rfl) (fun _ _ _ h => h) (Or.inl ⟨by rfl, fun w hS => by go_simp⟩) S7 ?_
          try simp only [List.setIfInBounds_toArray, List.set_cons_zero, List.set_cons_succ]
          refine wpAnyH_done (by kernel_rfl) ?_ _
          clear SP7 SP6 SPT k6 k7 kT kC hL5 hL6 cT HPC hs1 hs2 S0 S7
          go_wp2
          go_ret
          exact ⟨v7, _, rfl, HLLR.out, HLEN7.out, K7.out, fun _ h => absurd rfl h⟩
        · go_simp
          obtain ⟨W4, hW4⟩ : ∃ W, W = W2.alloc (.cells #[.slice xia xin xic] 22) := ⟨_, rfl⟩
          have k34 : Below W2.heap.size W2 W4 := by rw [hW4]; exact (Below.refl _ _).alloc (Nat.le_refl _) _
          obtain ⟨gT, hgT⟩ : ∃ g, g = W2.heap.size := ⟨_, rfl⟩
          have bT : Blk W4 gT 22 [Value.slice xia xin xic] := by rw [hW4, hgT]; exact Blk.newAt _ _ _ _ _ rfl rfl
          have cT0 : W4.cell? ⟨gT, 0, none⟩ = some (.slice xia xin xic) := bT.cell 0
          have SPP := SPP0.below k34
          have kP : Below W1.heap.size W1 W4 := kP0.trans (k34.mono kP0.size)
          rw [← hW4, ← hgT]
          refine hK.out _ _ (by rw [← HCELL.out]; exact kP.cell (World.block_lt_of_cell? _ _ HCELL.out)) (fun _ => ?_)
          clear hK hW4
          refine wpAnyH_ready (rs := [4]) (by kernel_rfl) (by simp) ?_
          refine AllReadyH.cons rfl (fun K hK => ?_) AllReadyH.nil

          have hL2 := HL1.out.below kP
          refine step_spel rfl (.tmp 41) (.tmp 44) rfl W1.heap.size _ [] rfl SPP ⟨b, off, none⟩ i cap (xs.take i) rfl (by rw [List.length_take, hxlen]; have := HIN.out; omega) (fun j u hj => hL2.part 0 i (by have := HIN.out; omega) j u (by rw [List.drop_zero]; exact hj)) (fun x hx => ⟨hL2.mem x (List.mem_of_mem_take hx), HLX.out x (List.mem_of_mem_take hx)⟩) (by have := HIN.out; rw [List.length_nil]; omega) kP.size ?_
          intro v3 w3 SPT k3 g3
          rw [List.nil_append] at SPT
          have kT : Below W1.heap.size W1 w3 := kP.trans k3

          have cT : w3.cell? ⟨gT, 0, none⟩ = some (.slice xia xin xic) := g3.cell cT0 (by intro e; injection e with e; have := HZ0.out; first | (have e2 : gT = W1.heap.size := e; omega) | (have e2 : W1.heap.size = gT := e; omega))
          refine hK.out _ _ (by rw [← HCELL.out]; exact kT.cell (World.block_lt_of_cell? _ _ HCELL.out)) (fun _ => ?_)
          clear hK

          refine wpAnyH_ready (rs := [10]) (by kernel_rfl) (by simp) ?_
          refine AllReadyH.cons rfl (fun K hK => ?_) AllReadyH.nil
          have hL5 := HL1.out.below kT
          refine step_spel rfl (.tmp 45) (.tmp 50) rfl W1.heap.size _ (xs.take i) rfl SPT ⟨gT, 0, none⟩ 1 1 [Value.slice xia xin xic] rfl rfl (fun j u hj => ?t4) (fun x hx => ?t5) (by have := HIN.out; rw [List.length_take]; omega) kT.size ?_
          case t4 =>
            have hj0 : j = 0 := by have := (List.getElem?_eq_some_iff.1 hj).1; simp at this; omega
            subst hj0
            simp only [List.getElem?_cons_zero, Option.some.injEq] at hj
            rw [Addr.add_lit, ← hj]
            exact cT
          case t5 =>
            have e := List.mem_singleton.1 hx
            rw [e]
            exact ⟨hL5.mem _ HXI.out, HLX.out _ HXI.out⟩
          intro v6 w6 SP6 k6 _
          have kC : Below W1.heap.size W1 w6 := kT.trans k6
          refine hK.out _ _ (by rw [← HCELL.out]; exact kC.cell (World.block_lt_of_cell? _ _ HCELL.out)) (fun _ => ?_)
          clear hK
          refine wpAnyH_ready (rs := [14]) (by kernel_rfl) (by simp) ?_
          refine AllReadyH.cons rfl (fun K hK => ?_) AllReadyH.nil
          have hL6 := HL1.out.below kC
          refine step_spel rfl (.tmp 51) (.tmp 54) rfl W1.heap.size _ (xs.take i ++ [Value.slice xia xin xic]) rfl SP6 ⟨b, o, none⟩ q qc (xs.drop i) rfl (by rw [List.length_drop, hxlen, HQ.out]) (fun j u hj => ?t6) (fun x hx => ⟨hL6.mem x (List.mem_of_mem_drop hx), HLX.out x (List.mem_of_mem_drop hx)⟩) (by have := HIN.out; have := HQ.out; rw [List.length_append, List.length_take, List.length_singleton]; omega) kC.size ?_
          case t6 =>
            have h0 := HPC.out j u hj
            rw [← h0]
            exact (kC.cell (World.block_lt_of_cell? _ _ h0))
          intro v7 w7 SP7 k7 _
          have K7 : Hid (Below w.heap.size w w7) := HW1.out.trans ((kC.trans k7).mono HW1.out.size)
          have HLLR := Lib.hid SP7.llr
          have HLEN7 : Hid ((xs.take i ++ [Value.slice xia xin xic] ++ xs.drop i).length ≤ n + 1) := by rw [Hid, List.length_append, List.length_append, List.length_take, List.length_drop, hxlen, List.length_singleton]; have := HIN.out; omega
          have S7 : w7.cell? ⟨b, off + i, none⟩ = some (.slice xia xin xic) := by rw [← HCELL.out]; exact (kC.trans k7).cell (World.block_lt_of_cell? _ _ HCELL.out)
          refine hK.out _ _ S7 (fun _ => ?_)
          clear hK
          refine wpAnyH_take_at (i := 15) (v := v7) rfl rfl (by kernel_rfl) (by kernel_rfl) (by kernel_rfl) (fun _ _ _ h => h) (Or.inl ⟨by rfl, fun w hS => by go_simp⟩) S7 ?_
          try simp only [List.setIfInBounds_toArray, List.set_cons_zero, List.set_cons_succ]
          refine wpAnyH_done (by kernel_rfl) ?_ _
          clear SP7 SP6 SPT k6 k7 kT kC hL5 hL6 cT HPC hs1 hs2 S0 S7
          go_wp2
          go_ret
          exact ⟨v7, _, rfl, HLLR.out, HLEN7.out, K7.out, fun _ h => absurd rfl h⟩
      · go_simp
        have kP0 : Below W1.heap.size W1 (W1.drew.alloc (.cells #[.slice xia xin xic] 22)) := ((Below.refl _ W1).drew).alloc (Nat.le_refl _) _
        obtain ⟨W2, hW2⟩ : ∃ W, W = W1.drew.alloc (.cells #[.slice xia xin xic] 22) := ⟨_, rfl⟩
        obtain ⟨gT, hgT⟩ : ∃ g, g = W1.heap.size := ⟨_, rfl⟩
        have HZ0 : Hid (W2.heap.size = W1.heap.size + 1) := by rw [Hid, hW2]; simp
        have bT : Blk W2 gT 22 [Value.slice xia xin xic] := by rw [hW2, hgT]; exact Blk.newAt _ _ _ _ _ rfl rfl
        have cT0 : W2.cell? ⟨gT, 0, none⟩ = some (.slice xia xin xic) := bT.cell 0
        rw [← hW2] at kP0
        rw [show (W1.alloc (.cells #[.slice xia xin xic] 22)).drew = W2 by rw [hW2]; rfl]
        refine hK.out _ _ (by rw [← HCELL.out]; exact kP0.cell (World.block_lt_of_cell? _ _ HCELL.out)) (fun _ => ?_)
        clear hK hW2
        refine wpAnyH_ready (rs := [0]) (by kernel_rfl) (by simp) ?_
        refine AllReadyH.cons rfl (fun K hK => ?_) AllReadyH.nil
        go_simp
        have SPP := spel_empty W2 W1.heap.size kP0.size
        have k24 : Below W2.heap.size W2 (W2.alloc (.cells #[] 22)) := (Below.refl _ _).alloc (Nat.le_refl _) _
        obtain ⟨W4, hW4⟩ : ∃ W, W = W2.alloc (.cells #[] 22) := ⟨_, rfl⟩
        rw [← hW4] at SPP k24 ⊢
        have kP : Below W1.heap.size W1 W4 := kP0.trans (k24.mono kP0.size)
        have cT1 : W4.cell? ⟨gT, 0, none⟩ = some (.slice xia xin xic) := (k24.cell (World.block_lt_of_cell? _ _ cT0)).trans cT0
        rw [← hgT]
        refine hK.out _ _ (by rw [← HCELL.out]; exact kP.cell (World.block_lt_of_cell? _ _ HCELL.out)) (fun _ => ?_)
        clear hK hW4
        refine wpAnyH_ready (rs := [4]) (by kernel_rfl) (by simp) ?_
        refine AllReadyH.cons rfl (fun K hK => ?_) AllReadyH.nil

        have hL2 := HL1.out.below kP
        refine step_spel rfl (.tmp 41) (.tmp 44) rfl W1.heap.size _ [] rfl SPP ⟨b, off, none⟩ i cap (xs.take i) rfl (by rw [List.length_take, hxlen]; have := HIN.out; omega) (fun j u hj => hL2.part 0 i (by have := HIN.out; omega) j u (by rw [List.drop_zero]; exact hj)) (fun x hx => ⟨hL2.mem x (List.mem_of_mem_take hx), HLX.out x (List.mem_of_mem_take hx)⟩) (by have := HIN.out; rw [List.length_nil]; omega) kP.size ?_
        intro v3 w3 SPT k3 g3
        rw [List.nil_append] at SPT
        have kT : Below W1.heap.size W1 w3 := kP.trans k3

        have cT : w3.cell? ⟨gT, 0, none⟩ = some (.slice xia xin xic) := g3.cell cT1 (by intro e; injection e with e; have := HZ0.out; first | (have e2 : gT = W2.heap.size := e; omega) | (have e2 : W2.heap.size = gT := e; omega))
        refine hK.out _ _ (by rw [← HCELL.out]; exact kT.cell (World.block_lt_of_cell? _ _ HCELL.out)) (fun _ => ?_)
        clear hK

        refine wpAnyH_ready (rs := [10]) (by kernel_rfl) (by simp) ?_
        refine AllReadyH.cons rfl (fun K hK => ?_) AllReadyH.nil
        have hL5 := HL1.out.below kT
        refine step_spel rfl (.tmp 45) (.tmp 50) rfl W1.heap.size _ (xs.take i) rfl SPT ⟨gT, 0, none⟩ 1 1 [Value.slice xia xin xic] rfl rfl (fun j u hj => ?t7) (fun x hx => ?t8) (by have := HIN.out; rw [List.length_take]; omega) kT.size ?_
        case t7 =>
          have hj0 : j = 0 := by have := (List.getElem?_eq_some_iff.1 hj).1; simp at this; omega
          subst hj0
          simp only [List.getElem?_cons_zero, Option.some.injEq] at hj
          rw [Addr.add_lit, ← hj]
          exact cT
        case t8 =>
          have e := List.mem_singleton.1 hx
          rw [e]
          exact ⟨hL5.mem _ HXI.out, HLX.out _ HXI.out⟩
        intro v6 w6 SP6 k6 _
        have kC : Below W1.heap.size W1 w6 := kT.trans k6
        refine hK.out _ _ (by rw [← HCELL.out]; exact kC.cell (World.block_lt_of_cell? _ _ HCELL.out)) (fun _ => ?_)
        clear hK
        refine wpAnyH_ready (rs := [14]) (by kernel_rfl) (by simp) ?_
        refine AllReadyH.cons rfl (fun K hK => ?_) AllReadyH.nil
        have hL6 := HL1.out.below kC
        refine step_spel rfl (.tmp 51) (.tmp 54) rfl W1.heap.size _ (xs.take i ++ [Value.slice xia xin xic]) rfl SP6 ⟨b, o, none⟩ q qc (xs.drop i) rfl (by rw [List.length_drop, hxlen, HQ.out]) (fun j u hj => ?t9) (fun x hx => ⟨hL6.mem x (List.mem_of_mem_drop hx), HLX.out x (List.mem_of_mem_drop hx)⟩) (by have := HIN.out; have := HQ.out; rw [List.length_append, List.length_take, List.length_singleton]; omega) kC.size ?_
        case t9 =>
          have h0 := HPC.out j u hj
          rw [← h0]
          exact (kC.cell (World.block_lt_of_cell? _ _ h0))
        intro v7 w7 SP7 k7 _
        have K7 : Hid (Below w.heap.size w w7) := HW1.out.trans ((kC.trans k7).mono HW1.out.size)
        have HLLR := Lib.hid SP7.llr
        have HLEN7 : Hid ((xs.take i ++ [Value.slice xia xin xic] ++ xs.drop i).length ≤ n + 1) := by rw [Hid, List.length_append, List.length_append, List.length_take, List.length_drop, hxlen, List.length_singleton]; have := HIN.out; omega
        have S7 : w7.cell? ⟨b, off + i, none⟩ = some (.slice xia xin xic) := by rw [← HCELL.out]; exact (kC.trans k7).cell (World.block_lt_of_cell? _ _ HCELL.out)
        refine hK.out _ _ S7 (fun _ => ?_)
        clear hK
        refine wpAnyH_take_at (i := 15) (v := v7) rfl rfl (by kernel_rfl) (by kernel_rfl) (by kernel_rfl) (fun _ _ _ h => h) (Or.inl ⟨by rfl, fun w hS => by go_simp⟩) S7 ?_
        try simp only [List.setIfInBounds_toArray, List.set_cons_zero, List.set_cons_succ]
        refine wpAnyH_done (by kernel_rfl) ?_ _
        clear SP7 SP6 SPT k6 k7 kT kC hL5 hL6 cT HPC hs1 hs2 S0 S7
        go_wp2
        go_ret
        exact ⟨v7, _, rfl, HLLR.out, HLEN7.out, K7.out, fun _ h => absurd rfl h⟩
    · have hxlen := HIN.out.2.2.2.2.2.1
      have i0 : (0 : Int) ≤ (i : Int) := Int.natCast_nonneg i
      have i1 : (i : Int) < (n : Int) := by have := HIN.out.1; omega
      have k0 : (0 : Int) ≤ (k : Int) := Int.natCast_nonneg k
      have k1 : (k : Int) < (n : Int) := by have := HIN.out.2.1; omega
      have SPA := spel_empty W1 W1.heap.size (Nat.le_refl _)
      have kA : Below W1.heap.size W1 (W1.alloc (.cells #[] 22)) := (Below.refl _ W1).alloc (Nat.le_refl _) _
      have HCOPY : Hid (∀ j u, xs[j]? = some u → (W1.alloc (.cells #[] 22)).cell? ((⟨b, off, none⟩ : Addr).add j) = some u) := fun j u hj => (HL1.out.below kA).part 0 n (by omega) j u (by rw [List.drop_zero, List.take_of_length_le (by omega)]; exact hj)
      have HME : Hid (∀ x ∈ xs, El (W1.alloc (.cells #[] 22)) x ∧ Lies (fun k => k < W1.heap.size) x) := fun x hx => ⟨(HL1.out.below kA).mem x hx, HLX.out x hx⟩
      have HSPA := Lib.hid SPA
      have HKA := Lib.hid kA
      clear SPA kA
      by_cases r3 : r = 3
      · subst r3
        clear r0 r1
        go_upto_region 13 with fail
        go_wp2_with (at_builtin; go_must (refine wpList_spel rfl _ _ rfl W1.heap.size _ [] rfl HSPA.out ⟨b, off, none⟩ n cap xs rfl hxlen HCOPY.out HME.out (by have := HIN.out; rw [List.length_nil]; omega) HKA.out.size ?_))
        intro v3 w3 SP3 k3
        try rw [List.nil_append] at SP3
        obtain ⟨g, gc, rfl, hg1, hg2⟩ := SP3.shape (by have := HIN.out; omega)
        have hel : ∀ x ∈ xs, El w3 x := fun x hx => SP3.each x hx
        have ci : w3.cell? ⟨g, i, none⟩ = some (xs.getD i undef) := SP3.cell (by have := HIN.out; omega)
        have ck : w3.cell? ⟨g, k, none⟩ = some (xs.getD k undef) := SP3.cell (by have := HIN.out; omega)
        have fk : w3.frozen? ⟨g, k, none⟩ = false := SP3.row.frozenAt k
        have hxi : xs.getD i undef ∈ xs := by rw [List.getD_eq_getElem?_getD, List.getElem?_eq_getElem (by have := HIN.out; omega)]; exact List.getElem_mem _
        have hxk : xs.getD k undef ∈ xs := by rw [List.getD_eq_getElem?_getD, List.getElem?_eq_getElem (by have := HIN.out; omega)]; exact List.getElem_mem _
        obtain ⟨xi, hxie⟩ : ∃ x, x = xs.getD i undef := ⟨_, rfl⟩
        obtain ⟨xk, hxke⟩ : ∃ x, x = xs.getD k undef := ⟨_, rfl⟩
        rw [← hxie] at ci hxi
        rw [← hxke] at ck hxk
        have SP4 := SP3.set hg1 (hel xi hxi) (HLX.out xi hxi) k
        obtain ⟨xia, xin, xic, rfl⟩ : ∃ a n c, xi = .slice a n c := by obtain ⟨bs, h1, _⟩ := hel xi hxi; obtain ⟨a, c, e⟩ := h1.shape; exact ⟨a, _, c, e⟩
        obtain ⟨xka, xkn, xkc, rfl⟩ : ∃ a n c, xk = .slice a n c := by obtain ⟨bs, h1, _⟩ := hel xk hxk; obtain ⟨a, c, e⟩ := h1.shape; exact ⟨a, _, c, e⟩
        have HLLR := Lib.hid SP4.llr
        have HLEN4 : Hid ((xs.set k (.slice xia xin xic)).length ≤ n + 1) := by rw [Hid, List.length_set, hxlen]; omega
        have K4 : Hid (Below w.heap.size w (w3.setCell ⟨g, k, none⟩ (.slice xia xin xic))) := ((HW1.out.trans (HKA.out.mono HW1.out.size)).trans (k3.mono HW1.out.size)).setCell (Nat.le_trans HW1.out.size hg1) _
        rw [hxlen] at HLLR ⊢
        clear SP4 SP3 hel hxi hxk hxie hxke k3 hg1 hg2 HSPA HKA HCOPY HME
        go_wp2
        go_ret
        exact ⟨_, _, rfl, HLLR.out, HLEN4.out, K4.out, fun _ _ _ h => absurd rfl h⟩
      · by_cases r8 : r = 8
        · subst r8
          clear r0 r1 r3
          go_upto_region 17 with fail
          go_wp2_with (at_builtin; go_must (refine wpList_spel rfl _ _ rfl W1.heap.size _ [] rfl HSPA.out ⟨b, off, none⟩ n cap xs rfl hxlen HCOPY.out HME.out (by have := HIN.out; rw [List.length_nil]; omega) HKA.out.size ?_))
          intro v3 w3 SP3 k3
          try rw [List.nil_append] at SP3
          obtain ⟨g, gc, rfl, hg1, hg2⟩ := SP3.shape (by have := HIN.out; omega)
          have hel : ∀ x ∈ xs, El w3 x := fun x hx => SP3.each x hx
          have ci : w3.cell? ⟨g, i, none⟩ = some (xs.getD i undef) := SP3.cell (by have := HIN.out; omega)
          have ck : w3.cell? ⟨g, k, none⟩ = some (xs.getD k undef) := SP3.cell (by have := HIN.out; omega)
          have fi : w3.frozen? ⟨g, i, none⟩ = false := SP3.row.frozenAt i
          have fk : w3.frozen? ⟨g, k, none⟩ = false := SP3.row.frozenAt k
          have hxi : xs.getD i undef ∈ xs := by rw [List.getD_eq_getElem?_getD, List.getElem?_eq_getElem (by have := HIN.out; omega)]; exact List.getElem_mem _
          have hxk : xs.getD k undef ∈ xs := by rw [List.getD_eq_getElem?_getD, List.getElem?_eq_getElem (by have := HIN.out; omega)]; exact List.getElem_mem _
          obtain ⟨xi, hxie⟩ : ∃ x, x = xs.getD i undef := ⟨_, rfl⟩
          obtain ⟨xk, hxke⟩ : ∃ x, x = xs.getD k undef := ⟨_, rfl⟩
          rw [← hxie] at ci hxi
          rw [← hxke] at ck hxk
          obtain ⟨xia, xin, xic, rfl⟩ : ∃ a n c, xi = .slice a n c := by obtain ⟨bs, h1, _⟩ := hel xi hxi; obtain ⟨a, c, e⟩ := h1.shape; exact ⟨a, _, c, e⟩
          obtain ⟨xka, xkn, xkc, rfl⟩ : ∃ a n c, xk = .slice a n c := by obtain ⟨bs, h1, _⟩ := hel xk hxk; obtain ⟨a, c, e⟩ := h1.shape; exact ⟨a, _, c, e⟩
          have K3 : Below w.heap.size w w3 := (HW1.out.trans (HKA.out.mono HW1.out.size)).trans (k3.mono HW1.out.size)
          by_cases him : i < m
          · have b1 : (i : Int) < (m : Int) := by omega
            have kW : Below W1.heap.size W1 w3 := HKA.out.trans k3
            have HO3 := HO1.out.below kW
            have co : w3.cell? ⟨b2, off2 + i, none⟩ = some (ys.getD i undef) := by
              obtain ⟨_, _, _, e, _, _, _, h4, _⟩ := HO3
              injection e with e _ _
              injection e with e
              injection e with e1 e2 _
              subst e1 e2
              exact h4 i him
            have hylen : ys.length = m := by obtain ⟨_, _, _, _, _, _, h3, _⟩ := HO3; exact h3
            have hyi : ys.getD i undef ∈ ys := by rw [List.getD_eq_getElem?_getD, List.getElem?_eq_getElem (by omega)]; exact List.getElem_mem _
            obtain ⟨yi, hyie⟩ : ∃ x, x = ys.getD i undef := ⟨_, rfl⟩
            rw [← hyie] at co hyi
            have hely := HO3.mem yi hyi
            have SP4 := SP3.set hg1 hely (HLY.out yi hyi) i
            obtain ⟨yia, yin, yic, rfl⟩ : ∃ a n c, yi = .slice a n c := by obtain ⟨bs, h1, _⟩ := hely; obtain ⟨a, c, e⟩ := h1.shape; exact ⟨a, _, c, e⟩
            have HLLR := Lib.hid SP4.llr
            have HLEN4 : Hid ((xs.set i (.slice yia yin yic)).length ≤ n + 1) := by rw [Hid, List.length_set, hxlen]; omega
            have K4 : Hid (Below w.heap.size w (w3.setCell ⟨g, i, none⟩ (.slice yia yin yic))) := K3.setCell (Nat.le_trans HW1.out.size hg1) _
            rw [hxlen] at HLLR ⊢
            clear SP4 SP3 hel hxi hxk hxie hxke k3 hg1 hg2 HSPA HKA HCOPY HME K3 kW HO3 hyi hyie hely him
            go_wp2
            go_ret
            exact ⟨_, _, rfl, HLLR.out, HLEN4.out, K4.out, fun _ _ _ _ h => absurd rfl h⟩
          · have b1 : ¬ (i : Int) < (m : Int) := by omega
            have HLLR := Lib.hid SP3.llr
            have HLEN4 : Hid (xs.length ≤ n + 1) := by rw [Hid, hxlen]; omega
            have K4 := Lib.hid K3
            rw [hxlen] at HLLR ⊢
            clear SP3 hel hxi hxk hxie hxke k3 hg1 hg2 HSPA HKA HCOPY HME K3 him
            go_wp2
            go_ret
            exact ⟨_, xs, rfl, HLLR.out, HLEN4.out, K4.out, fun _ _ _ _ h => absurd rfl h⟩
        · by_cases r2 : r = 2
          · subst r2
            clear r0 r1 r3 r8
            go_upto_region 9 with fail
            go_wp2_with (at_builtin; go_must (refine wpList_spel rfl _ _ rfl W1.heap.size _ [] rfl HSPA.out ⟨b, off, none⟩ n cap xs rfl hxlen HCOPY.out HME.out (by have := HIN.out; rw [List.length_nil]; omega) HKA.out.size ?_))
            intro v3 w3 SP3 k3
            try rw [List.nil_append] at SP3
            obtain ⟨g, gc, rfl, hg1, hg2⟩ := SP3.shape (by have := HIN.out; omega)
            have hel : ∀ x ∈ xs, El w3 x := fun x hx => SP3.each x hx
            have ci : w3.cell? ⟨g, i, none⟩ = some (xs.getD i undef) := SP3.cell (by have := HIN.out; omega)
            have ck : w3.cell? ⟨g, k, none⟩ = some (xs.getD k undef) := SP3.cell (by have := HIN.out; omega)
            have fi : w3.frozen? ⟨g, i, none⟩ = false := SP3.row.frozenAt i
            have fk : w3.frozen? ⟨g, k, none⟩ = false := SP3.row.frozenAt k
            have hxi : xs.getD i undef ∈ xs := by rw [List.getD_eq_getElem?_getD, List.getElem?_eq_getElem (by have := HIN.out; omega)]; exact List.getElem_mem _
            have hxk : xs.getD k undef ∈ xs := by rw [List.getD_eq_getElem?_getD, List.getElem?_eq_getElem (by have := HIN.out; omega)]; exact List.getElem_mem _
            obtain ⟨xi, hxie⟩ : ∃ x, x = xs.getD i undef := ⟨_, rfl⟩
            obtain ⟨xk, hxke⟩ : ∃ x, x = xs.getD k undef := ⟨_, rfl⟩
            rw [← hxie] at ci hxi
            rw [← hxke] at ck hxk
            obtain ⟨xia, xin, xic, rfl⟩ : ∃ a n c, xi = .slice a n c := by obtain ⟨bs, h1, _⟩ := hel xi hxi; obtain ⟨a, c, e⟩ := h1.shape; exact ⟨a, _, c, e⟩
            obtain ⟨xka, xkn, xkc, rfl⟩ : ∃ a n c, xk = .slice a n c := by obtain ⟨bs, h1, _⟩ := hel xk hxk; obtain ⟨a, c, e⟩ := h1.shape; exact ⟨a, _, c, e⟩
            have SPd := SP3.drew
            have SP4 := SPd.set hg1 ((hel _ hxk).below (Below.refl _ w3).drew) (HLX.out _ hxk) i
            have SP4' : SpEl (w3.drew.setCell ⟨g, i, none⟩ (.slice xka xkn xkc)) W1.heap.size (.slice (some ⟨g, 0, none⟩) (xs.set i (.slice xka xkn xkc)).length gc) (xs.set i (.slice xka xkn xkc)) := by rw [List.length_set]; exact SP4
            have hexi : El (w3.drew.setCell ⟨g, i, none⟩ (.slice xka xkn xkc)) (.slice xia xin xic) := by
              obtain ⟨bs, h1, h2, h3⟩ := hel _ hxi
              exact ⟨bs, (h1.below (Below.refl _ w3).drew).chg ((Chg.refl (fun b => b = g) w3.drew).cell i _) ((HLX.out _ hxi).mono fun q hq e => by omega), h2, h3⟩
            have SP5 := SP4'.set hg1 hexi (HLX.out _ hxi) k
            have ck4 : ∃ u, (w3.drew.setCell ⟨g, i, none⟩ (.slice xka xkn xkc)).cell? ⟨g, k, none⟩ = some u := ⟨_, SP4'.cell (by rw [List.length_set]; have := HIN.out; omega)⟩
            obtain ⟨uk, ck4⟩ := ck4
            have fk4 : (w3.drew.setCell ⟨g, i, none⟩ (.slice xka xkn xkc)).frozen? ⟨g, k, none⟩ = false := SP4'.row.frozenAt k
            have K3 : Below w.heap.size w w3 := (HW1.out.trans (HKA.out.mono HW1.out.size)).trans (k3.mono HW1.out.size)
            have HLLR := Lib.hid SP5.llr
            have HLEN5 : Hid (((xs.set i (.slice xka xkn xkc)).set k (.slice xia xin xic)).length ≤ n + 1) := by rw [Hid, List.length_set, List.length_set, hxlen]; omega
            have K5 : Hid (Below w.heap.size w ((w3.drew.setCell ⟨g, i, none⟩ (.slice xka xkn xkc)).setCell ⟨g, k, none⟩ (.slice xia xin xic))) := (K3.drew.setCell (Nat.le_trans HW1.out.size hg1) _).setCell (Nat.le_trans HW1.out.size hg1) _
            rw [List.length_set, hxlen] at HLLR
            rw [hxlen]
            clear SP5 SP4 SP4' SPd SP3 hel hxi hxk hxie hxke k3 hg1 hg2 HSPA HKA HCOPY HME K3 hexi
            go_upto_region 10 with fail
            refine wp_region_any (by kernel_rfl) ?_
            change wpAny _ _ _ _ _ _ _ (World.drew _)
            refine wpAny_take_at (i := 0) (v := .slice (some ⟨g, 0, none⟩) n gc) rfl rfl (by kernel_rfl) (by kernel_rfl) (by kernel_rfl) (fun _ _ _ h => h) (Or.inl ⟨by rfl, ?y2_0⟩) ?r2_0
            case y2_0 =>
              intro w
              go_simp
            try simp only [List.setIfInBounds_toArray, List.set_cons_zero, List.set_cons_succ]
            refine wpAny_take_at (i := 1) (v := .int .i64 (i : Int)) rfl rfl (by kernel_rfl) (by kernel_rfl) (by kernel_rfl) (fun _ _ _ h => h) (Or.inl ⟨by rfl, ?y2_1⟩) ?r2_1
            case y2_1 =>
              intro w
              go_simp
            try simp only [List.setIfInBounds_toArray, List.set_cons_zero, List.set_cons_succ]
            refine wpAny_take_at (i := 2) (v := .slice (some ⟨g, 0, none⟩) n gc) rfl rfl (by kernel_rfl) (by kernel_rfl) (by kernel_rfl) (fun _ _ _ h => h) (Or.inl ⟨by rfl, ?y2_2⟩) ?r2_2
            case y2_2 =>
              intro w
              go_simp
            try simp only [List.setIfInBounds_toArray, List.set_cons_zero, List.set_cons_succ]
            refine wpAny_take_at (i := 3) (v := .int .i64 (k : Int)) rfl rfl (by kernel_rfl) (by kernel_rfl) (by kernel_rfl) (fun _ _ _ h => h) (Or.inl ⟨by rfl, ?y2_3⟩) ?r2_3
            case y2_3 =>
              intro w
              go_simp
            try simp only [List.setIfInBounds_toArray, List.set_cons_zero, List.set_cons_succ]
            refine wpAny_take_at (i := 4) (v := .slice (some ⟨g, 0, none⟩) n gc) rfl rfl (by kernel_rfl) (by kernel_rfl) (by kernel_rfl) (fun _ _ _ h => h) (Or.inl ⟨by rfl, ?y2_4⟩) ?r2_4
            case y2_4 =>
              intro w
              go_simp
            try simp only [List.setIfInBounds_toArray, List.set_cons_zero, List.set_cons_succ]
            refine wpAny_take_at (i := 5) (v := .int .i64 (k : Int)) rfl rfl (by kernel_rfl) (by kernel_rfl) (by kernel_rfl) (fun _ _ _ h => h) (Or.inl ⟨by rfl, ?y2_5⟩) ?r2_5
            case y2_5 =>
              intro w
              go_simp
            try simp only [List.setIfInBounds_toArray, List.set_cons_zero, List.set_cons_succ]
            refine wpAny_take_at (i := 6) (v := .pointer (some ⟨g, k, none⟩)) rfl rfl (by kernel_rfl) (by kernel_rfl) (by kernel_rfl) (fun _ _ _ h => h) (Or.inl ⟨by rfl, ?y2_6⟩) ?r2_6
            case y2_6 =>
              intro w
              go_simp
            try simp only [List.setIfInBounds_toArray, List.set_cons_zero, List.set_cons_succ]
            refine wpAny_take_at (i := 8) (v := .slice (some ⟨g, 0, none⟩) n gc) rfl rfl (by kernel_rfl) (by kernel_rfl) (by kernel_rfl) (fun _ _ _ h => h) (Or.inl ⟨by rfl, ?y2_8⟩) ?r2_8
            case y2_8 =>
              intro w
              go_simp
            try simp only [List.setIfInBounds_toArray, List.set_cons_zero, List.set_cons_succ]
            refine wpAny_take_at (i := 9) (v := .int .i64 (i : Int)) rfl rfl (by kernel_rfl) (by kernel_rfl) (by kernel_rfl) (fun _ _ _ h => h) (Or.inl ⟨by rfl, ?y2_9⟩) ?r2_9
            case y2_9 =>
              intro w
              go_simp
            try simp only [List.setIfInBounds_toArray, List.set_cons_zero, List.set_cons_succ]
            refine wpAny_take_at (i := 10) (v := .pointer (some ⟨g, i, none⟩)) rfl rfl (by kernel_rfl) (by kernel_rfl) (by kernel_rfl) (fun _ _ _ h => h) (Or.inl ⟨by rfl, ?y2_10⟩) ?r2_10
            case y2_10 =>
              intro w
              go_simp
            try simp only [List.setIfInBounds_toArray, List.set_cons_zero, List.set_cons_succ]
            refine wpAny_reads 2 4 ?_
            have ckd : w3.drew.cell? ⟨g, k, none⟩ = some (.slice xka xkn xkc) := ck
            have cid : w3.drew.cell? ⟨g, i, none⟩ = some (.slice xia xin xic) := ci
            have fid : w3.drew.frozen? ⟨g, i, none⟩ = false := fi
            refine wpAnyL_take_at (i := 7) (v := .slice xka xkn xkc) rfl rfl (by kernel_rfl) (by kernel_rfl) (by kernel_rfl) (by kernel_rfl) (Or.inl ⟨by rfl, Or.inl ?y2_7⟩) ?r2_7
            case y2_7 => go_simp
            try simp only [List.setIfInBounds_toArray, List.set_cons_zero, List.set_cons_succ]
            refine wpAnyL_take_at (i := 11) (v := .slice xia xin xic) rfl rfl (by kernel_rfl) (by kernel_rfl) (by kernel_rfl) (by kernel_rfl) (Or.inl ⟨by rfl, Or.inl ?y2_11⟩) ?r2_11
            case y2_11 => go_simp
            try simp only [List.setIfInBounds_toArray, List.set_cons_zero, List.set_cons_succ]
            change wpAny _ _ _ _ _ _ _ _
            refine wpAny_take_at (i := 12) (v := .pointer (some ⟨g, i, none⟩)) rfl rfl (by kernel_rfl) (by kernel_rfl) (by kernel_rfl) (fun _ _ _ h => h) (Or.inl ⟨by rfl, ?y2_12⟩) ?r2_12
            case y2_12 =>
              intro w
              go_simp
            try simp only [List.setIfInBounds_toArray, List.set_cons_zero, List.set_cons_succ]
            refine wpAny_ready (rs := [13]) (by kernel_rfl) (by simp) ?_
            refine AllReady.cons rfl (fun K hK => ?_) AllReady.nil
            go_simp
            refine hK _ _ ?_
            clear hK K
            refine wpAny_take_at (i := 14) (v := .pointer (some ⟨g, k, none⟩)) rfl rfl (by kernel_rfl) (by kernel_rfl) (by kernel_rfl) (fun _ _ _ h => h) (Or.inl ⟨by rfl, ?y2_14⟩) ?r2_14
            case y2_14 =>
              intro w
              go_simp
            try simp only [List.setIfInBounds_toArray, List.set_cons_zero, List.set_cons_succ]
            refine wpAny_ready (rs := [15]) (by kernel_rfl) (by simp) ?_
            refine AllReady.cons rfl (fun K hK => ?_) AllReady.nil
            have ck5 : (w3.setCell ⟨g, i, none⟩ (.slice xka xkn xkc)).drew.cell? ⟨g, k, none⟩ = some uk := ck4
            have fk5 : (w3.setCell ⟨g, i, none⟩ (.slice xka xkn xkc)).drew.frozen? ⟨g, k, none⟩ = false := fk4
            have ck6 : (w3.setCell ⟨g, i, none⟩ (.slice xka xkn xkc)).cell? ⟨g, k, none⟩ = some uk := ck4
            have fk6 : (w3.setCell ⟨g, i, none⟩ (.slice xka xkn xkc)).frozen? ⟨g, k, none⟩ = false := fk4
            go_simp
            refine hK _ _ ?_
            clear hK K
            refine wpAny_done (by kernel_rfl) ?_ _
            clear ckd
            clear cid fid ck4 fk4 ck5 fk5 ck6 fk6 ci ck fi fk
            go_wp2
            go_ret
            exact ⟨_, _, rfl, HLLR.out, HLEN5.out, K5.out, fun _ _ h => absurd rfl h⟩
          · have q0 : ((r : Int) == 0) = false := beq_false_of_ne (by omega)
            have q1 : ((r : Int) == 1) = false := beq_false_of_ne (by omega)
            have q2 : ((r : Int) == 2) = false := beq_false_of_ne (by omega)
            have q3 : ((r : Int) == 3) = false := beq_false_of_ne (by omega)
            have q8 : ((r : Int) == 8) = false := beq_false_of_ne (by omega)
            have HLLR := Lib.hid HL1.out.llr
            have HLEN4 : Hid (xs.length ≤ n + 1) := by rw [Hid, hxlen]; omega
            clear r0 r1 r2 r3 r8 HSPA HKA HCOPY HME
            go_wp2
            go_ret
            exact ⟨_, xs, rfl, HLLR.out, HLEN4.out, HW1.out, fun _ _ _ _ _ => rfl⟩

end Go.Proofs.Ytdojalhaklkegaa
