/-
  FILES OF A DISK WHOSE POWER STAYS, BY WHAT THEY ARE ALONE (Fine: the files F, N blocks for bytes); each call of package file in these words. Conditions: the tables of package sha lie as laid.
  CONTRACT OF orloplaw11.awake. Conditions: the tables of package sha lie as laid.
-/
import Derived.Test.YtgmhfianpdhnmaaGreatDoorFsLaw
import Derived.Lib.SlBytesConst

namespace Go.Proofs.YtgmhfianpdhnmaaGreatDoor
open Go.RowKit Go.Maps
set_option linter.unusedVariables false
set_option maxRecDepth 100000

def Fine (w0 w : World) (g gf N : Nat) (F : M.Fs) (R : Nat → Prop) : Prop :=
  ∃ gw s t, FSt w0 w g gw gf (M.lit s 0) t false R ∧ M.On s t ∧ s.getD 0 [] = M.zero256 ∧ M.nbS s = N ∧ N ≤ 400 ∧ M.filesB s t = F

/-- A file's bytes. -/
def M.dataF (F : M.Fs) (nm : List UInt8) : List UInt8 := (F.getD (M.atF F nm) default).data

theorem M.find_img {t : M.Tab} {nm : List UInt8} (h : M.has t nm = true) : ∃ i, i < t.length ∧ (t.getD i default).nm = nm ∧ ∀ D, M.atF (t.map (M.img D)) nm = i := by
  have hlt : (t.findIdx fun p => p.nm == nm) < t.length := by
    rw [List.findIdx_lt_length]
    obtain ⟨p, hp, e⟩ := (M.has_iff t nm).1 h
    exact ⟨p, hp, by rw [e]; exact beq_self_eq_true nm⟩
  refine ⟨_, hlt, ?_, fun D => M.atF_img D t nm⟩
  have := List.findIdx_getElem (w := hlt)
  rw [List.getD_eq_getElem?_getD, List.getElem?_eq_getElem hlt]
  simpa using this

section
variable {w0 w w' : World} {g gf N : Nat} {F : M.Fs} {R R' : Nat → Prop}

theorem Fine.under (f : Fine w0 w g gf N F R) : Below w0.heap.size w0 w := by
  obtain ⟨gw, s, t, f, _⟩ := f
  exact f.under

theorem Fine.less (f : Fine w0 w g gf N F R) (h : ∀ k, R' k → R k) : Fine w0 w g gf N F R' := by
  obtain ⟨gw, s, t, f, rest⟩ := f
  exact ⟨gw, s, t, f.less h, rest⟩

theorem Fine.below (f : Fine w0 w g gf N F R) (k : Below w.heap.size w w') : Fine w0 w' g gf N F (fun b => R b ∨ (w.heap.size ≤ b ∧ b < w'.heap.size)) := by
  obtain ⟨gw, s, t, f, rest⟩ := f
  exact ⟨gw, s, t, f.below k, rest⟩

theorem Fine.see (f : Fine w0 w g gf N F R) (k : Below w.heap.size w w') : Fine w0 w' g gf N F R := (f.below k).less fun _ h => .inl h

theorem Fine.ref (f : Fine w0 w g gf N F R) {gr : Nat} (hr : R gr) (k : Chg (fun b => b = gr) w w') : Fine w0 w' g gf N F (fun b => R b ∨ (w.heap.size ≤ b ∧ b < w'.heap.size)) := by
  obtain ⟨gw, s, t, f, rest⟩ := f
  exact ⟨gw, s, t, f.ref hr k, rest⟩

theorem Fine.rlt (f : Fine w0 w g gf N F R) : ∀ k, R k → w0.heap.size ≤ k ∧ k < w.heap.size := by
  obtain ⟨gw, s, t, f, rest⟩ := f
  exact f.rlt

theorem Fine.few (f : Fine w0 w g gf N F R) : F.length ≤ 64 := by
  obtain ⟨gw, s, t, f, on, _, _, _, rfl⟩ := f
  rw [M.filesB_len]
  exact on.ok.few

theorem Fine.data (f : Fine w0 w g gf N F R) : ∀ q ∈ F, q.data.length ≤ 1099511627776 := by
  obtain ⟨gw, s, t, f, on, _, _, _, rfl⟩ := f
  intro q hq
  obtain ⟨p, hp, rfl⟩ := List.mem_map.1 hq
  show (M.datB s p).length ≤ _
  rw [M.datB_len on hp]
  have := on.ok.size p hp
  omega

theorem Fine.names (f : Fine w0 w g gf N F R) :
    Calls Tryz.prog 31 #[.pointer (some ⟨gf, 0, none⟩)] w fun e w' => ∃ v, e = .returned v ∧ OwnS w' w.heap.size v (F.map M.Fil.nm) ∧ Below w.heap.size w w' := by
  obtain ⟨gw, s, t, f, on, _, _, _, rfl⟩ := f
  have := f.names on
  rwa [← M.img_nm (M.datB s) t] at this

theorem Fine.free (f : Fine w0 w g gf N F R) :
    Calls Tryz.prog 29 #[.pointer (some ⟨gf, 0, none⟩)] w fun e w' => e = .returned (.int .i64 (M.freeF N F)) ∧ Below w.heap.size w w' := by
  obtain ⟨gw, s, t, f, on, _, rfl, _, rfl⟩ := f
  have := f.free on
  rwa [← M.freeF_img on.ok (M.datB s) fun p hp => M.datB_len on hp] at this

theorem Fine.read_yes (f : Fine w0 w g gf N F R) (nm : List UInt8) (h : M.hasF F nm = true) :
    Calls Tryz.prog 32 #[.pointer (some ⟨gf, 0, none⟩), .string ⟨nm.toArray⟩] w fun e w' => ∃ r, e = .returned (.tuple #[r, .int .i64 0]) ∧ Own w' w.heap.size r (M.dataF F nm) ∧ Below w.heap.size w w' := by
  obtain ⟨gw, s, t, f, on, _, _, _, rfl⟩ := f
  rw [M.filesB, M.hasF_img] at h
  obtain ⟨i, hi, e, ha⟩ := M.find_img h
  have hd : M.dataF (M.filesB s t) nm = M.datB s (t.getD i default) := by
    rw [M.dataF, M.filesB, ha]
    have := M.filesB_get s t i hi
    rw [M.filesB] at this
    rw [this]
  have := f.read on i hi
  rw [e] at this
  rw [hd]
  exact this

theorem Fine.read_no (f : Fine w0 w g gf N F R) (nm : List UInt8) (hk : nm.length ≤ maxLen) (h : M.hasF F nm = false) :
    Calls Tryz.prog 32 #[.pointer (some ⟨gf, 0, none⟩), .string ⟨nm.toArray⟩] w fun e w' => e = .returned (.tuple #[.slice none 0 0, .int .i64 4]) ∧ Below w.heap.size w w' := by
  obtain ⟨gw, s, t, f, on, _, _, _, rfl⟩ := f
  rw [M.filesB, M.hasF_img] at h
  exact f.read_no on nm hk h

/-- A commit. -/
theorem Fine.commit (f : Fine w0 w g gf N F R) (hL : Laid w0) (lv : Value) (l : M.FL) (xs : List Value) (hl : Keeps (fun j => ¬ R j ∧ w0.heap.size ≤ j) w (fun x => IsFL x lv l xs)) (hlen : l.length ≤ 10000) (hd : ∀ c ∈ l, c.data.length ≤ 1099511627776) (r : Int) (hr : r = M.fcode N F l) (G : M.Fs) (hG : G = if r = 0 then M.fapply F l else F) :
    Calls Tryz.prog 13 #[.pointer (some ⟨gf, 0, none⟩), lv] w fun e w' => e = .returned (.int .i64 r) ∧ Far w0 R w w' ∧ Fine w0 w' g gf N G R := by
  have f0 := f
  obtain ⟨gw, s, t, f, on, hz, rfl, hN, rfl⟩ := f
  have hc : r = M.fmay (M.nbS s) t l := by rw [hr, M.fmay_code on.ok (M.datB s) (fun p hp => M.datB_len on hp) l]; rfl
  by_cases h0 : M.fmay (M.nbS s) t l = 0
  · rw [hc, if_pos h0] at hG
    refine (f.commit_yes hL on lv l xs hl hlen hd h0).mono ?_
    rintro e w' ⟨he, far, hh⟩
    rcases M.commit_goes (k := 0) on hz (by omega) h0 with ⟨s2, k', e2, hk, hl2, hz2, hon⟩ | ⟨_, _, h, _⟩
    · have hk0 : k' = 0 := by omega
      subst hk0
      rw [e2] at he hh
      rcases hh with ⟨_, fs⟩ | ⟨h, _⟩
      · have ho := hon fs.okay.full
        exact ⟨by rw [he, hc, h0], far, gw, s2, _, fs, ho.1, hz2, by rw [M.nbS, M.nbS, hl2], hN, ho.2.trans hG.symm⟩
      · exact absurd rfl h
    · exact absurd rfl h
  · rw [hc, if_neg h0] at hG
    refine (f.commit_no on lv l xs hl.now hlen hd h0).mono ?_
    rintro e w' ⟨he, k⟩
    subst hG
    exact ⟨by rw [he, hc], Far.of_below k, f0.see k⟩

/-- An erase. -/
theorem Fine.erase_yes (f : Fine w0 w g gf N F R) (hL : Laid w0) (nm : List UInt8) (h : M.hasF F nm = true) :
    Calls Tryz.prog 15 #[.pointer (some ⟨gf, 0, none⟩), .string ⟨nm.toArray⟩] w fun e w' => e = .returned (.int .i64 0) ∧ Far w0 R w w' ∧ Fine w0 w' g gf N (M.fdrop F nm) R := by
  obtain ⟨gw, s, t, f, on, hz, rfl, hN, rfl⟩ := f
  rw [M.filesB, M.hasF_img] at h
  obtain ⟨i, hi, e, _⟩ := M.find_img h
  have hy := f.erase_yes hL on i hi
  obtain ⟨s2, e2, hl2, hz2, hon⟩ := M.erase_goes on hz hN (M.getD_mem hi)
  rw [e2, e] at hy
  rw [e] at hon
  refine hy.mono ?_
  rintro e' w' ⟨he, far, hh⟩
  rcases hh with ⟨_, fs⟩ | ⟨h, _⟩
  · have ho := hon fs.okay.full
    exact ⟨he, far, gw, s2, _, fs, ho.1, hz2, by rw [M.nbS, M.nbS, hl2], hN, ho.2⟩
  · exact absurd rfl h

theorem Fine.erase_no (f : Fine w0 w g gf N F R) (nm : List UInt8) (hk : nm.length ≤ maxLen) (h : M.hasF F nm = false) :
    Calls Tryz.prog 15 #[.pointer (some ⟨gf, 0, none⟩), .string ⟨nm.toArray⟩] w fun e w' => e = .returned (.int .i64 4) ∧ Below w.heap.size w w' := by
  obtain ⟨gw, s, t, f, on, _, _, _, rfl⟩ := f
  rw [M.filesB, M.hasF_img] at h
  exact f.erase_no on nm hk h

/-- All is as in the document's files. -/
theorem Fine.same (f : Fine w0 w g gf N F R) {S : Nat → Prop} {gr : Nat} {v : Value} {G : M.Fs} {ys : List Value} (hb : RefAt11 w gr v ((N : Nat) : Int)) (hF : IsFs S w v G ys) (hlen : G.length ≤ 1000) (hd : ∀ q ∈ G, q.data.length ≤ 1099511627776) (b : Bool) (hbb : b = decide (F = G)) :
    Calls Tryz.prog 12 #[.pointer (some ⟨gf, 0, none⟩), .pointer (some ⟨gr, 0, none⟩)] w fun e w' => e = .returned (.bool b) ∧ Below w.heap.size w w' := by
  obtain ⟨gw, s, t, f, on, _, rfl, _, rfl⟩ := f
  exact same11_any f on hb hF hlen hd b hbb

/-- Crashed with nothing waiting, and opened. -/
theorem Fine.crash (f : Fine w0 w g gf N F R) (kv : Value) (kp : List Bool) (hk : IsZ w0 kv kp) :
    Calls Tryz.prog 17 #[.pointer (some ⟨g, 0, none⟩), kv] w fun e w' => e = .returned (.tuple #[]) ∧ Far w0 R w w' ∧ ∃ s t, DSt w0 w' g ⟨s, [], 0, false⟩ R ∧ M.On s t ∧ s.getD 0 [] = M.zero256 ∧ M.nbS s = N ∧ N ≤ 400 ∧ M.filesB s t = F := by
  obtain ⟨gw, s, t, f, on, hz, hn, hN, hf⟩ := f
  refine (f.disk.crash kv kp hk).mono ?_
  rintro e w' ⟨he, d, far⟩
  exact ⟨he, far, s, t, d, on, hz, hn, hN, hf⟩

theorem fine_open {s : List (List UInt8)} {t : M.Tab} (d : DSt w0 w g ⟨s, [], 0, false⟩ R) (hL : Laid w0) (on : M.On s t) (hz : s.getD 0 [] = M.zero256) (hn : M.nbS s = N) (hN : N ≤ 400) (hf : M.filesB s t = F) :
    Calls Tryz.prog 11 #[.pointer (some ⟨g, 0, none⟩)] w fun e w' => Far w0 R w w' ∧ ∃ gf, e = .returned (.pointer (some ⟨gf, 0, none⟩)) ∧ Fine w0 w' g gf N F R := by
  refine (open11_any d hL on.big (by decide)).mono ?_
  rintro e w' ⟨far, s2, ⟨hl, hfu, hd, hz2⟩, hh⟩
  have ho := M.open_on on hz hl hfu hd
  have hnb : M.nbS s2 = M.nbS s := by rw [M.nbS, M.nbS, hl]
  rcases hh with ⟨t2, gw, gf, on2, he, fs⟩ | ⟨hno, _⟩
  · have : t2 = t := M.told_inj on2.ok ho.1.ok (on2.told.trans ho.1.told.symm)
    subst this
    exact ⟨far, gf, he, gw, s2, t2, fs, on2, hz2, by rw [hnb]; exact hn, hN, ho.2.trans hf⟩
  · exact absurd ho.1 (hno t)

/-- A new disk's files: none. -/
theorem fine_new {n : Nat} (d : DSt w0 w g (M.dnew n) R) (hL : Laid w0) (h74 : 74 < n) (hn : n ≤ 474) :
    Calls Tryz.prog 11 #[.pointer (some ⟨g, 0, none⟩)] w fun e w' => Far w0 R w w' ∧ ∃ gf, e = .returned (.pointer (some ⟨gf, 0, none⟩)) ∧ Fine w0 w' g gf (n - 74) [] R := by
  rw [M.dnew_lit n (by omega)] at d
  have ho := M.new_on h74 (by omega)
  refine fine_open (s := List.replicate n M.zero256) d hL ho.1 ?_ ?_ (by omega) ho.2
  · rw [List.getD_eq_getElem?_getD, List.getElem?_replicate, if_pos (by omega)]
    rfl
  · rw [M.nbS, List.length_replicate]
    omega

end

/-- A list of one change. -/
theorem fl_one {w : World} {b : Nat} {nm bs : List UInt8} {dv : Value} {gone : Bool} (hnm : nm.length ≤ maxLen) (hd : IsB w dv bs) (h0 : ∀ n c, dv = .slice none n c → c = 0) (h : Blk w b 44 [.string ⟨nm.toArray⟩, dv, .bool gone]) : IsFL w (.slice (some ⟨b, 0, none⟩) 1 1) [⟨nm, bs, gone⟩] [dv] := by
  refine ⟨_, 1, rfl, Nat.le_refl _, by decide, rfl, fun i hi => ?_, .inr ⟨b, 0, rfl, fun i hi => ?_⟩⟩
  · have : i = 0 := by simpa using hi
    subst this
    exact ⟨hd, h0, hnm⟩
  · have : i = 0 := by simpa using hi
    subst this
    exact ⟨h.cell 0, h.cell 1, h.cell 2⟩

/-- .. of two. -/
theorem fl_two {w : World} {b : Nat} {na nb ba bb : List UInt8} {da db : Value} {ga gb : Bool} (hna : na.length ≤ maxLen) (hnb : nb.length ≤ maxLen) (hda : IsB w da ba) (h0a : ∀ n c, da = .slice none n c → c = 0) (hdb : IsB w db bb) (h0b : ∀ n c, db = .slice none n c → c = 0)
    (h : Blk w b 44 [.string ⟨na.toArray⟩, da, .bool ga, .string ⟨nb.toArray⟩, db, .bool gb]) : IsFL w (.slice (some ⟨b, 0, none⟩) 2 2) [⟨na, ba, ga⟩, ⟨nb, bb, gb⟩] [da, db] := by
  refine ⟨_, 2, rfl, Nat.le_refl _, by decide, rfl, fun i hi => ?_, .inr ⟨b, 0, rfl, fun i hi => ?_⟩⟩
  · have hi' : i < 2 := hi
    match i, hi' with
    | 0, _ => exact ⟨hda, h0a, hna⟩
    | 1, _ => exact ⟨hdb, h0b, hnb⟩
  · have hi' : i < 2 := hi
    match i, hi' with
    | 0, _ => exact ⟨h.cell 0, h.cell 1, h.cell 2⟩
    | 1, _ => exact ⟨h.cell 3, h.cell 4, h.cell 5⟩

end Go.Proofs.YtgmhfianpdhnmaaGreatDoor

namespace Go.Proofs.YtgmhfianpdhnmaaGreatDoor
open Go.RowKit Go.Maps
set_option linter.unusedVariables false
set_option maxRecDepth 100000

namespace M
def awA : FL := [⟨[97], [120], false⟩, ⟨[98], [], false⟩]
def awB : FL := [⟨[97], [], true⟩, ⟨[97], [], true⟩]
def awF : Fs := [⟨[97], [120]⟩, ⟨[98], []⟩]

theorem fcode_ok {n : Int} {F : Fs} {l : FL} (h1 : NamesOk l) (h2 : AllF F l) (h3 : (fapply F l).length ≤ 64) (h4 : ((blkN l : Nat) : Int) ≤ freeF n F) : fcode n F l = 0 := by
  rw [fcode, if_neg (not_not_intro h1), if_neg (not_not_intro h2), if_neg (by omega), if_neg (by omega)]

theorem fcode_names {n : Int} {F : Fs} {l : FL} (h1 : ¬ NamesOk l) : fcode n F l = 1 := by rw [fcode, if_pos h1]

theorem aw_apply : fapply [] awA = awF := by rfl
theorem aw_one : fcode ((6 : Nat) : Int) [] awA = 0 := fcode_ok (by decide) (fun i hi => by
  have hi' : i < 2 := hi
  match i, hi' with
  | 0, _ => rfl
  | 1, _ => rfl) (by rw [aw_apply]; decide) (by decide)
theorem aw_two : fcode ((6 : Nat) : Int) awF awB = 1 := fcode_names (by decide)
theorem aw_free : freeF ((6 : Nat) : Int) awF = 5 := by decide
theorem aw_a : hasF awF [97] = true := by decide
theorem aw_c : hasF awF [99] = false := by decide
theorem aw_data : dataF awF [97] = [120] := by decide
end M

theorem isB_oneM (w : World) (t : TypeId) (c : UInt8) (x : Int) (h : x = c.toNat) (fr : Nat × Nat) : IsB (w.alloc (.cells #[.int .u8 x] t fr)) (.slice (some ⟨w.heap.size, 0, none⟩) 1 1) [c] := by
  subst h
  refine ⟨_, 1, rfl, Nat.le_refl _, by unfold maxLen; omega, .inr ⟨w.heap.size, 0, rfl, fun i hi => ?_⟩⟩
  match i, hi with
  | 0, _ =>
    show (w.alloc (.cells #[.int .u8 c.toNat] t fr)).cell? ⟨w.heap.size, 0, none⟩ = _
    unfold World.cell?
    rw [heap_alloc_new]
    rfl

set_option maxHeartbeats 8000000 in
theorem awake11_any (w : World) (hL : Laid w) :
    Calls Tryz.prog 8 #[] w fun e w' => e = .returned (.bool true) ∧ Below w.heap.size w w' := by
  have HL := Lib.hid hL
  have CN := Lib.hid (dst_new (w0 := w) (R := fun _ => False) 80 (by decide) (Below.refl _ w) (fun k h => h.elim))
  clear hL
  go_enter Tryz.func8, Tryz.ntmps8
  go_wp2_with fail
  refine CN.out.mono ?_
  rintro e w1 ⟨g, rfl, d1, k1⟩
  have CO := Lib.hid (fine_new (n := 80) d1 HL.out (by decide) (by decide))
  clear CN d1 k1
  go_wp2_with fail
  refine CO.out.mono ?_
  rintro e w2 ⟨-, gf, rfl, f2⟩
  have F2 := Lib.hid f2
  have hcv : (convert 42 42 (.slice (some ⟨w2.heap.size, 0, none⟩) 1 1)).run Tryz.prog (w2.alloc (.cells #[.int .u8 120] 5)) = .ok (.slice (some ⟨w2.heap.size, 0, none⟩) 1 1) (w2.alloc (.cells #[.int .u8 120] 5 (1, 2))) :=
    Lib.run_convert_bytes_const w2 42 5 #[.int .u8 120] 1 1 Tryz.underlying42 Tryz.underlying5
  obtain ⟨w3, hw3⟩ : ∃ x, Hid (x = w2.alloc (.cells #[.int .u8 120] 5 (1, 2))) := ⟨_, rfl⟩
  obtain ⟨p3, hp3⟩ : ∃ x, Hid (x = w2.heap.size) := ⟨_, rfl⟩
  obtain ⟨w4, hw4⟩ : ∃ x, Hid (x = w3.alloc (.cells #[.string ⟨#[97]⟩, .slice (some ⟨p3, 0, none⟩) 1 1, .bool false, .string ⟨#[98]⟩, .slice none 0 0, .bool false] 44)) := ⟨_, rfl⟩
  obtain ⟨p4, hp4⟩ : ∃ x, Hid (x = w2.heap.size + 1) := ⟨_, rfl⟩
  have hp43 : p4 = w3.heap.size := by rw [hp4.out, hw3.out]; simp
  have k3 : Below w2.heap.size w2 w3 := by rw [hw3.out]; exact (Below.refl _ _).alloc (Nat.le_refl _) _
  have k4 : Below w3.heap.size w3 w4 := by rw [hw4.out]; exact (Below.refl _ _).alloc (Nat.le_refl _) _
  have K24 : Hid (Below w2.heap.size w2 w4) := k3.trans (k4.mono k3.size)
  have i3 : IsB w3 (.slice (some ⟨p3, 0, none⟩) 1 1) [120] := by rw [hp3.out, hw3.out]; exact isB_oneM w2 _ 120 120 rfl _
  have I4 := Lib.hid (i3.below k4)
  have hp3' := hp3.out
  have hz3 := k3.size
  have hz4 := k4.size
  have b4 : Blk w4 p4 44 [.string ⟨([97] : List UInt8).toArray⟩, .slice (some ⟨p3, 0, none⟩) 1 1, .bool false, .string ⟨([98] : List UInt8).toArray⟩, .slice none 0 0, .bool false] := by rw [hw4.out]; exact Blk.newAt _ _ _ _ _ hp43 rfl
  have hlt4 := b4.lt
  have B4 := Lib.hid b4
  have HR3 : w2.heap.size ≤ p3 ∧ p3 < w4.heap.size := by
    have := i3.there (by decide) ⟨p3, 0, none⟩ 1 1 rfl
    exact ⟨by omega, by have : p3 < w3.heap.size := this; omega⟩
  have F4 := Lib.hid (f2.below K24.out)
  have C1 := Lib.hid (F4.out.commit HL.out (.slice (some ⟨p4, 0, none⟩) 2 2) M.awA [.slice (some ⟨p3, 0, none⟩) 1 1, .slice none 0 0] (fun x c =>
    fl_two (by decide) (by decide) (I4.out.chg c (fun ad n cc e => by
      injection e with e
      injection e with e
      subst e
      exact fun h => h.1 (.inr HR3))) (fun n c e => by cases e) (IsB.nil _) (fun n c e => by injection e with _ _ e; exact e.symm) (B4.out.chg c fun h => h.1 (.inr ⟨by omega, hlt4⟩))) (by decide) (fun c hc => by
        simp only [M.awA, List.mem_cons, List.not_mem_nil, or_false] at hc
        rcases hc with rfl | rfl <;> decide) 0 M.aw_one.symm M.awF (by rw [if_pos rfl, M.aw_apply]))
  clear CO f2 k3 k4 i3 hp3' hp43 hz3 hz4 b4 hlt4 HR3
  go_wp2_with (first
    | (go_at_call 13; rw [← hp4.out, ← hw3.out, ← hp3.out, ← hw4.out]; go_must (refine C1.out.mono ?_)))
  rintro e w5 ⟨rfl, far5, f5⟩
  have F5 := Lib.hid f5
  have KW5 : Hid (Below w.heap.size w w5) := f5.under
  clear C1 hw3 hp3 hw4 hp4 I4 B4 far5 f5 hcv K24 F2 F4
  obtain ⟨w6, hw6⟩ : ∃ x, Hid (x = w5.alloc (.cells #[.string ⟨#[97]⟩, .slice none 0 0, .bool true, .string ⟨#[97]⟩, .slice none 0 0, .bool true] 44)) := ⟨_, rfl⟩
  obtain ⟨p6, hp6⟩ : ∃ x, Hid (x = w5.heap.size) := ⟨_, rfl⟩
  have k6 : Below w5.heap.size w5 w6 := by rw [hw6.out]; exact (Below.refl _ _).alloc (Nat.le_refl _) _
  have b6 : Blk w6 p6 44 [.string ⟨([97] : List UInt8).toArray⟩, .slice none 0 0, .bool true, .string ⟨([97] : List UInt8).toArray⟩, .slice none 0 0, .bool true] := by rw [hw6.out]; exact Blk.newAt _ _ _ _ _ hp6.out rfl
  have hp6' := hp6.out
  have hlt6 := b6.lt
  have F6 := Lib.hid (F5.out.below k6)
  have C2 := Lib.hid (F6.out.commit HL.out (.slice (some ⟨p6, 0, none⟩) 2 2) M.awB [.slice none 0 0, .slice none 0 0] (fun x c =>
    fl_two (by decide) (by decide) (IsB.nil _) (fun n c e => by injection e with _ _ e; exact e.symm) (IsB.nil _) (fun n c e => by injection e with _ _ e; exact e.symm) (b6.chg c fun h => h.1 (.inr ⟨by omega, hlt6⟩))) (by decide) (fun c hc => by
        simp only [M.awB, List.mem_cons, List.not_mem_nil, or_false] at hc
        rcases hc with rfl | rfl <;> decide) 1 M.aw_two.symm M.awF (by rw [if_neg (by decide)]))
  clear k6 b6 hp6' hlt6
  go_wp2_with (first
    | (go_at_call 13; rw [← hw6.out, ← hp6.out]; go_must (refine C2.out.mono ?_)))
  rintro e w7 ⟨rfl, far7, f7⟩
  have F7 := Lib.hid f7
  have CR := Lib.hid (f7.read_yes [97] M.aw_a)
  clear C2 hw6 hp6 far7 f7 F5 F6
  go_wp2_with fail
  refine CR.out.mono ?_
  rintro e w8 ⟨r, rfl, o8, k8⟩
  rw [M.aw_data] at o8
  obtain ⟨ra, rc, rfl⟩ := o8.shape'
  have F8 := Lib.hid (F7.out.see k8)
  have O8 := Lib.hid o8
  have CQ := Lib.hid (F8.out.read_no [99] (by decide) M.aw_c)
  clear CR k8 o8 F7
  go_wp2_with fail
  refine CQ.out.mono ?_
  rintro e w9 ⟨rfl, k9⟩
  have F9 := Lib.hid (F8.out.see k9)
  have O9 := O8.out.isB.below k9
  obtain ⟨a9, c9, e9, _, _, hat⟩ := O9
  injection e9 with e1 e2 e3
  obtain ⟨b9, off9, rfl⟩ : ∃ b off, ra = some ⟨b, off, none⟩ := by
    rcases hat with h | ⟨b, off, h, _⟩
    · cases h
    · exact ⟨b, off, by rw [e1, h]⟩
  have hcell : ∀ i, i < 1 → w9.cell? ⟨b9, off9 + i, none⟩ = some (.int .u8 ((([120] : List UInt8).getD i 0).toNat : Int)) := fun i hi => by
    rcases hat with h | ⟨b, off, h, hc⟩
    · cases h
    · rw [← e1] at h
      injection h with h
      injection h with h1 h2 h3
      subst h1 h2
      exact hc i hi
  have hcn : (convert 42 9 (.slice (some ⟨b9, off9, none⟩) 1 rc)).run Tryz.prog w9 = .ok (.string ⟨([120] : List UInt8).toArray⟩) w9 := conv_name (n := 1) rfl hcell
  have CF := Lib.hid F9.out.free
  rw [M.aw_free] at CF
  have KW9 := Lib.hid F9.out.under
  clear CQ k9 hat e1 e2 e3 hcell F8 O8
  go_wp2_with fail
  refine CF.out.mono ?_
  rintro e w10 ⟨rfl, k10⟩
  have KE : Hid (Below w.heap.size w w10) := KW9.out.trans (k10.mono KW9.out.size)
  clear CF k10 hcn F9
  go_wp2
  go_ret
  exact ⟨rfl, KE.out⟩

end Go.Proofs.YtgmhfianpdhnmaaGreatDoor
