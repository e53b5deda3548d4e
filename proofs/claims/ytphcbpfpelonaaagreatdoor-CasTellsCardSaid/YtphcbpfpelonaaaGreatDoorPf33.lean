/-
  FILES OF A DISK WHOSE POWER STAYS, BY WHAT THEY ARE ALONE (Fine: the files F, N blocks for bytes); each call of package file in these words. Conditions: the tables of package sha lie as laid.
  CONTRACT OF orloplaw11.awake. Conditions: the tables of package sha lie as laid.
-/
import Derived.Test.YtphcbpfpelonaaaGreatDoorFsLaw
import Derived.Lib.SlBytesConst

namespace Go.Proofs.YtphcbpfpelonaaaGreatDoor
open Go.RowKit Go.Maps
set_option linter.unusedVariables false
set_option maxRecDepth 100000

def Fine (w0 w : World) (g gf N : Nat) (F : M.Fs) (R : Nat → Prop) : Prop :=
  ∃ gw s t, FSt w0 w g gw gf (M.lit s 0) t false R ∧ M.On s t ∧ s.getD 0 [] = M.zero256 ∧ M.nbS s = N ∧ N ≤ 400 ∧ M.filesB s t = F

/-- A file's bytes. -/
def M.dataF (F : M.Fs) (nm : List UInt8) : List UInt8 := (F.getD (M.atF F nm) default).data

theorem M.find_img {t : M.Tab} {nm : List UInt8} (h : M.has t nm = true) : ∃ i, i < t.length ∧ (t.getD i default).nm = nm ∧ ∀ D, M.atF (t.map (M.img D)) nm = i := by
  have hlt : (t.findIdx fun p => p.nm == nm) < t.length := by
    rw [List.findIdx_lt_length]
    obtain ⟨p, hp, e⟩ := (M.has_iff t nm).1 h
    exact ⟨p, hp, by rw [e]; exact beq_self_eq_true nm⟩
  refine ⟨_, hlt, ?_, fun D => M.atF_img D t nm⟩
  have := List.findIdx_getElem (w := hlt)
  rw [List.getD_eq_getElem?_getD, List.getElem?_eq_getElem hlt]
  simpa using this

section
variable {w0 w w' : World} {g gf N : Nat} {F : M.Fs} {R R' : Nat → Prop}

theorem Fine.under (f : Fine w0 w g gf N F R) : Below w0.heap.size w0 w := by
  obtain ⟨gw, s, t, f, _⟩ := f
  exact f.under

theorem Fine.less (f : Fine w0 w g gf N F R) (h : ∀ k, R' k → R k) : Fine w0 w g gf N F R' := by
  obtain ⟨gw, s, t, f, rest⟩ := f
  exact ⟨gw, s, t, f.less h, rest⟩

theorem Fine.below (f : Fine w0 w g gf N F R) (k : Below w.heap.size w w') : Fine w0 w' g gf N F (fun b => R b ∨ (w.heap.size ≤ b ∧ b < w'.heap.size)) := by
  obtain ⟨gw, s, t, f, rest⟩ := f
  exact ⟨gw, s, t, f.below k, rest⟩

theorem Fine.see (f : Fine w0 w g gf N F R) (k : Below w.heap.size w w') : Fine w0 w' g gf N F R := (f.below k).less fun _ h => .inl h

theorem Fine.ref (f : Fine w0 w g gf N F R) {gr : Nat} (hr : R gr) (k : Chg (fun b => b = gr) w w') : Fine w0 w' g gf N F (fun b => R b ∨ (w.heap.size ≤ b ∧ b < w'.heap.size)) := by
  obtain ⟨gw, s, t, f, rest⟩ := f
  exact ⟨gw, s, t, f.ref hr k, rest⟩

theorem Fine.rlt (f : Fine w0 w g gf N F R) : ∀ k, R k → w0.heap.size ≤ k ∧ k < w.heap.size := by
  obtain ⟨gw, s, t, f, rest⟩ := f
  exact f.rlt

theorem Fine.few (f : Fine w0 w g gf N F R) : F.length ≤ 64 := by
  obtain ⟨gw, s, t, f, on, _, _, _, rfl⟩ := f
  rw [M.filesB_len]
  exact on.ok.few

theorem Fine.data (f : Fine w0 w g gf N F R) : ∀ q ∈ F, q.data.length ≤ 1099511627776 := by
  obtain ⟨gw, s, t, f, on, _, _, _, rfl⟩ := f
  intro q hq
  obtain ⟨p, hp, rfl⟩ := List.mem_map.1 hq
  show (M.datB s p).length ≤ _
  rw [M.datB_len on hp]
  have := on.ok.size p hp
  omega

theorem Fine.names (f : Fine w0 w g gf N F R) :
    Calls Tryz.prog 18 #[.pointer (some ⟨gf, 0, none⟩)] w fun e w' => ∃ v, e = .returned v ∧ OwnS w' w.heap.size v (F.map M.Fil.nm) ∧ Below w.heap.size w w' := by
  obtain ⟨gw, s, t, f, on, _, _, _, rfl⟩ := f
  have := f.names on
  rwa [← M.img_nm (M.datB s) t] at this

theorem Fine.free (f : Fine w0 w g gf N F R) :
    Calls Tryz.prog 56 #[.pointer (some ⟨gf, 0, none⟩)] w fun e w' => e = .returned (.int .i64 (M.freeF N F)) ∧ Below w.heap.size w w' := by
  obtain ⟨gw, s, t, f, on, _, rfl, _, rfl⟩ := f
  have := f.free on
  rwa [← M.freeF_img on.ok (M.datB s) fun p hp => M.datB_len on hp] at this

theorem Fine.read_yes (f : Fine w0 w g gf N F R) (nm : List UInt8) (h : M.hasF F nm = true) :
    Calls Tryz.prog 45 #[.pointer (some ⟨gf, 0, none⟩), .string ⟨nm.toArray⟩] w fun e w' => ∃ r, e = .returned (.tuple #[r, .int .i64 0]) ∧ Own w' w.heap.size r (M.dataF F nm) ∧ Below w.heap.size w w' := by
  obtain ⟨gw, s, t, f, on, _, _, _, rfl⟩ := f
  rw [M.filesB, M.hasF_img] at h
  obtain ⟨i, hi, e, ha⟩ := M.find_img h
  have hd : M.dataF (M.filesB s t) nm = M.datB s (t.getD i default) := by
    rw [M.dataF, M.filesB, ha]
    have := M.filesB_get s t i hi
    rw [M.filesB] at this
    rw [this]
  have := f.read on i hi
  rw [e] at this
  rw [hd]
  exact this

theorem Fine.read_no (f : Fine w0 w g gf N F R) (nm : List UInt8) (hk : nm.length ≤ maxLen) (h : M.hasF F nm = false) :
    Calls Tryz.prog 45 #[.pointer (some ⟨gf, 0, none⟩), .string ⟨nm.toArray⟩] w fun e w' => e = .returned (.tuple #[.slice none 0 0, .int .i64 4]) ∧ Below w.heap.size w w' := by
  obtain ⟨gw, s, t, f, on, _, _, _, rfl⟩ := f
  rw [M.filesB, M.hasF_img] at h
  exact f.read_no on nm hk h

/-- A commit. -/
theorem Fine.commit (f : Fine w0 w g gf N F R) (hL : Laid w0) (lv : Value) (l : M.FL) (xs : List Value) (hl : Keeps (fun j => ¬ R j ∧ w0.heap.size ≤ j) w (fun x => IsFL x lv l xs)) (hlen : l.length ≤ 10000) (hd : ∀ c ∈ l, c.data.length ≤ 1099511627776) (r : Int) (hr : r = M.fcode N F l) (G : M.Fs) (hG : G = if r = 0 then M.fapply F l else F) :
    Calls Tryz.prog 9 #[.pointer (some ⟨gf, 0, none⟩), lv] w fun e w' => e = .returned (.int .i64 r) ∧ Far w0 R w w' ∧ Fine w0 w' g gf N G R := by
  have f0 := f
  obtain ⟨gw, s, t, f, on, hz, rfl, hN, rfl⟩ := f
  have hc : r = M.fmay (M.nbS s) t l := by rw [hr, M.fmay_code on.ok (M.datB s) (fun p hp => M.datB_len on hp) l]; rfl
  by_cases h0 : M.fmay (M.nbS s) t l = 0
  · rw [hc, if_pos h0] at hG
    refine (f.commit_yes hL on lv l xs hl hlen hd h0).mono ?_
    rintro e w' ⟨he, far, hh⟩
    rcases M.commit_goes (k := 0) on hz (by omega) h0 with ⟨s2, k', e2, hk, hl2, hz2, hon⟩ | ⟨_, _, h, _⟩
    · have hk0 : k' = 0 := by omega
      subst hk0
      rw [e2] at he hh
      rcases hh with ⟨_, fs⟩ | ⟨h, _⟩
      · have ho := hon fs.okay.full
        exact ⟨by rw [he, hc, h0], far, gw, s2, _, fs, ho.1, hz2, by rw [M.nbS, M.nbS, hl2], hN, ho.2.trans hG.symm⟩
      · exact absurd rfl h
    · exact absurd rfl h
  · rw [hc, if_neg h0] at hG
    refine (f.commit_no on lv l xs hl.now hlen hd h0).mono ?_
    rintro e w' ⟨he, k⟩
    subst hG
    exact ⟨by rw [he, hc], Far.of_below k, f0.see k⟩

end

/-- A list of one change. -/
theorem fl_one {w : World} {b : Nat} {nm bs : List UInt8} {dv : Value} {gone : Bool} (hnm : nm.length ≤ maxLen) (hd : IsB w dv bs) (h0 : ∀ n c, dv = .slice none n c → c = 0) (h : Blk w b 58 [.string ⟨nm.toArray⟩, dv, .bool gone]) : IsFL w (.slice (some ⟨b, 0, none⟩) 1 1) [⟨nm, bs, gone⟩] [dv] := by
  refine ⟨_, 1, rfl, Nat.le_refl _, by decide, rfl, fun i hi => ?_, .inr ⟨b, 0, rfl, fun i hi => ?_⟩⟩
  · have : i = 0 := by simpa using hi
    subst this
    exact ⟨hd, h0, hnm⟩
  · have : i = 0 := by simpa using hi
    subst this
    exact ⟨h.cell 0, h.cell 1, h.cell 2⟩

/-- .. of two. -/
theorem fl_two {w : World} {b : Nat} {na nb ba bb : List UInt8} {da db : Value} {ga gb : Bool} (hna : na.length ≤ maxLen) (hnb : nb.length ≤ maxLen) (hda : IsB w da ba) (h0a : ∀ n c, da = .slice none n c → c = 0) (hdb : IsB w db bb) (h0b : ∀ n c, db = .slice none n c → c = 0)
    (h : Blk w b 58 [.string ⟨na.toArray⟩, da, .bool ga, .string ⟨nb.toArray⟩, db, .bool gb]) : IsFL w (.slice (some ⟨b, 0, none⟩) 2 2) [⟨na, ba, ga⟩, ⟨nb, bb, gb⟩] [da, db] := by
  refine ⟨_, 2, rfl, Nat.le_refl _, by decide, rfl, fun i hi => ?_, .inr ⟨b, 0, rfl, fun i hi => ?_⟩⟩
  · have hi' : i < 2 := hi
    match i, hi' with
    | 0, _ => exact ⟨hda, h0a, hna⟩
    | 1, _ => exact ⟨hdb, h0b, hnb⟩
  · have hi' : i < 2 := hi
    match i, hi' with
    | 0, _ => exact ⟨h.cell 0, h.cell 1, h.cell 2⟩
    | 1, _ => exact ⟨h.cell 3, h.cell 4, h.cell 5⟩

end Go.Proofs.YtphcbpfpelonaaaGreatDoor

namespace Go.Proofs.YtphcbpfpelonaaaGreatDoor
open Go.RowKit Go.Maps
set_option linter.unusedVariables false
set_option maxRecDepth 100000

namespace M
def awA : FL := [⟨[97], [120], false⟩, ⟨[98], [], false⟩]
def awB : FL := [⟨[97], [], true⟩, ⟨[97], [], true⟩]
def awF : Fs := [⟨[97], [120]⟩, ⟨[98], []⟩]

theorem fcode_ok {n : Int} {F : Fs} {l : FL} (h1 : NamesOk l) (h2 : AllF F l) (h3 : (fapply F l).length ≤ 64) (h4 : ((blkN l : Nat) : Int) ≤ freeF n F) : fcode n F l = 0 := by
  rw [fcode, if_neg (not_not_intro h1), if_neg (not_not_intro h2), if_neg (by omega), if_neg (by omega)]

theorem fcode_names {n : Int} {F : Fs} {l : FL} (h1 : ¬ NamesOk l) : fcode n F l = 1 := by rw [fcode, if_pos h1]

theorem aw_apply : fapply [] awA = awF := by rfl
theorem aw_one : fcode ((6 : Nat) : Int) [] awA = 0 := fcode_ok (by decide) (fun i hi => by
  have hi' : i < 2 := hi
  match i, hi' with
  | 0, _ => rfl
  | 1, _ => rfl) (by rw [aw_apply]; decide) (by decide)
theorem aw_two : fcode ((6 : Nat) : Int) awF awB = 1 := fcode_names (by decide)
theorem aw_free : freeF ((6 : Nat) : Int) awF = 5 := by decide
theorem aw_a : hasF awF [97] = true := by decide
theorem aw_c : hasF awF [99] = false := by decide
theorem aw_data : dataF awF [97] = [120] := by decide
end M

theorem isB_oneM (w : World) (t : TypeId) (c : UInt8) (x : Int) (h : x = c.toNat) (fr : Nat × Nat) : IsB (w.alloc (.cells #[.int .u8 x] t fr)) (.slice (some ⟨w.heap.size, 0, none⟩) 1 1) [c] := by
  subst h
  refine ⟨_, 1, rfl, Nat.le_refl _, by unfold maxLen; omega, .inr ⟨w.heap.size, 0, rfl, fun i hi => ?_⟩⟩
  match i, hi with
  | 0, _ =>
    show (w.alloc (.cells #[.int .u8 c.toNat] t fr)).cell? ⟨w.heap.size, 0, none⟩ = _
    unfold World.cell?
    rw [heap_alloc_new]
    rfl

end Go.Proofs.YtphcbpfpelonaaaGreatDoor
