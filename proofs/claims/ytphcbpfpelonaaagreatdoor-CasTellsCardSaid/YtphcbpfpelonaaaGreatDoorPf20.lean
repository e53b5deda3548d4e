/-
  THE CODE'S JOURNAL IS A JOURNAL: its face, and what it makes of disks. Conditions: the two tables of package sha lie as laid (Laid).
  CONTRACTS OF package file's need, blocks, has, Names. Conditions: as each says.
-/
import Derived.Test.YtphcbpfpelonaaaGreatDoorWalM
import Derived.Test.YtphcbpfpelonaaaGreatDoorPf13

namespace Go.Proofs.YtphcbpfpelonaaaGreatDoor
open Go.RowKit
set_option linter.unusedVariables false
set_option maxRecDepth 100000

theorem wal_calls : WalCalls Laid WalIs (M.settle M.decJ) (M.commit M.decJ M.headOf) where
  ld := fun h k => h.below k h.size
  open_yes := fun d kl h42 hw => wopen_yes whole_ok (fun s _ => M.dec_may s) d kl h42 hw
  open_no := fun d _ h42 => wopen_no d h42
  blocks := fun d hW h42 => (wblocks10 d hW).mono fun e w' ⟨h1, h2⟩ => ⟨by rw [h1]; congr 2; omega, by rw [h2]; exact Below.refl _ _⟩
  read_yes := fun d hW hw i hi => wread10 d hW hw i hi
  read_no := fun d hW h42 i hi => (wread10_no d hW i (by omega)).mono fun e w' ⟨h1, h2⟩ => ⟨h1, by rw [h2]; exact Below.refl _ _⟩
  write_yes := fun d kw hw i hi bv bs hb hl => wwrite10 d kw.now hw i hi bv bs hb
  write_no := fun d hW h42 i bv bs hi hb hno => wwrite10_no d hW i bv bs hb hi fun h => hno ⟨h.1, by omega, h.2.2⟩
  sync := fun d kw hw => wsync10 d kw.now
  commit_yes := fun d kl kw h42 hw lv l xs kc hm => wcommit_yes d kl kw h42 hw lv l xs kc hm
  commit_no := fun d kl hW h42 lv l xs hl hm _ => wcommit_no d hW h42 lv l xs hl hm

theorem wal_math : WalMath (M.settle M.decJ) (M.commit M.decJ M.headOf) (fun s => s.getD 0 [] = M.zero256) (M.recs M.decJ) := journal_math M.decJ_journal

end Go.Proofs.YtphcbpfpelonaaaGreatDoor

namespace Go.Proofs.YtphcbpfpelonaaaGreatDoor
open Go.RowKit Go.Maps
set_option linter.unusedVariables false
set_option maxRecDepth 100000

/-- A struct Files over the Wal at gw and the map at mb. -/
def FilesAt (w : World) (gf gw mb : Nat) (dn : Bool) : Prop := Blk w gf 70 [.pointer (some ⟨gw, 0, none⟩), .map (some mb), .bool dn]

theorem FilesAt.below {w w' : World} {gf gw mb : Nat} {dn : Bool} (h : FilesAt w gf gw mb dn) (k : Below w.heap.size w w') : FilesAt w' gf gw mb dn := Blk.below h k h.lt

theorem need_any (n : Nat) (w : World) (h : n ≤ 1099511627776) : Calls Tryz.prog 52 #[.int .i64 (n : Int)] w fun e w' => e = .returned (.int .i64 ((M.need n : Nat) : Int)) ∧ w' = w := by
  obtain ⟨q, hq⟩ : ∃ q, q = M.need n := ⟨_, rfl⟩
  have e1 : Int.tdiv ((n : Int) + 256 - 1) 256 = (q : Int) := by
    rw [show ((n : Int) + 256 - 1) = ((n + 255 : Nat) : Int) by omega, hq, M.need]
    rfl
  have w1 : wrap64 ((n : Int) + 256) = (n : Int) + 256 := by unfold wrap64; omega
  have w2 : wrap64 ((n : Int) + 256 - 1) = (n : Int) + 256 - 1 := by unfold wrap64; omega
  have hq2 : q ≤ 1099511627776 := by rw [hq, M.need]; omega
  have w3 : wrap64 (q : Int) = (q : Int) := by unfold wrap64; omega
  rw [← hq]
  clear hq
  go_enter Tryz.func52, Tryz.ntmps52
  go_wp2
  go_ret
  exact ⟨by first | rfl | (simp only [w1, w2, e1, w3]), rfl⟩

theorem fblocks_any {T : Nat → Prop} {w : World} {gf gw mb g : Nat} {dn : Bool} {m : M.Dsk} (hD : CodeDk T w g m) (hW : WalIs w gw g) (c0 : w.cell? ⟨gf, 0, none⟩ = some (.pointer (some ⟨gw, 0, none⟩))) (r : Int) (hr : r = min ((m.safe.length : Int) - 42 - 32) 2048) :
    Calls Tryz.prog 48 #[.pointer (some ⟨gf, 0, none⟩)] w fun e w' => e = .returned (.int .i64 r) ∧ w' = w := by
  have hf := hD.ok.few
  have C := Lib.hid (wblocks10 hD hW)
  obtain ⟨n, hn⟩ : ∃ n, (m.safe.length : Int) - 42 = n := ⟨_, rfl⟩
  rw [hn] at C hr
  have n1 : wrap64 (n - 32) = n - 32 := by unfold wrap64; omega
  have m1 : (if (2048 : Int) < n - 32 then (2048 : Int) else n - 32) = r := by rw [hr]; split <;> omega
  have m2 : (if n - 32 < 2048 then n - 32 else 2048) = r := by rw [hr]; split <;> omega
  have m3 : min (n - 32) 2048 = r := hr.symm
  have m4 : (if n - 32 ≤ 2048 then n - 32 else 2048) = r := by rw [hr]; split <;> omega
  clear hD hW hn hr hf
  go_enter Tryz.func48, Tryz.ntmps48
  go_wp2_with fail
  refine C.out.mono ?_
  rintro e w1 ⟨rfl, rfl⟩
  go_wp2
  go_ret
  exact ⟨by first | rfl | (simp only [n1, m1, m2, m3, m4]), rfl⟩

theorem fhas_any {w : World} {gf gw mb : Nat} {dn : Bool} {t : M.Tab} {vs : List Value} (hF : FilesAt w gf gw mb dn) (h : IsTabV w mb t vs) (k : List UInt8) (hk : k.length ≤ maxLen) :
    Calls Tryz.prog 51 #[.pointer (some ⟨gf, 0, none⟩), .string ⟨k.toArray⟩] w fun e w' => e = .returned (.bool (t.any fun p => p.nm == k)) ∧ Below w.heap.size w w' := by
  obtain ⟨s, a, n, c, hrun, _⟩ := h.look_ok k hk
  have c1 : w.cell? ⟨gf, 1, none⟩ = some (.map (some mb)) := hF.cell 1
  obtain ⟨ok, hok⟩ : ∃ b, b = t.any fun p => p.nm == k := ⟨_, rfl⟩
  rw [← hok] at hrun ⊢
  obtain ⟨s', hs⟩ : ∃ s : ByteArray, s = ⟨k.toArray⟩ := ⟨_, rfl⟩
  rw [← hs] at hrun ⊢
  clear hF h hk hok hs
  go_enter Tryz.func51, Tryz.ntmps51
  go_wp2
  go_ret
  exact ⟨rfl, (Below.refl _ _).alloc (Nat.le_refl _) _⟩

theorem fnames_any {w : World} {gf gw mb : Nat} {dn : Bool} {t : M.Tab} {vs : List Value} (hF : FilesAt w gf gw mb dn) (h : IsTabV w mb t vs) (h64 : t.length ≤ 1000) :
    Calls Tryz.prog 18 #[.pointer (some ⟨gf, 0, none⟩)] w fun e w' => ∃ v, e = .returned v ∧ OwnS w' w.heap.size v (t.map M.Pl.nm) ∧ Below w.heap.size w w' := by
  have c1 : w.cell? ⟨gf, 1, none⟩ = some (.map (some mb)) := hF.cell 1
  have C := Lib.hid (tnames_any h h64)
  clear hF h
  go_enter Tryz.func18, Tryz.ntmps18
  go_wp2_with fail
  refine C.out.mono ?_
  rintro e w1 ⟨v, rfl, o1, k1⟩
  go_wp2
  go_ret
  exact ⟨v, rfl, o1, k1⟩

end Go.Proofs.YtphcbpfpelonaaaGreatDoor
