/-
  CONTRACTS OF mac.under's SECOND CLOSURE, mac.under, mac.Mac AND mac.Extract. Conditions: the program's two tables of layer 2 lie as they were laid.
-/
import Derived.Test.YtdojalhaklkegaaDoorPtC
import Derived.Laws.EntriesVeiled
set_option maxRecDepth 100000
namespace Go.Proofs.YtdojalhaklkegaaDoor
open Go.RowKit
set_option linter.unusedVariables false

/-- The value tells codes under the block b. -/
def Coder (w : World) (v : Value) (b : List UInt8) : Prop :=
  ∃ g3 g4, v = .func (.func 104) #[] #[.pointer (some ⟨g4, 0, none⟩)] ∧
    w.cell? ⟨g4, 0, none⟩ = some (.func (.func 100) #[] #[.pointer (some ⟨g3, 0, none⟩)]) ∧ Blk w g3 101 (Lib.byteCells b) ∧ b.length = 64

theorem Coder.below {w w' : World} {v : Value} {b : List UInt8} (h : Coder w v b) (k : Below w.heap.size w w') : Coder w' v b := by
  obtain ⟨g3, g4, rfl, h1, h2, h3⟩ := h
  exact ⟨g3, g4, rfl, by rw [k.cell (by exact World.block_lt_of_cell? w _ h1), h1], h2.below k h2.lt, h3⟩

theorem under_any (v : Value) (key : List UInt8) (w : World) (hL : Laid w) (hv : IsB w v key) (hlen : key.length ≤ 562949953421312) :
    Calls Tryd.prog 71 #[v] w fun e w' => ∃ r, e = .returned r ∧ Coder w' r (M.block key) ∧ Below w.heap.size w w' := by
  have hmf : ∀ (fn : Fn) (first cap : Array Value) (w : World), (Instr.makeFunc fn first cap).run Tryd.prog w = .ok (.func fn first cap) w := fun _ _ _ _ => rfl
  have HC := Lib.hid (keyBlock_any v key w hL hv hlen)
  clear hL hv
  obtain ⟨b, hb⟩ : ∃ b, b = M.block key := ⟨_, rfl⟩
  have HBL : Hid (b.length = 64) := by rw [Hid, hb]; exact M.block_length key
  rw [← hb] at HC ⊢
  clear hb
  go_enter Tryd.func71, Tryd.ntmps71
  go_wp2_with fail
  refine HC.out.mono ?_
  rintro e w1 ⟨rfl, k1⟩
  go_wp2_with (refine wpList_store_blk rfl 101 (.tmp 3) (.tmp 6) rfl w1.heap.size (Lib.byteCells b).toArray rfl rfl 101 (List.replicate 64 (.int .u8 0)) (Blk.newAt _ _ _ _ _ rfl rfl) (by rw [List.size_toArray, byteCells_length, HBL.out]; kernel_rfl) (by rw [List.size_toArray, byteCells_length, HBL.out, List.length_replicate]) (bytes_oneCell' b) ?_; intro w2 hb2 ho2)
  go_ret
  have hl2 : w1.heap.size < w2.heap.size := hb2.lt
  have k2 : Below w.heap.size w w2 := (k1.alloc k1.size _).trans (ho2.below (by have := k1.size; simp; omega) k1.size)
  have hw2 : w.heap.size ≤ w2.heap.size := k2.size
  refine ⟨_, rfl, ⟨w1.heap.size, w2.heap.size, rfl, ?_, hb2.alloc _, HBL.out⟩, k2.alloc hw2 _⟩
  rw [(Blk.newAt w2 _ _ w2.heap.size _ rfl rfl).cell]
  rfl

/-- The parts of a call. -/
theorem parts_one {w : World} {t : TypeId} {fr : Nat × Nat} {x : Value} {bs : List UInt8} (h : IsB w x bs) : Parts (w.alloc (.cells #[x] t fr)) (.slice (some ⟨w.heap.size, 0, none⟩) 1 1) [bs] := by
  refine ⟨_, 1, rfl, by simp [maxLen], .inr ⟨w.heap.size, 0, rfl, fun i hi => ?_⟩⟩
  match i, hi with
  | 0, _ => exact ⟨x, by rw [World.cell?_alloc_mark]; rfl, h.below ((Below.refl _ _).alloc (Nat.le_refl _) _)⟩

theorem coder_any (v : Value) (b : List UInt8) (ps : Value) (ls : List (List UInt8)) (w : World) (hL : Laid w) (hc : Coder w (.func (.func 104) #[] #[v]) b) (hp : Parts w ps ls) (hlen : ls.flatten.length ≤ 281474976710656) :
    Calls Tryd.prog 104 #[ps, v] w (Makes w (M.hm b ls.flatten)) := by
  obtain ⟨g3, g4, hv, h1, h2, h3⟩ := hc
  injection hv with _ _ hv
  injection hv with hv
  injection hv with hv _
  subst hv
  obtain ⟨F, hF⟩ : ∃ F, F = ls.flatten := ⟨_, rfl⟩
  have hg4 : g4 < w.heap.size := by exact World.block_lt_of_cell? w _ h1
  have KP := Lib.hid (show ∀ w', Below w.heap.size w w' → w'.cell? ⟨g4, 0, none⟩ = some (.func (.func 100) #[] #[.pointer (some ⟨g3, 0, none⟩)]) from fun w' k => (k.cell hg4).trans h1)
  obtain ⟨I, hI⟩ : ∃ I, I = M.sha (M.mask 54 b ++ F) := ⟨_, rfl⟩
  have C1 := Lib.hid (show ∀ w', Below w.heap.size w w' → Calls Tryd.prog 100 #[.int .u8 54, ps, .pointer (some ⟨g3, 0, none⟩)] w' (fun e w1 => ∃ g c, e = .returned (.slice (some ⟨g, 0, none⟩) 32 c) ∧ Own w1 w.heap.size (.slice (some ⟨g, 0, none⟩) 32 c) I ∧ Below w.heap.size w w1) from fun w' k => by
    refine (digest_any 54 ps ls g3 b w' (hL.below k hL.size) (h2.below k h2.lt) h3 (hp.below k) hlen).mono ?_
    rintro e w1 ⟨r, rfl, o, k1⟩
    rw [← hF, ← hI] at o
    have hIl : I.length = 32 := by rw [hI]; exact M.sha_length _
    obtain ⟨g, c, rfl, _⟩ := o.shape (by omega)
    have o' := o.mono k.size
    rw [hIl] at o' ⊢
    exact ⟨g, c, rfl, o', k.trans (k1.mono k.size)⟩)
  have C2 := Lib.hid (show ∀ w1 x, Below w.heap.size w w1 → IsB w1 x I → Calls Tryd.prog 100 #[.int .u8 92, .slice (some ⟨w1.heap.size, 0, none⟩) 1 1, .pointer (some ⟨g3, 0, none⟩)] (w1.alloc (.cells #[x] 24)) (fun e w2 => ∃ r, e = .returned r ∧ Own w2 w.heap.size r (M.hm b F) ∧ Below w.heap.size w w2) from fun w1 x k hx => by
    have k' : Below w.heap.size w (w1.alloc (.cells #[x] 24)) := k.alloc k.size _
    refine (digest_any 92 _ [I] g3 b _ (hL.below k' hL.size) (h2.below k' h2.lt) h3 (parts_one hx) (by simp [hI, M.sha_length])).mono ?_
    rintro e w2 ⟨r, rfl, o, k2⟩
    refine ⟨r, rfl, ?_, k'.trans (k2.mono k'.size)⟩
    have o' := o.mono k'.size
    rw [hI] at o'
    simpa [M.hm] using o')
  rw [← hF]
  clear hL hp h2 h3 hI hF h1
  go_enter Tryd.func104, Tryd.ntmps104
  go_wp2
  go_region_held3 (fun w' => w'.cell? ⟨g4, 0, none⟩ = some (.func (.func 100) #[] #[.pointer (some ⟨g3, 0, none⟩)]))
    (first | exact KP.out _ (Below.refl _ _).drew | exact KP.out _ k1 | exact KP.out _ (k1.alloc k1.size _) | exact KP.out _ k2)
    (first
      | (go_at_call_of 100 (Value.int IntKind.u8 54); refine (C1.out _ (Below.refl _ _).drew).mono ?_; rintro e w1 ⟨g1, c1, rfl, o1, k1⟩)
      | (go_at_call_of 100 (Value.int IntKind.u8 92); refine (C2.out _ _ k1 o1.isB).mono ?_; rintro e w2 ⟨r2, rfl, o2, k2⟩))
  all_goals go_wp2
  all_goals go_ret
  all_goals exact ⟨_, rfl, o2, k2⟩

end Go.Proofs.YtdojalhaklkegaaDoor
