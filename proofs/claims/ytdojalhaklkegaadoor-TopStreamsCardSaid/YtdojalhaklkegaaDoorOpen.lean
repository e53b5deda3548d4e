/-
  FROM AN ARGUMENT'S READING TO 'IsB': a slice of bytes that came in. Conditions: none.
-/
import Derived.Test.YtdojalhaklkegaaDoorPtN
import Derived.OpenShut
namespace Go.Proofs.YtdojalhaklkegaaDoor
open Go.RowKit

theorem isB_of_ints {w : World} {x : Addr} {len cap : Nat} {zs : List Int} (hl : len ≤ cap) (hm : cap ≤ maxLen) (hz : zs.length = cap)
    (hcell : ∀ i, i < zs.length → w.cell? (x.add i) = some (.int .u8 (zs.getD i 0))) (hwz : ∀ n ∈ zs, (Lit.int .u8 n).wf = true) :
    ∃ bs : List UInt8, bs.length = len ∧ IsB w (.slice (some x) len cap) bs := by
  refine ⟨(zs.take len).map fun z => UInt8.ofNat z.toNat, by simp; omega, some x, cap, by simp; omega, by simp; omega, hm, ?_⟩
  by_cases h0 : len = 0
  · subst h0
    exact .inl (by simp)
  · obtain ⟨b, off, spot⟩ := x
    have hc := hcell 0 (by omega)
    have hspot : spot = none := by simpa [Addr.add] using World.cell?_spot hc
    subst hspot
    refine .inr ⟨b, off, rfl, fun i hi => ?_⟩
    have hi' : i < len := by simp at hi; omega
    have h1 := hcell i (by omega)
    have h2 : w.cell? ⟨b, off + i, none⟩ = some (.int .u8 (zs.getD i 0)) := by rw [← Addr.add_lit]; exact h1
    rw [h2]
    have hi2 : i < zs.length := by omega
    have hb := bounds_u8 (hwz zs[i] (List.getElem_mem hi2))
    have e : zs.getD i 0 = zs[i] := by simp [hi2]
    have e2 : (((zs.take len).map fun z => UInt8.ofNat z.toNat).getD i 0) = UInt8.ofNat zs[i].toNat := by
      simp [List.getD_eq_getElem?_getD, hi', hi2]
    rw [e, e2]
    have e3 : (UInt8.ofNat zs[i].toNat).toNat = zs[i].toNat % 256 := by simp
    rw [e3]
    congr 2
    omega

end Go.Proofs.YtdojalhaklkegaaDoor
