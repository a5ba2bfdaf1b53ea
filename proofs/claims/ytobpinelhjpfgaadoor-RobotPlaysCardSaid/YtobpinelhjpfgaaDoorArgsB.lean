/-
  A slice of bytes that came in, opened for a walk.
-/
import Derived.Test.YtobpinelhjpfgaaDoorArgs
import Derived.Test.YtobpinelhjpfgaaDoorRows
import Derived.ProofKit
import Derived.OpenShut
set_option linter.unusedVariables false
set_option maxRecDepth 100000
namespace Go.Proofs.YtobpinelhjpfgaaDoor
open Go.ChangeShapes Go.WideShapes Go.ChangeAt Go.RowKit

theorem plain_addr {w : World} {x : Addr} {v : Value} (h : w.cell? (x.add 0) = some v) : ∃ g off, x = ⟨g, off, none⟩ ∧ g < w.heap.size := by
  obtain ⟨g, off, spot⟩ := x
  have e0 : (Addr.add ⟨g, off, spot⟩ 0) = ⟨g, off, spot⟩ := by simp [Addr.add]
  rw [e0] at h
  have hs : spot = none := World.cell?_spot h
  subst hs
  exact ⟨g, off, rfl, World.block_lt_of_cell? w _ h⟩
theorem plain_add (g off i : Nat) : (Addr.add ⟨g, off, none⟩ i) = ⟨g, off + i, none⟩ := by unfold Addr.add; split <;> simp_all

theorem open_bytes {H : Type} {enc : TypeId × Value → H} {W : World} {a : Option Addr} {len cap : Nat} {d : DataW H} {p : List MemPlace}
    (h : DataW.Trod enc Tryd.prog W 0 (fun _ => true) true 35 (.slice a len cap) d p) :
    ∃ f : Nat → Nat, ArgIn (fun z : Nat => Value.int .u8 (z : Int)) W a len cap f ∧ ∀ i, i < len → f i ≤ 255 := by
  obtain ⟨fuel, hf⟩ := h
  rcases open_ints Tryd.underlying35 Tryd.underlying5 (by kernel_rfl) hf with ⟨hcs, _⟩ | ⟨x, l, c, zs, hcs, _, hl, hm, hz, _, hcell, hwz⟩
  · simp [Value.cells] at hcs
    obtain ⟨rfl, rfl, rfl⟩ := hcs
    exact ⟨fun _ => 0, ⟨fun _ => ⟨rfl, rfl⟩, Nat.le_refl _, Nat.zero_le _, fun i hi => by omega⟩, fun i hi => by omega⟩
  · simp [Value.cells] at hcs
    obtain ⟨rfl, rfl, rfl⟩ := hcs
    have hz' : zs.length = cap := by simpa using hz
    have hb : ∀ i, i < len → 0 ≤ zs.getD i 0 ∧ zs.getD i 0 ≤ 255 := fun i hi => by
      have hlt : i < zs.length := by omega
      rw [List.getD, List.getElem?_eq_getElem hlt]
      have := hwz _ (List.getElem_mem hlt)
      simpa [Lit.wf, IntKind.min, IntKind.max, IntKind.signed, IntKind.bits] using this
    refine ⟨fun i => (zs.getD i 0).toNat, ⟨fun e => by simp at e, hl, hm, fun i hi => ?_⟩, fun i hi => by have := hb i hi; show (zs.getD i 0).toNat ≤ 255; omega⟩
    obtain ⟨g, off, rfl, hg⟩ := plain_addr (hcell 0 (by omega))
    refine ⟨g, off, rfl, hg, ?_⟩
    rw [← plain_add, hcell i (by omega)]
    have := hb i hi
    congr 2
    omega

end Go.Proofs.YtobpinelhjpfgaaDoor
