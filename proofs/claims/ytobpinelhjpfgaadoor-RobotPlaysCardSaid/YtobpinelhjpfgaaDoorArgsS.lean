/-
  A slice of structs that came in, opened for a walk.
-/
import Derived.Test.YtobpinelhjpfgaaDoorArgsB
import Derived.Deep.Slices
import Derived.Deep.Fields
set_option linter.unusedVariables false
set_option maxRecDepth 100000
namespace Go.Proofs.YtobpinelhjpfgaaDoor
open Go.ChangeShapes Go.WideShapes Go.ChangeAt Go.RowKit Go.Deep

/-- Every field of every element lies in its cell, and reads by its own type. -/
theorem rows_open {H : Type} {enc : TypeId × Value → H} {P : Program} {W : World} {t e : TypeId} {fs : Array Field} {fuel : Nat} {a : Option Addr} {len cap : Nat} {x : DataW H × List MemPlace}
    (ht : P.underlying t = some (.slice e)) (he : P.underlying e = some (.struct fs)) (hone : oneCellFields P fs = true) (hC : P.cellsOf e = fs.size) (h0 : 0 < fs.size)
    (h : DataW.trod enc P W 0 (fun _ => true) true fuel t [.slice a len cap] = some x) :
    (a = none → len = 0 ∧ cap = 0) ∧ len ≤ cap ∧ cap ≤ maxLen ∧ ∀ i, i < len → ∃ g off n, a = some ⟨g, off, none⟩ ∧ g < W.heap.size ∧
      ∀ (j : Nat) (f : Field), fs[j]? = some f → ∃ (u : Value) (y : DataW H × List MemPlace), W.cell? ⟨g, off + i * fs.size + j, none⟩ = some u ∧ DataW.trod enc P W 0 (fun _ => true) true n f.type [u] = some y := by
  rcases open_slice ht h with ⟨hcs, _⟩ | ⟨b, len', cap', m, n, D, Pl, hcs, _, hl, hm, hmm, _, hi⟩
  · simp at hcs
    obtain ⟨rfl, rfl, rfl⟩ := hcs
    exact ⟨fun _ => ⟨rfl, rfl⟩, Nat.le_refl _, Nat.zero_le _, fun i hi => by omega⟩
  · simp at hcs
    obtain ⟨rfl, rfl, rfl⟩ := hcs
    simp at hmm
    refine ⟨fun e => by simp at e, hl, hm, fun i him => ?_⟩
    have hplain : ∃ g off, b = ⟨g, off, none⟩ ∧ g < W.heap.size := by
      obtain ⟨cs0, hc0, _⟩ := hi 0 (by omega)
      rw [hC, Nat.zero_mul] at hc0
      obtain ⟨_, hlen0, hat0⟩ := World.cells?_some hc0
      have h1 := hat0 0 h0
      rw [Go.Deep.add_add, Nat.zero_add, List.getElem?_eq_getElem (by omega)] at h1
      exact plain_addr h1
    obtain ⟨g, off, rfl, hg⟩ := hplain
    obtain ⟨cs, hc, htr⟩ := hi i (by omega)
    rw [hC] at hc
    obtain ⟨_, hlen, hat⟩ := World.cells?_some hc
    obtain ⟨xs, n', _, _, _, hxl, hf⟩ := DataW.trod_struct he htr
    refine ⟨g, off, n', rfl, hg, fun j f hj => ?_⟩
    have hjl : j < fs.size := (Array.getElem?_eq_some_iff.1 hj).1
    obtain ⟨ho, hk⟩ := hone_of hone j f hj
    have h1 := hat j hjl
    have h2 := hf j f hj
    have hcj : j < cs.length := by omega
    rw [Go.Deep.add_add, plain_add, List.getElem?_eq_getElem hcj] at h1
    have hone' : (cs.drop f.offset).take (P.cellsOf f.type) = [cs[j]] := by
      rw [ho, hk, List.drop_eq_getElem_cons hcj, List.take_succ_cons, List.take_zero]
    rw [hone', List.getElem?_eq_getElem (by omega)] at h2
    exact ⟨_, _, by rw [Nat.add_assoc]; exact h1, h2⟩

end Go.Proofs.YtobpinelhjpfgaaDoor
