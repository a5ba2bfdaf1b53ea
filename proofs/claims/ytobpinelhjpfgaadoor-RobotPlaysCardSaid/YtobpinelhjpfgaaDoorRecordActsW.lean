/-
  Layer 17: an act's bytes are the document's, and it is taken from them: the law's walk.
-/
import Derived.Test.YtobpinelhjpfgaaDoorRcS
set_option linter.unusedVariables false
set_option maxRecDepth 100000
namespace Go.Proofs.YtobpinelhjpfgaaDoor
namespace Rc
open Go.RowKit Bp Ck
theorem aok_rg {k : Nat} {c p : Int} (h : Aok k c p) : ∀ f, f ∈ [3, 2] → rg f (natN (five 0 0 p c 0) f) := fun f hf => rg_le f _ (h.field f hf).1 (by have := (h.field f hf).2.2; unfold natN; omega)
theorem act_uniq {k k' : Nat} {c p c' p' : Int} (h : Aok k c p) (h' : Aok k' c' p') (e : pack (kb 2 k [3, 2] (natN (five 0 0 p c 0))) = pack (kb 2 k' [3, 2] (natN (five 0 0 p' c' 0)))) : k = k' ∧ c = c' ∧ p = p' := by
  obtain ⟨h1, h2⟩ := kb_uniq (F := fun _ => [3, 2]) (show k < 2 ^ 2 by have := h.1; omega) (show k' < 2 ^ 2 by have := h'.1; omega) (aok_rg h) (aok_rg h') (pack_fin _).1 (e ▸ (pack_fin _).1)
  have e3 : c.toNat = c'.toNat := h2 3 (by decide)
  have e2 : p.toNat = p'.toNat := h2 2 (by decide)
  have a := h.2
  have b := h'.2
  exact ⟨h1, by omega, by omega⟩
theorem TakeATold.yes {w w' : World} {k : Nat} {c p : Int} {e : Ending} (hok : Aok k c p) (h : TakeATold w (pack (kb 2 k [3, 2] (natN (five 0 0 p c 0)))) e w') : e = .returned (.tuple #[.agg #[.int .u8 (k : Int), .int .i64 c, .int .i64 p], .int .i64 0]) ∧ Below w.heap.size w w' := by
  obtain ⟨hb, ⟨k', c', p', hok', hz, rfl⟩ | ⟨hno, _⟩⟩ := h
  · obtain ⟨rfl, rfl, rfl⟩ := act_uniq hok hok' hz
    exact ⟨rfl, hb⟩
  · exact absurd rfl (hno k _ _ hok)
theorem act_len (k : Nat) (N : Nat → Nat) : (pack (kb 2 k [3, 2] N)).length = 2 := by
  rw [pack_length]
  simp [kb, fbits, fld, fw, bitsOf_length, nb]
theorem TakeATold.none_ {w w' : World} {e : Ending} (h : TakeATold w [] e w') : e = .returned (.tuple #[.agg #[.int .u8 0, .int .i64 0, .int .i64 0], .int .i64 170]) ∧ Below w.heap.size w w' := by
  obtain ⟨hb, ⟨k', c', p', hok', hz, rfl⟩ | ⟨hno, rfl⟩⟩ := h
  · have := congrArg List.length hz
    rw [act_len] at this
    simp at this
  · exact ⟨rfl, hb⟩
/-- The law's act lies in the first block behind w. -/
def Ha (k c p : Int) (w w' : World) : Prop := w'.heap[w.heap.size]? = some (.cells #[.int .u8 k, .int .i64 c, .int .i64 p] 33 (0, 0)) ∧ Shp w' ∧ Below w.heap.size w w'
theorem Ha.start {k c p : Int} {w : World} (hS : Shp w) : Ha k c p w (w.alloc (.cells #[.int .u8 k, .int .i64 c, .int .i64 p] 33)) := ⟨heap_alloc_new w _, hS.later (below_new w _), below_new w _⟩
theorem Ha.later {k c p : Int} {w w1 w2 : World} (h : Ha k c p w w1) (hb : Below w1.heap.size w1 w2) : Ha k c p w w2 := ⟨(hb.block _ (lt_of_heap h.1)).trans h.1, h.2.1.later hb, h.2.2.trans (hb.mono h.2.2.size)⟩
theorem Ha.cells {k c p : Int} {w w1 : World} (h : Ha k c p w w1) : w1.cell? ⟨w.heap.size, 0, none⟩ = some (.int .u8 k) ∧ w1.cell? ⟨w.heap.size, 1, none⟩ = some (.int .i64 c) ∧ w1.cell? ⟨w.heap.size, 2, none⟩ = some (.int .i64 p) := by
  have g := fun j => cell_of_row w1 w.heap.size j _ _ _ h.1
  exact ⟨g 0, g 1, g 2⟩
end Rc
end Go.Proofs.YtobpinelhjpfgaaDoor
