/-
  Layer 13: the document's examples; a nil network.
-/
import Derived.Test.YtobpinelhjpfgaaDoorNwE
import Derived.Lib.SlBytesConst
set_option linter.unusedVariables false
set_option maxRecDepth 100000
namespace Go.Proofs.YtobpinelhjpfgaaDoor
namespace Nw
open Go.RowKit Bk

def sa : ByteArray := { data := #[97] }
def sb : ByteArray := { data := #[98] }
theorem one_lit (w : World) (e : TypeId) (u : Value) (fz : Nat × Nat) : Gt 1 (w.alloc (.cells #[u] e fz)).heap.size (w.alloc (.cells #[u] e fz)) (some ⟨w.heap.size, 0, none⟩) 1 1 [u] := by
  refine ⟨rfl, Nat.le_refl _, by unfold maxLen; omega, fun h => (by cases h), fun _ => ⟨w.heap.size, 0, rfl, by simp, fun j hj => ?_⟩⟩
  obtain rfl : j = 0 := by omega
  rw [cell_of_row _ _ _ _ _ _ (heap_alloc_new w _)]
  rfl
theorem lit_a (w : World) : Yb (w.alloc (.cells #[.int .u8 97] 5 (1, 2))).heap.size (w.alloc (.cells #[.int .u8 97] 5 (1, 2))) (some ⟨w.heap.size, 0, none⟩) 1 1 sa := ⟨[97], one_lit w 5 _ _, by rfl, by simp [Rg]⟩
theorem lit_b (w : World) : Yb (w.alloc (.cells #[.int .u8 98] 5 (1, 2))).heap.size (w.alloc (.cells #[.int .u8 98] 5 (1, 2))) (some ⟨w.heap.size, 0, none⟩) 1 1 sb := ⟨[98], one_lit w 5 _ _, by rfl, by simp [Rg]⟩
/-- Bytes of one's own that no network's block holds. -/
theorem Yw.turn {w w' : World} {base : Nat} {v : Value} {s : ByteArray} {F F' : Nat → Prop} (h : Yw w base v s) (ht : Turn F F' w w') (hF : ∀ k, F k → k < base) : Yw w' base v s :=
  h.same fun k hk => ht.block k (h.kind k hk).1 (fun e => by have := hF k e; have := (h.kind k hk).2.1; omega)
theorem NAt.belowT {w w' w0 : World} {base g B : Nat} {v v' : Value} {P P' : List Value} {L : List ByteArray} (h : NAt w base g v P L) (ht : Turn (NF g v P) (NF g v' P') w w') (hb : Below B w0 w) (hB : B ≤ w0.heap.size) (hB2 : B ≤ base) : Below B w0 w' :=
  hb.trans (ht.below B (Nat.le_trans hB hb.size) (fun k hk => Nat.le_trans hB2 (h.blocks k hk).1))
end Nw
end Go.Proofs.YtobpinelhjpfgaaDoor
