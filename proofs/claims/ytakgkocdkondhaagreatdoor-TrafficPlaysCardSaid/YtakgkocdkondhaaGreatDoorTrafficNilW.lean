/-
  The walk of TrafficNil.
-/
import Derived.Test.YtakgkocdkondhaaGreatDoorTfFou
set_option linter.unusedVariables false
set_option maxRecDepth 100000
namespace Go.Proofs.YtakgkocdkondhaaGreatDoor
namespace Tf
open Go.RowKit Fl Tr Pt
open Lk (T0)

/-- A step's value. -/
def stepV (k : Nat) (r f t : Int) (A : Option Addr) (n c : Nat) : Value := .agg #[.int .u8 (k : Int), .int .i64 r, .int .i64 f, .int .i64 t, .slice A n c]
/-- A step's box. -/
def Sx (b : Nat) (k : Nat) (r f t : Int) (A : Option Addr) (n c : Nat) (w : World) : Prop := w.heap[b]? = some (.cells #[.int .u8 (k : Int), .int .i64 r, .int .i64 f, .int .i64 t, .slice A n c] 37 (0, 0))
theorem Sx.cells {b k : Nat} {r f t : Int} {A : Option Addr} {n c : Nat} {w : World} (h : Sx b k r f t A n c w) : w.cell? ⟨b, 0, none⟩ = some (.int .u8 (k : Int)) ∧ w.cell? ⟨b, 1, none⟩ = some (.int .i64 r) ∧ w.cell? ⟨b, 2, none⟩ = some (.int .i64 f) ∧ w.cell? ⟨b, 3, none⟩ = some (.int .i64 t) ∧ w.cell? ⟨b, 4, none⟩ = some (.slice A n c) ∧ b < w.heap.size :=
  ⟨by rw [cell_of_row w b 0 _ _ _ h]; rfl, by rw [cell_of_row w b 1 _ _ _ h]; rfl, by rw [cell_of_row w b 2 _ _ _ h]; rfl, by rw [cell_of_row w b 3 _ _ _ h]; rfl, by rw [cell_of_row w b 4 _ _ _ h]; rfl, lt_of_heap h⟩
theorem Sx.new (w : World) (k : Nat) (r f t : Int) (A : Option Addr) (n c : Nat) : Sx w.heap.size k r f t A n c (w.alloc (.cells #[.int .u8 (k : Int), .int .i64 r, .int .i64 f, .int .i64 t, .slice A n c] 37)) := heap_alloc_new w _
theorem Sx.later {b k : Nat} {r f t : Int} {A : Option Addr} {n c : Nat} {w w' : World} (h : Sx b k r f t A n c w) (hb : Below w.heap.size w w') : Sx b k r f t A n c w' := (hb.block b (lt_of_heap h)).trans h
/-- Both boxes. -/
structure Nb (w0 : World) (b1 b2 k : Nat) (r f t : Int) (A : Option Addr) (n c : Nat) (W H : Int) (s : ByteArray) (w : World) : Prop where
  below : Below w0.heap.size w0 w
  sx : Sx b1 k r f t A n c w
  fb : Fb b2 W H s w
end Tf
end Go.Proofs.YtakgkocdkondhaaGreatDoor
