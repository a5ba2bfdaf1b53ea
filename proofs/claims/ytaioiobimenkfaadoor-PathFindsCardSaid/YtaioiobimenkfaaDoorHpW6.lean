/-
  The heap: the document's examples.
-/
import Derived.Test.YtaioiobimenkfaaDoorHpW4
import Derived.Test.YtaioiobimenkfaaDoorHpW5
set_option linter.unusedVariables false
set_option maxRecDepth 100000
namespace Go.Proofs.YtaioiobimenkfaaDoor
open Go.RowKit E

theorem HAt.more {w : World} {b : Nat} {v : Value} {M : List E} {n : Nat} (h : HAt w b v M n) (o : Obj) : HAt (w.alloc o) b v M n := h.below ((Below.refl _ w).alloc (Nat.le_refl _) o)

/-- A heap that was changed since W, and nothing else that lay there but the heap's blocks. -/
def Since (W : World) (b : Nat) (v0 : Value) (M : List E) (n : Nat) (w : World) : Prop := ∃ v, HAt w b v M n ∧ Turn (HF b v0) (HF b v) W w
theorem Since.start {W : World} {b : Nat} {v : Value} {M : List E} {n : Nat} (h : HAt W b v M n) : Since W b v M n W := ⟨v, h, Turn.refl _ _⟩
theorem Since.more {W w : World} {b : Nat} {v0 : Value} {M : List E} {n : Nat} (h : Since W b v0 M n w) (o : Obj) : Since W b v0 M n (w.alloc o) := by
  obtain ⟨v, h1, h2⟩ := h; exact ⟨v, h1.more o, h2.more o⟩
theorem Since.drew {W w : World} {b : Nat} {v0 : Value} {M : List E} {n : Nat} (h : Since W b v0 M n w) : Since W b v0 M n w.drew := by
  obtain ⟨v, h1, h2⟩ := h; exact ⟨v, ⟨h1.box, h1.row, h1.few⟩, h2.drew⟩
theorem Since.below {W w w' : World} {b : Nat} {v0 : Value} {M : List E} {n : Nat} (h : Since W b v0 M n w) (hb : Below w.heap.size w w') : Since W b v0 M n w' := by
  obtain ⟨v, h1, h2⟩ := h; exact ⟨v, h1.below hb, h2.trans (Turn.ofBelow hb _)⟩
/-- A block of the call's own, made since W, is written. -/
theorem Since.put {W w : World} {b : Nat} {v0 : Value} {M : List E} {n : Nat} (h : Since W b v0 M n w) {A o : Nat} (u : Value) (hA : W.heap.size ≤ A) (hne : ∀ v, HAt w b v M n → ¬ HF b v A) : Since W b v0 M n (w.setCell ⟨A, o, none⟩ u) := by
  obtain ⟨v, h1, h2⟩ := h
  refine ⟨v, h1.same fun k hk => Below.heap_setCell _ _ _ _ (fun e => hne v h1 (by have : k = A := e; rw [← this]; exact hk)), h2.os, h2.tape, h2.output, by simpa [World.setCell] using h2.size, fun k hk hn => ?_, h2.foot⟩
  rw [Below.heap_setCell _ _ _ _ (by show k ≠ A; omega)]; exact h2.block k hk hn
theorem Since.old {W w : World} {b : Nat} {v0 : Value} {M : List E} {n : Nat} (h : Since W b v0 M n w) (k : Nat) (hk : k < W.heap.size) (hn : ¬ HF b v0 k) : w.heap[k]? = W.heap[k]? := by
  obtain ⟨v, h1, h2⟩ := h; exact h2.block k hk hn
theorem Since.size {W w : World} {b : Nat} {v0 : Value} {M : List E} {n : Nat} (h : Since W b v0 M n w) : W.heap.size ≤ w.heap.size := by
  obtain ⟨v, h1, h2⟩ := h; exact h2.size
theorem Since.belowOf {W w : World} {b : Nat} {v0 : Value} {M : List E} {n : Nat} (h : Since W b v0 M n w) (B : Nat) (hB : B ≤ W.heap.size) (hb : ∀ k, HF b v0 k → B ≤ k) : Below B W w := by
  obtain ⟨v, h1, h2⟩ := h; exact h2.below B hB hb
theorem Since.trans {W w w' : World} {b : Nat} {v0 v : Value} {M M' : List E} {n n' : Nat} (h1 : HAt w b v M n) (h2 : Turn (HF b v0) (HF b v) W w) (h : Since w b v M' n' w') : Since W b v0 M' n' w' := by
  obtain ⟨v', h3, h4⟩ := h; exact ⟨v', h3, h2.trans h4⟩

theorem push_later (W : World) (b : Nat) (v0 : Value) (M : List E) (n : Nat) (x y : Int) (w w1 : World) (h : Since W b v0 M n w) (hb : Below w.heap.size w w1) (hn : n < 1000000) :
    Calls Tryd.prog 42 #[.pointer (some ⟨b, 0, none⟩), .agg #[.int .i64 x, .int .i64 y]] w1 fun e w' => e = .returned (.tuple #[]) ∧ Since W b v0 (ins ⟨x, y, n⟩ M) (n + 1) w' ∧ (∀ k, w.heap.size ≤ k → k < w1.heap.size → w'.heap[k]? = w1.heap[k]?) ∧ w1.heap.size ≤ w'.heap.size := by
  obtain ⟨v, h1, h2⟩ := h
  refine (push_any b v M n x y w1 (h1.below hb) hn).mono ?_
  rintro e w' ⟨rfl, v', h3, h4⟩
  exact ⟨rfl, ⟨v', h3, (h2.trans (Turn.ofBelow hb _)).trans h4⟩, fun k hk hk1 => h4.block k hk1 (fun e => by have := (h1.owned k e).2; omega), h4.size⟩
theorem pop_later (W : World) (b : Nat) (v0 : Value) (M : List E) (n : Nat) (w w1 : World) (h : Since W b v0 M n w) (hb : Below w.heap.size w w1) :
    Calls Tryd.prog 43 #[.pointer (some ⟨b, 0, none⟩)] w1 fun e w' => e = .returned (Item? M) ∧ Since W b v0 M.tail n w' ∧ (∀ k, w.heap.size ≤ k → k < w1.heap.size → w'.heap[k]? = w1.heap[k]?) ∧ w1.heap.size ≤ w'.heap.size := by
  obtain ⟨v, h1, h2⟩ := h
  refine (pop_any b v M n w1 (h1.below hb)).mono ?_
  rintro e w' ⟨rfl, v', h3, h4⟩
  exact ⟨rfl, ⟨v', h3, (h2.trans (Turn.ofBelow hb _)).trans h4⟩, fun k hk hk1 => h4.block k hk1 (fun e => by have := (h1.owned k e).2; omega), h4.size⟩
theorem len_since (W : World) (b : Nat) (v0 : Value) (M : List E) (n : Nat) (w : World) (h : Since W b v0 M n w) :
    Calls Tryd.prog 77 #[.pointer (some ⟨b, 0, none⟩)] w fun e w' => e = .returned (.int .i64 (M.length : Int)) ∧ w = w' := by
  obtain ⟨v, h1, h2⟩ := h; exact len_any b v M n w h1
theorem peek_since (W : World) (b : Nat) (v0 : Value) (M : List E) (n : Nat) (w : World) (h : Since W b v0 M n w) :
    Calls Tryd.prog 62 #[.pointer (some ⟨b, 0, none⟩)] w fun e w' => e = .returned (Item? M) ∧ Below w.heap.size w w' := by
  obtain ⟨v, h1, h2⟩ := h; exact peek_any b v M n w h1

/-- What the example's heap has when so many were pushed, and when so many were taken out. -/
def sM : Nat → List E
  | 0 => []
  | 1 => [⟨3, 0, 0⟩]
  | 2 => [⟨1, 1, 1⟩, ⟨3, 0, 0⟩]
  | 3 => [⟨1, 1, 1⟩, ⟨3, 0, 0⟩, ⟨3, 2, 2⟩]
  | _ => [⟨1, 1, 1⟩, ⟨2, 3, 3⟩, ⟨3, 0, 0⟩, ⟨3, 2, 2⟩]
def sD : Nat → List E
  | 0 => [⟨1, 1, 1⟩, ⟨2, 3, 3⟩, ⟨3, 0, 0⟩, ⟨3, 2, 2⟩]
  | 1 => [⟨2, 3, 3⟩, ⟨3, 0, 0⟩, ⟨3, 2, 2⟩]
  | 2 => [⟨3, 0, 0⟩, ⟨3, 2, 2⟩]
  | 3 => [⟨3, 2, 2⟩]
  | _ => []


end Go.Proofs.YtaioiobimenkfaaDoor
