/-
  Which blocks of memory a step may write: 'Turn F F' w w'': only blocks of F, and new ones, are written, and what is owned behind it (F') was owned before or is new.
-/
import Derived.Below
set_option linter.unusedVariables false
set_option maxRecDepth 100000
namespace Go.Proofs.YtobpinelhjpfgaaDoor
open Go.RowKit

structure Turn (F F' : Nat → Prop) (w w' : World) : Prop where
  os : w'.os = w.os
  tape : w'.tape = w.tape
  output : w'.output = w.output
  size : w.heap.size ≤ w'.heap.size
  block : ∀ k, k < w.heap.size → ¬ F k → w'.heap[k]? = w.heap[k]?
  foot : ∀ k, F' k → F k ∨ w.heap.size ≤ k

theorem Turn.refl (F : Nat → Prop) (w : World) : Turn F F w w := ⟨rfl, rfl, rfl, Nat.le_refl _, fun _ _ _ => rfl, fun _ h => .inl h⟩
theorem Turn.trans {F F' F'' : Nat → Prop} {a b c : World} (h : Turn F F' a b) (k : Turn F' F'' b c) : Turn F F'' a c :=
  ⟨k.os.trans h.os, k.tape.trans h.tape, k.output.trans h.output, Nat.le_trans h.size k.size,
   fun i hi hF => (k.block i (Nat.lt_of_lt_of_le hi h.size) (fun hF' => by rcases h.foot i hF' with x | x; exact hF x; omega)).trans (h.block i hi hF),
   fun i hi => by rcases k.foot i hi with x | x; exact h.foot i x; exact .inr (Nat.le_trans h.size x)⟩
/-- Nothing that was there is written: everything old is kept. -/
theorem Turn.below {F F' : Nat → Prop} {w w' : World} (h : Turn F F' w w') (B : Nat) (hB : B ≤ w.heap.size) (hF : ∀ k, F k → B ≤ k) : Below B w w' :=
  ⟨h.os, h.tape, h.output, h.size, fun k hk => h.block k (by omega) (fun x => by have := hF k x; omega)⟩
theorem Turn.ofBelow {w w' : World} (h : Below w.heap.size w w') (F : Nat → Prop) : Turn F F w w' :=
  ⟨h.os, h.tape, h.output, h.size, fun k hk _ => h.block k hk, fun k hk => .inl hk⟩
theorem Turn.sub {F F' G' : Nat → Prop} {w w' : World} (h : Turn F F' w w') (hG : ∀ k, G' k → F' k ∨ w.heap.size ≤ k) : Turn F G' w w' :=
  ⟨h.os, h.tape, h.output, h.size, h.block, fun k hk => by rcases hG k hk with x | x; exact h.foot k x; exact .inr x⟩
theorem Turn.grown {F : Nat → Prop} {w w' : World} {row : Option Nat} (hg : w.grownBy w' row) (hr : ∀ k, row = some k → F k) : Turn F F w w' :=
  ⟨hg.os, hg.tape, hg.output, hg.size, fun k hk hF => hg.block k hk (fun e => hF (hr k e.symm)), fun k hk => .inl hk⟩
theorem Turn.setCell {F : Nat → Prop} (w : World) (a : Addr) (u : Value) (hF : F a.block) : Turn F F w (w.setCell a u) :=
  ⟨rfl, rfl, rfl, by simp [World.setCell], fun k hk hn => Below.heap_setCell _ _ _ _ (fun e => hn (e ▸ hF)), fun k hk => .inl hk⟩
theorem Turn.alloc {F : Nat → Prop} (w : World) (o : Obj) : Turn F F w (w.alloc o) :=
  ⟨rfl, rfl, rfl, by simp, fun k hk hn => Below.heap_alloc _ _ _ hk, fun k hk => .inl hk⟩
theorem Turn.put {F F' : Nat → Prop} {w w' : World} (h : Turn F F' w w') {b o : Nat} (u : Value) (hF : F' b) : Turn F F' w (w'.setCell ⟨b, o, none⟩ u) := h.trans (Turn.setCell w' ⟨b, o, none⟩ u hF)
theorem Turn.more {F F' : Nat → Prop} {w w' : World} (h : Turn F F' w w') (o : Obj) : Turn F F' w (w'.alloc o) := h.trans (Turn.alloc w' o)
theorem Turn.drew {F F' : Nat → Prop} {w w' : World} (h : Turn F F' w w') : Turn F F' w w'.drew := ⟨h.os, h.tape, h.output, h.size, h.block, h.foot⟩

/-- What is owned is owned still where its block is as it was. -/
theorem ownsRow_same {w w' : World} {base : Nat} {e : TypeId} {size : Nat} {v : Value} {n : Nat} {xs : List Value} (h : w.ownsRow base e size v n xs)
    (hb : ∀ k, v.ownBlock = some k → w'.heap[k]? = w.heap[k]?) : w'.ownsRow base e size v n xs := by
  obtain ⟨h1, h2⟩ := h
  refine ⟨h1, ?_⟩
  rcases h2 with h2 | ⟨g, cap, cur, rfl, hg, hh, r⟩
  · exact .inl h2
  · exact .inr ⟨g, cap, cur, rfl, hg, by rw [hb g rfl]; exact hh, r⟩
/-- An old block behind a new block and an append. -/
theorem grown_old {w w1 : World} {o : Obj} {row : Option Nat} (hg : (w.alloc o).grownBy w1 row) {b : Nat} (hb : b < w.heap.size) (hbr : some b ≠ row) : w1.heap[b]? = w.heap[b]? :=
  (hg.block b (by simp; omega) hbr).trans (Below.heap_alloc _ _ _ hb)
theorem lt_of_heap {w : World} {k : Nat} {o : Obj} (h : w.heap[k]? = some o) : k < w.heap.size := (Array.getElem?_eq_some_iff.1 h).1

end Go.Proofs.YtobpinelhjpfgaaDoor
