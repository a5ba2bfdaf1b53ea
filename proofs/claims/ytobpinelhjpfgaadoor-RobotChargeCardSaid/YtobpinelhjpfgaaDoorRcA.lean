/-
  Layer 17: the table of fields in memory; which numbers may be; which fields a kind has; which records may be.
-/
import Derived.Test.YtobpinelhjpfgaaDoorRcPlain
set_option linter.unusedVariables false
set_option maxRecDepth 100000
namespace Go.Proofs.YtobpinelhjpfgaaDoor
namespace Rc
open Go.RowKit Bp
/-- What the fields' table holds. -/
def shpC : Array Value := #[.int .i64 1073741824, .int .i64 0, .int .i64 7, .int .i64 3, .int .i64 63, .int .i64 6, .int .i64 255, .int .i64 8, .int .i64 5, .int .i64 3]
/-- The table lies in memory as the program lays it. -/
def Shp (w : World) : Prop := ∃ t m, w.heap[0]? = some (.cells shpC t m)
theorem Shp.pos {w : World} (h : Shp w) : 0 < w.heap.size := by obtain ⟨t, m, h⟩ := h; exact lt_of_heap h
theorem Shp.of {w w' : World} (h : Shp w) (e : w'.heap[0]? = w.heap[0]?) : Shp w' := by obtain ⟨t, m, h⟩ := h; exact ⟨t, m, e.trans h⟩
theorem Shp.below {B : Nat} {w w' : World} (h : Shp w) (hb : Below B w w') (hB : 0 < B) : Shp w' := h.of (hb.block 0 hB)
theorem Shp.later {w w' : World} (h : Shp w) (hb : Below w.heap.size w w') : Shp w' := h.below hb h.pos
theorem Shp.cell {w : World} (h : Shp w) (j : Nat) : w.cell? ⟨0, j, none⟩ = shpC[j]? := by
  obtain ⟨t, m, h⟩ := h
  exact cell_of_row w 0 j _ _ _ h
theorem mayBe_any (f : Nat) (hf : f < 5) (n : Int) (w : World) (h : Shp w) :
    Calls Tryd.prog 107 #[.int .i64 (f : Int), .int .i64 n] w fun e w' => e = .returned (.bool (decide (0 ≤ n ∧ n ≤ (fmx f : Int)))) ∧ w = w' := by
  have : f = 0 ∨ f = 1 ∨ f = 2 ∨ f = 3 ∨ f = 4 := by omega
  have hc := h.cell (2 * f)
  clear h hf
  by_cases hn : 0 ≤ n
  · have e1 : decide (0 ≤ n) = true := decide_eq_true hn
    rw [Bool.decide_and, e1, Bool.true_and]
    rcases this with rfl | rfl | rfl | rfl | rfl
    all_goals
      simp only [shpC] at hc
      go_enter Tryd.func107, Tryd.ntmps107
      go_wp2
      go_ret
      exact ⟨rfl, rfl⟩
  · have e1 : decide (0 ≤ n) = false := decide_eq_false hn
    rw [Bool.decide_and, e1, Bool.false_and]
    clear hc this
    go_enter Tryd.func107, Tryd.ntmps107
    go_wp2
    go_ret
    exact ⟨rfl, rfl⟩
/-- Numbers of fields lie at a slice, in a block from B on. -/
def Fs (B : Nat) (w : World) (v : Value) (fs : List Nat) : Prop := (fs = [] ∧ v = .slice none 0 0) ∨ ∃ g, v = .slice (some ⟨g, 0, none⟩) fs.length fs.length ∧ B ≤ g ∧ g < w.heap.size ∧ ∀ j, j < fs.length → w.cell? ⟨g, j, none⟩ = some (.int .i64 ((fs.getD j 0 : Nat) : Int))
theorem Fs.later {B : Nat} {w w' : World} {v : Value} {fs : List Nat} (h : Fs B w v fs) (hb : Below w.heap.size w w') : Fs B w' v fs := by
  rcases h with h | ⟨g, e, hB, hg, hc⟩
  · exact .inl h
  · exact .inr ⟨g, e, hB, Nat.lt_of_lt_of_le hg hb.size, fun j hj => (hb.cell (p := ⟨g, j, none⟩) hg).trans (hc j hj)⟩
theorem Fs.mono {B B' : Nat} {w : World} {v : Value} {fs : List Nat} (h : Fs B w v fs) (hB : B' ≤ B) : Fs B' w v fs := by
  rcases h with h | ⟨g, e, h1, hg, hc⟩
  · exact .inl h
  · exact .inr ⟨g, e, Nat.le_trans hB h1, hg, hc⟩
theorem Fs.turn {B : Nat} {F F' : Nat → Prop} {w w' : World} {v : Value} {fs : List Nat} (h : Fs B w v fs) (ht : Turn F F' w w') (hF : ∀ k, F k → k < B) : Fs B w' v fs := by
  rcases h with h | ⟨g, e, hB, hg, hc⟩
  · exact .inl h
  · refine .inr ⟨g, e, hB, Nat.lt_of_lt_of_le hg ht.size, fun j hj => ?_⟩
    rw [← hc j hj]
    exact World.cell?_of_block (w := w) (a := ⟨g, j, none⟩) (ht.block g hg (fun x => by have := hF g x; omega))
theorem fs_new (w : World) (a : Array Value) (t : Nat) (fs : List Nat) (ha : a = (fs.map fun f : Nat => Value.int .i64 (f : Int)).toArray) : Fs w.heap.size (w.alloc (.cells a t)) (.slice (some ⟨w.heap.size, 0, none⟩) fs.length fs.length) fs :=
  .inr ⟨w.heap.size, rfl, Nat.le_refl _, lt_of_heap (heap_alloc_new w _), fun j hj => by
    rw [cell_of_row _ w.heap.size j _ _ _ (heap_alloc_new w _), ha]
    simp [hj]⟩
theorem below_new (w : World) (o : Obj) : Below w.heap.size w (w.alloc o) := (Below.refl _ _).alloc (Nat.le_refl _) _
theorem actFields_any (w : World) :
    Calls Tryd.prog 83 #[] w fun e w' => ∃ v, e = .returned v ∧ Fs w.heap.size w' v [3, 2] ∧ Below w.heap.size w w' := by
  go_enter Tryd.func83, Tryd.ntmps83
  go_wp2
  go_ret
  exact ⟨_, rfl, fs_new w _ _ [3, 2] rfl, below_new _ _⟩
/-- The five numbers. -/
def five (i r p c q : Int) : Nat → Int
  | 0 => i | 1 => r | 2 => p | 3 => c | 4 => q | _ => 0
theorem Tryd.cellsN : (Tryd.prog.info? 123).map (·.size) = some 5 := by kernel_rfl
theorem set5 {w : World} {R : Nat} {a0 a1 a2 a3 a4 : Value} {t : TypeId} (h : w.heap[R]? = some (.cells #[a0, a1, a2, a3, a4] t (0, 0))) (u0 u1 u2 u3 u4 : Value) :
    (((((w.setCell ⟨R, 0, none⟩ u0).setCell ⟨R, 1, none⟩ u1).setCell ⟨R, 2, none⟩ u2).setCell ⟨R, 3, none⟩ u3).setCell ⟨R, 4, none⟩ u4).heap[R]? = some (.cells #[u0, u1, u2, u3, u4] t (0, 0)) := by
  have h0 := heap_setCell_same w R 0 _ _ u0 h
  have h1 := heap_setCell_same _ R 1 _ _ u1 h0
  have h2 := heap_setCell_same _ R 2 _ _ u2 h1
  have h3 := heap_setCell_same _ R 3 _ _ u3 h2
  have h4 := heap_setCell_same _ R 4 _ _ u4 h3
  rw [h4]; simp
theorem below5 {B : Nat} {a w : World} (h : Below B a w) {R : Nat} (hR : B ≤ R) (u0 u1 u2 u3 u4 : Value) : Below B a (((((w.setCell ⟨R, 0, none⟩ u0).setCell ⟨R, 1, none⟩ u1).setCell ⟨R, 2, none⟩ u2).setCell ⟨R, 3, none⟩ u3).setCell ⟨R, 4, none⟩ u4) :=
  ((((h.setCell (p := ⟨R, 0, none⟩) hR _).setCell (p := ⟨R, 1, none⟩) hR _).setCell (p := ⟨R, 2, none⟩) hR _).setCell (p := ⟨R, 3, none⟩) hR _).setCell (p := ⟨R, 4, none⟩) hR _
/-- Where a number stands in a list of fields. -/
def IdxTold (w : World) (fs : List Nat) (n : Nat) (e : Ending) (w' : World) : Prop := w = w' ∧ ((n ∈ fs ∧ ∃ m : Nat, e = .returned (.int .i64 (m : Int)) ∧ m ≤ 5) ∨ (n ∉ fs ∧ e = .returned (.int .i64 (-1))))
theorem fs_mem (fs : List Nat) (n : Nat) : n ∈ fs ↔ ∃ j, j < fs.length ∧ fs.getD j 0 = n := by
  constructor
  · intro h
    obtain ⟨j, hj, e⟩ := List.getElem_of_mem h
    exact ⟨j, hj, by simp [List.getD, hj, e]⟩
  · rintro ⟨j, hj, rfl⟩
    simp [List.getD, hj]
/-- Which records may be. -/
def Rok (k : Nat) (N : Nat → Int) : Prop := fl k ≠ [] ∧ ∀ f, f < 5 → (0 ≤ N f ∧ N f ≤ (fmx f : Int)) ∧ (N f = 0 ∨ f ∈ fl k)
instance (k : Nat) (N : Nat → Int) : Decidable (Rok k N) := by unfold Rok; exact inferInstance
theorem run_idx5 (i r p c q : Int) (f : Nat) (hf : f < 5) (w : World) : (Instr.index 123 (.agg #[.int .i64 i, .int .i64 r, .int .i64 p, .int .i64 c, .int .i64 q]) (.int .i64 (f : Int))).run Tryd.prog w = .ok (.int .i64 (five i r p c q f)) w := by
  have : f = 0 ∨ f = 1 ∨ f = 2 ∨ f = 3 ∨ f = 4 := by omega
  rcases this with rfl | rfl | rfl | rfl | rfl <;> exact rfl
def RightTold (w : World) (k : Nat) (N : Nat → Int) (e : Ending) (w' : World) : Prop := e = .returned (.bool (decide (Rok k N))) ∧ Below w.heap.size w w'
theorem fl_len (k : Nat) : (fl k).length ≤ 3 := by unfold fl; repeat' split
                                                   all_goals decide
theorem Fs.len {B : Nat} {w : World} {v : Value} {fs : List Nat} (h : Fs B w v fs) : ∃ A c, v = .slice A fs.length c := by
  rcases h with ⟨rfl, rfl⟩ | ⟨g, rfl, _⟩
  · exact ⟨none, 0, rfl⟩
  · exact ⟨_, _, rfl⟩
end Rc
end Go.Proofs.YtobpinelhjpfgaaDoor
