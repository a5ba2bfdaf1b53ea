/-
  HeapNil: a nil heap has nothing.
-/
import Derived.Test.YtihffgcahfladaaHpW8
set_option linter.unusedVariables false
namespace Go.Proofs.Ytihffgcahfladaa
open Go.RowKit E

theorem It.none (B : Nat) (w : World) (f : Nat → Int × Int) : It B w .none 0 0 f := ⟨Nat.le_refl _, by unfold maxLen; omega, fun _ => rfl, fun h => by omega⟩

set_option maxHeartbeats 1000000 in
theorem heapNil_walk (x y : Int) (w : World) :
    Calls Try.prog 7 #[.agg #[.int .i64 x, .int .i64 y]] w fun e w' => e = .returned (.bool true) ∧ Below w.heap.size w w' := by
  have HA : Hid (∀ X : Obj, Below w.heap.size w (w.alloc X)) := Lib.hid fun X => (Below.refl _ w).alloc (Nat.le_refl _) _
  go_enter Try.func7, Try.ntmps7
  go_wp2_with fail
  refine (shown_any _).mono ?_
  rintro e w1 ⟨rfl, hb1⟩
  have HB1 := Lib.hid ((HA.out _).trans (hb1.mono (HA.out _).size))
  have c0 : w1.cell? ⟨w.heap.size, 0, none⟩ = some (.int .i64 x) := (hb1.cell (p := ⟨w.heap.size, 0, none⟩) (by simp)).trans (by simp)
  have c1 : w1.cell? ⟨w.heap.size, 1, none⟩ = some (.int .i64 y) := (hb1.cell (p := ⟨w.heap.size, 1, none⟩) (by simp)).trans (by simp)
  clear hb1
  go_wp2_with fail
  refine (push_nil _ _ _).mono ?_
  rintro e w2 ⟨rfl, hb2⟩
  have HB2 := Lib.hid (HB1.out.trans (hb2.mono HB1.out.size))
  clear hb2 c0 c1 HB1 HA
  go_wp2_with fail
  refine (pop_nil _).mono ?_
  rintro e w3 ⟨rfl, hb3⟩
  have HB3 := Lib.hid (HB2.out.trans (hb3.mono HB2.out.size))
  simp only [Item?]
  clear hb3 HB2
  go_wp2_with fail
  refine (peek_nil _).mono ?_
  rintro e w4 ⟨rfl, hb4⟩
  have HB4 := Lib.hid ((HB3.out.alloc HB3.out.size (.cells #[.int .i64 0, .int .i64 0] 32)).trans (hb4.mono (by have := HB3.out.size; simp; omega)))
  have c0 : w4.cell? ⟨w3.heap.size, 0, none⟩ = some (.int .i64 0) := (hb4.cell (p := ⟨w3.heap.size, 0, none⟩) (by simp)).trans (by simp)
  have c1 : w4.cell? ⟨w3.heap.size, 1, none⟩ = some (.int .i64 0) := (hb4.cell (p := ⟨w3.heap.size, 1, none⟩) (by simp)).trans (by simp)
  have hlt : w3.heap.size < w4.heap.size := Nat.lt_of_lt_of_le (by simp) hb4.size
  simp only [Item?]
  have HB5 := Lib.hid (HB4.out.alloc HB4.out.size (.cells #[.int .i64 0, .int .i64 0] 32))
  clear hb4 HB3 HB4
  go_wp2_with (first | (go_at_call 19; refine (len_nil _).mono ?_; rintro e w5 ⟨rfl, rfl⟩) | (go_at_call 21; refine (sort_any none 0 0 (fun _ => (0, 0)) _ (It.none _ _ _) (by omega)).mono ?_; rintro e w6 ⟨g, c, rfl, _, hb6⟩; have HB6 := Lib.hid (HB5.out.trans (hb6.mono HB5.out.size)); clear hb6))
  go_ret
  exact ⟨rfl, HB6.out⟩

end Go.Proofs.Ytihffgcahfladaa
