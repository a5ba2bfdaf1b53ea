/-
  The lists of layer 1's statements, opened for a walk.
-/
import Derived.Test.YtbdlcmpljhbebaaArgsS
set_option linter.unusedVariables false
namespace Go.Proofs.Ytbdlcmpljhbebaa
open Go.ChangeShapes Go.WideShapes Go.ChangeAt Go.RowKit Go.Deep

/-- What is laid: a number in so many bits, or a count, in its three cells. -/
def putCell (f : Nat → Bool × Nat × Int) (i j : Nat) : Value := if j = 0 then .bool (f i).1 else if j = 1 then .int .u64 ((f i).2.1 : Int) else .int .i64 (f i).2.2
/-- What is taken: a number of so many bits, or a count, in its two cells. -/
def takeCell (f : Nat → Bool × Int) (i j : Nat) : Value := if j = 0 then .bool (f i).1 else .int .i64 (f i).2
theorem open_takes {H : Type} {enc : TypeId × Value → H} {W : World} {a : Option Addr} {len cap : Nat} {d : DataW H} {p : List MemPlace}
    (h : DataW.Trod enc Try.prog W 0 (fun _ => true) true 23 (.slice a len cap) d p) :
    ∃ f : Nat → Bool × Int, ArgRows 2 (takeCell f) W a len cap ∧ ∀ i, i < len → -9223372036854775808 ≤ (f i).2 ∧ (f i).2 ≤ 9223372036854775807 := by
  obtain ⟨fuel, hf⟩ := h
  have hf' : DataW.trod enc Try.prog W 0 (fun _ => true) true fuel 23 [.slice a len cap] = some (d, p) := by simpa [Value.cells] using hf
  obtain ⟨h1, h2, h3, h4⟩ := rows_open Try.underlying23 Try.underlying30 (by kernel_rfl) (by kernel_rfl) (by decide) hf'
  have h5 : ∀ i, i < len → ∃ q : Bool × Int, (-9223372036854775808 ≤ q.2 ∧ q.2 ≤ 9223372036854775807) ∧ ∃ g off, a = some ⟨g, off, none⟩ ∧ g < W.heap.size ∧
      W.cell? ⟨g, off + i * 2 + 0, none⟩ = some (.bool q.1) ∧ W.cell? ⟨g, off + i * 2 + 1, none⟩ = some (.int .i64 q.2) := fun i hi => by
    obtain ⟨g, off, n, ha, hg, hj⟩ := h4 i hi
    obtain ⟨u0, y0, c0, t0⟩ := hj 0 _ rfl
    obtain ⟨u2, y2, c2, t2⟩ := hj 1 _ rfl
    obtain ⟨b0, e0, _⟩ := DataW.trod_bool Try.underlying4 t0
    obtain ⟨n2, e2, _, w2⟩ := DataW.trod_int Try.underlying3 t2
    simp at e0 e2
    subst e0 e2
    have k2 : -9223372036854775808 ≤ n2 ∧ n2 ≤ 9223372036854775807 := by simpa [Lit.wf, IntKind.min, IntKind.max, IntKind.signed, IntKind.bits] using w2
    exact ⟨(b0, n2), k2, g, off, ha, hg, c0, c2⟩
  obtain ⟨f, hff⟩ := choose_lt h5
  refine ⟨f, ⟨h1, h2, h3, fun i hi => ?_⟩, fun i hi => (hff i hi).1⟩
  obtain ⟨_, g, off, ha, hg, c0, c1⟩ := hff i hi
  refine ⟨g, off, ha, hg, fun j hj => ?_⟩
  have : j = 0 ∨ j = 1 := by omega
  rcases this with rfl | rfl
  · exact c0
  · exact c1

end Go.Proofs.Ytbdlcmpljhbebaa
