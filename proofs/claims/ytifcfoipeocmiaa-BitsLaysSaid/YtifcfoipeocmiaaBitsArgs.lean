/-
  The lists of layer 1's statements, opened for a walk.
-/
import Derived.Test.YtifcfoipeocmiaaArgsS
set_option linter.unusedVariables false
namespace Go.Proofs.Ytifcfoipeocmiaa
open Go.ChangeShapes Go.WideShapes Go.ChangeAt Go.RowKit Go.Deep

/-- What is laid: a number in so many bits, or a count, in its three cells. -/
def putCell (f : Nat → Bool × Nat × Int) (i j : Nat) : Value := if j = 0 then .bool (f i).1 else if j = 1 then .int .u64 ((f i).2.1 : Int) else .int .i64 (f i).2.2
theorem open_puts {H : Type} {enc : TypeId × Value → H} {W : World} {a : Option Addr} {len cap : Nat} {d : DataW H} {p : List MemPlace}
    (h : DataW.Trod enc Try.prog W 0 (fun _ => true) true 22 (.slice a len cap) d p) :
    ∃ f : Nat → Bool × Nat × Int, ArgRows 3 (putCell f) W a len cap ∧ ∀ i, i < len → (f i).2.1 < 18446744073709551616 ∧ -9223372036854775808 ≤ (f i).2.2 ∧ (f i).2.2 ≤ 9223372036854775807 := by
  obtain ⟨fuel, hf⟩ := h
  have hf' : DataW.trod enc Try.prog W 0 (fun _ => true) true fuel 22 [.slice a len cap] = some (d, p) := by simpa [Value.cells] using hf
  obtain ⟨h1, h2, h3, h4⟩ := rows_open Try.underlying22 Try.underlying30 (by kernel_rfl) (by kernel_rfl) (by decide) hf'
  have h5 : ∀ i, i < len → ∃ q : Bool × Nat × Int, (q.2.1 < 18446744073709551616 ∧ -9223372036854775808 ≤ q.2.2 ∧ q.2.2 ≤ 9223372036854775807) ∧ ∃ g off, a = some ⟨g, off, none⟩ ∧ g < W.heap.size ∧
      W.cell? ⟨g, off + i * 3 + 0, none⟩ = some (.bool q.1) ∧ W.cell? ⟨g, off + i * 3 + 1, none⟩ = some (.int .u64 (q.2.1 : Int)) ∧ W.cell? ⟨g, off + i * 3 + 2, none⟩ = some (.int .i64 q.2.2) := fun i hi => by
    obtain ⟨g, off, n, ha, hg, hj⟩ := h4 i hi
    obtain ⟨u0, y0, c0, t0⟩ := hj 0 _ rfl
    obtain ⟨u1, y1, c1, t1⟩ := hj 1 _ rfl
    obtain ⟨u2, y2, c2, t2⟩ := hj 2 _ rfl
    obtain ⟨b0, e0, _⟩ := DataW.trod_bool Try.underlying4 t0
    obtain ⟨n1, e1, _, w1⟩ := DataW.trod_int Try.underlying28 t1
    obtain ⟨n2, e2, _, w2⟩ := DataW.trod_int Try.underlying3 t2
    simp at e0 e1 e2
    subst e0 e1 e2
    have k1 : 0 ≤ n1 ∧ n1 ≤ 18446744073709551615 := by simpa [Lit.wf, IntKind.min, IntKind.max, IntKind.signed, IntKind.bits] using w1
    have k2 : -9223372036854775808 ≤ n2 ∧ n2 ≤ 9223372036854775807 := by simpa [Lit.wf, IntKind.min, IntKind.max, IntKind.signed, IntKind.bits] using w2
    obtain ⟨m1, rfl⟩ := Int.eq_ofNat_of_zero_le k1.1
    exact ⟨(b0, m1, n2), ⟨by show m1 < _; omega, k2⟩, g, off, ha, hg, c0, c1, c2⟩
  obtain ⟨f, hff⟩ := choose_lt h5
  refine ⟨f, ⟨h1, h2, h3, fun i hi => ?_⟩, fun i hi => (hff i hi).1⟩
  obtain ⟨_, g, off, ha, hg, c0, c1, c2⟩ := hff i hi
  refine ⟨g, off, ha, hg, fun j hj => ?_⟩
  have : j = 0 ∨ j = 1 ∨ j = 2 := by omega
  rcases this with rfl | rfl | rfl
  · exact c0
  · exact c1
  · exact c2

/-- What is taken: a number of so many bits, or a count, in its two cells. -/
def takeCell (f : Nat → Bool × Int) (i j : Nat) : Value := if j = 0 then .bool (f i).1 else .int .i64 (f i).2
end Go.Proofs.Ytifcfoipeocmiaa
