/-
  Claims that came in, opened for a walk.
-/
import Derived.Test.YtljmigomhoefpaaBkB
import Derived.ProofKit
import Derived.OpenShut
import Derived.Deep.Slices
import Derived.Lib.SmallJoins
import Derived.Deep.Fields
set_option linter.unusedVariables false
set_option maxRecDepth 100000
namespace Go.Proofs.Ytljmigomhoefpaa.Bk
open Go.ChangeShapes Go.WideShapes Go.ChangeAt Go.RowKit Go.Deep Go.Joins

theorem plain8 {w : World} {x : Addr} {v : Value} (h : w.cell? (x.add 0) = some v) : ∃ g off, x = ⟨g, off, none⟩ ∧ g < w.heap.size := by
  obtain ⟨g, off, spot⟩ := x
  have e0 : (Addr.add ⟨g, off, spot⟩ 0) = ⟨g, off, spot⟩ := by simp [Addr.add]
  rw [e0] at h
  have hs : spot = none := World.cell?_spot h
  subst hs
  exact ⟨g, off, rfl, World.block_lt_of_cell? w _ h⟩
theorem choose8 {α : Type} [Inhabited α] {n : Nat} {P : Nat → α → Prop} (h : ∀ i, i < n → ∃ q, P i q) : ∃ f : Nat → α, ∀ i, i < n → P i (f i) := by
  classical
  exact ⟨fun i => if hi : i < n then Classical.choose (h i hi) else default, fun i hi => by simp only [hi, dite_true]; exact Classical.choose_spec (h i hi)⟩
/-- The cells of every element, and that they read by its type. -/
theorem rows_cells8 {H : Type} {enc : TypeId × Value → H} {P : Program} {W : World} {t e : TypeId} {k : Nat} {fuel : Nat} {a : Option Addr} {len cap : Nat} {x : DataW H × List MemPlace}
    (ht : P.underlying t = some (.slice e)) (hC : P.cellsOf e = k) (h0 : 0 < k)
    (h : DataW.trod enc P W 0 (fun _ => true) true fuel t [.slice a len cap] = some x) :
    (a = none → len = 0 ∧ cap = 0) ∧ len ≤ cap ∧ cap ≤ maxLen ∧ ∀ i, i < len → ∃ g off n cs y, a = some ⟨g, off, none⟩ ∧ g < W.heap.size ∧ cs.length = k ∧
      (∀ j, j < k → W.cell? ⟨g, off + i * k + j, none⟩ = cs[j]?) ∧ DataW.trod enc P W 0 (fun _ => true) true n e cs = some y := by
  rcases open_slice ht h with ⟨hcs, _⟩ | ⟨b, len', cap', m, n, D, Pl, hcs, _, hl, hm, hmm, _, hi⟩
  · simp at hcs
    obtain ⟨rfl, rfl, rfl⟩ := hcs
    exact ⟨fun _ => ⟨rfl, rfl⟩, Nat.le_refl _, Nat.zero_le _, fun i hi => by omega⟩
  · simp at hcs
    obtain ⟨rfl, rfl, rfl⟩ := hcs
    simp at hmm
    refine ⟨fun e => by simp at e, hl, hm, fun i him => ?_⟩
    have hplain : ∃ g off, b = ⟨g, off, none⟩ ∧ g < W.heap.size := by
      obtain ⟨cs0, hc0, _⟩ := hi 0 (by omega)
      rw [hC, Nat.zero_mul] at hc0
      obtain ⟨_, hlen0, hat0⟩ := World.cells?_some hc0
      have h1 := hat0 0 h0
      rw [Go.Deep.add_add, Nat.zero_add, List.getElem?_eq_getElem (by omega)] at h1
      exact plain8 h1
    obtain ⟨g, off, rfl, hg⟩ := hplain
    obtain ⟨cs, hc, htr⟩ := hi i (by omega)
    rw [hC] at hc
    obtain ⟨_, hlen, hat⟩ := World.cells?_some hc
    refine ⟨g, off, _, cs, _, rfl, hg, hlen, fun j hj => ?_, htr⟩
    have h1 := hat j hj
    rw [Go.Deep.add_add, add_at] at h1
    rw [Nat.add_assoc]
    exact h1
theorem open_ints8 {H : Type} {enc : TypeId × Value → H} {W : World} {fuel : Nat} {a : Option Addr} {len cap : Nat} {x : DataW H × List MemPlace}
    (hf : DataW.trod enc Try.prog W 0 (fun _ => true) true fuel 24 [.slice a len cap] = some x) : ∃ L : List Int, Lt W.heap.size W a len cap L := by
  obtain ⟨h1, h2, h3, h4⟩ := rows_cells8 (k := 1) Try.underlying24 (by kernel_rfl) (by decide) hf
  have h5 : ∀ i, i < len → ∃ q : Int, ∃ g off, a = some ⟨g, off, none⟩ ∧ g < W.heap.size ∧ W.cell? ⟨g, off + i, none⟩ = some (.int .i64 q) := fun i hi => by
    obtain ⟨g, off, n, cs, y, ha, hg, hl, hc, ht⟩ := h4 i hi
    have hc0 := hc 0 (by omega)
    obtain ⟨u0, rfl⟩ : ∃ u0, cs = [u0] := by
      match cs, hl with
      | [u0], _ => exact ⟨u0, rfl⟩
    obtain ⟨m0, e0, _, _⟩ := DataW.trod_int Try.underlying3 ht
    simp at e0
    subst e0
    refine ⟨m0, g, off, ha, hg, ?_⟩
    have := hc0
    rwa [Nat.mul_one, Nat.add_zero] at this
  obtain ⟨f, hff⟩ := choose8 h5
  refine ⟨(List.range len).map f, by simp [ivs], h2, h3, fun e => (h1 e).2, fun hn => ?_⟩
  obtain ⟨g, off, ha, hg, _⟩ := hff 0 hn
  refine ⟨g, off, ha, hg, fun j hj => ?_⟩
  obtain ⟨g2, off2, ha2, hg2, hc⟩ := hff j (by omega)
  rw [ha] at ha2
  injection ha2 with ha2
  injection ha2 with e1 e2
  subst e1 e2
  rw [hc]
  have hj' : j < len := by omega
  simp [ivs, hj']
theorem open_claims {H : Type} {enc : TypeId × Value → H} {W : World} {a : Option Addr} {len cap : Nat} {d : DataW H} {p : List MemPlace}
    (h : DataW.Trod enc Try.prog W 0 (fun _ => true) true 22 (.slice a len cap) d p) : ∃ C : Cm, Cl W.heap.size W a len cap C ∧ True := by
  obtain ⟨fuel, hf⟩ := h
  have hf' : DataW.trod enc Try.prog W 0 (fun _ => true) true fuel 22 [.slice a len cap] = some (d, p) := by simpa [Value.cells] using hf
  obtain ⟨h1, h2, h3, h4⟩ := rows_cells8 (k := 2) Try.underlying22 (by kernel_rfl) (by decide) hf'
  have h5 : ∀ i, i < len → ∃ q : (Value × Value) × (List Int × List Int), ∃ g off, a = some ⟨g, off, none⟩ ∧ g < W.heap.size ∧ W.cell? ⟨g, off + i * 2, none⟩ = some q.1.1 ∧ W.cell? ⟨g, off + i * 2 + 1, none⟩ = some q.1.2 ∧ Sl W.heap.size W q.1.1 q.2.1 ∧ Sl W.heap.size W q.1.2 q.2.2 := fun i hi => by
    obtain ⟨g, off, n, cs, y, ha, hg, hl, hc, ht⟩ := h4 i hi
    have hc0 := hc 0 (by omega)
    have hc1 := hc 1 (by omega)
    obtain ⟨u0, u1, rfl⟩ : ∃ u0 u1, cs = [u0, u1] := by
      match cs, hl with
      | [u0, u1], _ => exact ⟨u0, u1, rfl⟩
    obtain ⟨xs, n', _, _, _, hxl, hfs⟩ := DataW.trod_struct Try.underlying33 ht
    have k0 := hfs 0 _ rfl
    have k1 := hfs 1 _ rfl
    have q1 : Try.prog.cellsOf 24 = 1 := by kernel_rfl
    simp [q1] at k0 k1
    simp at hxl
    obtain ⟨y0, y1, rfl⟩ : ∃ y0 y1, xs = [y0, y1] := by
      match xs, hxl with
      | [y0, y1], _ => exact ⟨y0, y1, rfl⟩
    simp at k0 k1
    obtain ⟨a0, l0, c0, e0⟩ := slice_form Try.underlying24 k0
    obtain ⟨a1, l1, c1, e1⟩ := slice_form Try.underlying24 k1
    simp at e0 e1
    subst e0 e1
    obtain ⟨L0, hL0⟩ := open_ints8 k0
    obtain ⟨L1, hL1⟩ := open_ints8 k1
    exact ⟨((_, _), (L0, L1)), g, off, ha, hg, hc0, hc1, ⟨_, _, _, rfl, hL0⟩, ⟨_, _, _, rfl, hL1⟩⟩
  obtain ⟨f, hff⟩ := choose8 h5
  refine ⟨(List.range len).map fun i => (f i).2, ⟨(List.range len).map fun i => (f i).1, ⟨by simp [pcl_length], h2, h3, fun e => (h1 e).2, fun hn => ?_⟩, by simp, fun j p e => ?_⟩, trivial⟩
  · obtain ⟨g, off, ha, hg, _⟩ := hff 0 hn
    refine ⟨g, off, ha, hg, fun j hj => ?_⟩
    have hj' : j / 2 < len := by omega
    obtain ⟨g2, off2, ha2, hg2, hc0, hc1, _⟩ := hff (j / 2) hj'
    rw [ha] at ha2
    injection ha2 with ha2
    injection ha2 with e1 e2
    subst e1 e2
    obtain ⟨r1, r2⟩ := pcl_get ((List.range len).map fun i => (f i).1) (j / 2) (f (j / 2)).1 (by simp [hj'])
    rcases (by omega : j = j / 2 * 2 ∨ j = j / 2 * 2 + 1) with q | q
    · rw [q, r1, hc0]
    · rw [q, r2, ← Nat.add_assoc, hc1]
  · have hj : j < len := by have := (List.getElem?_eq_some_iff.1 e).1; simpa using this
    simp [hj] at e
    subst e
    obtain ⟨_, _, _, _, _, _, s1, s2⟩ := hff j hj
    have e2 : ((List.range len).map fun i => (f i).2).getD j ([], []) = (f j).2 := by simp [List.getD, hj]
    unfold hold need
    rw [e2]
    exact ⟨s1, s2⟩
end Go.Proofs.Ytljmigomhoefpaa.Bk
