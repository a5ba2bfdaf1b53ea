/-
  The lists of layer 4's statements, opened for a walk.
-/
import Derived.Test.YtbpcigcfdkamaaaArgsS
import Derived.Test.YtbpcigcfdkamaaaHpW7
set_option linter.unusedVariables false
namespace Go.Proofs.Ytbpcigcfdkamaaa
open Go.ChangeShapes Go.WideShapes Go.ChangeAt Go.RowKit Go.Deep

theorem open_items {H : Type} {enc : TypeId × Value → H} {W : World} {a : Option Addr} {len cap : Nat} {d : DataW H} {p : List MemPlace}
    (h : DataW.Trod enc Try.prog W 0 (fun _ => true) true 27 (.slice a len cap) d p) :
    ∃ f : Nat → Int × Int, It W.heap.size W a len cap f ∧ True := by
  obtain ⟨fuel, hf⟩ := h
  have hf' : DataW.trod enc Try.prog W 0 (fun _ => true) true fuel 27 [.slice a len cap] = some (d, p) := by simpa [Value.cells] using hf
  obtain ⟨h1, h2, h3, h4⟩ := rows_open Try.underlying27 Try.underlying32 (by kernel_rfl) (by kernel_rfl) (by decide) hf'
  have h5 : ∀ i, i < len → ∃ q : Int × Int, ∃ g off, a = some ⟨g, off, none⟩ ∧ g < W.heap.size ∧
      W.cell? ⟨g, off + i * 2 + 0, none⟩ = some (.int .i64 q.1) ∧ W.cell? ⟨g, off + i * 2 + 1, none⟩ = some (.int .i64 q.2) := fun i hi => by
    obtain ⟨g, off, n, ha, hg, hj⟩ := h4 i hi
    obtain ⟨u1, y1, c1, t1⟩ := hj 0 _ rfl
    obtain ⟨u2, y2, c2, t2⟩ := hj 1 _ rfl
    obtain ⟨n1, e1, _, w1⟩ := DataW.trod_int Try.underlying3 t1
    obtain ⟨n2, e2, _, w2⟩ := DataW.trod_int Try.underlying3 t2
    simp at e1 e2
    subst e1 e2
    exact ⟨(n1, n2), g, off, ha, hg, c1, c2⟩
  obtain ⟨f, hff⟩ := choose_lt h5
  refine ⟨f, ⟨h2, h3, fun e => (h1 e).2, fun hn => ?_⟩, trivial⟩
  obtain ⟨g, off, ha, hg, _⟩ := hff 0 hn
  refine ⟨g, off, ha, hg, fun j hj => ?_⟩
  obtain ⟨g2, off2, ha2, hg2, c1, c2⟩ := hff j hj
  rw [ha] at ha2
  injection ha2 with ha2
  injection ha2 with e1 e2
  subst e1 e2
  exact ⟨c1, c2⟩

/-- The cells of every element, and that they read by its type. -/
theorem rows_cells {H : Type} {enc : TypeId × Value → H} {P : Program} {W : World} {t e : TypeId} {k : Nat} {fuel : Nat} {a : Option Addr} {len cap : Nat} {x : DataW H × List MemPlace}
    (ht : P.underlying t = some (.slice e)) (hC : P.cellsOf e = k) (h0 : 0 < k)
    (h : DataW.trod enc P W 0 (fun _ => true) true fuel t [.slice a len cap] = some x) :
    (a = none → len = 0 ∧ cap = 0) ∧ len ≤ cap ∧ cap ≤ maxLen ∧ ∀ i, i < len → ∃ g off n cs y, a = some ⟨g, off, none⟩ ∧ g < W.heap.size ∧ cs.length = k ∧
      (∀ j, j < k → W.cell? ⟨g, off + i * k + j, none⟩ = cs[j]?) ∧ DataW.trod enc P W 0 (fun _ => true) true n e cs = some y := by
  rcases open_slice ht h with ⟨hcs, _⟩ | ⟨b, len', cap', m, n, D, Pl, hcs, _, hl, hm, hmm, _, hi⟩
  · simp at hcs
    obtain ⟨rfl, rfl, rfl⟩ := hcs
    exact ⟨fun _ => ⟨rfl, rfl⟩, Nat.le_refl _, Nat.zero_le _, fun i hi => by omega⟩
  · simp at hcs
    obtain ⟨rfl, rfl, rfl⟩ := hcs
    simp at hmm
    refine ⟨fun e => by simp at e, hl, hm, fun i him => ?_⟩
    have hplain : ∃ g off, b = ⟨g, off, none⟩ ∧ g < W.heap.size := by
      obtain ⟨cs0, hc0, _⟩ := hi 0 (by omega)
      rw [hC, Nat.zero_mul] at hc0
      obtain ⟨_, hlen0, hat0⟩ := World.cells?_some hc0
      have h1 := hat0 0 h0
      rw [Go.Deep.add_add, Nat.zero_add, List.getElem?_eq_getElem (by omega)] at h1
      exact plain_addr h1
    obtain ⟨g, off, rfl, hg⟩ := hplain
    obtain ⟨cs, hc, htr⟩ := hi i (by omega)
    rw [hC] at hc
    obtain ⟨_, hlen, hat⟩ := World.cells?_some hc
    refine ⟨g, off, _, cs, _, rfl, hg, hlen, fun j hj => ?_, htr⟩
    have h1 := hat j hj
    rw [Go.Deep.add_add, plain_add] at h1
    rw [Nat.add_assoc]
    exact h1

/-- Acts lie at a slice that came in: whether one is taken out, and what is pushed, in three cells. -/
structure Acts (w : World) (A : Option Addr) (n cap : Nat) (f : Nat → Bool × Int × Int) : Prop where
  le : n ≤ cap
  max : cap ≤ maxLen
  nil : A = none → cap = 0
  cell : 0 < n → ∃ g off, A = some ⟨g, off, none⟩ ∧ g < w.heap.size ∧ ∀ j, j < n → w.cell? ⟨g, off + j * 3, none⟩ = some (.bool (f j).1) ∧ w.cell? ⟨g, off + j * 3 + 1, none⟩ = some (.int .i64 (f j).2.1) ∧ w.cell? ⟨g, off + j * 3 + 2, none⟩ = some (.int .i64 (f j).2.2)

theorem open_acts {H : Type} {enc : TypeId × Value → H} {W : World} {a : Option Addr} {len cap : Nat} {d : DataW H} {p : List MemPlace}
    (h : DataW.Trod enc Try.prog W 0 (fun _ => true) true 22 (.slice a len cap) d p) :
    ∃ f : Nat → Bool × Int × Int, Acts W a len cap f ∧ True := by
  obtain ⟨fuel, hf⟩ := h
  have hf' : DataW.trod enc Try.prog W 0 (fun _ => true) true fuel 22 [.slice a len cap] = some (d, p) := by simpa [Value.cells] using hf
  obtain ⟨h1, h2, h3, h4⟩ := rows_cells (k := 3) Try.underlying22 (by kernel_rfl) (by decide) hf'
  have h5 : ∀ i, i < len → ∃ q : Bool × Int × Int, ∃ g off, a = some ⟨g, off, none⟩ ∧ g < W.heap.size ∧
      W.cell? ⟨g, off + i * 3, none⟩ = some (.bool q.1) ∧ W.cell? ⟨g, off + i * 3 + 1, none⟩ = some (.int .i64 q.2.1) ∧ W.cell? ⟨g, off + i * 3 + 2, none⟩ = some (.int .i64 q.2.2) := fun i hi => by
    obtain ⟨g, off, n, cs, y, ha, hg, hl, hc, ht⟩ := h4 i hi
    have hc0 := hc 0 (by omega)
    have hc1 := hc 1 (by omega)
    have hc2 := hc 2 (by omega)
    obtain ⟨u0, u1, u2, rfl⟩ : ∃ u0 u1 u2, cs = [u0, u1, u2] := by
      match cs, hl with
      | [u0, u1, u2], _ => exact ⟨u0, u1, u2, rfl⟩
    obtain ⟨xs, n', _, _, _, hxl, hfs⟩ := DataW.trod_struct Try.underlying34 ht
    have k0 := hfs 0 _ rfl
    have k1 := hfs 1 _ rfl
    have q0 : Try.prog.cellsOf 4 = 1 := by kernel_rfl
    have q1 : Try.prog.cellsOf 32 = 2 := by kernel_rfl
    have q2 : Try.prog.cellsOf 3 = 1 := by kernel_rfl
    simp [q0, q1] at k0 k1
    simp at hxl
    obtain ⟨y0, y1, rfl⟩ : ∃ y0 y1, xs = [y0, y1] := by
      match xs, hxl with
      | [y0, y1], _ => exact ⟨y0, y1, rfl⟩
    simp at k0 k1
    obtain ⟨b0, e0, _⟩ := DataW.trod_bool Try.underlying4 k0
    obtain ⟨ys, n'', _, _, _, hyl, hgs⟩ := DataW.trod_struct Try.underlying32 k1
    have k2 := hgs 0 _ rfl
    have k3 := hgs 1 _ rfl
    simp [q2] at k2 k3
    simp at hyl
    obtain ⟨z0, z1, rfl⟩ : ∃ z0 z1, ys = [z0, z1] := by
      match ys, hyl with
      | [z0, z1], _ => exact ⟨z0, z1, rfl⟩
    simp at k2 k3
    obtain ⟨n1, e1, _, w1⟩ := DataW.trod_int Try.underlying3 k2
    obtain ⟨n2, e2, _, w2⟩ := DataW.trod_int Try.underlying3 k3
    simp at e0 e1 e2
    subst e0 e1 e2
    exact ⟨(b0, n1, n2), g, off, ha, hg, hc0, hc1, hc2⟩
  obtain ⟨f, hff⟩ := choose_lt h5
  refine ⟨f, ⟨h2, h3, fun e => (h1 e).2, fun hn => ?_⟩, trivial⟩
  obtain ⟨g, off, ha, hg, _⟩ := hff 0 hn
  refine ⟨g, off, ha, hg, fun j hj => ?_⟩
  obtain ⟨g2, off2, ha2, hg2, c0, c1, c2⟩ := hff j hj
  rw [ha] at ha2
  injection ha2 with ha2
  injection ha2 with e1 e2
  subst e1 e2
  exact ⟨c0, c1, c2⟩

end Go.Proofs.Ytbpcigcfdkamaaa
