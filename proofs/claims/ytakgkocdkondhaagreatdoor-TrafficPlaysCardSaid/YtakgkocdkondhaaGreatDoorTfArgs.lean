/-
  Layer 11: what a walk is told of a step, and of steps, that came in.
-/
import Derived.Test.YtakgkocdkondhaaGreatDoorTrafficNilW
import Derived.Test.YtakgkocdkondhaaGreatDoorTrArgs
set_option linter.unusedVariables false
set_option maxRecDepth 100000
namespace Go.Proofs.YtakgkocdkondhaaGreatDoor
namespace Tf
open Go.ChangeShapes Go.WideShapes Go.ChangeAt Go.RowKit Go.Deep Go.Joins
open Tr (Ac Al choose10 rows_cells10 open_acts10)

/-- A step: its kind, its robot, its cells, its acts. -/
abbrev Sp11 := Nat × Int × Int × Int × List Ac
/-- Steps at a slice, of whatever make. -/
structure Ls (B : Nat) (w : World) (A : Option Addr) (n cap : Nat) (L : List Sp11) : Prop where
  len : L.length = n
  le : n ≤ cap
  max : cap ≤ 9223372036854775807
  cell : ∀ j, j < n → ∃ g off A2 n2 c2, A = some ⟨g, off, none⟩ ∧ g < B ∧ w.cell? ⟨g, off + j * 5, none⟩ = some (.int .u8 ((L.getD j (0, 0, 0, 0, [])).1 : Int)) ∧ w.cell? ⟨g, off + j * 5 + 1, none⟩ = some (.int .i64 (L.getD j (0, 0, 0, 0, [])).2.1) ∧ w.cell? ⟨g, off + j * 5 + 2, none⟩ = some (.int .i64 (L.getD j (0, 0, 0, 0, [])).2.2.1) ∧ w.cell? ⟨g, off + j * 5 + 3, none⟩ = some (.int .i64 (L.getD j (0, 0, 0, 0, [])).2.2.2.1) ∧ w.cell? ⟨g, off + j * 5 + 4, none⟩ = some (.slice A2 n2 c2) ∧ Al B w A2 n2 c2 (L.getD j (0, 0, 0, 0, [])).2.2.2.2 ∧ (L.getD j (0, 0, 0, 0, [])).1 ≤ 255
theorem Ls.below {B : Nat} {w w' : World} {A : Option Addr} {n cap : Nat} {L : List Sp11} (h : Ls B w A n cap L) (hb : Below B w w') : Ls B w' A n cap L :=
  ⟨h.len, h.le, h.max, fun j hj => by
    obtain ⟨g, off, A2, n2, c2, e, hg, k0, k1, k2, k3, k4, hal, hk⟩ := h.cell j hj
    exact ⟨g, off, A2, n2, c2, e, hg, (hb.cell (p := ⟨g, _, none⟩) hg).trans k0, (hb.cell (p := ⟨g, _, none⟩) hg).trans k1, (hb.cell (p := ⟨g, _, none⟩) hg).trans k2, (hb.cell (p := ⟨g, _, none⟩) hg).trans k3, (hb.cell (p := ⟨g, _, none⟩) hg).trans k4, hal.below hb, hk⟩⟩
theorem open_steps11 {H : Type} {enc : TypeId × Value → H} {W : World} {a : Option Addr} {len cap : Nat} {d : DataW H} {p : List MemPlace}
    (h : DataW.Trod enc Tryz.prog W 0 (fun _ => true) true 22 (.slice a len cap) d p) : ∃ L : List Sp11, Ls W.heap.size W a len cap L ∧ True := by
  obtain ⟨fuel, hf⟩ := h
  have hf' : DataW.trod enc Tryz.prog W 0 (fun _ => true) true fuel 22 [.slice a len cap] = some (d, p) := by simpa [Value.cells] using hf
  obtain ⟨h1, h2, h3, h4⟩ := rows_cells10 (k := 5) Tryz.underlying22 (by kernel_rfl) (by decide) hf'
  have h5 : ∀ i, i < len → ∃ q : Sp11, ∃ g off A2 n2 c2, a = some ⟨g, off, none⟩ ∧ g < W.heap.size ∧ W.cell? ⟨g, off + i * 5, none⟩ = some (.int .u8 (q.1 : Int)) ∧ W.cell? ⟨g, off + i * 5 + 1, none⟩ = some (.int .i64 q.2.1) ∧ W.cell? ⟨g, off + i * 5 + 2, none⟩ = some (.int .i64 q.2.2.1) ∧ W.cell? ⟨g, off + i * 5 + 3, none⟩ = some (.int .i64 q.2.2.2.1) ∧ W.cell? ⟨g, off + i * 5 + 4, none⟩ = some (.slice A2 n2 c2) ∧ Al W.heap.size W A2 n2 c2 q.2.2.2.2 ∧ q.1 ≤ 255 := fun i hi => by
    obtain ⟨g, off, n, cs, y, ha, hg, hl, hc, ht⟩ := h4 i hi
    have hc0 := hc 0 (by omega)
    have hc1 := hc 1 (by omega)
    have hc2 := hc 2 (by omega)
    have hc3 := hc 3 (by omega)
    have hc4 := hc 4 (by omega)
    obtain ⟨u0, u1, u2, u3, u4, rfl⟩ : ∃ u0 u1 u2 u3 u4, cs = [u0, u1, u2, u3, u4] := by
      match cs, hl with
      | [u0, u1, u2, u3, u4], _ => exact ⟨u0, u1, u2, u3, u4, rfl⟩
    obtain ⟨xs, n', _, _, _, hxl, hfs⟩ := DataW.trod_struct Tryz.underlying37 ht
    have k0 := hfs 0 _ rfl
    have k1 := hfs 1 _ rfl
    have k2 := hfs 2 _ rfl
    have k3 := hfs 3 _ rfl
    have k4 := hfs 4 _ rfl
    have q0 : Tryz.prog.cellsOf 5 = 1 := by kernel_rfl
    have q1 : Tryz.prog.cellsOf 35 = 1 := by kernel_rfl
    have q2 : Tryz.prog.cellsOf 3 = 1 := by kernel_rfl
    simp [q0, q1, q2] at k0 k1 k2 k3 k4
    simp at hxl
    obtain ⟨y0, y1, y2, y3, y4, rfl⟩ : ∃ y0 y1 y2 y3 y4, xs = [y0, y1, y2, y3, y4] := by
      match xs, hxl with
      | [y0, y1, y2, y3, y4], _ => exact ⟨y0, y1, y2, y3, y4, rfl⟩
    simp at k0 k1 k2 k3 k4
    obtain ⟨b0, e0, _, w0⟩ := DataW.trod_int Tryz.underlying5 k0
    obtain ⟨m1, e1, _, _⟩ := DataW.trod_int Tryz.underlying3 k1
    obtain ⟨m2, e2, _, _⟩ := DataW.trod_int Tryz.underlying3 k2
    obtain ⟨m3, e3, _, _⟩ := DataW.trod_int Tryz.underlying3 k3
    obtain ⟨a4, l4, c4, e4⟩ := slice_form Tryz.underlying35 k4
    simp at e0 e1 e2 e3 e4
    subst e0 e1 e2 e3 e4
    have hb : 0 ≤ b0 ∧ b0 ≤ 255 := by simpa [Lit.wf, IntKind.min, IntKind.max, IntKind.signed, IntKind.bits] using w0
    obtain ⟨k, rfl⟩ := Int.eq_ofNat_of_zero_le hb.1
    obtain ⟨L, hL, _⟩ := open_acts10 (a := a4) (len := l4) (cap := c4) ⟨_, by simpa [Value.cells] using k4⟩
    rw [Nat.add_zero] at hc0
    exact ⟨(k, m1, m2, m3, L), g, off, a4, l4, c4, ha, hg, hc0, hc1, hc2, hc3, hc4, hL, by show k ≤ 255; omega⟩
  obtain ⟨f, hff⟩ := choose10 h5
  refine ⟨(List.range len).map f, ⟨by simp, h2, by unfold maxLen at h3; omega, fun j hj => ?_⟩, trivial⟩
  have e : ((List.range len).map f).getD j (0, 0, 0, 0, []) = f j := by simp [List.getD, hj]
  rw [e]
  exact hff j hj
end Tf
end Go.Proofs.YtakgkocdkondhaaGreatDoor
