/-
  TopNoted: the notes that came in.
-/
import Derived.Test.YtejldeecblppjaaDoorRcArgs
import Derived.Test.YtejldeecblppjaaDoorTnA
set_option linter.unusedVariables false
set_option maxRecDepth 100000
namespace Go.Proofs.YtejldeecblppjaaDoor
namespace Rc
open Go.RowKit Bp Ck
section
open Go.ChangeShapes Go.WideShapes Go.ChangeAt Go.Deep Go.Joins
theorem open_notes17 {H : Type} {enc : TypeId × Value → H} {W : World} {a : Option Addr} {len cap : Nat} {d : DataW H} {p : List MemPlace}
    (h : DataW.Trod enc Tryd.prog W 0 (fun _ => true) true 41 (.slice a len cap) d p) : ∃ f : Nat → Tn.Rq × Bool, Tn.Nts W.heap.size W a len cap f ∧ True := by
  obtain ⟨fuel, hf⟩ := h
  have hf' : DataW.trod enc Tryd.prog W 0 (fun _ => true) true fuel 41 [.slice a len cap] = some (d, p) := by simpa [Value.cells] using hf
  obtain ⟨h1, h2, h3, h4⟩ := rows14 (k := 7) Tryd.underlying41 (by kernel_rfl) (by decide) hf'
  have h5 : ∀ i, i < len → ∃ q : Tn.Rq × Bool, ∃ g off, a = some ⟨g, off, none⟩ ∧ g < W.heap.size ∧ ∀ t, t < 7 → W.cell? ⟨g, off + i * 7 + t, none⟩ = (Tn.rcl q.1 ++ [Value.bool q.2])[t]? := fun i hi => by
    obtain ⟨g, off, n, cs, y, ha, hg, hl, hc, ht⟩ := h4 i hi
    obtain ⟨u0, u1, u2, u3, u4, u5, u6, rfl⟩ : ∃ u0 u1 u2 u3 u4 u5 u6, cs = [u0, u1, u2, u3, u4, u5, u6] := by
      match cs, hl with
      | [u0, u1, u2, u3, u4, u5, u6], _ => exact ⟨u0, u1, u2, u3, u4, u5, u6, rfl⟩
    obtain ⟨xs, n', _, _, _, hxl, hfs⟩ := DataW.trod_struct Tryd.underlying51 ht
    have k0 := hfs 0 _ rfl
    have k1 := hfs 1 _ rfl
    have q0 : Tryd.prog.cellsOf 23 = 6 := by kernel_rfl
    have q1 : Tryd.prog.cellsOf 4 = 1 := by kernel_rfl
    simp [q0, q1] at k0 k1
    simp at hxl
    obtain ⟨y0, y1, rfl⟩ : ∃ y0 y1, xs = [y0, y1] := by
      match xs, hxl with
      | [y0, y1], _ => exact ⟨y0, y1, rfl⟩
    simp at k0 k1
    obtain ⟨K, fi, fr, fp, fc, fq, e, _⟩ := rec_cells (by rfl) k0
    obtain ⟨b, eb, _⟩ := DataW.trod_bool Tryd.underlying4 k1
    simp at e eb
    obtain ⟨rfl, rfl, rfl, rfl, rfl, rfl⟩ := e
    subst eb
    refine ⟨((K, fi, fr, fp, fc, fq), b), g, off, ha, hg, fun t ht => ?_⟩
    rw [hc t ht]
    rfl
  obtain ⟨f, hff⟩ := choose14 h5
  refine ⟨f, ⟨h2, h3, fun e => (h1 e).2, fun hn => ?_⟩, trivial⟩
  obtain ⟨g, off, ha, hg, _⟩ := hff 0 hn
  refine ⟨g, off, ha, hg, fun j hj => ?_⟩
  obtain ⟨g2, off2, ha2, hg2, hc⟩ := hff j hj
  rw [ha] at ha2
  injection ha2 with ha2
  injection ha2 with e1 e2
  subst e1 e2
  exact hc
end
end Rc
end Go.Proofs.YtejldeecblppjaaDoor
