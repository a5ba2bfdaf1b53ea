/-
  Layer 13: the law's own functions: acts that came in, few; the document's examples.
-/
import Derived.Test.YtobpinelhjpfgaaDoorNwD
import Derived.ProofKit
import Derived.Deep.Slices
import Derived.Deep.Fields
import Derived.OpenShut
import Derived.Lib.SmallJoins
import Derived.LaidMore
set_option linter.unusedVariables false
set_option maxRecDepth 100000
namespace Go.Proofs.YtobpinelhjpfgaaDoor
namespace Nw
open Go.RowKit Bk
section
open Go.ChangeShapes Go.WideShapes Go.ChangeAt Go.Deep Go.Joins
theorem plain13 {w : World} {x : Addr} {v : Value} (h : w.cell? (x.add 0) = some v) : ∃ g off, x = ⟨g, off, none⟩ ∧ g < w.heap.size := by
  obtain ⟨g, off, spot⟩ := x
  have e0 : (Addr.add ⟨g, off, spot⟩ 0) = ⟨g, off, spot⟩ := by simp [Addr.add]
  rw [e0] at h
  have hs : spot = none := World.cell?_spot h
  subst hs
  exact ⟨g, off, rfl, World.block_lt_of_cell? w _ h⟩
theorem choose13 {α : Type} [Inhabited α] {n : Nat} {P : Nat → α → Prop} (h : ∀ i, i < n → ∃ q, P i q) : ∃ f : Nat → α, ∀ i, i < n → P i (f i) := by
  classical
  exact ⟨fun i => if hi : i < n then Classical.choose (h i hi) else default, fun i hi => by simp only [hi, dite_true]; exact Classical.choose_spec (h i hi)⟩
theorem rows_cells13 {H : Type} {enc : TypeId × Value → H} {P : Program} {W : World} {t e : TypeId} {k : Nat} {fuel : Nat} {a : Option Addr} {len cap : Nat} {x : DataW H × List MemPlace}
    (ht : P.underlying t = some (.slice e)) (hC : P.cellsOf e = k) (h0 : 0 < k)
    (h : DataW.trod enc P W 0 (fun _ => true) true fuel t [.slice a len cap] = some x) :
    (a = none → len = 0 ∧ cap = 0) ∧ len ≤ cap ∧ cap ≤ maxLen ∧ ∀ i, i < len → ∃ g off n cs y, a = some ⟨g, off, none⟩ ∧ g < W.heap.size ∧ cs.length = k ∧
      (∀ j, j < k → W.cell? ⟨g, off + i * k + j, none⟩ = cs[j]?) ∧ DataW.trod enc P W 0 (fun _ => true) true n e cs = some y := by
  rcases open_slice ht h with ⟨hcs, _⟩ | ⟨b, len', cap', m, n, D, Pl, hcs, _, hl, hm, hmm, _, hi⟩
  · simp at hcs
    obtain ⟨rfl, rfl, rfl⟩ := hcs
    exact ⟨fun _ => ⟨rfl, rfl⟩, Nat.le_refl _, Nat.zero_le _, fun i hi => by omega⟩
  · simp at hcs
    obtain ⟨rfl, rfl, rfl⟩ := hcs
    simp at hmm
    refine ⟨fun e => by simp at e, hl, hm, fun i him => ?_⟩
    have hplain : ∃ g off, b = ⟨g, off, none⟩ ∧ g < W.heap.size := by
      obtain ⟨cs0, hc0, _⟩ := hi 0 (by omega)
      rw [hC, Nat.zero_mul] at hc0
      obtain ⟨_, hlen0, hat0⟩ := World.cells?_some hc0
      have h1 := hat0 0 h0
      rw [Go.Deep.add_add, Nat.zero_add, List.getElem?_eq_getElem (by omega)] at h1
      exact plain13 h1
    obtain ⟨g, off, rfl, hg⟩ := hplain
    obtain ⟨cs, hc, htr⟩ := hi i (by omega)
    rw [hC] at hc
    obtain ⟨_, hlen, hat⟩ := World.cells?_some hc
    refine ⟨g, off, _, cs, _, rfl, hg, hlen, fun j hj => ?_, htr⟩
    have h1 := hat j hj
    rw [Go.Deep.add_add, add_at] at h1
    rw [Nat.add_assoc]
    exact h1
theorem open_bytes13 {H : Type} {enc : TypeId × Value → H} {W : World} {fuel : Nat} {a : Option Addr} {len cap : Nat} {x : DataW H × List MemPlace}
    (hf : DataW.trod enc Tryd.prog W 0 (fun _ => true) true fuel 35 [.slice a len cap] = some x) : ∃ s : ByteArray, Yb W.heap.size W a len cap s := by
  obtain ⟨h1, h2, h3, h4⟩ := rows_cells13 (k := 1) Tryd.underlying35 (by kernel_rfl) (by decide) hf
  have h5 : ∀ i, i < len → ∃ q : Int, (0 ≤ q ∧ q ≤ 255) ∧ ∃ g off, a = some ⟨g, off, none⟩ ∧ g < W.heap.size ∧ W.cell? ⟨g, off + i, none⟩ = some (.int .u8 q) := fun i hi => by
    obtain ⟨g, off, n, cs, y, ha, hg, hl, hc, ht⟩ := h4 i hi
    have hc0 := hc 0 (by omega)
    obtain ⟨u0, rfl⟩ : ∃ u0, cs = [u0] := by
      match cs, hl with
      | [u0], _ => exact ⟨u0, rfl⟩
    obtain ⟨m0, e0, _, w0⟩ := DataW.trod_int Tryd.underlying5 ht
    simp at e0
    subst e0
    refine ⟨m0, by simpa [Lit.wf, IntKind.min, IntKind.max, IntKind.signed, IntKind.bits] using w0, g, off, ha, hg, ?_⟩
    have := hc0
    rwa [Nat.mul_one, Nat.add_zero] at this
  obtain ⟨f, hff⟩ := choose13 h5
  refine ⟨strOfNums ((List.range len).map f), (List.range len).map f, ⟨by simp [u8s], h2, h3, fun e => (h1 e).2, fun hn => ?_⟩, rfl, fun z hz => by
    obtain ⟨i, hi, rfl⟩ := List.mem_map.1 hz
    exact (hff i (List.mem_range.1 hi)).1⟩
  obtain ⟨_, g, off, ha, hg, _⟩ := hff 0 hn
  refine ⟨g, off, ha, hg, fun j hj => ?_⟩
  obtain ⟨_, g2, off2, ha2, hg2, hc⟩ := hff j (by omega)
  rw [ha] at ha2
  injection ha2 with ha2
  injection ha2 with e1 e2
  subst e1 e2
  rw [hc]
  have hj' : j < len := by omega
  simp [u8s, hj']
/-- An act: its kind, its bytes' text, its place. -/
abbrev A13 := Nat × ByteArray × Int
def IW (x : Int) : Prop := -9223372036854775808 ≤ x ∧ x ≤ 9223372036854775807
/-- Acts lie at a slice that came in, in three cells each. -/
structure Acts13 (B : Nat) (w : World) (A : Option Addr) (n cap : Nat) (f : Nat → A13) : Prop where
  le : n ≤ cap
  max : cap ≤ maxLen
  nil : A = none → cap = 0
  cell : 0 < n → ∃ g off, A = some ⟨g, off, none⟩ ∧ g < B ∧ ∀ j, j < n → w.cell? ⟨g, off + j * 3, none⟩ = some (.int .u8 ((f j).1 : Int)) ∧ (∃ A1 n1 c1, w.cell? ⟨g, off + j * 3 + 1, none⟩ = some (.slice A1 n1 c1) ∧ Yb B w A1 n1 c1 (f j).2.1) ∧ w.cell? ⟨g, off + j * 3 + 2, none⟩ = some (.int .i64 (f j).2.2)
  fits : ∀ j, j < n → (f j).1 ≤ 255 ∧ IW (f j).2.2
theorem Acts13.below {B : Nat} {w w' : World} {A : Option Addr} {n cap : Nat} {f : Nat → A13} (h : Acts13 B w A n cap f) (hb : Below B w w') : Acts13 B w' A n cap f :=
  ⟨h.le, h.max, h.nil, fun hn => by
    obtain ⟨g, off, e, hg, hc⟩ := h.cell hn
    refine ⟨g, off, e, hg, fun j hj => ?_⟩
    obtain ⟨c0, ⟨A1, n1, c1, k1, k2⟩, c2⟩ := hc j hj
    exact ⟨(hb.cell (p := ⟨g, off + j * 3, none⟩) hg).trans c0, ⟨A1, n1, c1, (hb.cell (p := ⟨g, off + j * 3 + 1, none⟩) hg).trans k1, k2.below hb⟩, (hb.cell (p := ⟨g, off + j * 3 + 2, none⟩) hg).trans c2⟩, h.fits⟩
end
/-- The first so many of the acts. -/
def FewTold (A : Option Addr) (n cap : Nat) (f : Nat → A13) (w : World) (e : Ending) (w' : World) : Prop := w = w' ∧ ∃ m, m ≤ n ∧ m ≤ 100 ∧ e = .returned (.slice A m cap) ∧ ∀ j, j < m → (f j).2.1.size ≤ 10000
end Nw
end Go.Proofs.YtobpinelhjpfgaaDoor
