/-
  Layer 6: the list of acts, opened for a walk.
-/
import Derived.Test.YtafcdclaaagdlaaWnP
import Derived.ProofKit
import Derived.Deep.Slices
import Derived.OpenShut
set_option linter.unusedVariables false
set_option maxRecDepth 100000
namespace Go.Proofs.Ytafcdclaaagdlaa.Wn
open Go.ChangeShapes Go.WideShapes Go.ChangeAt Go.RowKit Go.Deep

theorem plain_addr {w : World} {x : Addr} {v : Value} (h : w.cell? (x.add 0) = some v) : ∃ g off, x = ⟨g, off, none⟩ ∧ g < w.heap.size := by
  obtain ⟨g, off, spot⟩ := x
  have e0 : (Addr.add ⟨g, off, spot⟩ 0) = ⟨g, off, spot⟩ := by simp [Addr.add]
  rw [e0] at h
  have hs : spot = none := World.cell?_spot h
  subst hs
  exact ⟨g, off, rfl, World.block_lt_of_cell? w _ h⟩
theorem plain_add (g off i : Nat) : (Addr.add ⟨g, off, none⟩ i) = ⟨g, off + i, none⟩ := by unfold Addr.add; split <;> simp_all

/-- The cells of every element, and that they read by its type. -/
theorem rows_cells {H : Type} {enc : TypeId × Value → H} {P : Program} {W : World} {t e : TypeId} {k : Nat} {fuel : Nat} {a : Option Addr} {len cap : Nat} {x : DataW H × List MemPlace}
    (ht : P.underlying t = some (.slice e)) (hC : P.cellsOf e = k) (h0 : 0 < k)
    (h : DataW.trod enc P W 0 (fun _ => true) true fuel t [.slice a len cap] = some x) :
    (a = none → len = 0 ∧ cap = 0) ∧ len ≤ cap ∧ cap ≤ maxLen ∧ ∀ i, i < len → ∃ g off n cs y, a = some ⟨g, off, none⟩ ∧ g < W.heap.size ∧ cs.length = k ∧
      (∀ j, j < k → W.cell? ⟨g, off + i * k + j, none⟩ = cs[j]?) ∧ DataW.trod enc P W 0 (fun _ => true) true n e cs = some y := by
  rcases open_slice ht h with ⟨hcs, _⟩ | ⟨b, len', cap', m, n, D, Pl, hcs, _, hl, hm, hmm, _, hi⟩
  · simp at hcs
    obtain ⟨rfl, rfl, rfl⟩ := hcs
    exact ⟨fun _ => ⟨rfl, rfl⟩, Nat.le_refl _, Nat.zero_le _, fun i hi => by omega⟩
  · simp at hcs
    obtain ⟨rfl, rfl, rfl⟩ := hcs
    simp at hmm
    refine ⟨fun e => by simp at e, hl, hm, fun i him => ?_⟩
    have hplain : ∃ g off, b = ⟨g, off, none⟩ ∧ g < W.heap.size := by
      obtain ⟨cs0, hc0, _⟩ := hi 0 (by omega)
      rw [hC, Nat.zero_mul] at hc0
      obtain ⟨_, hlen0, hat0⟩ := World.cells?_some hc0
      have h1 := hat0 0 h0
      rw [Go.Deep.add_add, Nat.zero_add, List.getElem?_eq_getElem (by omega)] at h1
      exact plain_addr h1
    obtain ⟨g, off, rfl, hg⟩ := hplain
    obtain ⟨cs, hc, htr⟩ := hi i (by omega)
    rw [hC] at hc
    obtain ⟨_, hlen, hat⟩ := World.cells?_some hc
    refine ⟨g, off, _, cs, _, rfl, hg, hlen, fun j hj => ?_, htr⟩
    have h1 := hat j hj
    rw [Go.Deep.add_add, plain_add] at h1
    rw [Nat.add_assoc]
    exact h1

/-- Acts lie at a slice that came in, in four cells each: which, the cell, the window. -/
structure Acts (w : World) (A : Option Addr) (n cap : Nat) (f : Nat → Nat × Int × Int × Int) : Prop where
  le : n ≤ cap
  max : cap ≤ maxLen
  nil : A = none → cap = 0
  cell : 0 < n → ∃ g off, A = some ⟨g, off, none⟩ ∧ g < w.heap.size ∧ ∀ j, j < n → w.cell? ⟨g, off + j * 4, none⟩ = some (.int .u8 (f j).1) ∧ w.cell? ⟨g, off + j * 4 + 1, none⟩ = some (.int .i64 (f j).2.1) ∧ w.cell? ⟨g, off + j * 4 + 2, none⟩ = some (.int .i64 (f j).2.2.1) ∧ w.cell? ⟨g, off + j * 4 + 3, none⟩ = some (.int .i64 (f j).2.2.2)
theorem Acts.later {w w' : World} {A : Option Addr} {n cap : Nat} {f : Nat → Nat × Int × Int × Int} (h : Acts w A n cap f) (hb : Below w.heap.size w w') : Acts w' A n cap f :=
  ⟨h.le, h.max, h.nil, fun hn => by
    obtain ⟨g, off, e, hg, hc⟩ := h.cell hn
    exact ⟨g, off, e, Nat.lt_of_lt_of_le hg hb.size, fun j hj => ⟨(hb.cell (p := ⟨g, off + j * 4, none⟩) hg).trans (hc j hj).1, (hb.cell (p := ⟨g, off + j * 4 + 1, none⟩) hg).trans (hc j hj).2.1, (hb.cell (p := ⟨g, off + j * 4 + 2, none⟩) hg).trans (hc j hj).2.2.1, (hb.cell (p := ⟨g, off + j * 4 + 3, none⟩) hg).trans (hc j hj).2.2.2⟩⟩⟩
def ActOk (q : Nat × Int × Int × Int) : Prop := q.1 ≤ 255 ∧ IW q.2.1 ∧ IW q.2.2.1
theorem iw_of {n : Int} (w : (Lit.int .i64 n).wf = true) : IW n := by
  unfold IW
  simpa [Lit.wf, IntKind.min, IntKind.max, IntKind.signed, IntKind.bits] using w
theorem open_acts6 {H : Type} {enc : TypeId × Value → H} {W : World} {a : Option Addr} {len cap : Nat} {d : DataW H} {p : List MemPlace}
    (h : DataW.Trod enc Try.prog W 0 (fun _ => true) true 22 (.slice a len cap) d p) :
    ∃ f : Nat → Nat × Int × Int × Int, Acts W a len cap f ∧ ∀ i, i < len → ActOk (f i) := by
  obtain ⟨fuel, hf⟩ := h
  have hf' : DataW.trod enc Try.prog W 0 (fun _ => true) true fuel 22 [.slice a len cap] = some (d, p) := by simpa [Value.cells] using hf
  obtain ⟨h1, h2, h3, h4⟩ := rows_cells (k := 4) Try.underlying22 (by kernel_rfl) (by decide) hf'
  have h5 : ∀ i, i < len → ∃ q : Nat × Int × Int × Int, ActOk q ∧ ∃ g off, a = some ⟨g, off, none⟩ ∧ g < W.heap.size ∧
      W.cell? ⟨g, off + i * 4, none⟩ = some (.int .u8 q.1) ∧ W.cell? ⟨g, off + i * 4 + 1, none⟩ = some (.int .i64 q.2.1) ∧ W.cell? ⟨g, off + i * 4 + 2, none⟩ = some (.int .i64 q.2.2.1) ∧ W.cell? ⟨g, off + i * 4 + 3, none⟩ = some (.int .i64 q.2.2.2) := fun i hi => by
    obtain ⟨g, off, n, cs, y, ha, hg, hl, hc, ht⟩ := h4 i hi
    have hc0 := hc 0 (by omega)
    have hc1 := hc 1 (by omega)
    have hc2 := hc 2 (by omega)
    have hc3 := hc 3 (by omega)
    obtain ⟨u0, u1, u2, u3, rfl⟩ : ∃ u0 u1 u2 u3, cs = [u0, u1, u2, u3] := by
      match cs, hl with
      | [u0, u1, u2, u3], _ => exact ⟨u0, u1, u2, u3, rfl⟩
    obtain ⟨xs, n', _, _, _, hxl, hfs⟩ := DataW.trod_struct Try.underlying34 ht
    have k0 := hfs 0 _ rfl
    have k1 := hfs 1 _ rfl
    have k2 := hfs 2 _ rfl
    have q0 : Try.prog.cellsOf 5 = 1 := by kernel_rfl
    have q1 : Try.prog.cellsOf 32 = 2 := by kernel_rfl
    have q2 : Try.prog.cellsOf 3 = 1 := by kernel_rfl
    simp [q0, q1, q2] at k0 k1 k2
    simp at hxl
    obtain ⟨y0, y1, y2, rfl⟩ : ∃ y0 y1 y2, xs = [y0, y1, y2] := by
      match xs, hxl with
      | [y0, y1, y2], _ => exact ⟨y0, y1, y2, rfl⟩
    simp at k0 k1 k2
    obtain ⟨n0, e0, _, w0⟩ := DataW.trod_int Try.underlying5 k0
    obtain ⟨n1, e1, _, w1⟩ := DataW.trod_int Try.underlying3 k1
    obtain ⟨ys, n'', _, _, _, hyl, hgs⟩ := DataW.trod_struct Try.underlying32 k2
    have k3 := hgs 0 _ rfl
    have k4 := hgs 1 _ rfl
    simp [q2] at k3 k4
    simp at hyl
    obtain ⟨z0, z1, rfl⟩ : ∃ z0 z1, ys = [z0, z1] := by
      match ys, hyl with
      | [z0, z1], _ => exact ⟨z0, z1, rfl⟩
    simp at k3 k4
    obtain ⟨n2, e2, _, w2⟩ := DataW.trod_int Try.underlying3 k3
    obtain ⟨n3, e3, _, w3⟩ := DataW.trod_int Try.underlying3 k4
    simp at e0 e1 e2 e3
    subst e0 e1 e2 e3
    have b0 : 0 ≤ n0 ∧ n0 ≤ 255 := by simpa [Lit.wf, IntKind.min, IntKind.max, IntKind.signed, IntKind.bits] using w0
    obtain ⟨m0, rfl⟩ := Int.eq_ofNat_of_zero_le b0.1
    exact ⟨(m0, n1, n2, n3), ⟨by show m0 ≤ 255; omega, iw_of w1, iw_of w2⟩, g, off, ha, hg, hc0, hc1, hc2, hc3⟩
  obtain ⟨f, hff⟩ := choose_lt h5
  refine ⟨f, ⟨h2, h3, fun e => (h1 e).2, fun hn => ?_⟩, fun i hi => (hff i hi).1⟩
  obtain ⟨_, g, off, ha, hg, _⟩ := hff 0 hn
  refine ⟨g, off, ha, hg, fun j hj => ?_⟩
  obtain ⟨_, g2, off2, ha2, hg2, c0, c1, c2, c3⟩ := hff j hj
  rw [ha] at ha2
  injection ha2 with ha2
  injection ha2 with e1 e2
  subst e1 e2
  exact ⟨c0, c1, c2, c3⟩
theorem few6_any (A : Option Addr) (n cap : Nat) (w : World) (hle : n ≤ cap) (hmax : cap ≤ maxLen) (hnil : A = none → cap = 0) :
    Calls Try.prog 8 #[.slice A n cap] w fun e w' => w = w' ∧ ∃ m, m ≤ n ∧ m ≤ 200 ∧ e = .returned (.slice A m cap) := by
  unfold maxLen at hmax
  cases A with
  | none =>
    obtain rfl : cap = 0 := hnil rfl
    obtain rfl : n = 0 := by omega
    clear hnil
    go_enter Try.func8, Try.ntmps8
    go_wp2
    go_ret
    exact ⟨rfl, 0, by omega, by omega, rfl⟩
  | some ad =>
    clear hnil
    by_cases hl : (n : Int) ≤ 200
    · go_enter Try.func8, Try.ntmps8
      go_wp2
      go_ret
      exact ⟨rfl, n, by omega, by omega, rfl⟩
    · have hl3 : (200 : Int) ≤ (cap : Int) := by omega
      go_enter Try.func8, Try.ntmps8
      go_wp2
      go_ret
      exact ⟨rfl, 200, by omega, by omega, rfl⟩
end Go.Proofs.Ytafcdclaaagdlaa.Wn
