/-
  Layer 14: steps that came in; all begins.
-/
import Derived.Test.YtjjaomnlkpdeeaaLnO
set_option linter.unusedVariables false
set_option maxRecDepth 100000
namespace Go.Proofs.Ytjjaomnlkpdeeaa
namespace Ln
open Go.RowKit Bp Ck
section
open Go.ChangeShapes Go.WideShapes Go.ChangeAt Go.Deep Go.Joins
/-- A step: its kind, its bytes, its place. -/
abbrev S14 := Nat × List Nat × Int
structure Stp (B : Nat) (w : World) (A : Option Addr) (n cap : Nat) (f : Nat → S14) : Prop where
  le : n ≤ cap
  max : cap ≤ maxLen
  nil : A = none → cap = 0
  cell : 0 < n → ∃ g off, A = some ⟨g, off, none⟩ ∧ g < B ∧ ∀ j, j < n → w.cell? ⟨g, off + j * 3, none⟩ = some (.int .u8 ((f j).1 : Int)) ∧ (∃ A1 n1 c1, w.cell? ⟨g, off + j * 3 + 1, none⟩ = some (.slice A1 n1 c1) ∧ By B w A1 n1 c1 (f j).2.1) ∧ w.cell? ⟨g, off + j * 3 + 2, none⟩ = some (.int .i64 (f j).2.2)
  fits : ∀ j, j < n → (f j).1 ≤ 255 ∧ -9223372036854775808 ≤ (f j).2.2 ∧ (f j).2.2 ≤ 9223372036854775807
theorem Stp.below {B : Nat} {w w' : World} {A : Option Addr} {n cap : Nat} {f : Nat → S14} (h : Stp B w A n cap f) (hb : Below B w w') : Stp B w' A n cap f :=
  ⟨h.le, h.max, h.nil, fun hn => by
    obtain ⟨g, off, e, hg, hc⟩ := h.cell hn
    refine ⟨g, off, e, hg, fun j hj => ?_⟩
    obtain ⟨c0, ⟨A1, n1, c1, k1, k2⟩, c2⟩ := hc j hj
    exact ⟨(hb.cell (p := ⟨g, off + j * 3, none⟩) hg).trans c0, ⟨A1, n1, c1, (hb.cell (p := ⟨g, off + j * 3 + 1, none⟩) hg).trans k1, k2.below hb⟩, (hb.cell (p := ⟨g, off + j * 3 + 2, none⟩) hg).trans c2⟩, h.fits⟩
theorem open_stp {H : Type} {enc : TypeId × Value → H} {W : World} {n : Nat} {cs : List Value} {y : DataW H × List MemPlace} (hl : cs.length = 3) (ht : DataW.trod enc Try.prog W 0 (fun _ => true) true n 64 cs = some y) :
    ∃ (q : S14) (A : Option Addr) (m c : Nat), cs = [.int .u8 (q.1 : Int), .slice A m c, .int .i64 q.2.2] ∧ q.1 ≤ 255 ∧ (-9223372036854775808 ≤ q.2.2 ∧ q.2.2 ≤ 9223372036854775807) ∧ By W.heap.size W A m c q.2.1 := by
  obtain ⟨u0, u1, u2, rfl⟩ : ∃ u0 u1 u2, cs = [u0, u1, u2] := by
    match cs, hl with
    | [u0, u1, u2], _ => exact ⟨u0, u1, u2, rfl⟩
  obtain ⟨xs, n', _, _, _, hxl, hfs⟩ := DataW.trod_struct Try.underlying64 ht
  have k0 := hfs 0 _ rfl
  have k1 := hfs 1 _ rfl
  have k2 := hfs 2 _ rfl
  have q0 : Try.prog.cellsOf 5 = 1 := by kernel_rfl
  have q1 : Try.prog.cellsOf 23 = 1 := by kernel_rfl
  have q2 : Try.prog.cellsOf 3 = 1 := by kernel_rfl
  simp [q0, q1, q2] at k0 k1 k2
  simp at hxl
  obtain ⟨y0, y1, y2, rfl⟩ : ∃ y0 y1 y2, xs = [y0, y1, y2] := by
    match xs, hxl with
    | [y0, y1, y2], _ => exact ⟨y0, y1, y2, rfl⟩
  simp at k0 k1 k2
  obtain ⟨n0, e0, _, w0⟩ := DataW.trod_int Try.underlying5 k0
  obtain ⟨a1, l1, c1, e1⟩ := slice_form Try.underlying23 k1
  obtain ⟨n2, e2, _, w2⟩ := DataW.trod_int Try.underlying3 k2
  simp at e0 e1 e2
  subst e0 e1 e2
  have b0 : 0 ≤ n0 ∧ n0 ≤ 255 := by simpa [Lit.wf, IntKind.min, IntKind.max, IntKind.signed, IntKind.bits] using w0
  have b2 : -9223372036854775808 ≤ n2 ∧ n2 ≤ 9223372036854775807 := by simpa [Lit.wf, IntKind.min, IntKind.max, IntKind.signed, IntKind.bits] using w2
  obtain ⟨m0, rfl⟩ := Int.eq_ofNat_of_zero_le b0.1
  obtain ⟨s, hs⟩ := open_by k1
  exact ⟨(m0, s, n2), a1, l1, c1, rfl, by have := b0.2; show m0 ≤ 255; omega, b2, hs⟩
theorem open_steps14 {H : Type} {enc : TypeId × Value → H} {W : World} {a : Option Addr} {len cap : Nat} {d : DataW H} {p : List MemPlace}
    (h : DataW.Trod enc Try.prog W 0 (fun _ => true) true 58 (.slice a len cap) d p) : ∃ f : Nat → S14, Stp W.heap.size W a len cap f ∧ True := by
  obtain ⟨fuel, hf⟩ := h
  have hf' : DataW.trod enc Try.prog W 0 (fun _ => true) true fuel 58 [.slice a len cap] = some (d, p) := by simpa [Value.cells] using hf
  obtain ⟨h1, h2, h3, h4⟩ := rows14 (k := 3) Try.underlying58 (by kernel_rfl) (by decide) hf'
  have h5 : ∀ i, i < len → ∃ q : S14, ∃ g off, a = some ⟨g, off, none⟩ ∧ g < W.heap.size ∧ q.1 ≤ 255 ∧ (-9223372036854775808 ≤ q.2.2 ∧ q.2.2 ≤ 9223372036854775807) ∧
      W.cell? ⟨g, off + i * 3, none⟩ = some (.int .u8 (q.1 : Int)) ∧ (∃ A1 n1 c1, W.cell? ⟨g, off + i * 3 + 1, none⟩ = some (.slice A1 n1 c1) ∧ By W.heap.size W A1 n1 c1 q.2.1) ∧ W.cell? ⟨g, off + i * 3 + 2, none⟩ = some (.int .i64 q.2.2) := fun i hi => by
    obtain ⟨g, off, n, cs, y, ha, hg, hl, hc, ht⟩ := h4 i hi
    obtain ⟨q, A, m, c, rfl, hq1, hq2, hq3⟩ := open_stp hl ht
    exact ⟨q, g, off, ha, hg, hq1, hq2, hc 0 (by omega), ⟨A, m, c, hc 1 (by omega), hq3⟩, hc 2 (by omega)⟩
  obtain ⟨f, hff⟩ := choose14 h5
  refine ⟨f, ⟨h2, h3, fun e => (h1 e).2, fun hn => ?_, fun j hj => ?_⟩, trivial⟩
  · obtain ⟨g, off, ha, hg, _⟩ := hff 0 hn
    refine ⟨g, off, ha, hg, fun j hj => ?_⟩
    obtain ⟨g2, off2, ha2, hg2, _, _, c0, c1, c2⟩ := hff j hj
    rw [ha] at ha2
    injection ha2 with ha2
    injection ha2 with e1 e2
    subst e1 e2
    exact ⟨c0, c1, c2⟩
  · obtain ⟨g, off, ha, hg, h1, h2, _⟩ := hff j hj
    exact ⟨h1, h2⟩
end
theorem nat_lower {w : World} {base base' g : Nat} {v : Value} {P : List Value} {L : List ByteArray} (h : Nw.NAt w base g v P L) (hb : base' ≤ base) : Nw.NAt w base' g v P L :=
  ⟨h.box, Bk.own_lower h.own hb, h.len, fun i p e => (h.pk i p e).lower hb, Nat.le_trans hb h.lo, h.few, h.sm⟩
theorem nf_new {g k : Nat} (h : Nw.NF g (.slice none 0 0) [] k) : k = g := by
  rcases h with h | h | ⟨p, hp, _⟩
  · exact h
  · simp [Value.ownBlock] at h
  · simp at hp
/-- Nothing was told or heard. -/
def z0 : Zu := ⟨.slice none 0 0, 0, [], 0, .slice none 0 0, [], [], .slice none 0 0, [], [], .slice none 0 0, [], .slice none 0 0, []⟩
theorem pl_start : Pl 0 z0 := ⟨rfl, rfl, Nat.le_refl _, Nat.le_refl _, by decide, rfl, .inl rfl, by simp [z0], by simp [z0], Nat.le_refl _⟩
theorem on_start {w0 w2 w4 w5 : World} {s r : Nat} (hs : SAt w2 s (.slice none 0 0) 0 []) (hr : RAt w2 r 0) (hlo : w0.heap.size ≤ s ∧ w0.heap.size ≤ r) (hb : Below w0.heap.size w0 w2)
    {w3 : World} (e3 : w3 = w2.alloc (.cells #[.pointer (some ⟨r, 0, none⟩)] 39))
    (n1 : Nw.NAt w4 w3.heap.size w3.heap.size (.slice none 0 0) [] []) (b4 : Below w3.heap.size w3 w4) (n2 : Nw.NAt w5 w4.heap.size w4.heap.size (.slice none 0 0) [] []) (b5 : Below w4.heap.size w4 w5)
    {w6 w7 : World} (e6 : w6 = w5.alloc (.cells #[.pointer (some ⟨w4.heap.size, 0, none⟩)] 59)) (e7 : w7 = w6.alloc (.cells #[.slice none 0 0] 61)) :
    On w0 w7 ⟨s, r, w3.heap.size, w4.heap.size, w2.heap.size, w5.heap.size, w6.heap.size⟩ z0 := by
  have b3 : Below w2.heap.size w2 w3 := by rw [e3]; exact (Below.refl _ _).alloc (Nat.le_refl _) _
  have h3 : w3.heap[w2.heap.size]? = some (.cells #[.pointer (some ⟨r, 0, none⟩)] 39 (0, 0)) := by rw [e3]; exact heap_alloc_new w2 _
  have b6 : Below w5.heap.size w5 w6 := by rw [e6]; exact (Below.refl _ _).alloc (Nat.le_refl _) _
  have h6 : w6.heap[w5.heap.size]? = some (.cells #[.pointer (some ⟨w4.heap.size, 0, none⟩)] 59 (0, 0)) := by rw [e6]; exact heap_alloc_new w5 _
  have b7 : Below w6.heap.size w6 w7 := by rw [e7]; exact (Below.refl _ _).alloc (Nat.le_refl _) _
  have h7 : w7.heap[w6.heap.size]? = some (.cells #[.slice none 0 0] 61 (0, 0)) := by rw [e7]; exact heap_alloc_new w6 _
  have l3 := b3.size
  have l4 := b4.size
  have l5 := b5.size
  have l6 := b6.size
  have t3 := lt_of_heap h3
  have t6 := lt_of_heap h6
  have ln1 := n1.lt
  have ln2 := n2.lt
  have b37 : Below w3.heap.size w3 w7 := b4.trans (((b5.trans (b6.mono l5)).trans (b7.mono (Nat.le_trans l5 l6))).mono l4)
  have b27 : Below w2.heap.size w2 w7 := b3.trans (b37.mono l3)
  have b47 : Below w4.heap.size w4 w7 := (b5.trans (b6.mono l5)).trans (b7.mono (Nat.le_trans l5 l6))
  have b57 : Below w5.heap.size w5 w7 := b6.trans (b7.mono l6)
  have l0 := hb.size
  have hs7 := hs.later b27
  have n17 := n1.later b47
  have n27 := n2.later b57
  have hx5 : w7.heap[w2.heap.size]? = _ := (b37.block _ t3).trans h3
  refine ⟨hs7, hr.later b27, nat_lower n17 (by omega), nat_lower n27 (by omega), Nw.Sw.nil _ _, Nw.Sw.nil _ _, hx5, (b7.block _ t6).trans h6, h7, fun k h1 h2 => ?_, fun k hk h1 => ?_, fun k hk h2 => ?_, fun k hk => (by cases hk), ⟨hlo.1, hlo.2, by show w0.heap.size ≤ w6.heap.size; omega⟩, hb.trans (b27.mono l0)⟩
  · have e1 : k = w3.heap.size := nf_new h1
    have e2 : k = w4.heap.size := nf_new h2
    omega
  · have e1 : k = w3.heap.size := nf_new h1
    have := hs.lt k hk
    omega
  · have e2 : k = w4.heap.size := nf_new h2
    have := hs.lt k hk
    omega
end Ln
end Go.Proofs.Ytjjaomnlkpdeeaa
