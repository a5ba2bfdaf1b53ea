/-
  Layer 14: what comes in: bytes, packets.
-/
import Derived.Test.YtobpinelhjpfgaaDoorLnTwo
import Derived.ProofKit
import Derived.Deep.Slices
import Derived.Deep.Fields
import Derived.OpenShut
import Derived.Lib.SmallJoins
import Derived.LaidMore
set_option linter.unusedVariables false
set_option maxRecDepth 100000
namespace Go.Proofs.YtobpinelhjpfgaaDoor
namespace Ln
open Go.RowKit Bp Ck
section
open Go.ChangeShapes Go.WideShapes Go.ChangeAt Go.Deep Go.Joins
theorem choose14 {α : Type} [Inhabited α] {n : Nat} {P : Nat → α → Prop} (h : ∀ i, i < n → ∃ q, P i q) : ∃ f : Nat → α, ∀ i, i < n → P i (f i) := by
  classical
  exact ⟨fun i => if hi : i < n then Classical.choose (h i hi) else default, fun i hi => by simp only [hi, dite_true]; exact Classical.choose_spec (h i hi)⟩
theorem rows14 {H : Type} {enc : TypeId × Value → H} {P : Program} {W : World} {t e : TypeId} {k : Nat} {fuel : Nat} {a : Option Addr} {len cap : Nat} {x : DataW H × List MemPlace}
    (ht : P.underlying t = some (.slice e)) (hC : P.cellsOf e = k) (h0 : 0 < k)
    (h : DataW.trod enc P W 0 (fun _ => true) true fuel t [.slice a len cap] = some x) :
    (a = none → len = 0 ∧ cap = 0) ∧ len ≤ cap ∧ cap ≤ maxLen ∧ ∀ i, i < len → ∃ g off n cs y, a = some ⟨g, off, none⟩ ∧ g < W.heap.size ∧ cs.length = k ∧
      (∀ j, j < k → W.cell? ⟨g, off + i * k + j, none⟩ = cs[j]?) ∧ DataW.trod enc P W 0 (fun _ => true) true n e cs = some y := by
  rcases open_slice ht h with ⟨hcs, _⟩ | ⟨b, len', cap', m, n, D, Pl, hcs, _, hl, hm, hmm, _, hi⟩
  · simp at hcs
    obtain ⟨rfl, rfl, rfl⟩ := hcs
    exact ⟨fun _ => ⟨rfl, rfl⟩, Nat.le_refl _, Nat.zero_le _, fun i hi => by omega⟩
  · simp at hcs
    obtain ⟨rfl, rfl, rfl⟩ := hcs
    simp at hmm
    refine ⟨fun e => by simp at e, hl, hm, fun i him => ?_⟩
    have hplain : ∃ g off, b = ⟨g, off, none⟩ ∧ g < W.heap.size := by
      obtain ⟨cs0, hc0, _⟩ := hi 0 (by omega)
      rw [hC, Nat.zero_mul] at hc0
      obtain ⟨_, hlen0, hat0⟩ := World.cells?_some hc0
      have h1 := hat0 0 h0
      rw [Go.Deep.add_add, Nat.zero_add, List.getElem?_eq_getElem (by omega)] at h1
      exact plain_addr h1
    obtain ⟨g, off, rfl, hg⟩ := hplain
    obtain ⟨cs, hc, htr⟩ := hi i (by omega)
    rw [hC] at hc
    obtain ⟨_, hlen, hat⟩ := World.cells?_some hc
    refine ⟨g, off, _, cs, _, rfl, hg, hlen, fun j hj => ?_, htr⟩
    have h1 := hat j hj
    rw [Go.Deep.add_add, plain_add] at h1
    rw [Nat.add_assoc]
    exact h1
theorem open_by {H : Type} {enc : TypeId × Value → H} {W : World} {fuel : Nat} {a : Option Addr} {len cap : Nat} {x : DataW H × List MemPlace}
    (hf : DataW.trod enc Tryd.prog W 0 (fun _ => true) true fuel 35 [.slice a len cap] = some x) : ∃ d : List Nat, By W.heap.size W a len cap d := by
  obtain ⟨h1, h2, h3, h4⟩ := rows14 (k := 1) Tryd.underlying35 (by kernel_rfl) (by decide) hf
  have h5 : ∀ i, i < len → ∃ q : Nat, q ≤ 255 ∧ ∃ g off, a = some ⟨g, off, none⟩ ∧ g < W.heap.size ∧ W.cell? ⟨g, off + i, none⟩ = some (.int .u8 (q : Int)) := fun i hi => by
    obtain ⟨g, off, n, cs, y, ha, hg, hl, hc, ht⟩ := h4 i hi
    have hc0 := hc 0 (by omega)
    obtain ⟨u0, rfl⟩ : ∃ u0, cs = [u0] := by
      match cs, hl with
      | [u0], _ => exact ⟨u0, rfl⟩
    obtain ⟨m0, e0, _, w0⟩ := DataW.trod_int Tryd.underlying5 ht
    simp at e0
    subst e0
    have b0 : 0 ≤ m0 ∧ m0 ≤ 255 := by simpa [Lit.wf, IntKind.min, IntKind.max, IntKind.signed, IntKind.bits] using w0
    obtain ⟨q, rfl⟩ := Int.eq_ofNat_of_zero_le b0.1
    refine ⟨q, by omega, g, off, ha, hg, ?_⟩
    have := hc0
    rwa [Nat.mul_one, Nat.add_zero] at this
  obtain ⟨f, hff⟩ := choose14 h5
  refine ⟨listOf f len, listOf_length f len, h2, h3, fun e => (h1 e).2, fun z hz => ?_, fun hn => ?_⟩
  · unfold listOf at hz
    obtain ⟨i, hi, rfl⟩ := List.mem_map.1 hz
    exact (hff i (List.mem_range.1 hi)).1
  · obtain ⟨_, g, off, ha, hg, _⟩ := hff 0 hn
    refine ⟨g, off, ha, hg, fun j hj => ?_⟩
    obtain ⟨_, g2, off2, ha2, hg2, hc⟩ := hff j hj
    rw [ha] at ha2
    injection ha2 with ha2
    injection ha2 with e1 e2
    subst e1 e2
    rw [hc]
    simp [listOf, List.getD, hj]
theorem open_byts {H : Type} {enc : TypeId × Value → H} {W : World} {a : Option Addr} {len cap : Nat} {d : DataW H} {p : List MemPlace}
    (h : DataW.Trod enc Tryd.prog W 0 (fun _ => true) true 35 (.slice a len cap) d p) : ∃ l : List Nat, By W.heap.size W a len cap l ∧ True := by
  obtain ⟨fuel, hf⟩ := h
  obtain ⟨l, hl⟩ := open_by (show DataW.trod enc Tryd.prog W 0 (fun _ => true) true fuel 35 [.slice a len cap] = some (d, p) by simpa [Value.cells] using hf)
  exact ⟨l, hl, trivial⟩
theorem open_lists14 {H : Type} {enc : TypeId × Value → H} {W : World} {a : Option Addr} {len cap : Nat} {d : DataW H} {p : List MemPlace}
    (h : DataW.Trod enc Tryd.prog W 0 (fun _ => true) true 109 (.slice a len cap) d p) : ∃ ls : List (List Nat), Bss W.heap.size W a len cap ls ∧ True := by
  obtain ⟨fuel, hf⟩ := h
  have hf' : DataW.trod enc Tryd.prog W 0 (fun _ => true) true fuel 109 [.slice a len cap] = some (d, p) := by simpa [Value.cells] using hf
  obtain ⟨h1, h2, h3, h4⟩ := rows14 (k := 1) Tryd.underlying109 (by kernel_rfl) (by decide) hf'
  have h5 : ∀ i, i < len → ∃ l : List Nat, ∃ g off A' n' c', a = some ⟨g, off, none⟩ ∧ g < W.heap.size ∧ W.cell? ⟨g, off + i, none⟩ = some (.slice A' n' c') ∧ By W.heap.size W A' n' c' l := fun i hi => by
    obtain ⟨g, off, n, cs, y, ha, hg, hl, hc, ht⟩ := h4 i hi
    have hc0 := hc 0 (by omega)
    obtain ⟨u0, rfl⟩ : ∃ u0, cs = [u0] := by
      match cs, hl with
      | [u0], _ => exact ⟨u0, rfl⟩
    obtain ⟨a1, l1, c1, e1⟩ := slice_form Tryd.underlying35 ht
    simp at e1
    subst e1
    obtain ⟨l, hl2⟩ := open_by ht
    refine ⟨l, g, off, a1, l1, c1, ha, hg, ?_, hl2⟩
    have := hc0
    rwa [Nat.mul_one, Nat.add_zero] at this
  obtain ⟨f, hff⟩ := choose14 h5
  refine ⟨(List.range len).map f, ⟨by simp, h2, h3, fun hn => ?_⟩, trivial⟩
  obtain ⟨g, off, _, _, _, ha, hg, _⟩ := hff 0 hn
  refine ⟨g, off, ha, hg, fun j hj => ?_⟩
  obtain ⟨g2, off2, A', n', c', ha2, hg2, hc, hy⟩ := hff j hj
  rw [ha] at ha2
  injection ha2 with ha2
  injection ha2 with e1 e2
  subst e1 e2
  refine ⟨A', n', c', hc, ?_⟩
  have e : ((List.range len).map f).getD j [] = f j := by simp [List.getD, hj]
  rw [e]
  exact hy
theorem open_packet {H : Type} {enc : TypeId × Value → H} {W : World} {r : Reach} {b0 : Nat} {v : Value} {d : DataW H} {p : List MemPlace}
    (hv : Value.okWide Tryd.prog W r b0 48 v) (h : DataW.Trod enc Tryd.prog W 0 (fun _ => true) true 48 v d p) :
    ∃ (hh : Bool) (n : Nat) (A : Option Addr) (m c : Nat) (l : List Nat), v = .agg #[.bool hh, .int .u64 (n : Int), .slice A m c] ∧ n < 18446744073709551616 ∧ By W.heap.size W A m c l := by
  obtain ⟨cs, rfl, hsz⟩ := okWide_struct Tryd.underlying48 hv
  have hC : Tryd.prog.cellsOf 48 = 3 := by kernel_rfl
  rw [hC] at hsz
  obtain ⟨l, rfl⟩ : ∃ l : List Value, cs = l.toArray := ⟨cs.toList, by simp⟩
  obtain ⟨fuel, hf⟩ := h
  have hf' : DataW.trod enc Tryd.prog W 0 (fun _ => true) true fuel 48 l = some (d, p) := by simpa [Value.cells] using hf
  have hl : l.length = 3 := by simpa using hsz
  obtain ⟨u0, u1, u2, rfl⟩ : ∃ u0 u1 u2, l = [u0, u1, u2] := by
    match l, hl with
    | [u0, u1, u2], _ => exact ⟨u0, u1, u2, rfl⟩
  obtain ⟨xs, n', _, _, _, hxl, hfs⟩ := DataW.trod_struct Tryd.underlying48 hf'
  have k0 := hfs 0 _ rfl
  have k1 := hfs 1 _ rfl
  have k2 := hfs 2 _ rfl
  have q0 : Tryd.prog.cellsOf 4 = 1 := by kernel_rfl
  have q1 : Tryd.prog.cellsOf 34 = 1 := by kernel_rfl
  have q2 : Tryd.prog.cellsOf 35 = 1 := by kernel_rfl
  simp [q0, q1, q2] at k0 k1 k2
  simp at hxl
  obtain ⟨y0, y1, y2, rfl⟩ : ∃ y0 y1 y2, xs = [y0, y1, y2] := by
    match xs, hxl with
    | [y0, y1, y2], _ => exact ⟨y0, y1, y2, rfl⟩
  simp at k0 k1 k2
  obtain ⟨b, e0, _⟩ := DataW.trod_bool Tryd.underlying4 k0
  obtain ⟨n1, e1, _, w1⟩ := DataW.trod_int Tryd.underlying34 k1
  obtain ⟨a2, l2, c2, e2⟩ := slice_form Tryd.underlying35 k2
  simp at e0 e1 e2
  subst e0 e1 e2
  have b1 : 0 ≤ n1 ∧ n1 ≤ 18446744073709551615 := by simpa [Lit.wf, IntKind.min, IntKind.max, IntKind.signed, IntKind.bits] using w1
  obtain ⟨m1, rfl⟩ := Int.eq_ofNat_of_zero_le b1.1
  obtain ⟨s, hs⟩ := open_by k2
  exact ⟨b, m1, a2, l2, c2, s, rfl, by have := b1.2; omega, hs⟩
end
end Ln
end Go.Proofs.YtobpinelhjpfgaaDoor
