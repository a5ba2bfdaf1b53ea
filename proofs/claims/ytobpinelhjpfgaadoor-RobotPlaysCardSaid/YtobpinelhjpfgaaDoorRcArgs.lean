/-
  Layer 17: what comes in: bytes, records, acts; the fields' table.
-/
import Derived.Test.YtobpinelhjpfgaaDoorRcTwo
import Derived.Test.YtobpinelhjpfgaaDoorArgsS
import Derived.ProofKit
import Derived.Deep.Slices
import Derived.Deep.Fields
import Derived.OpenShut
import Derived.Lib.SmallJoins
import Derived.LaidMore
import Derived.SevenTiedAt
set_option linter.unusedVariables false
set_option maxRecDepth 100000
namespace Go.Proofs.YtobpinelhjpfgaaDoor
namespace Rc
open Go.RowKit Bp Ck
section
open Go.ChangeShapes Go.WideShapes Go.ChangeAt Go.Deep Go.Joins
theorem choose14 {α : Type} [Inhabited α] {n : Nat} {P : Nat → α → Prop} (h : ∀ i, i < n → ∃ q, P i q) : ∃ f : Nat → α, ∀ i, i < n → P i (f i) := by
  classical
  exact ⟨fun i => if hi : i < n then Classical.choose (h i hi) else default, fun i hi => by simp only [hi, dite_true]; exact Classical.choose_spec (h i hi)⟩
theorem rows14 {H : Type} {enc : TypeId × Value → H} {P : Program} {W : World} {t e : TypeId} {k : Nat} {fuel : Nat} {a : Option Addr} {len cap : Nat} {x : DataW H × List MemPlace}
    (ht : P.underlying t = some (.slice e)) (hC : P.cellsOf e = k) (h0 : 0 < k)
    (h : DataW.trod enc P W 0 (fun _ => true) true fuel t [.slice a len cap] = some x) :
    (a = none → len = 0 ∧ cap = 0) ∧ len ≤ cap ∧ cap ≤ maxLen ∧ ∀ i, i < len → ∃ g off n cs y, a = some ⟨g, off, none⟩ ∧ g < W.heap.size ∧ cs.length = k ∧
      (∀ j, j < k → W.cell? ⟨g, off + i * k + j, none⟩ = cs[j]?) ∧ DataW.trod enc P W 0 (fun _ => true) true n e cs = some y := by
  rcases open_slice ht h with ⟨hcs, _⟩ | ⟨b, len', cap', m, n, D, Pl, hcs, _, hl, hm, hmm, _, hi⟩
  · simp at hcs
    obtain ⟨rfl, rfl, rfl⟩ := hcs
    exact ⟨fun _ => ⟨rfl, rfl⟩, Nat.le_refl _, Nat.zero_le _, fun i hi => by omega⟩
  · simp at hcs
    obtain ⟨rfl, rfl, rfl⟩ := hcs
    simp at hmm
    refine ⟨fun e => by simp at e, hl, hm, fun i him => ?_⟩
    have hplain : ∃ g off, b = ⟨g, off, none⟩ ∧ g < W.heap.size := by
      obtain ⟨cs0, hc0, _⟩ := hi 0 (by omega)
      rw [hC, Nat.zero_mul] at hc0
      obtain ⟨_, hlen0, hat0⟩ := World.cells?_some hc0
      have h1 := hat0 0 h0
      rw [Go.Deep.add_add, Nat.zero_add, List.getElem?_eq_getElem (by omega)] at h1
      exact plain_addr h1
    obtain ⟨g, off, rfl, hg⟩ := hplain
    obtain ⟨cs, hc, htr⟩ := hi i (by omega)
    rw [hC] at hc
    obtain ⟨_, hlen, hat⟩ := World.cells?_some hc
    refine ⟨g, off, _, cs, _, rfl, hg, hlen, fun j hj => ?_, htr⟩
    have h1 := hat j hj
    rw [Go.Deep.add_add, plain_add] at h1
    rw [Nat.add_assoc]
    exact h1
theorem open_by {H : Type} {enc : TypeId × Value → H} {W : World} {fuel : Nat} {a : Option Addr} {len cap : Nat} {x : DataW H × List MemPlace}
    (hf : DataW.trod enc Tryd.prog W 0 (fun _ => true) true fuel 35 [.slice a len cap] = some x) : ∃ d : List Nat, By W.heap.size W a len cap d := by
  obtain ⟨h1, h2, h3, h4⟩ := rows14 (k := 1) Tryd.underlying35 (by kernel_rfl) (by decide) hf
  have h5 : ∀ i, i < len → ∃ q : Nat, q ≤ 255 ∧ ∃ g off, a = some ⟨g, off, none⟩ ∧ g < W.heap.size ∧ W.cell? ⟨g, off + i, none⟩ = some (.int .u8 (q : Int)) := fun i hi => by
    obtain ⟨g, off, n, cs, y, ha, hg, hl, hc, ht⟩ := h4 i hi
    have hc0 := hc 0 (by omega)
    obtain ⟨u0, rfl⟩ : ∃ u0, cs = [u0] := by
      match cs, hl with
      | [u0], _ => exact ⟨u0, rfl⟩
    obtain ⟨m0, e0, _, w0⟩ := DataW.trod_int Tryd.underlying5 ht
    simp at e0
    subst e0
    have b0 : 0 ≤ m0 ∧ m0 ≤ 255 := by simpa [Lit.wf, IntKind.min, IntKind.max, IntKind.signed, IntKind.bits] using w0
    obtain ⟨q, rfl⟩ := Int.eq_ofNat_of_zero_le b0.1
    refine ⟨q, by omega, g, off, ha, hg, ?_⟩
    have := hc0
    rwa [Nat.mul_one, Nat.add_zero] at this
  obtain ⟨f, hff⟩ := choose14 h5
  refine ⟨listOf f len, listOf_length f len, h2, h3, fun e => (h1 e).2, fun z hz => ?_, fun hn => ?_⟩
  · unfold listOf at hz
    obtain ⟨i, hi, rfl⟩ := List.mem_map.1 hz
    exact (hff i (List.mem_range.1 hi)).1
  · obtain ⟨_, g, off, ha, hg, _⟩ := hff 0 hn
    refine ⟨g, off, ha, hg, fun j hj => ?_⟩
    obtain ⟨_, g2, off2, ha2, hg2, hc⟩ := hff j hj
    rw [ha] at ha2
    injection ha2 with ha2
    injection ha2 with e1 e2
    subst e1 e2
    rw [hc]
    simp [listOf, List.getD, hj]
theorem open_byts {H : Type} {enc : TypeId × Value → H} {W : World} {a : Option Addr} {len cap : Nat} {d : DataW H} {p : List MemPlace}
    (h : DataW.Trod enc Tryd.prog W 0 (fun _ => true) true 35 (.slice a len cap) d p) : ∃ l : List Nat, By W.heap.size W a len cap l ∧ True := by
  obtain ⟨fuel, hf⟩ := h
  obtain ⟨l, hl⟩ := open_by (show DataW.trod enc Tryd.prog W 0 (fun _ => true) true fuel 35 [.slice a len cap] = some (d, p) by simpa [Value.cells] using hf)
  exact ⟨l, hl, trivial⟩
theorem i64_range {n : Int} (w : Lit.wf (.int .i64 n)) : -9223372036854775808 ≤ n ∧ n ≤ 9223372036854775807 := by simpa [Lit.wf, IntKind.min, IntKind.max, IntKind.signed, IntKind.bits] using w
theorem act_cells {H : Type} {enc : TypeId × Value → H} {W : World} {fuel : Nat} {l : List Value} {x : DataW H × List MemPlace} (hl : l.length = 3)
    (hf' : DataW.trod enc Tryd.prog W 0 (fun _ => true) true fuel 33 l = some x) :
    ∃ (k : Nat) (c p : Int), l = [.int .u8 (k : Int), .int .i64 c, .int .i64 p] ∧ k ≤ 255 := by
  obtain ⟨u0, u1, u2, rfl⟩ : ∃ u0 u1 u2, l = [u0, u1, u2] := by
    match l, hl with
    | [u0, u1, u2], _ => exact ⟨u0, u1, u2, rfl⟩
  obtain ⟨xs, n', _, _, _, hxl, hfs⟩ := DataW.trod_struct Tryd.underlying33 hf'
  have k0 := hfs 0 _ rfl
  have k1 := hfs 1 _ rfl
  have k2 := hfs 2 _ rfl
  have q0 : Tryd.prog.cellsOf 5 = 1 := by kernel_rfl
  have q1 : Tryd.prog.cellsOf 3 = 1 := by kernel_rfl
  simp [q0, q1] at k0 k1 k2
  simp at hxl
  obtain ⟨y0, y1, y2, rfl⟩ : ∃ y0 y1 y2, xs = [y0, y1, y2] := by
    match xs, hxl with
    | [y0, y1, y2], _ => exact ⟨y0, y1, y2, rfl⟩
  simp at k0 k1 k2
  obtain ⟨n0, e0, _, w0⟩ := DataW.trod_int Tryd.underlying5 k0
  obtain ⟨n1, e1, _, w1⟩ := DataW.trod_int Tryd.underlying3 k1
  obtain ⟨n2, e2, _, w2⟩ := DataW.trod_int Tryd.underlying3 k2
  simp at e0 e1 e2
  subst e0 e1 e2
  have b0 : 0 ≤ n0 ∧ n0 ≤ 255 := by simpa [Lit.wf, IntKind.min, IntKind.max, IntKind.signed, IntKind.bits] using w0
  obtain ⟨m0, rfl⟩ := Int.eq_ofNat_of_zero_le b0.1
  exact ⟨m0, n1, n2, rfl, by omega⟩
theorem open_act {H : Type} {enc : TypeId × Value → H} {W : World} {r : Reach} {b0 : Nat} {v : Value} {d : DataW H} {p : List MemPlace}
    (hv : Value.okWide Tryd.prog W r b0 33 v) (h : DataW.Trod enc Tryd.prog W 0 (fun _ => true) true 33 v d p) :
    ∃ (k : Nat) (c p : Int), v = .agg #[.int .u8 (k : Int), .int .i64 c, .int .i64 p] ∧ k ≤ 255 := by
  obtain ⟨cs, rfl, hsz⟩ := okWide_struct Tryd.underlying33 hv
  have hC : Tryd.prog.cellsOf 33 = 3 := by kernel_rfl
  rw [hC] at hsz
  obtain ⟨l, rfl⟩ : ∃ l : List Value, cs = l.toArray := ⟨cs.toList, by simp⟩
  obtain ⟨fuel, hf⟩ := h
  have hf' : DataW.trod enc Tryd.prog W 0 (fun _ => true) true fuel 33 l = some (d, p) := by simpa [Value.cells] using hf
  obtain ⟨k, c, p, rfl, hk⟩ := act_cells (by simpa using hsz) hf'
  exact ⟨k, c, p, rfl, hk⟩
theorem shape_of_trod {H : Type} {enc : TypeId × Value → H} {W : World} {base : Nat} {sp : Nat → Bool} {held : Bool} {fuel : Nat} {a b : Value} {m n : Int} {p : List MemPlace}
    (h : DataW.trod enc Tryd.prog W base sp held fuel 150 [a, b] = some (.agg [.lit (.int .i64 m), .lit (.int .i64 n)], p)) : a = .int .i64 m ∧ b = .int .i64 n := by
  obtain ⟨y0, y1, n', hx, _, h0, h1⟩ := trod_struct2 Tryd.underlying150 h
  have q1 : Tryd.prog.cellsOf 3 = 1 := by kernel_rfl
  simp [q1] at h0 h1
  obtain ⟨m0, e0, f0, _⟩ := DataW.trod_int Tryd.underlying3 h0
  obtain ⟨m1, e1, f1, _⟩ := DataW.trod_int Tryd.underlying3 h1
  simp at e0 e1
  subst e0 e1
  have hx1 := congrArg Prod.fst hx
  rw [f0, f1] at hx1
  simp at hx1
  exact ⟨by rw [hx1.1], by rw [hx1.2]⟩
theorem shp_of {W : World} (h : laidMetH Tryd.prog [("carfax/record.shapes", Rows.laid_carfax_record_shapes)] W) : Shp W := by
  rw [MakeChecks.laidMetH_plain _ _ _ (by kernel_rfl)] at h
  obtain ⟨ps, ⟨g', t', cs, fuel, p, q, hg', ht', hvar, hd, _, _⟩, _⟩ := h
  have hg : Tryd.prog.globalNamed "carfax/record.shapes" = some 0 := by kernel_rfl
  obtain rfl := Option.some.inj (hg.symm.trans hg')
  have hty : (Tryd.prog.globals[0]?).map (·.type) = some 151 := by kernel_rfl
  obtain rfl := Option.some.inj (hty.symm.trans ht')
  obtain ⟨xs, m, _, hx, hl, hn, hi⟩ := DataW.trod_array Tryd.underlying151 hd
  have q1 : Tryd.prog.cellsOf 150 = 2 := by kernel_rfl
  have q2 : Tryd.prog.cellsOf 151 = 10 := by kernel_rfl
  rw [q2] at hl
  rw [q1] at hi
  obtain ⟨l, rfl⟩ : ∃ l : List Value, cs = l.toArray := ⟨cs.toList, by simp⟩
  simp only at hl hi
  obtain ⟨a0, a1, a2, a3, a4, a5, a6, a7, a8, a9, rfl⟩ : ∃ a0 a1 a2 a3 a4 a5 a6 a7 a8 a9, l = [a0, a1, a2, a3, a4, a5, a6, a7, a8, a9] := by
    match l, hl with
    | [a0, a1, a2, a3, a4, a5, a6, a7, a8, a9], _ => exact ⟨a0, a1, a2, a3, a4, a5, a6, a7, a8, a9, rfl⟩
  obtain ⟨x0, x1, x2, x3, x4, rfl⟩ : ∃ x0 x1 x2 x3 x4, xs = [x0, x1, x2, x3, x4] := by
    match xs, hn with
    | [x0, x1, x2, x3, x4], _ => exact ⟨x0, x1, x2, x3, x4, rfl⟩
  have hx1 := congrArg Prod.fst hx
  simp [Rows.laid_carfax_record_shapes] at hx1
  obtain ⟨⟨z0, p0⟩, rfl⟩ : ∃ z, x0 = z := ⟨_, rfl⟩
  obtain ⟨⟨z1, p1⟩, rfl⟩ : ∃ z, x1 = z := ⟨_, rfl⟩
  obtain ⟨⟨z2, p2⟩, rfl⟩ : ∃ z, x2 = z := ⟨_, rfl⟩
  obtain ⟨⟨z3, p3⟩, rfl⟩ : ∃ z, x3 = z := ⟨_, rfl⟩
  obtain ⟨⟨z4, p4⟩, rfl⟩ : ∃ z, x4 = z := ⟨_, rfl⟩
  obtain ⟨e0, e1, e2, e3, e4⟩ := hx1
  subst e0 e1 e2 e3 e4
  have h0 := shape_of_trod (hi 0 (by decide))
  have h1 := shape_of_trod (hi 1 (by decide))
  have h2 := shape_of_trod (hi 2 (by decide))
  have h3 := shape_of_trod (hi 3 (by decide))
  have h4 := shape_of_trod (hi 4 (by decide))
  obtain ⟨rfl, rfl⟩ := h0
  obtain ⟨rfl, rfl⟩ := h1
  obtain ⟨rfl, rfl⟩ := h2
  obtain ⟨rfl, rfl⟩ := h3
  obtain ⟨rfl, rfl⟩ := h4
  unfold World.var? at hvar
  rw [hg] at hvar
  simp only [Option.bind_some] at hvar
  split at hvar
  · rename_i cs t m hh
    obtain rfl := Option.some.inj hvar
    exact ⟨_, _, hh⟩
  · cases hvar
end
end Rc
end Go.Proofs.YtobpinelhjpfgaaDoor
