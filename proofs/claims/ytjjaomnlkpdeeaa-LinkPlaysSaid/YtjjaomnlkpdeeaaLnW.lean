/-
  Layer 14: the acts of LinkPlays: as they come in, the first few.
-/
import Derived.Test.YtjjaomnlkpdeeaaLnV
set_option linter.unusedVariables false
set_option maxRecDepth 100000
namespace Go.Proofs.Ytjjaomnlkpdeeaa
namespace Ln
open Go.RowKit Bp Ck
section
open Go.ChangeShapes Go.WideShapes Go.ChangeAt Go.Deep Go.Joins
/-- An act: its kind, its bytes. -/
abbrev A14 := Nat × List Nat
structure Acs (B : Nat) (w : World) (A : Option Addr) (n cap : Nat) (f : Nat → A14) : Prop where
  le : n ≤ cap
  max : cap ≤ maxLen
  nil : A = none → cap = 0
  cell : 0 < n → ∃ g off, A = some ⟨g, off, none⟩ ∧ g < B ∧ ∀ j, j < n → w.cell? ⟨g, off + j * 2, none⟩ = some (.int .u8 ((f j).1 : Int)) ∧ (∃ A1 n1 c1, w.cell? ⟨g, off + j * 2 + 1, none⟩ = some (.slice A1 n1 c1) ∧ By B w A1 n1 c1 (f j).2)
  fits : ∀ j, j < n → (f j).1 ≤ 255
theorem Acs.below {B : Nat} {w w' : World} {A : Option Addr} {n cap : Nat} {f : Nat → A14} (h : Acs B w A n cap f) (hb : Below B w w') : Acs B w' A n cap f :=
  ⟨h.le, h.max, h.nil, fun hn => by
    obtain ⟨g, off, e, hg, hc⟩ := h.cell hn
    refine ⟨g, off, e, hg, fun j hj => ?_⟩
    obtain ⟨c0, A1, n1, c1, k1, k2⟩ := hc j hj
    exact ⟨(hb.cell (p := ⟨g, off + j * 2, none⟩) hg).trans c0, A1, n1, c1, (hb.cell (p := ⟨g, off + j * 2 + 1, none⟩) hg).trans k1, k2.below hb⟩, h.fits⟩
theorem Acs.cut {B : Nat} {w : World} {A : Option Addr} {n cap : Nat} {f : Nat → A14} (h : Acs B w A n cap f) {k : Nat} (hk : k ≤ n) : Acs B w A k cap f :=
  ⟨Nat.le_trans hk h.le, h.max, h.nil, fun hn => by
    obtain ⟨g, off, e, hg, hc⟩ := h.cell (by omega)
    exact ⟨g, off, e, hg, fun j hj => hc j (by omega)⟩, fun j hj => h.fits j (by omega)⟩
theorem open_act14 {H : Type} {enc : TypeId × Value → H} {W : World} {n : Nat} {cs : List Value} {y : DataW H × List MemPlace} (hl : cs.length = 2) (ht : DataW.trod enc Try.prog W 0 (fun _ => true) true n 49 cs = some y) :
    ∃ (q : A14) (A : Option Addr) (m c : Nat), cs = [.int .u8 (q.1 : Int), .slice A m c] ∧ q.1 ≤ 255 ∧ By W.heap.size W A m c q.2 := by
  obtain ⟨u0, u1, rfl⟩ : ∃ u0 u1, cs = [u0, u1] := by
    match cs, hl with
    | [u0, u1], _ => exact ⟨u0, u1, rfl⟩
  obtain ⟨xs, n', _, _, _, hxl, hfs⟩ := DataW.trod_struct Try.underlying49 ht
  have k0 := hfs 0 _ rfl
  have k1 := hfs 1 _ rfl
  have q0 : Try.prog.cellsOf 5 = 1 := by kernel_rfl
  have q1 : Try.prog.cellsOf 23 = 1 := by kernel_rfl
  simp [q0, q1] at k0 k1
  simp at hxl
  obtain ⟨y0, y1, rfl⟩ : ∃ y0 y1, xs = [y0, y1] := by
    match xs, hxl with
    | [y0, y1], _ => exact ⟨y0, y1, rfl⟩
  simp at k0 k1
  obtain ⟨n0, e0, _, w0⟩ := DataW.trod_int Try.underlying5 k0
  obtain ⟨a1, l1, c1, e1⟩ := slice_form Try.underlying23 k1
  simp at e0 e1
  subst e0 e1
  have b0 : 0 ≤ n0 ∧ n0 ≤ 255 := by simpa [Lit.wf, IntKind.min, IntKind.max, IntKind.signed, IntKind.bits] using w0
  obtain ⟨m0, rfl⟩ := Int.eq_ofNat_of_zero_le b0.1
  obtain ⟨s, hs⟩ := open_by k1
  exact ⟨(m0, s), a1, l1, c1, rfl, by have := b0.2; show m0 ≤ 255; omega, hs⟩
theorem open_acts14 {H : Type} {enc : TypeId × Value → H} {W : World} {a : Option Addr} {len cap : Nat} {d : DataW H} {p : List MemPlace}
    (h : DataW.Trod enc Try.prog W 0 (fun _ => true) true 36 (.slice a len cap) d p) : ∃ f : Nat → A14, Acs W.heap.size W a len cap f ∧ True := by
  obtain ⟨fuel, hf⟩ := h
  have hf' : DataW.trod enc Try.prog W 0 (fun _ => true) true fuel 36 [.slice a len cap] = some (d, p) := by simpa [Value.cells] using hf
  obtain ⟨h1, h2, h3, h4⟩ := rows14 (k := 2) Try.underlying36 (by kernel_rfl) (by decide) hf'
  have h5 : ∀ i, i < len → ∃ q : A14, ∃ g off, a = some ⟨g, off, none⟩ ∧ g < W.heap.size ∧ q.1 ≤ 255 ∧
      W.cell? ⟨g, off + i * 2, none⟩ = some (.int .u8 (q.1 : Int)) ∧ (∃ A1 n1 c1, W.cell? ⟨g, off + i * 2 + 1, none⟩ = some (.slice A1 n1 c1) ∧ By W.heap.size W A1 n1 c1 q.2) := fun i hi => by
    obtain ⟨g, off, n, cs, y, ha, hg, hl, hc, ht⟩ := h4 i hi
    obtain ⟨q, A, m, c, rfl, hq1, hq3⟩ := open_act14 hl ht
    exact ⟨q, g, off, ha, hg, hq1, hc 0 (by omega), ⟨A, m, c, hc 1 (by omega), hq3⟩⟩
  obtain ⟨f, hff⟩ := choose14 h5
  refine ⟨f, ⟨h2, h3, fun e => (h1 e).2, fun hn => ?_, fun j hj => ?_⟩, trivial⟩
  · obtain ⟨g, off, ha, hg, _⟩ := hff 0 hn
    refine ⟨g, off, ha, hg, fun j hj => ?_⟩
    obtain ⟨g2, off2, ha2, hg2, _, c0, c1⟩ := hff j hj
    rw [ha] at ha2
    injection ha2 with ha2
    injection ha2 with e1 e2
    subst e1 e2
    exact ⟨c0, c1⟩
  · obtain ⟨g, off, ha, hg, h1, _⟩ := hff j hj
    exact h1
end
/-- The first few. -/
theorem few_any {B : Nat} {w : World} {A : Option Addr} {n cap : Nat} {f : Nat → A14} (h : Acs B w A n cap f) :
    Calls Try.prog 18 #[.slice A n cap] w fun e w' => ∃ k, k ≤ n ∧ (∀ j, j < k → (f j).2.length ≤ 300) ∧ e = .returned (.slice A k cap) ∧ w = w' := by
  have HA := Lib.hid h
  have hle := h.le
  have hmx := h.max
  unfold maxLen at hmx
  clear h
  go_enter Try.func18, Try.ntmps18
  go_wp2_with fail
  go_loopw [6] (fun (tv : Value) (wr : World) => ∃ k : Nat, k ≤ n ∧ tv = .int .i64 (k : Int) ∧ wr = w ∧ Hid (∀ j, j < k → (f j).2.length ≤ 300)) (fun (tv : Value) (wr : World) => n - (intOf tv).toNat)
  case atStart => exact ⟨0, Nat.zero_le _, by go_num, rfl, Lib.hid (fun j hj => by omega)⟩
  case round =>
    obtain ⟨k, hk, rfl, rfl, HF⟩ := hrel
    by_cases hk1 : k < n
    · obtain ⟨g, off, rfl, -, hc⟩ := HA.out.cell (by omega)
      obtain ⟨c0, A1, n1, c1, k1, k2⟩ := hc k hk1
      have hle1 := k2.le
      have hmx1 := k2.max
      unfold maxLen at hmx1
      have HL : Hid ((f k).2.length = n1) := Lib.hid k2.len
      clear hc k2
      by_cases h100 : 100 ≤ k
      · have t0 : decide ((100 : Int) ≤ (k : Int)) = true := decide_eq_true (by omega)
        go_wp2_with fail
        go_ret
        exact ⟨k, by omega, HF.out, rfl, rfl⟩
      · have t0 : decide ((100 : Int) ≤ (k : Int)) = false := decide_eq_false (by omega)
        by_cases h300 : 300 < n1
        · have t1 : decide ((300 : Int) < (n1 : Int)) = true := decide_eq_true (by omega)
          go_wp2_with fail
          go_ret
          exact ⟨k, by omega, HF.out, rfl, rfl⟩
        · have t1 : decide ((300 : Int) < (n1 : Int)) = false := decide_eq_false (by omega)
          go_wp2_with fail
          go_roundw
          case rel => exact ⟨k + 1, by omega, by go_num, by trivial, Lib.hid (fun j hj => by
            rcases Nat.lt_or_ge j k with x | x
            · exact HF.out j x
            · obtain rfl : j = k := by omega
              rw [HL.out]; omega)⟩
          case measure => simp [intOf]; omega
    · obtain rfl : k = n := by omega
      go_wp2_with fail
      go_ret
      exact ⟨k, Nat.le_refl _, HF.out, rfl, rfl⟩
end Ln
end Go.Proofs.Ytjjaomnlkpdeeaa
