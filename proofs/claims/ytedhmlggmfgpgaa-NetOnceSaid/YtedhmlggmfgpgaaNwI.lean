/-
  Layer 13: both networks in one memory; bytes of one's own, that are written.
-/
import Derived.Test.YtedhmlggmfgpgaaNwR
set_option linter.unusedVariables false
set_option maxRecDepth 100000
namespace Go.Proofs.Ytedhmlggmfgpgaa
namespace Nw
open Go.RowKit Go.Maps Bk

theorem NAt.lower {w : World} {base base' g : Nat} {v : Value} {P : List Value} {L : List ByteArray} (h : NAt w base g v P L) (hb : base' ≤ base) : NAt w base' g v P L :=
  ⟨h.box, own_lower h.own hb, h.len, fun i p e => (h.pk i p e).lower hb, Nat.le_trans hb h.lo, h.few, h.sm⟩
theorem RN.form2 {w : World} {base q : Nat} {u : Value} {S : List ByteArray} (h : RN w base q u S) : ∃ A l c, u = .slice A l c ∧ l = S.length := by
  obtain ⟨A, c, e⟩ := h.form
  exact ⟨A, _, c, e, rfl⟩
/-- No block is of both. -/
theorem apart_NR {w : World} {b1 b2 g q : Nat} {v u : Value} {P : List Value} {L S : List ByteArray} (h : NAt w b1 g v P L) (r : RN w b2 q u S) : ∀ k, NF g v P k → ¬ RF q u k := by
  intro k h1 h2
  obtain ⟨c, t, fz, hh, ht⟩ := h.kind k h1
  obtain ⟨c2, t2, fz2, hh2, ht2⟩ := r.kind k h2
  have := hh.symm.trans hh2
  injection this with this
  injection this with _ this _
  subst this
  rcases ht with rfl | rfl | rfl <;> revert ht2 <;> decide
/-- Both networks, on which the same is under way. -/
structure Two (w0 : World) (g q : Nat) (v : Value) (P : List Value) (L : List ByteArray) (u : Value) (w : World) : Prop where
  na : NAt w w0.heap.size g v P L
  rn : RN w w0.heap.size q u L
  below : Below w0.heap.size w0 w
section
variable {w0 w w' : World} {g q : Nat} {v v' u u' : Value} {P P' : List Value} {L L' : List ByteArray}
theorem Two.later (h : Two w0 g q v P L u w) (hb : Below w.heap.size w w') : Two w0 g q v P L u w' := ⟨h.na.later hb, h.rn.later hb, h.below.trans (hb.mono h.below.size)⟩
theorem Two.lt (h : Two w0 g q v P L u w) : (∀ k, NF g v P k → k < w.heap.size) ∧ ∀ k, RF q u k → k < w.heap.size := ⟨fun k hk => (h.na.blocks k hk).2, fun k hk => (h.rn.blocks k hk).2⟩
theorem Two.turnN (h : Two w0 g q v P L u w) (ht : Turn (NF g v P) (NF g v' P') w w') : RN w' w0.heap.size q u L ∧ Below w0.heap.size w0 w' :=
  ⟨h.rn.same (fun k hk => ht.block k (h.rn.blocks k hk).2 (fun e => apart_NR h.na h.rn k e hk)), h.na.belowT ht h.below (Nat.le_refl _) (Nat.le_refl _)⟩
theorem Two.turnR {F' : Nat → Prop} (h : NAt w w0.heap.size g v P L) (r : RN w w0.heap.size q u L') (hb : Below w0.heap.size w0 w) (ht : Turn (RF q u) F' w w') : NAt w' w0.heap.size g v P L ∧ Below w0.heap.size w0 w' :=
  ⟨h.turn ht (fun k hk => apart_NR h r k hk), hb.trans (ht.below _ hb.size (fun k hk => (r.blocks k hk).1))⟩
end
theorem own_put {w : World} {base k g n m c x : Nat} {e : TypeId} {xs : List Value} (h : w.ownsRow base e k (.slice (some ⟨g, 0, none⟩) m c) n xs) (hx : x < xs.length) (v : Value) : (w.setCell ⟨g, x, none⟩ v).ownsRow base e k (.slice (some ⟨g, 0, none⟩) m c) n (xs.set x v) := by
  refine ⟨by rw [List.length_set]; exact h.1, ?_⟩
  rcases h.2 with ⟨q, _⟩ | ⟨g', cap, cur, q, hg, hh, h1, h2, h3, h4⟩
  · cases q
  · injection q with q1 q2 q3
    injection q1 with q1
    injection q1 with q1
    subst q1 q3
    refine .inr ⟨g, c, cur.setIfInBounds x v, by rw [q2], hg, heap_setCell_same w g x cur e v hh, h1, h2, by simpa using h3, ?_⟩
    rw [Array.toList_setIfInBounds, List.take_set, h4]
/-- Both networks, and bytes of one's own beside them. -/
def Wx (w0 : World) (g q B : Nat) (A : Option Addr) (n c : Nat) (w : World) : Prop :=
  (∃ v P L u, Two w0 g q v P L u w ∧ ∀ k, NF g v P k → (Value.slice A n c).ownBlock ≠ some k) ∧ w0.heap.size ≤ B ∧ ∃ zs : List Int, zs.length = n ∧ w.ownsRow B 5 1 (.slice A n c) n (u8s zs)
section
variable {w0 w : World} {g q B n c : Nat} {A : Option Addr}
theorem Wx.start {v : Value} {P : List Value} {L : List ByteArray} {u : Value} {s : ByteArray} (h : Two w0 g q v P L u w) (hB : w0.heap.size ≤ B) (hy : Yw w B (.slice A n c) s) (ha : ∀ k, NF g v P k → (Value.slice A n c).ownBlock ≠ some k) : Wx w0 g q B A n c w := by
  obtain ⟨zs, h1, h2⟩ := hy
  have hl : zs.length = n := (gt_own h1).1.symm
  exact ⟨⟨v, P, L, u, h, ha⟩, hB, zs, hl, by rw [hl] at h1; exact h1⟩
theorem Wx.cell (h : Wx w0 g q B A n c w) {j : Nat} (hj : j < n) : ∃ gx z, A = some ⟨gx, 0, none⟩ ∧ w.cell? ⟨gx, j, none⟩ = some (.int .u8 z) ∧ w.frozen? ⟨gx, j, none⟩ = false := by
  obtain ⟨_, _, zs, hl, ho⟩ := h
  rcases ho.2 with ⟨e, h0⟩ | ⟨g', cap', cur, e, hg, hh, _⟩
  · omega
  · injection e with e1
    refine ⟨g', zs.getD j 0, e1, ?_, ?_⟩
    · subst e1
      have := ho.cellAt j (by omega)
      rw [this]
      simp [u8s, List.getD, List.getElem?_eq_getElem (show j < zs.length by omega)]
    · exact frozen_of_row w g' j _ _ hh
theorem Wx.put {gx : Nat} (h : Wx w0 g q B (some ⟨gx, 0, none⟩) n c w) {j : Nat} (hj : j < n) (z : Int) : Wx w0 g q B (some ⟨gx, 0, none⟩) n c (w.setCell ⟨gx, j, none⟩ (.int .u8 z)) := by
  obtain ⟨⟨v, P, L, u, h2, ha⟩, hB, zs, hl, ho⟩ := h
  obtain ⟨hlt, hBg, cc, fz, hh⟩ := own_kind ho gx rfl
  have hsz : ∀ k, k ≠ gx → (w.setCell ⟨gx, j, none⟩ (.int .u8 z)).heap[k]? = w.heap[k]? := fun k hk => Below.heap_setCell _ _ _ _ hk
  refine ⟨⟨v, P, L, u, ⟨h2.na.same (fun k hk => hsz k (fun e => ha k hk (by rw [e]; rfl))), h2.rn.same (fun k hk => hsz k (fun e => ?_)), ?_⟩, ha⟩, hB, zs.set j z, by simpa using hl, ?_⟩
  · obtain ⟨c2, t2, fz2, hh2, ht2⟩ := h2.rn.kind k hk
    rw [e] at hh2
    have := hh.symm.trans hh2
    injection this with this
    injection this with _ this _
    subst this
    revert ht2
    decide
  · have hb := h2.below
    exact ⟨hb.os, hb.tape, hb.output, by simp [World.setCell]; exact hb.size, fun k hk => (hsz k (by omega)).trans (hb.block k hk)⟩
  · have := own_put ho (x := j) (by simp [u8s]; omega) (.int .u8 z)
    rwa [show (u8s zs).set j (.int .u8 z) = u8s (zs.set j z) by simp [u8s, List.map_set]] at this
theorem Wx.two (h : Wx w0 g q B A n c w) : ∃ v P L u, Two w0 g q v P L u w := by obtain ⟨⟨v, P, L, u, h, _⟩, _⟩ := h; exact ⟨v, P, L, u, h⟩
theorem Wx.size (h : Wx w0 g q B A n c w) : n ≤ c ∧ c ≤ 9223372036854775807 := by
  obtain ⟨_, _, zs, hl, ho⟩ := h
  exact (gt_own ho).2.size
end
end Nw
end Go.Proofs.Ytedhmlggmfgpgaa
