/-
  Layer 15: both disks in one memory; an act's box; bytes that were told, and are written.
-/
import Derived.Test.YtlelmffemlgenaaDkT
import Derived.Test.YtlelmffemlgenaaDkG
set_option linter.unusedVariables false
set_option maxRecDepth 100000
namespace Go.Proofs.Ytlelmffemlgenaa
namespace Dk
open Go.RowKit Go.Maps Bk Nw

/-- Both disks tell the same. -/
structure Pl (w0 : World) (g q : Nat) (v : Value) (d : D) (w : World) : Prop where
  da : DAt w w0.heap.size g v d
  rd : RD w w0.heap.size q d
  below : Below w0.heap.size w0 w
section
variable {w0 w w' : World} {b1 b2 base g gc q bx : Nat} {v v' vc : Value} {d d' dc : D} {cs : Array Value}
theorem apart_DR (h : DAt w b1 g v d) (r : RD w b2 q d') : ∀ k, DF g v k → k ≠ q := by
  rintro k hk rfl
  obtain ⟨c, t, fz, hh, ht⟩ := h.kind k hk
  have := hh.symm.trans r.box
  injection this with this
  injection this with _ this _
  subst this
  revert ht
  decide
theorem RD.turnD {F' : Nat → Prop} (r : RD w b2 q d') (h : DAt w b1 g v d) (ht : Turn (DF g v) F' w w') : RD w' b2 q d' := r.same (ht.block q r.lt (fun e => apart_DR h r q e rfl))
theorem DAt.turnR {F' : Nat → Prop} (h : DAt w b1 g v d) (r : RD w b2 q d') (ht : Turn (One q) F' w w') : DAt w' b1 g v d := h.turn ht (fun k hk e => apart_DR h r k hk e)
theorem Pl.later (h : Pl w0 g q v d w) (hb : Below w.heap.size w w') : Pl w0 g q v d w' := ⟨h.da.later hb, h.rd.later hb, h.below.trans (hb.mono h.below.size)⟩
/-- An act's box. -/
def Bxd (w : World) (bx : Nat) (cs : Array Value) : Prop := w.heap[bx]? = some (.cells cs 31 (0, 0))
theorem Bxd.lt (h : Bxd w bx cs) : bx < w.heap.size := lt_of_heap h
theorem Bxd.later (h : Bxd w bx cs) (hb : Below w.heap.size w w') : Bxd w' bx cs := (hb.block bx h.lt).trans h
theorem Bxd.notD (hx : Bxd w bx cs) (h : DAt w b1 g v d) : ¬ DF g v bx := by
  intro hk
  obtain ⟨c, t, fz, hh, ht⟩ := h.kind bx hk
  have := hh.symm.trans hx
  injection this with this
  injection this with _ this _
  subst this
  revert ht
  decide
theorem Bxd.turnD {F' : Nat → Prop} (hx : Bxd w bx cs) (h : DAt w b1 g v d) (ht : Turn (DF g v) F' w w') : Bxd w' bx cs := (ht.block bx hx.lt (hx.notD h)).trans hx
theorem Bxd.turnR {F' : Nat → Prop} (hx : Bxd w bx cs) (r : RD w b2 q d) (ht : Turn (One q) F' w w') : Bxd w' bx cs := (ht.block bx hx.lt (by
  rintro rfl
  have := hx.symm.trans r.box
  injection this with this
  injection this with _ this _
  revert this
  decide)).trans hx
theorem Bxd.cells {x : Int} {A : Option Addr} {n c : Nat} {i : Int} (h : Bxd w bx #[.int .u8 x, .slice A n c, .int .i64 i]) : w.cell? ⟨bx, 0, none⟩ = some (.int .u8 x) ∧ w.cell? ⟨bx, 1, none⟩ = some (.slice A n c) ∧ w.cell? ⟨bx, 2, none⟩ = some (.int .i64 i) :=
  ⟨by rw [cell_of_row _ bx 0 _ _ _ h]; rfl, by rw [cell_of_row _ bx 1 _ _ _ h]; rfl, by rw [cell_of_row _ bx 2 _ _ _ h]; rfl⟩
/-- A copy, and the disk that it is of, which goes on apart from it. -/
structure Cp (w0 : World) (g gc q : Nat) (v vc : Value) (d dc : D) (w : World) : Prop where
  old : DAt w w0.heap.size g v d
  copy : DAt w w0.heap.size gc vc dc
  ap : ∀ k, DF g v k → ¬ DF gc vc k
  rd : RD w w0.heap.size q dc
  below : Below w0.heap.size w0 w
theorem Cp.later (h : Cp w0 g gc q v vc d dc w) (hb : Below w.heap.size w w') : Cp w0 g gc q v vc d dc w' := ⟨h.old.later hb, h.copy.later hb, h.ap, h.rd.later hb, h.below.trans (hb.mono h.below.size)⟩
theorem Cp.step (h : Cp w0 g gc q v vc d dc w) (hn : DAt w' w0.heap.size g v' d') (ht : Turn (DF g v) (DF g v') w w') : Cp w0 g gc q v' vc d' dc w' :=
  ⟨hn, h.copy.turn ht (fun k hk e => h.ap k e hk), fun k hk e => by
    rcases ht.foot k hk with z | z
    · exact h.ap k z e
    · have := (h.copy.blocks k e).2; omega, h.rd.turnD h.old ht, h.below.trans (ht.below _ h.below.size (fun k hk => (h.old.blocks k hk).1))⟩
theorem Cp.pl (h : Cp w0 g gc q v vc d dc w) : Pl w0 gc q vc dc w := ⟨h.copy, h.rd, h.below⟩
theorem Pl.copied (h : Pl w0 g q v d w) (hn : DAt w' w.heap.size gc vc d) (hb : Below w.heap.size w w') : Cp w0 g gc q v vc d d w' :=
  ⟨h.da.later hb, hn.lower h.below.size, fun k h1 h2 => by have := (h.da.blocks k h1).2; have := (hn.blocks k h2).1; omega, h.rd.later hb, h.below.trans (hb.mono h.below.size)⟩
end
theorem own_put {w : World} {base k g n m c x : Nat} {e : TypeId} {xs : List Value} (h : w.ownsRow base e k (.slice (some ⟨g, 0, none⟩) m c) n xs) (hx : x < xs.length) (v : Value) : (w.setCell ⟨g, x, none⟩ v).ownsRow base e k (.slice (some ⟨g, 0, none⟩) m c) n (xs.set x v) := by
  refine ⟨by rw [List.length_set]; exact h.1, ?_⟩
  rcases h.2 with ⟨q, _⟩ | ⟨g', cap, cur, q, hg, hh, h1, h2, h3, h4⟩
  · cases q
  · injection q with q1 q2 q3
    injection q1 with q1
    injection q1 with q1
    subst q1 q3
    refine .inr ⟨g, c, cur.setIfInBounds x v, by rw [q2], hg, heap_setCell_same w g x cur e v hh, h1, h2, by simpa using h3, ?_⟩
    rw [Array.toList_setIfInBounds, List.take_set, h4]
/-- Both disks, and bytes of one's own beside them. -/
def Wd (w0 : World) (g q B : Nat) (A : Option Addr) (n c : Nat) (w : World) : Prop :=
  (∃ v d, Pl w0 g q v d w ∧ ∀ k, DF g v k → (Value.slice A n c).ownBlock ≠ some k) ∧ w0.heap.size ≤ B ∧ ∃ zs : List Int, zs.length = n ∧ w.ownsRow B 5 1 (.slice A n c) n (u8s zs)
section
variable {w0 w : World} {g q B n c : Nat} {A : Option Addr}
theorem Wd.start {v : Value} {d : D} {s : ByteArray} (h : Pl w0 g q v d w) (hB : w0.heap.size ≤ B) (hy : Yw w B (.slice A n c) s) (ha : ∀ k, DF g v k → (Value.slice A n c).ownBlock ≠ some k) : Wd w0 g q B A n c w := by
  obtain ⟨zs, h1, h2⟩ := hy
  have hl : zs.length = n := (gt_own h1).1.symm
  exact ⟨⟨v, d, h, ha⟩, hB, zs, hl, by rw [hl] at h1; exact h1⟩
theorem Wd.cell (h : Wd w0 g q B A n c w) {j : Nat} (hj : j < n) : ∃ gx z, A = some ⟨gx, 0, none⟩ ∧ w.cell? ⟨gx, j, none⟩ = some (.int .u8 z) ∧ w.frozen? ⟨gx, j, none⟩ = false := by
  obtain ⟨_, _, zs, hl, ho⟩ := h
  rcases ho.2 with ⟨e, h0⟩ | ⟨g', cap', cur, e, hg, hh, _⟩
  · omega
  · injection e with e1
    refine ⟨g', zs.getD j 0, e1, ?_, ?_⟩
    · subst e1
      have := ho.cellAt j (by omega)
      rw [this]
      simp [u8s, List.getD, List.getElem?_eq_getElem (show j < zs.length by omega)]
    · exact frozen_of_row w g' j _ _ hh
theorem Wd.put {gx : Nat} (h : Wd w0 g q B (some ⟨gx, 0, none⟩) n c w) {j : Nat} (hj : j < n) (z : Int) : Wd w0 g q B (some ⟨gx, 0, none⟩) n c (w.setCell ⟨gx, j, none⟩ (.int .u8 z)) := by
  obtain ⟨⟨v, d, h2, ha⟩, hB, zs, hl, ho⟩ := h
  obtain ⟨hlt, hBg, cc, fz, hh⟩ := own_kind ho gx rfl
  have hsz : ∀ k, k ≠ gx → (w.setCell ⟨gx, j, none⟩ (.int .u8 z)).heap[k]? = w.heap[k]? := fun k hk => Below.heap_setCell _ _ _ _ hk
  refine ⟨⟨v, d, ⟨h2.da.same (fun k hk => hsz k (fun e => ha k hk (by rw [e]; rfl))), h2.rd.same (hsz q (fun e => ?_)), ?_⟩, ha⟩, hB, zs.set j z, by simpa using hl, ?_⟩
  · have h3 := h2.rd.box
    rw [e] at h3
    have := hh.symm.trans h3
    injection this with this
    injection this with _ this _
    revert this
    decide
  · have hb := h2.below
    exact ⟨hb.os, hb.tape, hb.output, by simp [World.setCell]; exact hb.size, fun k hk => (hsz k (by omega)).trans (hb.block k hk)⟩
  · have := own_put ho (x := j) (by simp [u8s]; omega) (.int .u8 z)
    rwa [show (u8s zs).set j (.int .u8 z) = u8s (zs.set j z) by simp [u8s, List.map_set]] at this
theorem Wd.pl (h : Wd w0 g q B A n c w) : ∃ v d, Pl w0 g q v d w := by obtain ⟨⟨v, d, h, _⟩, _⟩ := h; exact ⟨v, d, h⟩
theorem Wd.size (h : Wd w0 g q B A n c w) : n ≤ c ∧ c ≤ 9223372036854775807 := by
  obtain ⟨_, _, zs, hl, ho⟩ := h
  exact (gt_own ho).2.size
end
theorem lit5 (w : World) : Yb (w.alloc (.cells #[.int .u8 111, .int .u8 116, .int .u8 104, .int .u8 101, .int .u8 114] 5 (5, 6))).heap.size (w.alloc (.cells #[.int .u8 111, .int .u8 116, .int .u8 104, .int .u8 101, .int .u8 114] 5 (5, 6))) (some ⟨w.heap.size, 0, none⟩) 5 5 (strOfNums [111, 116, 104, 101, 114]) := lit_yb w [111, 116, 104, 101, 114] 5 (5, 6) (by intro z hz; simp at hz; omega) rfl (by omega)
end Dk
end Go.Proofs.Ytlelmffemlgenaa
