/-
  Layer 17: Take and TakeAct.
-/
import Derived.Test.YtejldeecblppjaaDoorRcE
import Derived.Test.YtejldeecblppjaaDoorCkOne
import Derived.Laws.ResultCell
set_option linter.unusedVariables false
set_option maxRecDepth 100000
namespace Go.Proofs.YtejldeecblppjaaDoor
namespace Rc
open Go.RowKit Bp Ck
theorem kb_congr (j k : Nat) (fs : List Nat) (N M : Nat → Nat) (h : ∀ f, f ∈ fs → N f = M f) : kb j k fs N = kb j k fs M := by unfold kb; rw [fbits_congr fs N M h]
theorem gr_has {zs : List Nat} {m k p1 : Nat} {e1 : Int} (hg : Gr zs m 0 0 k p1 e1) (he : e1 = 0) : p1 = m ∧ k < 2 ^ m ∧ Has zs 0 (bitsOf k m) := by
  rcases hg with ⟨a, _⟩ | ⟨_, _, a, b, c⟩ | ⟨_, a, _⟩
  · exact absurd rfl a
  · exact ⟨by omega, a, b⟩
  · exact absurd he a
theorem gr_read {zs : List Nat} {m k p1 : Nat} {e1 : Int} (hg : Gr zs m 0 0 k p1 e1) (hl : m ≤ 8 * zs.length) : e1 = 0 := by
  rcases hg with ⟨a, _⟩ | ⟨_, a, _⟩ | ⟨_, _, _, _, a⟩
  · exact absurd rfl a
  · exact a
  · omega
theorem natN_iN (N : Nat → Nat) (f : Nat) : natN (iN N) f = mn f (N f) := by unfold natN iN; simp
theorem read_rec {zs : List Nat} {k p1 p : Nat} {e1 e : Int} {N : Nat → Nat} (hz : ∀ z ∈ zs, z ≤ 255) (hg : Gr zs 3 0 0 k p1 e1) (hr : Rds zs p1 e1 (fl k) N p e) (hf : Fin zs p e) (hok : Rok k (iN N)) : zs = pack (kb 3 k (fl k) (natN (iN N))) := by
  have hp1 : p1 ≤ 8 * zs.length := by
    rcases hg with ⟨a, _⟩ | ⟨_, _, _, b, c⟩ | ⟨_, _, _, c, _⟩
    · exact absurd rfl a
    · have := b.1; rw [bitsOf_length] at this; omega
    · omega
  have he1 := (hr.has (fl_nodup k) hp1 hf.1).1
  obtain ⟨rfl, _, hk⟩ := gr_has hg he1
  rw [he1] at hr
  obtain ⟨h1, _⟩ := read_pack hz hk (fl_nodup k) hr hf
  rw [h1]
  congr 1
  refine kb_congr _ _ _ _ _ fun f hf => ?_
  rw [natN_iN]
  have h5 := fl_lt k f hf
  have h2 := (hok.2 f h5).1.2
  exact (mn_back f (N f) h5 (by unfold iN at h2; omega)).symm
theorem rec_read {zs : List Nat} {k k' p1 p : Nat} {e1 e : Int} {N : Nat → Nat} {M : Nat → Int} (hg : Gr zs 3 0 0 k p1 e1) (hr : Rds zs p1 e1 (fl k) N p e) (hM : Rok k' M) (hz : zs = pack (kb 3 k' (fl k') (natN M))) :
    Fin zs p e ∧ k = k' ∧ ∀ f, f < 5 → iN N f = M f := by
  subst hz
  have hh := (pack_fin (kb 3 k' (fl k') (natN M))).1
  have hl := (has_left hh).1
  rw [bitsOf_length, Nat.zero_add] at hl
  have he1 := gr_read hg hl
  obtain ⟨rfl, hk8, hk⟩ := gr_has hg he1
  obtain rfl := pack_read (fs := fl k') (M := natN M) hk8 (show k' < 2 ^ 3 by have := hM.kind; omega) hk
  rw [he1] at hr
  have hrg : ∀ f, f ∈ fl k → rg f (natN M f) := fun f hf => rg_le f _ (fl_lt k f hf) (by have := (hM.field f hf).2.2; unfold natN; omega)
  obtain ⟨h1, h2⟩ := pack_reads (fl_nodup k) hrg hr
  refine ⟨h1, rfl, fun f hf => ?_⟩
  by_cases hm : f ∈ fl k
  · have := hM.field f hm
    unfold iN
    rw [h2 f hm, mn_le f _ hf (by unfold natN; omega)]
    unfold natN; omega
  · have h3 := hr.out f hm
    have h4 := (hM.2 f hf).2
    unfold iN
    rw [h3, mn_le f 0 hf (Nat.zero_le _)]
    rcases h4 with h4 | h4
    · omega
    · exact absurd h4 hm
/-- What Take gives: the record whose bytes those are, or that there is none. -/
def TakeTold (w : World) (zs : List Nat) (e : Ending) (w' : World) : Prop := Below w.heap.size w w' ∧
  ((∃ k : Nat, ∃ i r p c q : Int, Rok k (five i r p c q) ∧ zs = pack (kb 3 k (fl k) (natN (five i r p c q))) ∧ e = .returned (.tuple #[.agg #[.int .u8 (k : Int), .int .i64 i, .int .i64 r, .int .i64 p, .int .i64 c, .int .i64 q], .int .i64 0])) ∨
   ((∀ (k : Nat) (M : Nat → Int), Rok k M → zs ≠ pack (kb 3 k (fl k) (natN M))) ∧ e = .returned (.tuple #[.agg #[.int .u8 0, .int .i64 0, .int .i64 0, .int .i64 0, .int .i64 0, .int .i64 0], .int .i64 170])))
theorem five_iN (N : Nat → Nat) (f : Nat) (hf : f < 5) : five (iN N 0) (iN N 1) (iN N 2) (iN N 3) (iN N 4) f = iN N f := by
  have hcs : f = 0 ∨ f = 1 ∨ f = 2 ∨ f = 3 ∨ f = 4 := by omega
  rcases hcs with rfl | rfl | rfl | rfl | rfl <;> rfl
theorem rok_congr {k : Nat} {M N : Nat → Int} (h : ∀ f, f < 5 → M f = N f) (hM : Rok k M) : Rok k N := ⟨hM.1, fun f hf => by rw [← h f hf]; exact hM.2 f hf⟩
theorem Tryd.resTk : Tryd.f15.results = #[.cell 2 23, .tmp 3] := by kernel_rfl
theorem ret_rec {w : World} {R : Nat} {x0 x1 x2 x3 x4 x5 : Value} {t : Nat} (tmps : Array Value) (ht : tmps.getD 2 undef = .pointer (some ⟨R, 0, none⟩)) (h : w.heap[R]? = some (.cells #[x0, x1, x2, x3, x4, x5] t (0, 0))) :
    (results Tryd.f15 tmps).run Tryd.prog w = .ok (.tuple #[.agg #[x0, x1, x2, x3, x4, x5], tmps.getD 3 undef]) w := by
  rw [results_cell_tmp Tryd.resTk, ht]
  simp [asAddr, Result.andThen, run_loadVar_row w R t 23 _ _ _ h Tryd.underlying23 rfl Tryd.cellsR]
theorem set6 {w : World} {R : Nat} {a0 a1 a2 a3 a4 a5 : Value} {t : Nat} (h : w.heap[R]? = some (.cells #[a0, a1, a2, a3, a4, a5] t (0, 0))) (u0 u1 u2 u3 u4 u5 : Value) :
    ((((((w.setCell ⟨R, 0, none⟩ u0).setCell ⟨R, 1, none⟩ u1).setCell ⟨R, 2, none⟩ u2).setCell ⟨R, 3, none⟩ u3).setCell ⟨R, 4, none⟩ u4).setCell ⟨R, 5, none⟩ u5).heap[R]? = some (.cells #[u0, u1, u2, u3, u4, u5] t (0, 0)) := by
  have h0 := heap_setCell_same w R 0 _ _ u0 h
  have h1 := heap_setCell_same _ R 1 _ _ u1 h0
  have h2 := heap_setCell_same _ R 2 _ _ u2 h1
  have h3 := heap_setCell_same _ R 3 _ _ u3 h2
  have h4 := heap_setCell_same _ R 4 _ _ u4 h3
  have h5 := heap_setCell_same _ R 5 _ _ u5 h4
  rw [h5]; simp
theorem below6 {B : Nat} {a w : World} (h : Below B a w) {R : Nat} (hR : B ≤ R) (u0 u1 u2 u3 u4 u5 : Value) : Below B a ((((((w.setCell ⟨R, 0, none⟩ u0).setCell ⟨R, 1, none⟩ u1).setCell ⟨R, 2, none⟩ u2).setCell ⟨R, 3, none⟩ u3).setCell ⟨R, 4, none⟩ u4).setCell ⟨R, 5, none⟩ u5) :=
  (below5 h hR u0 u1 u2 u3 u4).setCell (p := ⟨R, 5, none⟩) hR _
/-- What stays while a reader takes: the result's row, the reader's box, the table. -/
def Facts (w : World) (D : Nat) (x : Value) (wg : World) : Prop := wg.heap[w.heap.size]? = some (.cells #[.int .u8 0, .int .i64 0, .int .i64 0, .int .i64 0, .int .i64 0, .int .i64 0] 23 (0, 0)) ∧ wg.heap[D]? = some (.cells #[x] 77 (0, 0)) ∧ Shp wg ∧ Below w.heap.size w wg ∧ D + 1 ≤ wg.heap.size
theorem turn_facts {w w3 wa wg : World} {D b : Nat} {v x : Value} (hb : Below w3.heap.size w3 wa) (ht : Turn (RF b v) (RF b v) wa wg) (hr : w3.heap[w.heap.size]? = some (.cells #[.int .u8 0, .int .i64 0, .int .i64 0, .int .i64 0, .int .i64 0, .int .i64 0] 23 (0, 0)))
    (hd : w3.heap[D]? = some (.cells #[x] 77 (0, 0))) (hs : Shp w3) (hb3 : Below w.heap.size w w3) (hsz : D + 1 ≤ w3.heap.size) (hwf : ∀ k, RF b v k → w.heap.size + 1 ≤ k ∧ k < D) : Facts w D x wg := by
  have h1 := lt_of_heap hr
  have h2 := hb.size
  refine ⟨?_, ?_, ?_, ?_, ?_⟩
  · rw [ht.block w.heap.size (by omega) (fun y => by have := (hwf _ y).1; omega), hb.block _ h1]; exact hr
  · rw [ht.block D (by omega) (fun y => by have := (hwf _ y).2; omega), hb.block _ (by omega)]; exact hd
  · exact (hs.later hb).of (ht.block 0 (hs.later hb).pos (fun y => by have := (hwf _ y).1; omega))
  · exact hb3.trans ((hb.mono (Nat.le_of_lt h1)).trans (ht.below w.heap.size (by omega) (fun y hy => by have := (hwf _ hy).1; omega)))
  · have := ht.size; omega
theorem below_facts {w wg wo : World} {D : Nat} {x : Value} (hb : Below wg.heap.size wg wo) (h : Facts w D x wg) : Facts w D x wo := by
  obtain ⟨h1, h2, h3, h4, h5⟩ := h
  have := hb.size
  exact ⟨(hb.block _ (lt_of_heap h1)).trans h1, (hb.block _ (lt_of_heap h2)).trans h2, h3.later hb, h4.trans (hb.mono h4.size), by omega⟩
/-- Behind the reading: the record in a block of its own. -/
def TkMid (C : Nat) (w : World) (D : Nat) (x : Value) (b : Nat) (v : Value) (zs : List Nat) (p1 : Nat) (e1 : Int) (k X : Nat) (wc : World) : Prop :=
  ∃ N p e, Rds zs p1 e1 (fl k) N p e ∧ Rd C wc b v zs p e ∧ Facts w D x wc ∧ wc.heap[X]? = some (.cells #[.int .u8 (k : Int), .int .i64 (iN N 0), .int .i64 (iN N 1), .int .i64 (iN N 2), .int .i64 (iN N 3), .int .i64 (iN N 4)] 23 (0, 0)) ∧ (∀ j, RF b v j → j < X) ∧ D < X
theorem Facts.turn {w w3 wg : World} {D b : Nat} {v x : Value} (h : Facts w D x w3) (ht : Turn (RF b v) (RF b v) w3 wg) (hwf : ∀ k, RF b v k → w.heap.size + 1 ≤ k ∧ k < D) : Facts w D x wg := by
  obtain ⟨h1, h2, h3, h4, h5⟩ := h
  exact turn_facts (Below.refl _ w3) ht h1 h2 h3 h4 h5 hwf
/-- The record's own block, with nothing in it yet. -/
def XR (w3 : World) (X : Nat) (W : World) : Prop := w3.heap.size ≤ X ∧ W.heap[X]? = some (.cells #[.int .u8 0, .int .i64 0, .int .i64 0, .int .i64 0, .int .i64 0, .int .i64 0] 23 (0, 0))
theorem XR.below {w3 W W' : World} {X : Nat} (h : XR w3 X W) (hb : Below W.heap.size W W') : XR w3 X W' := ⟨h.1, (hb.block X (lt_of_heap h.2)).trans h.2⟩
theorem XR.turn {w3 W W' : World} {X b : Nat} {v : Value} (h : XR w3 X W) (ht : Turn (RF b v) (RF b v) W W') (hr : ∀ j, RF b v j → j < w3.heap.size) : XR w3 X W' :=
  ⟨h.1, (ht.block X (lt_of_heap h.2) (fun y => by have := hr X y; have := h.1; omega)).trans h.2⟩
theorem XR.new {w3 W : World} {F F' : Nat → Prop} (h : Turn F F' w3 W) : XR w3 W.heap.size (W.alloc (.cells #[.int .u8 0, .int .i64 0, .int .i64 0, .int .i64 0, .int .i64 0, .int .i64 0] 23)) := ⟨h.size, heap_alloc_new W _⟩
theorem XR.cells {w3 W : World} {X : Nat} (h : XR w3 X W) : (W.cell? ⟨X, 0, none⟩ = some (.int .u8 0) ∧ W.cell? ⟨X, 1, none⟩ = some (.int .i64 0) ∧ W.cell? ⟨X, 2, none⟩ = some (.int .i64 0) ∧ W.cell? ⟨X, 3, none⟩ = some (.int .i64 0) ∧ W.cell? ⟨X, 4, none⟩ = some (.int .i64 0) ∧ W.cell? ⟨X, 5, none⟩ = some (.int .i64 0)) ∧
    (W.frozen? ⟨X, 0, none⟩ = false ∧ W.frozen? ⟨X, 1, none⟩ = false ∧ W.frozen? ⟨X, 2, none⟩ = false ∧ W.frozen? ⟨X, 3, none⟩ = false ∧ W.frozen? ⟨X, 4, none⟩ = false ∧ W.frozen? ⟨X, 5, none⟩ = false) := by
  have k := fun j => cell_of_row W X j _ _ _ h.2
  have f := fun j => frozen_of_row W X j _ _ h.2
  exact ⟨⟨k 0, k 1, k 2, k 3, k 4, k 5⟩, f 0, f 1, f 2, f 3, f 4, f 5⟩
theorem rd_below {C b : Nat} {v : Value} {zs : List Nat} {p : Nat} {e : Int} {w3 W : World} (h : Rd C w3 b v zs p e) (hb : Below w3.heap.size w3 W) : Rd C W b v zs p e := h.frame (fun j hj => hb.block j (h.lt hj).2)
theorem Facts.cell {w wg : World} {D : Nat} {x : Value} (h : Facts w D x wg) : wg.cell? ⟨D, 0, none⟩ = some x := by rw [cell_of_row _ D 0 _ _ _ h.2.1]; rfl
theorem Facts.shp {w wg : World} {D : Nat} {x : Value} (h : Facts w D x wg) : Shp wg := h.2.2.1
theorem below_two {w3 W W' : World} (h : Below w3.heap.size w3 W) (hb : Below W.heap.size W W') : Below w3.heap.size w3 W' := h.trans (hb.mono h.size)
theorem below_three {w3 W W' : World} {o : Obj} (h : Below w3.heap.size w3 W) (hb : Below (W.alloc o).heap.size (W.alloc o) W') : Below w3.heap.size w3 W' := below_two (h.alloc h.size o) hb
theorem fs_two {w3 W W' : World} {v : Value} {fs : List Nat} (h : Below w3.heap.size w3 W) (hf : Fs W.heap.size W' v fs) : Fs w3.heap.size W' v fs := hf.mono h.size
theorem fs_three {w3 W W' : World} {o : Obj} {v : Value} {fs : List Nat} (h : Below w3.heap.size w3 W) (hf : Fs (W.alloc o).heap.size W' v fs) : Fs w3.heap.size W' v fs := hf.mono (h.alloc h.size o).size
theorem rd_three {C b : Nat} {v : Value} {zs : List Nat} {p : Nat} {e : Int} {w3 W : World} {o : Obj} (h : Rd C w3 b v zs p e) (hb : Below (w3.alloc o).heap.size (w3.alloc o) W) : Rd C W b v zs p e := rd_below (rd_below h (below_new _ o)) hb
theorem turn_four {F : Nat → Prop} {w3 W W' : World} {o : Obj} (h : Turn F F w3 W) (ht : Turn F F (W.alloc o) W') : Turn F F w3 W' := (h.more o).trans ht
theorem XR.newt {w3 W W' : World} {b : Nat} {v : Value} (h : Turn (RF b v) (RF b v) w3 W) (ht : Turn (RF b v) (RF b v) (W.alloc (.cells #[.int .u8 0, .int .i64 0, .int .i64 0, .int .i64 0, .int .i64 0, .int .i64 0] 23)) W') (hr : ∀ j, RF b v j → j < w3.heap.size) : XR w3 W.heap.size W' := (XR.new h).turn ht hr
theorem xr_ne {w3 W : World} {X D : Nat} (h : XR w3 X W) (hD : D + 1 ≤ w3.heap.size) : D ≠ X := by have := h.1; omega
theorem set6_other (w : World) {R D : Nat} (h : D ≠ R) {j : Nat} {u0 u1 u2 u3 u4 u5 : Value} : ((((((w.setCell ⟨R, 0, none⟩ u0).setCell ⟨R, 1, none⟩ u1).setCell ⟨R, 2, none⟩ u2).setCell ⟨R, 3, none⟩ u3).setCell ⟨R, 4, none⟩ u4).setCell ⟨R, 5, none⟩ u5).cell? ⟨D, j, none⟩ = w.cell? ⟨D, j, none⟩ :=
  World.cell?_of_block (w := w) (a := ⟨D, j, none⟩) (by rw [Below.heap_setCell _ _ _ _ h, Below.heap_setCell _ _ _ _ h, Below.heap_setCell _ _ _ _ h, Below.heap_setCell _ _ _ _ h, Below.heap_setCell _ _ _ _ h, Below.heap_setCell _ _ _ _ h])
theorem XR.first {w3 W' : World} (hb : Below ((w3.alloc (.cells #[.int .u8 0, .int .i64 0, .int .i64 0, .int .i64 0, .int .i64 0, .int .i64 0] 23)).drew).heap.size ((w3.alloc (.cells #[.int .u8 0, .int .i64 0, .int .i64 0, .int .i64 0, .int .i64 0, .int .i64 0] 23)).drew) W') : XR w3 w3.heap.size W' :=
  XR.below (W := (w3.alloc (.cells #[.int .u8 0, .int .i64 0, .int .i64 0, .int .i64 0, .int .i64 0, .int .i64 0] 23)).drew) ⟨Nat.le_refl _, heap_alloc_new w3 _⟩ hb
theorem below_first {w3 W' : World} {o : Obj} (hb : Below ((w3.alloc o).drew).heap.size ((w3.alloc o).drew) W') : Below w3.heap.size w3 W' := below_two (below_new w3 o).drew hb
theorem fs_first {w3 W' : World} {o : Obj} {v : Value} {fs : List Nat} (hf : Fs ((w3.alloc o).drew).heap.size W' v fs) : Fs w3.heap.size W' v fs := hf.mono (below_new w3 o).drew.size
theorem turn_first {F : Nat → Prop} {w3 W' : World} {o : Obj} (hb : Below ((w3.alloc o).drew).heap.size ((w3.alloc o).drew) W') : Turn F F w3 W' := (Turn.alloc w3 o).drew.trans (Turn.ofBelow hb _)
theorem turn_two {F : Nat → Prop} {w3 W W' : World} (h : Turn F F w3 W) (hb : Below W.heap.size W W') : Turn F F w3 W' := h.trans (Turn.ofBelow hb _)
theorem turn_three {F : Nat → Prop} {w3 W W' : World} {o : Obj} (h : Turn F F w3 W) (hb : Below (W.alloc o).heap.size (W.alloc o) W') : Turn F F w3 W' := turn_two (h.more o) hb
theorem mid_turn {C : Nat} {w w3 wf : World} {D b p1 k X : Nat} {v x : Value} {zs : List Nat} {e1 : Int} {N : Nat → Nat} {p : Nat} {e : Int} (ht : Turn (RF b v) (RF b v) w3 wf) (hrd : Rd C wf b v zs p e) (hrs : Rds zs p1 e1 (fl k) N p e) (hfa : Facts w D x w3) (hwf : ∀ k, RF b v k → w.heap.size + 1 ≤ k ∧ k < D) (hrf : ∀ j, RF b v j → j < w3.heap.size)
    (hx : w3.heap.size ≤ X) (hrow : wf.heap[X]? = some (.cells #[.int .u8 (k : Int), .int .i64 (iN N 0), .int .i64 (iN N 1), .int .i64 (iN N 2), .int .i64 (iN N 3), .int .i64 (iN N 4)] 23 (0, 0))) : TkMid C w D x b v zs p1 e1 k X wf :=
  ⟨N, p, e, hrs, hrd, hfa.turn ht hwf, hrow, fun j hj => by have := hrf j hj; omega, by have := hfa.2.2.2.2; omega⟩
theorem mid_new {C : Nat} {w w3 wo : World} {D b p1 k : Nat} {v x : Value} {zs : List Nat} {e1 : Int} {N : Nat → Nat} {p : Nat} {e : Int} (ht : Turn (RF b v) (RF b v) w3 wo) (hrd : Rd C wo b v zs p e) (hrs : Rds zs p1 e1 (fl k) N p e) (hfa : Facts w D x w3) (hwf : ∀ k, RF b v k → w.heap.size + 1 ≤ k ∧ k < D) (hrf : ∀ j, RF b v j → j < w3.heap.size) :
    TkMid C w D x b v zs p1 e1 k wo.heap.size (wo.alloc (.cells #[.int .u8 (k : Int), .int .i64 (iN N 0), .int .i64 (iN N 1), .int .i64 (iN N 2), .int .i64 (iN N 3), .int .i64 (iN N 4)] 23)) :=
  mid_turn (ht.more _) (rd_below hrd (below_new _ _)) hrs hfa hwf hrf ht.size (heap_alloc_new wo _)
theorem mid_set {C : Nat} {w w3 wo : World} {D b p1 k X : Nat} {v x : Value} {zs : List Nat} {e1 : Int} {N : Nat → Nat} {p : Nat} {e : Int} (hx : XR w3 X wo) (ht : Turn (RF b v) (RF b v) w3 wo) (hrd : Rd C wo b v zs p e) (hrs : Rds zs p1 e1 (fl k) N p e) (hfa : Facts w D x w3) (hwf : ∀ k, RF b v k → w.heap.size + 1 ≤ k ∧ k < D) (hrf : ∀ j, RF b v j → j < w3.heap.size) :
    TkMid C w D x b v zs p1 e1 k X ((((((wo.setCell ⟨X, 0, none⟩ (.int .u8 (k : Int))).setCell ⟨X, 1, none⟩ (.int .i64 (iN N 0))).setCell ⟨X, 2, none⟩ (.int .i64 (iN N 1))).setCell ⟨X, 3, none⟩ (.int .i64 (iN N 2))).setCell ⟨X, 4, none⟩ (.int .i64 (iN N 3))).setCell ⟨X, 5, none⟩ (.int .i64 (iN N 4))) :=
  mid_turn ((((((ht.putNew hx.1 _).putNew hx.1 _).putNew hx.1 _).putNew hx.1 _).putNew hx.1 _).putNew hx.1 _)
    (hrd.frame fun j hj => by
      have : j ≠ X := by have := hrf j hj; have := hx.1; omega
      rw [Below.heap_setCell _ _ _ _ this, Below.heap_setCell _ _ _ _ this, Below.heap_setCell _ _ _ _ this, Below.heap_setCell _ _ _ _ this, Below.heap_setCell _ _ _ _ this, Below.heap_setCell _ _ _ _ this]) hrs hfa hwf hrf hx.1 (set6 hx.2 _ _ _ _ _ _)
theorem row_cells {W : World} {X : Nat} {t : Nat} (h : W.heap[X]? = some (.cells #[.int .u8 0, .int .i64 0, .int .i64 0, .int .i64 0, .int .i64 0, .int .i64 0] t (0, 0))) : (W.cell? ⟨X, 0, none⟩ = some (.int .u8 0) ∧ W.cell? ⟨X, 1, none⟩ = some (.int .i64 0) ∧ W.cell? ⟨X, 2, none⟩ = some (.int .i64 0) ∧ W.cell? ⟨X, 3, none⟩ = some (.int .i64 0) ∧ W.cell? ⟨X, 4, none⟩ = some (.int .i64 0) ∧ W.cell? ⟨X, 5, none⟩ = some (.int .i64 0)) ∧
    (W.frozen? ⟨X, 0, none⟩ = false ∧ W.frozen? ⟨X, 1, none⟩ = false ∧ W.frozen? ⟨X, 2, none⟩ = false ∧ W.frozen? ⟨X, 3, none⟩ = false ∧ W.frozen? ⟨X, 4, none⟩ = false ∧ W.frozen? ⟨X, 5, none⟩ = false) := by
  have k := fun j => cell_of_row W X j _ _ _ h
  have f := fun j => frozen_of_row W X j _ _ h
  exact ⟨⟨k 0, k 1, k 2, k 3, k 4, k 5⟩, f 0, f 1, f 2, f 3, f 4, f 5⟩
def zRec : Array Value := #[.int .u8 0, .int .i64 0, .int .i64 0, .int .i64 0, .int .i64 0, .int .i64 0]
set_option maxHeartbeats 4000000 in
theorem take_any {B : Nat} {w : World} {A : Option Addr} {n cap : Nat} {zs : List Nat} (h : By B w A n cap zs) (hB : B ≤ w.heap.size) (hS : Shp w) (hn : n ≤ 1048576) :
    Calls Tryd.prog 15 #[.slice A n cap] w (TakeTold w zs) := by
  have hb1 := below_new w (.cells zRec 23)
  have hr1 := heap_alloc_new w (.cells zRec 23)
  have hs1 : (w.alloc (.cells zRec 23)).heap.size = w.heap.size + 1 := by simp
  have hln := h.len
  have HC := Lib.hid (rcnewReader_any (.slice A n cap) zs (w.alloc (.cells zRec 23)) (fun o => (h.below ((hb1.mono hB).trans ((below_new _ o).mono (by rw [hs1]; omega)))).bytesAt) (by omega) h.byte)
  have HZ := Lib.hid h.byte
  have HP := Lib.hid hS.pos
  have HSH := Lib.hid (hS.later hb1)
  have HB1 := Lib.hid hb1
  have HR1 := Lib.hid hr1
  have HS1 := Lib.hid hs1
  clear h hB hS hn hb1 hr1 hs1 hln
  unfold zRec at HC HSH HB1 HR1 HS1
  go_enter Tryd.func15, Tryd.ntmps15
  go_wp2_with fail
  refine HC.out.mono ?_
  rintro e w1 ⟨b, v, rfl, hR, hb⟩
  have hRD := hR.frame (w' := w1.alloc (.cells #[.pointer (some ⟨b, 0, none⟩)] 77)) (fun k hk => Below.heap_alloc _ _ _ (hR.lt hk).2)
  have hd2 := heap_alloc_new w1 (.cells #[.pointer (some ⟨b, 0, none⟩)] 77)
  have hb2 := hb.alloc hb.size (.cells #[.pointer (some ⟨b, 0, none⟩)] 77)
  have hr2 := (hb2.block w.heap.size (by rw [HS1.out]; omega)).trans HR1.out
  have hsh2 := HSH.out.later hb2
  have hwf : ∀ k, RF b v k → w.heap.size + 1 ≤ k ∧ k < w1.heap.size := fun k hk => by have := hR.lt hk; rw [HS1.out] at this; exact this
  have hbw : Below w.heap.size w (w1.alloc (.cells #[.pointer (some ⟨b, 0, none⟩)] 77)) := HB1.out.trans (hb2.mono HB1.out.size)
  have hsz : w.heap.size + 1 ≤ w1.heap.size := by have := hb.size; rw [HS1.out] at this; exact this
  have x0 := cell_of_row _ w1.heap.size 0 _ _ _ hd2
  have HRD := Lib.hid hRD
  have HD2 := Lib.hid hd2
  have HR2 := Lib.hid hr2
  have HSH2 := Lib.hid hsh2
  have HWF := Lib.hid hwf
  have HBW := Lib.hid hbw
  have HSZ : Hid (w.heap.size + 1 ≤ w1.heap.size ∧ (w1.alloc (.cells #[.pointer (some ⟨b, 0, none⟩)] 77)).heap.size = w1.heap.size + 1) := Lib.hid ⟨hsz, by simp⟩
  clear hR hb hRD hd2 hb2 hr2 hsh2 hwf hbw hsz HC HSH HB1 HR1
  go_wp2_with fail
  generalize (w1.alloc (.cells #[.pointer (some ⟨b, 0, none⟩)] 77)) = w2 at *
  refine (get_gr HRD.out 3 3 rfl (by decide)).mono ?_
  rintro r w3 ⟨k, p1, e1, rfl, hgr, ht3⟩
  have hk8 := hgr.lt
  have hw : IntKind.u8.wrap (k : Int) = (k : Int) := IntWalk.u8_in _ ⟨by omega, by simp at hk8; omega⟩
  have hr3 := (ht3.2.block w.heap.size (by have := HSZ.out; omega) (fun x => by have := (HWF.out _ x).1; omega)).trans HR2.out
  have hd3 := (ht3.2.block w1.heap.size (by have := HSZ.out; omega) (fun x => by have := (HWF.out _ x).2; omega)).trans HD2.out
  have hsh3 := HSH2.out.of (ht3.2.block 0 HSH2.out.pos (fun x => by have := (HWF.out _ x).1; omega))
  have hb3 : Below w.heap.size w w3 := HBW.out.trans (ht3.2.below w.heap.size (by have := HSZ.out; omega) (fun x hx => by have := (HWF.out _ hx).1; omega))
  have hs3 : w1.heap.size + 1 ≤ w3.heap.size := by have := ht3.2.size; have := HSZ.out; omega
  have x0 := cell_of_row _ w1.heap.size 0 _ _ _ hd3
  have HR3 := Lib.hid hr3
  have HD3 := Lib.hid hd3
  have HSH3 := Lib.hid hsh3
  have HB3 := Lib.hid hb3
  have HS3 := Lib.hid hs3
  have HRD3 := Lib.hid ht3.1
  have HGR := Lib.hid hgr
  have HT := Lib.hid (Turn.ofDrew (F := RF b v) w3)
  have HBc := Lib.hid ((Below.refl w3.heap.size w3).drew)
  have HRF : Hid (∀ j, RF b v j → j < w3.heap.size) := Lib.hid (fun j hj => (HRD3.out.lt hj).2)
  have HFA : Hid (Facts w w1.heap.size (.pointer (some ⟨b, 0, none⟩)) w3) := Lib.hid ⟨hr3, hd3, hsh3, hb3, hs3⟩
  clear hgr ht3 hr3 hd3 hsh3 hb3 hs3 hk8 HRD HD2 HR2 HSH2 HBW HR3 HD3 HSH3 HB3
  go_upto_region 3 with fail
  go_cut [6] (fun xv wc => ∃ X : Nat, xv = .pointer (some ⟨X, 0, none⟩) ∧ Hid (TkMid (w.alloc (.cells #[.int .u8 0, .int .i64 0, .int .i64 0, .int .i64 0, .int .i64 0, .int .i64 0] 23)).heap.size w w1.heap.size (.pointer (some ⟨b, 0, none⟩)) b v zs p1 e1 k X wc))
  case first =>
    go_region_held3 (fun w' => w'.cell? ⟨w1.heap.size, 0, none⟩ = some (.pointer (some ⟨b, 0, none⟩))) (first | (with_reducible assumption) | (have hne := xr_ne (Hid.out HX) HS3.out; rw [set6_other _ hne]; assumption) | go_keep)
      ((first
        | (go_at_call 43;
            have G1 := gather_any (fl k) b v zs p1 e1 wa lv (rd_below HRD3.out HBd.out) (HFA.out.turn HTd.out HWF.out).shp (by rw [HS1.out]; omega) HF.out HRF.out (fl_lt k) (by have := fl_len k; omega);
            have G2 := fun o => gather_any (fl k) b v zs p1 e1 (wa.alloc o) lv (rd_below HRD3.out (HBd.out.alloc HBd.out.size o)) ((HFA.out.turn HTd.out HWF.out).shp.later (below_new wa o)) (by rw [HS1.out]; omega) (HF.out.later (below_new wa o)) HRF.out (fl_lt k) (by have := fl_len k; omega);
            (first | (with_reducible refine Calls.mono G1 ?_) | (with_reducible refine Calls.mono (G2 _) ?_));
            clear G1 G2; rintro r wg ⟨N, p, e, rfl, hrs, ht, ht2⟩;
            (first | (with_reducible (have HX := Lib.hid (XR.turn HX.out ht2 HRF.out))) | (with_reducible (have HX := Lib.hid (XR.newt HTd.out ht2 HRF.out))) | skip);
            (first | (with_reducible (have HTe := Lib.hid (Turn.trans HTd.out ht2))) | (with_reducible (have HTe := Lib.hid (turn_four HTd.out ht2))));
            have HRDG := Lib.hid ht; have HRS := Lib.hid hrs;
            have x0 := (HFA.out.turn HTe.out HWF.out).cell; clear hrs ht ht2)
        | (go_at_call 42; refine (recOf_any _ _ _ _ _ _ _).mono ?_; rintro r wo ⟨rfl, hb⟩;
            (first | (with_reducible (have HX := Lib.hid (XR.below HX.out hb))) | (with_reducible (have HX := Lib.hid (XR.below (XR.new HTe.out) hb))) | skip);
            (first | (with_reducible (have HRDO := Lib.hid (rd_below HRDG.out hb))) | (with_reducible (have HRDO := Lib.hid (rd_three HRDG.out hb))));
            (first | (with_reducible (have HTf := Lib.hid (turn_two HTe.out hb))) | (with_reducible (have HTf := Lib.hid (turn_three HTe.out hb))));
            (first | (have hy := XR.cells (Hid.out HX); obtain ⟨⟨y0, y1, y2, y3, y4, y5⟩, z0, z1, z2, z3, z4, z5⟩ := hy) | skip);
            have x0 := (HFA.out.turn HTf.out HWF.out).cell; clear hb)
        | (go_at_call 30; refine (recFields_any _ _).mono ?_; rintro e wa ⟨lv, rfl, hf, hb⟩;
            (first | (with_reducible (have HX := Lib.hid (XR.first hb))) | skip);
            (first | (with_reducible (have HBd := Lib.hid (below_two HBc.out hb))) | (with_reducible (have HBd := Lib.hid (below_first hb))));
            (first | (with_reducible (have HF := Lib.hid (fs_two HBc.out hf))) | (with_reducible (have HF := Lib.hid (fs_first hf))));
            (first | (with_reducible (have HTd := Lib.hid (turn_two HT.out hb))) | (with_reducible (have HTd := Lib.hid (turn_first (F := RF b v) hb))));
            have x0 := (HFA.out.turn HTd.out HWF.out).cell; clear hf hb)))
    all_goals
      go_wp2_with fail
      go_meet
      refine ⟨_, rfl, Lib.hid ?_⟩
      first
        | (with_reducible exact mid_new HTf.out HRDO.out HRS.out HFA.out HWF.out HRF.out)
        | (with_reducible exact mid_set (Hid.out HX) HTf.out HRDO.out HRS.out HFA.out HWF.out HRF.out)
  case rest =>
    obtain ⟨X, rfl, hmid⟩ := hcut
    obtain ⟨N, p, e, hrs, hrd, hfa, hrow, hrx, hdx⟩ := hmid.out
    have x0 := hfa.cell
    have y0 := cell_of_row _ X 0 _ _ _ hrow
    have y1 := cell_of_row _ X 1 _ _ _ hrow
    have y2 := cell_of_row _ X 2 _ _ _ hrow
    have y3 := cell_of_row _ X 3 _ _ _ hrow
    have y4 := cell_of_row _ X 4 _ _ _ hrow
    have y5 := cell_of_row _ X 5 _ _ _ hrow
    have HRS := Lib.hid hrs
    have HRDC := Lib.hid hrd
    have HFC := Lib.hid hfa
    have HROW := Lib.hid hrow
    have HRX := Lib.hid hrx
    clear hrs hrd hfa hrow hrx hmid
    have HRD2 := Lib.hid (fun (M : Nat → Int) (k' : Nat) (hM : Rok k' M) (hz : zs = pack (kb 3 k' (fl k') (natN M))) => rec_read HGR.out HRS.out hM hz)
    have HRR := Lib.hid (fun hf hok => read_rec (N := N) HZ.out HGR.out HRS.out hf hok)
    go_wp2_with fail
    refine (end_fin HRDC.out).mono ?_
    rintro r wd ⟨E, rfl, hE, htd⟩
    have hfd := HFC.out.turn htd.2 HWF.out
    have hrowd := (htd.2.block X (lt_of_heap HROW.out) (fun y => by have := HRX.out X y; omega)).trans HROW.out
    clear x0 y0 y1 y2 y3 y4 y5
    have HFD := Lib.hid hfd
    have HRWD := Lib.hid hrowd
    have HE := Lib.hid hE
    clear hfd hrowd hE htd HRDC HFC HROW
    by_cases hE0 : E = 0
    · subst hE0
      have y0 := cell_of_row _ X 0 _ _ _ HRWD.out
      have y1 := cell_of_row _ X 1 _ _ _ HRWD.out
      have y2 := cell_of_row _ X 2 _ _ _ HRWD.out
      have y3 := cell_of_row _ X 3 _ _ _ HRWD.out
      have y4 := cell_of_row _ X 4 _ _ _ HRWD.out
      have y5 := cell_of_row _ X 5 _ _ _ HRWD.out
      have HR := Lib.hid (right_any k (iN N 0) (iN N 1) (iN N 2) (iN N 3) (iN N 4) wd HFD.out.shp)
      unfold RightTold at HR
      have hrk : Rok k (five (iN N 0) (iN N 1) (iN N 2) (iN N 3) (iN N 4)) ↔ Rok k (iN N) := ⟨rok_congr (fun f hf => five_iN N f hf), rok_congr (fun f hf => (five_iN N f hf).symm)⟩
      by_cases hok : Rok k (iN N)
      · rw [decide_eq_true (hrk.2 hok)] at HR
        have HOK := Lib.hid (hrk.2 hok)
        have HZS : Hid (zs = pack (kb 3 k (fl k) (natN (five (iN N 0) (iN N 1) (iN N 2) (iN N 3) (iN N 4))))) := Lib.hid (by
          rw [HRR.out (HE.out.1 rfl) hok]
          congr 1
          exact kb_congr _ _ _ _ _ (fun f hf => by unfold natN; rw [five_iN N f (fl_lt k f hf)]))
        clear hok hrk
        generalize hn0 : iN N 0 = n0 at *
        generalize hn1 : iN N 1 = n1 at *
        generalize hn2 : iN N 2 = n2 at *
        generalize hn3 : iN N 3 = n3 at *
        generalize hn4 : iN N 4 = n4 at *
        clear hn0 hn1 hn2 hn3 hn4
        go_wp2_with fail
        refine HR.out.mono ?_
        rintro r we ⟨rfl, hb⟩
        have HFE := Lib.hid (below_facts hb HFD.out)
        have hrwe := (hb.block X (lt_of_heap HRWD.out)).trans HRWD.out
        clear y0 y1 y2 y3 y4 y5 hb
        have y0 := cell_of_row _ X 0 _ _ _ hrwe
        have y1 := cell_of_row _ X 1 _ _ _ hrwe
        have y2 := cell_of_row _ X 2 _ _ _ hrwe
        have y3 := cell_of_row _ X 3 _ _ _ hrwe
        have y4 := cell_of_row _ X 4 _ _ _ hrwe
        have y5 := cell_of_row _ X 5 _ _ _ hrwe
        clear hrwe
        obtain ⟨⟨r0, r1, r2, r3, r4, r5⟩, f0, f1, f2, f3, f4, f5⟩ := row_cells HFE.out.1
        have HST := Lib.hid (set6 HFE.out.1)
        have HBE := Lib.hid (below6 HFE.out.2.2.2.1 (Nat.le_refl w.heap.size))
        go_wp2
        refine bodyPost_ret (ret_rec _ rfl (HST.out _ _ _ _ _ _)) rfl ?_
        exact ⟨HBE.out _ _ _ _ _ _, .inl ⟨k, n0, n1, n2, n3, n4, HOK.out, HZS.out, rfl⟩⟩
      · rw [decide_eq_false (fun x => hok (hrk.1 x))] at HR
        have HNO : Hid (∀ (k' : Nat) (M : Nat → Int), Rok k' M → zs ≠ pack (kb 3 k' (fl k') (natN M))) := Lib.hid (fun k' M hM hz => by
          obtain ⟨_, hkk, h3⟩ := HRD2.out M k' hM hz
          subst hkk
          exact hok (rok_congr (fun f hf => (h3 f hf).symm) hM))
        clear hok hrk
        go_wp2_with fail
        refine HR.out.mono ?_
        rintro r we ⟨rfl, hb⟩
        have HFE := Lib.hid (below_facts hb HFD.out)
        clear y0 y1 y2 y3 y4 y5 hb
        obtain ⟨⟨r0, r1, r2, r3, r4, r5⟩, f0, f1, f2, f3, f4, f5⟩ := row_cells HFE.out.1
        have HST := Lib.hid (set6 HFE.out.1)
        have HBE := Lib.hid (below6 HFE.out.2.2.2.1 (Nat.le_refl w.heap.size))
        go_wp2
        refine bodyPost_ret (ret_rec _ rfl (HST.out _ _ _ _ _ _)) rfl ?_
        exact ⟨HBE.out _ _ _ _ _ _, .inr ⟨HNO.out, rfl⟩⟩
    · have e1 : (E != 0) = true := by simpa using hE0
      have HNO : Hid (∀ (k' : Nat) (M : Nat → Int), Rok k' M → zs ≠ pack (kb 3 k' (fl k') (natN M))) := Lib.hid (fun k' M hM hz => by
        obtain ⟨h1, _⟩ := HRD2.out M k' hM hz
        exact hE0 (HE.out.2 h1))
      clear hE0
      obtain ⟨⟨r0, r1, r2, r3, r4, r5⟩, f0, f1, f2, f3, f4, f5⟩ := row_cells HFD.out.1
      have HST := Lib.hid (set6 HFD.out.1)
      have HBE := Lib.hid (below6 HFD.out.2.2.2.1 (Nat.le_refl w.heap.size))
      go_wp2
      refine bodyPost_ret (ret_rec _ rfl (HST.out _ _ _ _ _ _)) rfl ?_
      exact ⟨HBE.out _ _ _ _ _ _, .inr ⟨HNO.out, rfl⟩⟩
end Rc
end Go.Proofs.YtejldeecblppjaaDoor
