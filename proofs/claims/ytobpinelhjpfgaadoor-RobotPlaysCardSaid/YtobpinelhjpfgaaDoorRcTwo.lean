/-
  Layer 17: Take and TakeAct.
  Layer 17: TakeAct.
  Layer 17: the document's examples; what was laid as bytes.
  Layer 17: a record in a law's box; records' bytes are apart.
-/
import Derived.Test.YtobpinelhjpfgaaDoorRcOne
import Derived.Test.YtobpinelhjpfgaaDoorCkOne
import Derived.Laws.ResultCell
set_option linter.unusedVariables false
set_option maxRecDepth 100000
section
namespace Go.Proofs.YtobpinelhjpfgaaDoor
namespace Rc
open Go.RowKit Bp Ck
theorem kb_congr (j k : Nat) (fs : List Nat) (N M : Nat → Nat) (h : ∀ f, f ∈ fs → N f = M f) : kb j k fs N = kb j k fs M := by unfold kb; rw [fbits_congr fs N M h]
theorem gr_has {zs : List Nat} {m k p1 : Nat} {e1 : Int} (hg : Gr zs m 0 0 k p1 e1) (he : e1 = 0) : p1 = m ∧ k < 2 ^ m ∧ Has zs 0 (bitsOf k m) := by
  rcases hg with ⟨a, _⟩ | ⟨_, _, a, b, c⟩ | ⟨_, a, _⟩
  · exact absurd rfl a
  · exact ⟨by omega, a, b⟩
  · exact absurd he a
theorem gr_read {zs : List Nat} {m k p1 : Nat} {e1 : Int} (hg : Gr zs m 0 0 k p1 e1) (hl : m ≤ 8 * zs.length) : e1 = 0 := by
  rcases hg with ⟨a, _⟩ | ⟨_, a, _⟩ | ⟨_, _, _, _, a⟩
  · exact absurd rfl a
  · exact a
  · omega
theorem natN_iN (N : Nat → Nat) (f : Nat) : natN (iN N) f = mn f (N f) := by unfold natN iN; simp
theorem read_rec {zs : List Nat} {k p1 p : Nat} {e1 e : Int} {N : Nat → Nat} (hz : ∀ z ∈ zs, z ≤ 255) (hg : Gr zs 3 0 0 k p1 e1) (hr : Rds zs p1 e1 (fl k) N p e) (hf : Fin zs p e) (hok : Rok k (iN N)) : zs = pack (kb 3 k (fl k) (natN (iN N))) := by
  have hp1 : p1 ≤ 8 * zs.length := by
    rcases hg with ⟨a, _⟩ | ⟨_, _, _, b, c⟩ | ⟨_, _, _, c, _⟩
    · exact absurd rfl a
    · have := b.1; rw [bitsOf_length] at this; omega
    · omega
  have he1 := (hr.has (fl_nodup k) hp1 hf.1).1
  obtain ⟨rfl, _, hk⟩ := gr_has hg he1
  rw [he1] at hr
  obtain ⟨h1, _⟩ := read_pack hz hk (fl_nodup k) hr hf
  rw [h1]
  congr 1
  refine kb_congr _ _ _ _ _ fun f hf => ?_
  rw [natN_iN]
  have h5 := fl_lt k f hf
  have h2 := (hok.2 f h5).1.2
  exact (mn_back f (N f) h5 (by unfold iN at h2; omega)).symm
theorem rec_read {zs : List Nat} {k k' p1 p : Nat} {e1 e : Int} {N : Nat → Nat} {M : Nat → Int} (hg : Gr zs 3 0 0 k p1 e1) (hr : Rds zs p1 e1 (fl k) N p e) (hM : Rok k' M) (hz : zs = pack (kb 3 k' (fl k') (natN M))) :
    Fin zs p e ∧ k = k' ∧ ∀ f, f < 5 → iN N f = M f := by
  subst hz
  have hh := (pack_fin (kb 3 k' (fl k') (natN M))).1
  have hl := (has_left hh).1
  rw [bitsOf_length, Nat.zero_add] at hl
  have he1 := gr_read hg hl
  obtain ⟨rfl, hk8, hk⟩ := gr_has hg he1
  obtain rfl := pack_read (fs := fl k') (M := natN M) hk8 (show k' < 2 ^ 3 by have := hM.kind; omega) hk
  rw [he1] at hr
  have hrg : ∀ f, f ∈ fl k → rg f (natN M f) := fun f hf => rg_le f _ (fl_lt k f hf) (by have := (hM.field f hf).2.2; unfold natN; omega)
  obtain ⟨h1, h2⟩ := pack_reads (fl_nodup k) hrg hr
  refine ⟨h1, rfl, fun f hf => ?_⟩
  by_cases hm : f ∈ fl k
  · have := hM.field f hm
    unfold iN
    rw [h2 f hm, mn_le f _ hf (by unfold natN; omega)]
    unfold natN; omega
  · have h3 := hr.out f hm
    have h4 := (hM.2 f hf).2
    unfold iN
    rw [h3, mn_le f 0 hf (Nat.zero_le _)]
    rcases h4 with h4 | h4
    · omega
    · exact absurd h4 hm
/-- What Take gives: the record whose bytes those are, or that there is none. -/
def TakeTold (w : World) (zs : List Nat) (e : Ending) (w' : World) : Prop := Below w.heap.size w w' ∧
  ((∃ k : Nat, ∃ i r p c q : Int, Rok k (five i r p c q) ∧ zs = pack (kb 3 k (fl k) (natN (five i r p c q))) ∧ e = .returned (.tuple #[.agg #[.int .u8 (k : Int), .int .i64 i, .int .i64 r, .int .i64 p, .int .i64 c, .int .i64 q], .int .i64 0])) ∨
   ((∀ (k : Nat) (M : Nat → Int), Rok k M → zs ≠ pack (kb 3 k (fl k) (natN M))) ∧ e = .returned (.tuple #[.agg #[.int .u8 0, .int .i64 0, .int .i64 0, .int .i64 0, .int .i64 0, .int .i64 0], .int .i64 170])))
theorem five_iN (N : Nat → Nat) (f : Nat) (hf : f < 5) : five (iN N 0) (iN N 1) (iN N 2) (iN N 3) (iN N 4) f = iN N f := by
  have hcs : f = 0 ∨ f = 1 ∨ f = 2 ∨ f = 3 ∨ f = 4 := by omega
  rcases hcs with rfl | rfl | rfl | rfl | rfl <;> rfl
theorem rok_congr {k : Nat} {M N : Nat → Int} (h : ∀ f, f < 5 → M f = N f) (hM : Rok k M) : Rok k N := ⟨hM.1, fun f hf => by rw [← h f hf]; exact hM.2 f hf⟩
theorem set6 {w : World} {R : Nat} {a0 a1 a2 a3 a4 a5 : Value} {t : Nat} (h : w.heap[R]? = some (.cells #[a0, a1, a2, a3, a4, a5] t (0, 0))) (u0 u1 u2 u3 u4 u5 : Value) :
    ((((((w.setCell ⟨R, 0, none⟩ u0).setCell ⟨R, 1, none⟩ u1).setCell ⟨R, 2, none⟩ u2).setCell ⟨R, 3, none⟩ u3).setCell ⟨R, 4, none⟩ u4).setCell ⟨R, 5, none⟩ u5).heap[R]? = some (.cells #[u0, u1, u2, u3, u4, u5] t (0, 0)) := by
  have h0 := heap_setCell_same w R 0 _ _ u0 h
  have h1 := heap_setCell_same _ R 1 _ _ u1 h0
  have h2 := heap_setCell_same _ R 2 _ _ u2 h1
  have h3 := heap_setCell_same _ R 3 _ _ u3 h2
  have h4 := heap_setCell_same _ R 4 _ _ u4 h3
  have h5 := heap_setCell_same _ R 5 _ _ u5 h4
  rw [h5]; simp
theorem below6 {B : Nat} {a w : World} (h : Below B a w) {R : Nat} (hR : B ≤ R) (u0 u1 u2 u3 u4 u5 : Value) : Below B a ((((((w.setCell ⟨R, 0, none⟩ u0).setCell ⟨R, 1, none⟩ u1).setCell ⟨R, 2, none⟩ u2).setCell ⟨R, 3, none⟩ u3).setCell ⟨R, 4, none⟩ u4).setCell ⟨R, 5, none⟩ u5) :=
  (below5 h hR u0 u1 u2 u3 u4).setCell (p := ⟨R, 5, none⟩) hR _
theorem rd_below {C b : Nat} {v : Value} {zs : List Nat} {p : Nat} {e : Int} {w3 W : World} (h : Rd C w3 b v zs p e) (hb : Below w3.heap.size w3 W) : Rd C W b v zs p e := h.frame (fun j hj => hb.block j (h.lt hj).2)
theorem below_two {w3 W W' : World} (h : Below w3.heap.size w3 W) (hb : Below W.heap.size W W') : Below w3.heap.size w3 W' := h.trans (hb.mono h.size)
theorem below_three {w3 W W' : World} {o : Obj} (h : Below w3.heap.size w3 W) (hb : Below (W.alloc o).heap.size (W.alloc o) W') : Below w3.heap.size w3 W' := below_two (h.alloc h.size o) hb
theorem fs_two {w3 W W' : World} {v : Value} {fs : List Nat} (h : Below w3.heap.size w3 W) (hf : Fs W.heap.size W' v fs) : Fs w3.heap.size W' v fs := hf.mono h.size
theorem fs_three {w3 W W' : World} {o : Obj} {v : Value} {fs : List Nat} (h : Below w3.heap.size w3 W) (hf : Fs (W.alloc o).heap.size W' v fs) : Fs w3.heap.size W' v fs := hf.mono (h.alloc h.size o).size
theorem rd_three {C b : Nat} {v : Value} {zs : List Nat} {p : Nat} {e : Int} {w3 W : World} {o : Obj} (h : Rd C w3 b v zs p e) (hb : Below (w3.alloc o).heap.size (w3.alloc o) W) : Rd C W b v zs p e := rd_below (rd_below h (below_new _ o)) hb
theorem turn_four {F : Nat → Prop} {w3 W W' : World} {o : Obj} (h : Turn F F w3 W) (ht : Turn F F (W.alloc o) W') : Turn F F w3 W' := (h.more o).trans ht
theorem set6_other (w : World) {R D : Nat} (h : D ≠ R) {j : Nat} {u0 u1 u2 u3 u4 u5 : Value} : ((((((w.setCell ⟨R, 0, none⟩ u0).setCell ⟨R, 1, none⟩ u1).setCell ⟨R, 2, none⟩ u2).setCell ⟨R, 3, none⟩ u3).setCell ⟨R, 4, none⟩ u4).setCell ⟨R, 5, none⟩ u5).cell? ⟨D, j, none⟩ = w.cell? ⟨D, j, none⟩ :=
  World.cell?_of_block (w := w) (a := ⟨D, j, none⟩) (by rw [Below.heap_setCell _ _ _ _ h, Below.heap_setCell _ _ _ _ h, Below.heap_setCell _ _ _ _ h, Below.heap_setCell _ _ _ _ h, Below.heap_setCell _ _ _ _ h, Below.heap_setCell _ _ _ _ h])
theorem below_first {w3 W' : World} {o : Obj} (hb : Below ((w3.alloc o).drew).heap.size ((w3.alloc o).drew) W') : Below w3.heap.size w3 W' := below_two (below_new w3 o).drew hb
theorem fs_first {w3 W' : World} {o : Obj} {v : Value} {fs : List Nat} (hf : Fs ((w3.alloc o).drew).heap.size W' v fs) : Fs w3.heap.size W' v fs := hf.mono (below_new w3 o).drew.size
theorem turn_first {F : Nat → Prop} {w3 W' : World} {o : Obj} (hb : Below ((w3.alloc o).drew).heap.size ((w3.alloc o).drew) W') : Turn F F w3 W' := (Turn.alloc w3 o).drew.trans (Turn.ofBelow hb _)
theorem turn_two {F : Nat → Prop} {w3 W W' : World} (h : Turn F F w3 W) (hb : Below W.heap.size W W') : Turn F F w3 W' := h.trans (Turn.ofBelow hb _)
theorem turn_three {F : Nat → Prop} {w3 W W' : World} {o : Obj} (h : Turn F F w3 W) (hb : Below (W.alloc o).heap.size (W.alloc o) W') : Turn F F w3 W' := turn_two (h.more o) hb
theorem row_cells {W : World} {X : Nat} {t : Nat} (h : W.heap[X]? = some (.cells #[.int .u8 0, .int .i64 0, .int .i64 0, .int .i64 0, .int .i64 0, .int .i64 0] t (0, 0))) : (W.cell? ⟨X, 0, none⟩ = some (.int .u8 0) ∧ W.cell? ⟨X, 1, none⟩ = some (.int .i64 0) ∧ W.cell? ⟨X, 2, none⟩ = some (.int .i64 0) ∧ W.cell? ⟨X, 3, none⟩ = some (.int .i64 0) ∧ W.cell? ⟨X, 4, none⟩ = some (.int .i64 0) ∧ W.cell? ⟨X, 5, none⟩ = some (.int .i64 0)) ∧
    (W.frozen? ⟨X, 0, none⟩ = false ∧ W.frozen? ⟨X, 1, none⟩ = false ∧ W.frozen? ⟨X, 2, none⟩ = false ∧ W.frozen? ⟨X, 3, none⟩ = false ∧ W.frozen? ⟨X, 4, none⟩ = false ∧ W.frozen? ⟨X, 5, none⟩ = false) := by
  have k := fun j => cell_of_row W X j _ _ _ h
  have f := fun j => frozen_of_row W X j _ _ h
  exact ⟨⟨k 0, k 1, k 2, k 3, k 4, k 5⟩, f 0, f 1, f 2, f 3, f 4, f 5⟩
def zRec : Array Value := #[.int .u8 0, .int .i64 0, .int .i64 0, .int .i64 0, .int .i64 0, .int .i64 0]
end Rc
end Go.Proofs.YtobpinelhjpfgaaDoor
end

section
namespace Go.Proofs.YtobpinelhjpfgaaDoor
namespace Rc
open Go.RowKit Bp Ck
def actN (c p : Int) : Nat → Int := five 0 0 p c 0
theorem act_mem {f : Nat} (hf : f ∈ [3, 2]) : f = 3 ∨ f = 2 := by simpa using hf
theorem read_act {zs : List Nat} {k p1 p : Nat} {e1 e : Int} {N : Nat → Nat} (hz : ∀ z ∈ zs, z ≤ 255) (hg : Gr zs 2 0 0 k p1 e1) (hr : Rds zs p1 e1 [3, 2] N p e) (hf : Fin zs p e) (hok : Aok k (iN N 3) (iN N 2)) : zs = pack (kb 2 k [3, 2] (natN (five 0 0 (iN N 2) (iN N 3) 0))) := by
  have hp1 : p1 ≤ 8 * zs.length := by
    rcases hg with ⟨a, _⟩ | ⟨_, _, _, b, c⟩ | ⟨_, _, _, c, _⟩
    · exact absurd rfl a
    · have := b.1; rw [bitsOf_length] at this; omega
    · omega
  have he1 := (hr.has (by decide) hp1 hf.1).1
  obtain ⟨rfl, _, hk⟩ := gr_has hg he1
  rw [he1] at hr
  obtain ⟨h1, _⟩ := read_pack hz hk (by decide) hr hf
  exact h1.trans rfl
theorem act_read {zs : List Nat} {k k' p1 p : Nat} {e1 e : Int} {N : Nat → Nat} {c q : Int} (hg : Gr zs 2 0 0 k p1 e1) (hr : Rds zs p1 e1 [3, 2] N p e) (hM : Aok k' c q) (hz : zs = pack (kb 2 k' [3, 2] (natN (five 0 0 q c 0)))) :
    Fin zs p e ∧ k = k' ∧ iN N 3 = c ∧ iN N 2 = q := by
  subst hz
  have hh := (pack_fin (kb 2 k' [3, 2] (natN (five 0 0 q c 0)))).1
  have hl := (has_left hh).1
  rw [bitsOf_length, Nat.zero_add] at hl
  have he1 := gr_read hg hl
  obtain ⟨rfl, hk8, hk⟩ := gr_has hg he1
  obtain rfl := pack_read (fs := [3, 2]) (M := natN (five 0 0 q c 0)) hk8 (show k' < 2 ^ 2 by have := hM.1; omega) hk
  rw [he1] at hr
  have hrg : ∀ f, f ∈ [3, 2] → rg f (natN (five 0 0 q c 0) f) := fun f hf => rg_le f _ (hM.field f hf).1 (by have := (hM.field f hf).2.2; unfold natN; omega)
  obtain ⟨h1, h2⟩ := pack_reads (by decide) hrg hr
  have h3 := h2 3 (by decide)
  have h4 := h2 2 (by decide)
  have e3 : natN (five 0 0 q c 0) 3 = c.toNat := rfl
  have e4 : natN (five 0 0 q c 0) 2 = q.toNat := rfl
  refine ⟨h1, rfl, ?_, ?_⟩
  · unfold iN mn
    rw [h3, e3]
    have := hM.2.1
    simp; omega
  · unfold iN mn
    rw [h4, e4]
    have := hM.2.2.1
    simp; omega
/-- What TakeAct gives: the act whose bytes those are, or that there is none. -/
def TakeATold (w : World) (zs : List Nat) (e : Ending) (w' : World) : Prop := Below w.heap.size w w' ∧
  ((∃ k : Nat, ∃ c p : Int, Aok k c p ∧ zs = pack (kb 2 k [3, 2] (natN (five 0 0 p c 0))) ∧ e = .returned (.tuple #[.agg #[.int .u8 (k : Int), .int .i64 c, .int .i64 p], .int .i64 0])) ∨
   ((∀ (k : Nat) (c p : Int), Aok k c p → zs ≠ pack (kb 2 k [3, 2] (natN (five 0 0 p c 0)))) ∧ e = .returned (.tuple #[.agg #[.int .u8 0, .int .i64 0, .int .i64 0], .int .i64 170])))
theorem Tryd.resTa : Tryd.f62.results = #[.cell 2 33, .tmp 3] := by kernel_rfl
theorem Tryd.cellsA : (Tryd.prog.info? 33).map (·.size) = some 3 := by kernel_rfl
theorem ret_act {w : World} {R : Nat} {x0 x1 x2 : Value} {t : Nat} (tmps : Array Value) (ht : tmps.getD 2 undef = .pointer (some ⟨R, 0, none⟩)) (h : w.heap[R]? = some (.cells #[x0, x1, x2] t (0, 0))) :
    (results Tryd.f62 tmps).run Tryd.prog w = .ok (.tuple #[.agg #[x0, x1, x2], tmps.getD 3 undef]) w := by
  rw [results_cell_tmp Tryd.resTa, ht]
  simp [asAddr, Result.andThen, run_loadVar_row w R t 33 _ _ _ h Tryd.underlying33 rfl Tryd.cellsA]
theorem set3a {w : World} {R : Nat} {a0 a1 a2 : Value} {t : Nat} (h : w.heap[R]? = some (.cells #[a0, a1, a2] t (0, 0))) (u0 u1 u2 : Value) :
    (((w.setCell ⟨R, 0, none⟩ u0).setCell ⟨R, 1, none⟩ u1).setCell ⟨R, 2, none⟩ u2).heap[R]? = some (.cells #[u0, u1, u2] t (0, 0)) := by
  have h0 := heap_setCell_same w R 0 _ _ u0 h
  have h1 := heap_setCell_same _ R 1 _ _ u1 h0
  have h2 := heap_setCell_same _ R 2 _ _ u2 h1
  rw [h2]; simp
theorem below3a {B : Nat} {a w : World} (h : Below B a w) {R : Nat} (hR : B ≤ R) (u0 u1 u2 : Value) : Below B a (((w.setCell ⟨R, 0, none⟩ u0).setCell ⟨R, 1, none⟩ u1).setCell ⟨R, 2, none⟩ u2) :=
  ((h.setCell (p := ⟨R, 0, none⟩) hR _).setCell (p := ⟨R, 1, none⟩) hR _).setCell (p := ⟨R, 2, none⟩) hR _
/-- What stays while a reader takes: the result's row, the reader's box, the table. -/
def FactsA (w : World) (D : Nat) (x : Value) (wg : World) : Prop := wg.heap[w.heap.size]? = some (.cells #[.int .u8 0, .int .i64 0, .int .i64 0] 33 (0, 0)) ∧ wg.heap[D]? = some (.cells #[x] 138 (0, 0)) ∧ Shp wg ∧ Below w.heap.size w wg ∧ D + 1 ≤ wg.heap.size
theorem FactsA.turn {w w3 wg : World} {D b : Nat} {v x : Value} (h : FactsA w D x w3) (ht : Turn (RF b v) (RF b v) w3 wg) (hwf : ∀ k, RF b v k → w.heap.size + 1 ≤ k ∧ k < D) : FactsA w D x wg := by
  obtain ⟨hr, hd, hs, hb3, hsz⟩ := h
  have h1 := lt_of_heap hr
  refine ⟨?_, ?_, ?_, ?_, ?_⟩
  · rw [ht.block w.heap.size (by omega) (fun y => by have := (hwf _ y).1; omega)]; exact hr
  · rw [ht.block D (by omega) (fun y => by have := (hwf _ y).2; omega)]; exact hd
  · exact hs.of (ht.block 0 hs.pos (fun y => by have := (hwf _ y).1; omega))
  · exact hb3.trans (ht.below w.heap.size (by omega) (fun y hy => by have := (hwf _ hy).1; omega))
  · have := ht.size; omega
theorem below_factsA {w wg wo : World} {D : Nat} {x : Value} (hb : Below wg.heap.size wg wo) (h : FactsA w D x wg) : FactsA w D x wo := by
  obtain ⟨h1, h2, h3, h4, h5⟩ := h
  have := hb.size
  exact ⟨(hb.block _ (lt_of_heap h1)).trans h1, (hb.block _ (lt_of_heap h2)).trans h2, h3.later hb, h4.trans (hb.mono h4.size), by omega⟩
theorem FactsA.cell {w wg : World} {D : Nat} {x : Value} (h : FactsA w D x wg) : wg.cell? ⟨D, 0, none⟩ = some x := by rw [cell_of_row _ D 0 _ _ _ h.2.1]; rfl
theorem FactsA.shp {w wg : World} {D : Nat} {x : Value} (h : FactsA w D x wg) : Shp wg := h.2.2.1
/-- The numbers' own block, with nothing in it yet. -/
def XN (w3 : World) (X : Nat) (W : World) : Prop := w3.heap.size ≤ X ∧ W.heap[X]? = some (.cells #[.int .i64 0, .int .i64 0, .int .i64 0, .int .i64 0, .int .i64 0] 123 (0, 0))
theorem XN.below {w3 W W' : World} {X : Nat} (h : XN w3 X W) (hb : Below W.heap.size W W') : XN w3 X W' := ⟨h.1, (hb.block X (lt_of_heap h.2)).trans h.2⟩
theorem XN.turn {w3 W W' : World} {X b : Nat} {v : Value} (h : XN w3 X W) (ht : Turn (RF b v) (RF b v) W W') (hr : ∀ j, RF b v j → j < w3.heap.size) : XN w3 X W' :=
  ⟨h.1, (ht.block X (lt_of_heap h.2) (fun y => by have := hr X y; have := h.1; omega)).trans h.2⟩
theorem XN.newt {w3 W W' : World} {b : Nat} {v : Value} (h : Turn (RF b v) (RF b v) w3 W) (ht : Turn (RF b v) (RF b v) (W.alloc (.cells #[.int .i64 0, .int .i64 0, .int .i64 0, .int .i64 0, .int .i64 0] 123)) W') (hr : ∀ j, RF b v j → j < w3.heap.size) : XN w3 W.heap.size W' :=
  XN.turn (W := W.alloc _) ⟨h.size, heap_alloc_new W _⟩ ht hr
theorem XN.first {w3 W' : World} (hb : Below ((w3.alloc (.cells #[.int .i64 0, .int .i64 0, .int .i64 0, .int .i64 0, .int .i64 0] 123)).drew).heap.size ((w3.alloc (.cells #[.int .i64 0, .int .i64 0, .int .i64 0, .int .i64 0, .int .i64 0] 123)).drew) W') : XN w3 w3.heap.size W' :=
  XN.below (W := (w3.alloc (.cells #[.int .i64 0, .int .i64 0, .int .i64 0, .int .i64 0, .int .i64 0] 123)).drew) ⟨Nat.le_refl _, heap_alloc_new w3 _⟩ hb
theorem XN.cells {w3 W : World} {X : Nat} (h : XN w3 X W) : (W.cell? ⟨X, 0, none⟩ = some (.int .i64 0) ∧ W.cell? ⟨X, 1, none⟩ = some (.int .i64 0) ∧ W.cell? ⟨X, 2, none⟩ = some (.int .i64 0) ∧ W.cell? ⟨X, 3, none⟩ = some (.int .i64 0) ∧ W.cell? ⟨X, 4, none⟩ = some (.int .i64 0)) ∧
    (W.frozen? ⟨X, 0, none⟩ = false ∧ W.frozen? ⟨X, 1, none⟩ = false ∧ W.frozen? ⟨X, 2, none⟩ = false ∧ W.frozen? ⟨X, 3, none⟩ = false ∧ W.frozen? ⟨X, 4, none⟩ = false) := by
  have k := fun j => cell_of_row W X j _ _ _ h.2
  have f := fun j => frozen_of_row W X j _ _ h.2
  exact ⟨⟨k 0, k 1, k 2, k 3, k 4⟩, f 0, f 1, f 2, f 3, f 4⟩
theorem row_cells3 {W : World} {X : Nat} {t : Nat} (h : W.heap[X]? = some (.cells #[.int .u8 0, .int .i64 0, .int .i64 0] t (0, 0))) : (W.cell? ⟨X, 0, none⟩ = some (.int .u8 0) ∧ W.cell? ⟨X, 1, none⟩ = some (.int .i64 0) ∧ W.cell? ⟨X, 2, none⟩ = some (.int .i64 0)) ∧
    (W.frozen? ⟨X, 0, none⟩ = false ∧ W.frozen? ⟨X, 1, none⟩ = false ∧ W.frozen? ⟨X, 2, none⟩ = false) := by
  have k := fun j => cell_of_row W X j _ _ _ h
  have f := fun j => frozen_of_row W X j _ _ h
  exact ⟨⟨k 0, k 1, k 2⟩, f 0, f 1, f 2⟩
theorem xn_ne {w3 W : World} {X D : Nat} (h : XN w3 X W) (hD : D + 1 ≤ w3.heap.size) : D ≠ X := by have := h.1; omega
theorem set5_other (w : World) {R D : Nat} (h : D ≠ R) {j : Nat} {u0 u1 u2 u3 u4 : Value} : (((((w.setCell ⟨R, 0, none⟩ u0).setCell ⟨R, 1, none⟩ u1).setCell ⟨R, 2, none⟩ u2).setCell ⟨R, 3, none⟩ u3).setCell ⟨R, 4, none⟩ u4).cell? ⟨D, j, none⟩ = w.cell? ⟨D, j, none⟩ :=
  World.cell?_of_block (w := w) (a := ⟨D, j, none⟩) (by rw [Below.heap_setCell _ _ _ _ h, Below.heap_setCell _ _ _ _ h, Below.heap_setCell _ _ _ _ h, Below.heap_setCell _ _ _ _ h, Below.heap_setCell _ _ _ _ h])
/-- Behind the reading: the numbers in a block of their own. -/
def TaMid (C : Nat) (w : World) (D : Nat) (x : Value) (b : Nat) (v : Value) (zs : List Nat) (p1 : Nat) (e1 : Int) (X : Nat) (wc : World) : Prop :=
  ∃ N p e, Rds zs p1 e1 [3, 2] N p e ∧ Rd C wc b v zs p e ∧ FactsA w D x wc ∧ wc.heap[X]? = some (.cells #[.int .i64 (iN N 0), .int .i64 (iN N 1), .int .i64 (iN N 2), .int .i64 (iN N 3), .int .i64 (iN N 4)] 123 (0, 0)) ∧ (∀ j, RF b v j → j < X) ∧ D < X
theorem amid_turn {C : Nat} {w w3 wf : World} {D b p1 X : Nat} {v x : Value} {zs : List Nat} {e1 : Int} {N : Nat → Nat} {p : Nat} {e : Int} (ht : Turn (RF b v) (RF b v) w3 wf) (hrd : Rd C wf b v zs p e) (hrs : Rds zs p1 e1 [3, 2] N p e) (hfa : FactsA w D x w3) (hwf : ∀ k, RF b v k → w.heap.size + 1 ≤ k ∧ k < D) (hrf : ∀ j, RF b v j → j < w3.heap.size)
    (hx : w3.heap.size ≤ X) (hrow : wf.heap[X]? = some (.cells #[.int .i64 (iN N 0), .int .i64 (iN N 1), .int .i64 (iN N 2), .int .i64 (iN N 3), .int .i64 (iN N 4)] 123 (0, 0))) : TaMid C w D x b v zs p1 e1 X wf :=
  ⟨N, p, e, hrs, hrd, hfa.turn ht hwf, hrow, fun j hj => by have := hrf j hj; omega, by have := hfa.2.2.2.2; omega⟩
theorem amid_new {C : Nat} {w w3 wo : World} {D b p1 : Nat} {v x : Value} {zs : List Nat} {e1 : Int} {N : Nat → Nat} {p : Nat} {e : Int} (ht : Turn (RF b v) (RF b v) w3 wo) (hrd : Rd C wo b v zs p e) (hrs : Rds zs p1 e1 [3, 2] N p e) (hfa : FactsA w D x w3) (hwf : ∀ k, RF b v k → w.heap.size + 1 ≤ k ∧ k < D) (hrf : ∀ j, RF b v j → j < w3.heap.size) :
    TaMid C w D x b v zs p1 e1 wo.heap.size (wo.alloc (.cells #[.int .i64 (iN N 0), .int .i64 (iN N 1), .int .i64 (iN N 2), .int .i64 (iN N 3), .int .i64 (iN N 4)] 123)) :=
  amid_turn (ht.more _) (rd_below hrd (below_new _ _)) hrs hfa hwf hrf ht.size (heap_alloc_new wo _)
theorem amid_set {C : Nat} {w w3 wo : World} {D b p1 X : Nat} {v x : Value} {zs : List Nat} {e1 : Int} {N : Nat → Nat} {p : Nat} {e : Int} (hx : XN w3 X wo) (ht : Turn (RF b v) (RF b v) w3 wo) (hrd : Rd C wo b v zs p e) (hrs : Rds zs p1 e1 [3, 2] N p e) (hfa : FactsA w D x w3) (hwf : ∀ k, RF b v k → w.heap.size + 1 ≤ k ∧ k < D) (hrf : ∀ j, RF b v j → j < w3.heap.size) :
    TaMid C w D x b v zs p1 e1 X (((((wo.setCell ⟨X, 0, none⟩ (.int .i64 (iN N 0))).setCell ⟨X, 1, none⟩ (.int .i64 (iN N 1))).setCell ⟨X, 2, none⟩ (.int .i64 (iN N 2))).setCell ⟨X, 3, none⟩ (.int .i64 (iN N 3))).setCell ⟨X, 4, none⟩ (.int .i64 (iN N 4))) :=
  amid_turn (((((ht.putNew hx.1 _).putNew hx.1 _).putNew hx.1 _).putNew hx.1 _).putNew hx.1 _)
    (hrd.frame fun j hj => by
      have : j ≠ X := by have := hrf j hj; have := hx.1; omega
      rw [Below.heap_setCell _ _ _ _ this, Below.heap_setCell _ _ _ _ this, Below.heap_setCell _ _ _ _ this, Below.heap_setCell _ _ _ _ this, Below.heap_setCell _ _ _ _ this]) hrs hfa hwf hrf hx.1 (set5 hx.2 _ _ _ _ _)
set_option maxHeartbeats 4000000 in
theorem takeAct_any {B : Nat} {w : World} {A : Option Addr} {n cap : Nat} {zs : List Nat} (h : By B w A n cap zs) (hB : B ≤ w.heap.size) (hS : Shp w) (hn : n ≤ 1048576) :
    Calls Tryd.prog 62 #[.slice A n cap] w (TakeATold w zs) := by
  have hb1 := below_new w (.cells #[.int .u8 0, .int .i64 0, .int .i64 0] 33)
  have hr1 := heap_alloc_new w (.cells #[.int .u8 0, .int .i64 0, .int .i64 0] 33)
  have hs1 : (w.alloc (.cells #[.int .u8 0, .int .i64 0, .int .i64 0] 33)).heap.size = w.heap.size + 1 := by simp
  have hln := h.len
  have HC := Lib.hid (rcnewReader_any (.slice A n cap) zs (w.alloc (.cells #[.int .u8 0, .int .i64 0, .int .i64 0] 33)) (fun o => (h.below ((hb1.mono hB).trans ((below_new _ o).mono (by rw [hs1]; omega)))).bytesAt) (by omega) h.byte)
  have HZ := Lib.hid h.byte
  have HP := Lib.hid hS.pos
  have HSH := Lib.hid (hS.later hb1)
  have HB1 := Lib.hid hb1
  have HR1 := Lib.hid hr1
  have HS1 := Lib.hid hs1
  clear h hB hS hn hb1 hr1 hs1 hln
  go_enter Tryd.func62, Tryd.ntmps62
  go_wp2_with fail
  refine HC.out.mono ?_
  rintro e w1 ⟨b, v, rfl, hR, hb⟩
  have hRD := hR.frame (w' := w1.alloc (.cells #[.pointer (some ⟨b, 0, none⟩)] 138)) (fun k hk => Below.heap_alloc _ _ _ (hR.lt hk).2)
  have hd2 := heap_alloc_new w1 (.cells #[.pointer (some ⟨b, 0, none⟩)] 138)
  have hb2 := hb.alloc hb.size (.cells #[.pointer (some ⟨b, 0, none⟩)] 138)
  have hr2 := (hb2.block w.heap.size (by rw [HS1.out]; omega)).trans HR1.out
  have hsh2 := HSH.out.later hb2
  have hwf : ∀ k, RF b v k → w.heap.size + 1 ≤ k ∧ k < w1.heap.size := fun k hk => by have := hR.lt hk; rw [HS1.out] at this; exact this
  have hbw : Below w.heap.size w (w1.alloc (.cells #[.pointer (some ⟨b, 0, none⟩)] 138)) := HB1.out.trans (hb2.mono HB1.out.size)
  have hsz : w.heap.size + 1 ≤ w1.heap.size := by have := hb.size; rw [HS1.out] at this; exact this
  have x0 := cell_of_row _ w1.heap.size 0 _ _ _ hd2
  have HRD := Lib.hid hRD
  have HFA2 : Hid (FactsA w w1.heap.size (.pointer (some ⟨b, 0, none⟩)) (w1.alloc (.cells #[.pointer (some ⟨b, 0, none⟩)] 138))) := Lib.hid ⟨hr2, hd2, hsh2, hbw, by simp⟩
  have HWF := Lib.hid hwf
  clear hR hb hRD hd2 hb2 hr2 hsh2 hwf hbw hsz HC HSH HB1 HR1
  go_wp2_with fail
  generalize (w1.alloc (.cells #[.pointer (some ⟨b, 0, none⟩)] 138)) = w2 at *
  refine (get_gr HRD.out 2 2 rfl (by decide)).mono ?_
  rintro r w3 ⟨k, p1, e1, rfl, hgr, ht3⟩
  have hk8 := hgr.lt
  have hw : IntKind.u8.wrap (k : Int) = (k : Int) := IntWalk.u8_in _ ⟨by omega, by simp at hk8; omega⟩
  have hfa := HFA2.out.turn ht3.2 HWF.out
  have x0 := hfa.cell
  have HFA := Lib.hid hfa
  have HS3 : Hid (w1.heap.size + 1 ≤ w3.heap.size) := Lib.hid hfa.2.2.2.2
  have HRD3 := Lib.hid ht3.1
  have HGR := Lib.hid hgr
  have HT := Lib.hid (Turn.ofDrew (F := RF b v) w3)
  have HBc := Lib.hid ((Below.refl w3.heap.size w3).drew)
  have HRF : Hid (∀ j, RF b v j → j < w3.heap.size) := Lib.hid (fun j hj => (HRD3.out.lt hj).2)
  clear hgr ht3 hfa hk8 HRD HFA2
  go_upto_region 3 with fail
  go_cut [6] (fun xv wc => ∃ X : Nat, xv = .pointer (some ⟨X, 0, none⟩) ∧ Hid (TaMid (w.alloc (.cells #[.int .u8 0, .int .i64 0, .int .i64 0] 33)).heap.size w w1.heap.size (.pointer (some ⟨b, 0, none⟩)) b v zs p1 e1 X wc))
  case first =>
    go_region_held3 (fun w' => w'.cell? ⟨w1.heap.size, 0, none⟩ = some (.pointer (some ⟨b, 0, none⟩))) (first | (with_reducible assumption) | (have hne := xn_ne (Hid.out HX) HS3.out; rw [set5_other _ hne]; assumption) | go_keep)
      ((first
        | (go_at_call 98;
            have G1 := gather_any [3, 2] b v zs p1 e1 wa lv (rd_below HRD3.out HBd.out) (HFA.out.turn HTd.out HWF.out).shp (by rw [HS1.out]; omega) HF.out HRF.out (by decide) (by decide);
            have G2 := fun o => gather_any [3, 2] b v zs p1 e1 (wa.alloc o) lv (rd_below HRD3.out (HBd.out.alloc HBd.out.size o)) ((HFA.out.turn HTd.out HWF.out).shp.later (below_new wa o)) (by rw [HS1.out]; omega) (HF.out.later (below_new wa o)) HRF.out (by decide) (by decide);
            (first | (with_reducible refine Calls.mono G1 ?_) | (with_reducible refine Calls.mono (G2 _) ?_));
            clear G1 G2; rintro r wg ⟨N, p, e, rfl, hrs, ht, ht2⟩;
            (first | (with_reducible (have HX := Lib.hid (XN.turn HX.out ht2 HRF.out))) | (with_reducible (have HX := Lib.hid (XN.newt HTd.out ht2 HRF.out))) | skip);
            (first | (with_reducible (have HTe := Lib.hid (Turn.trans HTd.out ht2))) | (with_reducible (have HTe := Lib.hid (turn_four HTd.out ht2))));
            have HRDG := Lib.hid ht; have HRS := Lib.hid hrs;
            (first | (have hy := XN.cells (Hid.out HX); obtain ⟨⟨y0, y1, y2, y3, y4⟩, z0, z1, z2, z3, z4⟩ := hy) | skip);
            have x0 := (HFA.out.turn HTe.out HWF.out).cell; clear hrs ht)
        | (go_at_call 83; refine (actFields_any _).mono ?_; rintro e wa ⟨lv, rfl, hf, hb⟩;
            (first | (with_reducible (have HX := Lib.hid (XN.first hb))) | skip);
            (first | (with_reducible (have HBd := Lib.hid (below_two HBc.out hb))) | (with_reducible (have HBd := Lib.hid (below_first hb))));
            (first | (with_reducible (have HF := Lib.hid (fs_two HBc.out hf))) | (with_reducible (have HF := Lib.hid (fs_first hf))));
            (first | (with_reducible (have HTd := Lib.hid (turn_two HT.out hb))) | (with_reducible (have HTd := Lib.hid (turn_first (F := RF b v) hb))));
            have x0 := (HFA.out.turn HTd.out HWF.out).cell; clear hf hb)))
    all_goals
      go_wp2_with fail
      go_meet
      refine ⟨_, rfl, Lib.hid ?_⟩
      first
        | (with_reducible exact amid_new HTe.out HRDG.out HRS.out HFA.out HWF.out HRF.out)
        | (with_reducible exact amid_set (Hid.out HX) HTe.out HRDG.out HRS.out HFA.out HWF.out HRF.out)
  case rest =>
    obtain ⟨X, rfl, hmid⟩ := hcut
    obtain ⟨N, p, e, hrs, hrd, hfa, hrow, hrx, hdx⟩ := hmid.out
    have x0 := hfa.cell
    have y0 := cell_of_row _ X 0 _ _ _ hrow
    have y1 := cell_of_row _ X 1 _ _ _ hrow
    have y2 := cell_of_row _ X 2 _ _ _ hrow
    have y3 := cell_of_row _ X 3 _ _ _ hrow
    have y4 := cell_of_row _ X 4 _ _ _ hrow
    have HRS := Lib.hid hrs
    have hb4 := below_new wc (.cells #[.int .u8 (k : Int), .int .i64 (iN N 3), .int .i64 (iN N 2)] 33)
    have HRDC := Lib.hid (rd_below hrd hb4)
    have HFC := Lib.hid (below_factsA hb4 hfa)
    have HROW := Lib.hid (heap_alloc_new wc (.cells #[.int .u8 (k : Int), .int .i64 (iN N 3), .int .i64 (iN N 2)] 33))
    have HRX : Hid (∀ j, RF b v j → j < wc.heap.size) := Lib.hid (fun j hj => (hrd.lt hj).2)
    have HRD2 := Lib.hid (fun (c q : Int) (k' : Nat) (hM : Aok k' c q) (hz : zs = pack (kb 2 k' [3, 2] (natN (five 0 0 q c 0)))) => act_read HGR.out HRS.out hM hz)
    have HRR := Lib.hid (fun hf hok => read_act (N := N) HZ.out HGR.out HRS.out hf hok)
    have x1 : (wc.alloc (.cells #[.int .u8 (k : Int), .int .i64 (iN N 3), .int .i64 (iN N 2)] 33)).cell? ⟨w1.heap.size, 0, none⟩ = some (.pointer (some ⟨b, 0, none⟩)) := (below_factsA hb4 hfa).cell
    clear hrs hrd hfa hrow hrx hmid hb4
    generalize hn3 : iN N 3 = c at *
    generalize hn2 : iN N 2 = q at *
    go_wp2_with fail
    generalize (wc.alloc (.cells #[.int .u8 (k : Int), .int .i64 c, .int .i64 q] 33)) = w5 at *
    refine (end_fin HRDC.out).mono ?_
    rintro r wd ⟨E, rfl, hE, htd⟩
    have hfd := HFC.out.turn htd.2 HWF.out
    have hrowd := (htd.2.block wc.heap.size (lt_of_heap HROW.out) (fun y => by have := HRX.out _ y; omega)).trans HROW.out
    clear x0 x1 y0 y1 y2 y3 y4
    have HFD := Lib.hid hfd
    have HRWD := Lib.hid hrowd
    have HE := Lib.hid hE
    clear hfd hrowd hE htd HRDC HFC HROW hn3 hn2
    by_cases hE0 : E = 0
    · subst hE0
      have y0 := cell_of_row _ wc.heap.size 0 _ _ _ HRWD.out
      have y1 := cell_of_row _ wc.heap.size 1 _ _ _ HRWD.out
      have y2 := cell_of_row _ wc.heap.size 2 _ _ _ HRWD.out
      have HR := Lib.hid (rightAct_any k c q wd HFD.out.shp)
      by_cases hok : Aok k c q
      · rw [decide_eq_true hok] at HR
        have HOK := Lib.hid hok
        have HZS := Lib.hid (HRR.out (HE.out.1 rfl) hok)
        clear hok
        go_wp2_with fail
        refine HR.out.mono ?_
        rintro r we ⟨rfl, hb⟩
        have HFE := Lib.hid (below_factsA hb HFD.out)
        have hrwe := (hb.block wc.heap.size (lt_of_heap HRWD.out)).trans HRWD.out
        clear y0 y1 y2 hb
        have y0 := cell_of_row _ wc.heap.size 0 _ _ _ hrwe
        have y1 := cell_of_row _ wc.heap.size 1 _ _ _ hrwe
        have y2 := cell_of_row _ wc.heap.size 2 _ _ _ hrwe
        clear hrwe
        obtain ⟨⟨r0, r1, r2⟩, f0, f1, f2⟩ := row_cells3 HFE.out.1
        have HST := Lib.hid (set3a HFE.out.1)
        have HBE := Lib.hid (below3a HFE.out.2.2.2.1 (Nat.le_refl w.heap.size))
        go_wp2
        refine bodyPost_ret (ret_act _ rfl (HST.out _ _ _)) rfl ?_
        exact ⟨HBE.out _ _ _, .inl ⟨k, c, q, HOK.out, HZS.out, rfl⟩⟩
      · rw [decide_eq_false hok] at HR
        have HNO : Hid (∀ (k' : Nat) (c p : Int), Aok k' c p → zs ≠ pack (kb 2 k' [3, 2] (natN (five 0 0 p c 0)))) := Lib.hid (fun k' c' q' hM hz => by
          obtain ⟨_, hkk, h3, h4⟩ := HRD2.out c' q' k' hM hz
          subst hkk h3 h4
          exact hok hM)
        clear hok
        go_wp2_with fail
        refine HR.out.mono ?_
        rintro r we ⟨rfl, hb⟩
        have HFE := Lib.hid (below_factsA hb HFD.out)
        clear y0 y1 y2 hb
        obtain ⟨⟨r0, r1, r2⟩, f0, f1, f2⟩ := row_cells3 HFE.out.1
        have HST := Lib.hid (set3a HFE.out.1)
        have HBE := Lib.hid (below3a HFE.out.2.2.2.1 (Nat.le_refl w.heap.size))
        go_wp2
        refine bodyPost_ret (ret_act _ rfl (HST.out _ _ _)) rfl ?_
        exact ⟨HBE.out _ _ _, .inr ⟨HNO.out, rfl⟩⟩
    · have e1 : (E != 0) = true := by simpa using hE0
      have HNO : Hid (∀ (k' : Nat) (c p : Int), Aok k' c p → zs ≠ pack (kb 2 k' [3, 2] (natN (five 0 0 p c 0)))) := Lib.hid (fun k' c' q' hM hz => by
        obtain ⟨h1, _⟩ := HRD2.out c' q' k' hM hz
        exact hE0 (HE.out.2 h1))
      clear hE0
      obtain ⟨⟨r0, r1, r2⟩, f0, f1, f2⟩ := row_cells3 HFD.out.1
      have HST := Lib.hid (set3a HFD.out.1)
      have HBE := Lib.hid (below3a HFD.out.2.2.2.1 (Nat.le_refl w.heap.size))
      go_wp2
      refine bodyPost_ret (ret_act _ rfl (HST.out _ _ _)) rfl ?_
      exact ⟨HBE.out _ _ _, .inr ⟨HNO.out, rfl⟩⟩
end Rc
end Go.Proofs.YtobpinelhjpfgaaDoor
end

section
namespace Go.Proofs.YtobpinelhjpfgaaDoor
namespace Rc
open Go.RowKit Bp Ck
theorem LayTold.own {w w' : World} {zs : List Nat} {e : Ending} (h : LayTold w zs e w') (hz : ∀ z ∈ zs, z ≤ 255) : ∃ A cp, e = .returned (.tuple #[.slice A zs.length cp, .int .i64 0]) ∧ By w'.heap.size w' A zs.length cp zs ∧ Below w.heap.size w w' := by
  obtain ⟨A, cp, rfl, ho, hb⟩ := h
  exact ⟨A, cp, rfl, By.own ho hz, hb⟩
theorem by_later {B : Nat} {w w' : World} {A : Option Addr} {n cap : Nat} {zs : List Nat} (h : By B w A n cap zs) (hB : B ≤ w.heap.size) (hb : Below w.heap.size w w') : By B w' A n cap zs := h.below (hb.mono hB)
theorem ex_rec : pack (kb 3 5 (fl 5) (natN (five 0 5 0 0 0))) = [180] := by decide
theorem ex_act : pack (kb 2 1 [3, 2] (natN (five 0 0 0 7 0))) = [65, 192] := by decide
end Rc
end Go.Proofs.YtobpinelhjpfgaaDoor
end

section
namespace Go.Proofs.YtobpinelhjpfgaaDoor
namespace Rc
open Go.RowKit Bp Ck
/-- A record's bytes. -/
def recB (k : Nat) (i r p c q : Int) : List Nat := pack (kb 3 k (fl k) (natN (five i r p c q)))
theorem rok_rg {k : Nat} {M : Nat → Int} (h : Rok k M) : ∀ f, f ∈ fl k → rg f (natN M f) := fun f hf => rg_le f _ (fl_lt k f hf) (by have := (h.field f hf).2.2; unfold natN; omega)
theorem rok_k8 {k : Nat} {M : Nat → Int} (h : Rok k M) : k < 2 ^ 3 := by have := h.kind; omega
theorem rec_both {zs : List Nat} {k k' : Nat} {M M' : Nat → Int} (h : Rok k M) (h' : Rok k' M') (h1 : Has zs 0 (kb 3 k (fl k) (natN M))) (h2 : Has zs 0 (kb 3 k' (fl k') (natN M'))) : k = k' ∧ (∀ f, f < 5 → M f = M' f) ∧ kb 3 k (fl k) (natN M) = kb 3 k' (fl k') (natN M') := by
  obtain ⟨rfl, h3⟩ := kb_uniq (F := fl) (rok_k8 h) (rok_k8 h') (rok_rg h) (rok_rg h') h1 h2
  refine ⟨rfl, fun f hf => ?_, kb_congr _ _ _ _ _ h3⟩
  by_cases hm : f ∈ fl k
  · have a := (h.field f hm).2.1
    have b := (h'.field f hm).2.1
    have e := h3 f hm
    unfold natN at e
    omega
  · have a := (h.2 f hf).2
    have b := (h'.2 f hf).2
    rcases a with a | a
    · rcases b with b | b
      · rw [a, b]
      · exact absurd b hm
    · exact absurd a hm
theorem rec_uniq {k k' : Nat} {M M' : Nat → Int} (h : Rok k M) (h' : Rok k' M') (e : pack (kb 3 k (fl k) (natN M)) = pack (kb 3 k' (fl k') (natN M'))) : k = k' ∧ ∀ f, f < 5 → M f = M' f := by
  obtain ⟨h1, h2, _⟩ := rec_both h h' (pack_fin _).1 (e ▸ (pack_fin _).1)
  exact ⟨h1, h2⟩
theorem five_uniq {i r p c q i' r' p' c' q' : Int} (h : ∀ f, f < 5 → five i r p c q f = five i' r' p' c' q' f) : i = i' ∧ r = r' ∧ p = p' ∧ c = c' ∧ q = q' := ⟨h 0 (by decide), h 1 (by decide), h 2 (by decide), h 3 (by decide), h 4 (by decide)⟩
theorem rec_len {k : Nat} {M : Nat → Int} (h : Rok k M) : 0 < (pack (kb 3 k (fl k) (natN M))).length ∧ (pack (kb 3 k (fl k) (natN M))).length ≤ 24 := by
  rw [pack_length]
  have h1 := fbits_len (fl k) (natN M) (fun f hf => ⟨fl_lt k f hf, by have := (h.field f hf).2.2; unfold natN; omega⟩)
  have h2 := fl_len k
  unfold kb nb
  rw [List.length_append, bitsOf_length]
  omega
/-- No beginning of a record is one. -/
theorem cut_no {k : Nat} {M : Nat → Int} (h : Rok k M) (n : Nat) (hn : n < (pack (kb 3 k (fl k) (natN M))).length) (k' : Nat) (M' : Nat → Int) (h' : Rok k' M') : (pack (kb 3 k (fl k) (natN M))).take n ≠ pack (kb 3 k' (fl k') (natN M')) := by
  intro e
  have h1 : Has ((pack (kb 3 k (fl k) (natN M))).take n) 0 (kb 3 k' (fl k') (natN M')) := by rw [e]; exact (pack_fin _).1
  obtain ⟨_, _, h3⟩ := rec_both h h' (pack_fin _).1 (has_take h1)
  rw [← h3] at e
  have := congrArg List.length e
  rw [List.length_take] at this
  omega
/-- Nor is one with a byte behind it. -/
theorem more_no {k : Nat} {M : Nat → Int} (h : Rok k M) (z : Nat) (k' : Nat) (M' : Nat → Int) (h' : Rok k' M') : pack (kb 3 k (fl k) (natN M)) ++ [z] ≠ pack (kb 3 k' (fl k') (natN M')) := by
  intro e
  have h1 : Has (pack (kb 3 k (fl k) (natN M)) ++ [z]) 0 (kb 3 k' (fl k') (natN M')) := by rw [e]; exact (pack_fin _).1
  obtain ⟨_, _, h3⟩ := rec_both h h' (has_more (pack_fin _).1) h1
  rw [← h3] at e
  have := congrArg List.length e
  rw [List.length_append] at this
  simp at this
theorem TakeTold.no {w w' : World} {zs : List Nat} {e : Ending} (h : TakeTold w zs e w') (hn : ∀ (k : Nat) (M : Nat → Int), Rok k M → zs ≠ pack (kb 3 k (fl k) (natN M))) : e = .returned (.tuple #[.agg #[.int .u8 0, .int .i64 0, .int .i64 0, .int .i64 0, .int .i64 0, .int .i64 0], .int .i64 170]) ∧ Below w.heap.size w w' := by
  obtain ⟨hb, ⟨k, i, r, p, c, q, hok, hz, _⟩ | ⟨_, rfl⟩⟩ := h
  · exact absurd hz (hn k _ hok)
  · exact ⟨rfl, hb⟩
theorem TakeTold.yes {w w' : World} {k : Nat} {i r p c q : Int} {e : Ending} (hok : Rok k (five i r p c q)) (h : TakeTold w (pack (kb 3 k (fl k) (natN (five i r p c q)))) e w') : e = .returned (.tuple #[.agg #[.int .u8 (k : Int), .int .i64 i, .int .i64 r, .int .i64 p, .int .i64 c, .int .i64 q], .int .i64 0]) ∧ Below w.heap.size w w' := by
  obtain ⟨hb, ⟨k', i', r', p', c', q', hok', hz, rfl⟩ | ⟨hno, _⟩⟩ := h
  · obtain ⟨rfl, hf⟩ := rec_uniq hok hok' hz
    obtain ⟨rfl, rfl, rfl, rfl, rfl⟩ := five_uniq hf
    exact ⟨rfl, hb⟩
  · exact absurd rfl (hno k _ hok)
end Rc
end Go.Proofs.YtobpinelhjpfgaaDoor
end
