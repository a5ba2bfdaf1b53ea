/-
  Layer 17: Take and TakeAct.
-/
import Derived.Test.YtobpinelhjpfgaaDoorRcE
import Derived.Test.YtobpinelhjpfgaaDoorCkOne
import Derived.Laws.ResultCell
set_option linter.unusedVariables false
set_option maxRecDepth 100000
namespace Go.Proofs.YtobpinelhjpfgaaDoor
namespace Rc
open Go.RowKit Bp Ck
theorem kb_congr (j k : Nat) (fs : List Nat) (N M : Nat → Nat) (h : ∀ f, f ∈ fs → N f = M f) : kb j k fs N = kb j k fs M := by unfold kb; rw [fbits_congr fs N M h]
theorem gr_has {zs : List Nat} {m k p1 : Nat} {e1 : Int} (hg : Gr zs m 0 0 k p1 e1) (he : e1 = 0) : p1 = m ∧ k < 2 ^ m ∧ Has zs 0 (bitsOf k m) := by
  rcases hg with ⟨a, _⟩ | ⟨_, _, a, b, c⟩ | ⟨_, a, _⟩
  · exact absurd rfl a
  · exact ⟨by omega, a, b⟩
  · exact absurd he a
theorem gr_read {zs : List Nat} {m k p1 : Nat} {e1 : Int} (hg : Gr zs m 0 0 k p1 e1) (hl : m ≤ 8 * zs.length) : e1 = 0 := by
  rcases hg with ⟨a, _⟩ | ⟨_, a, _⟩ | ⟨_, _, _, _, a⟩
  · exact absurd rfl a
  · exact a
  · omega
theorem natN_iN (N : Nat → Nat) (f : Nat) : natN (iN N) f = mn f (N f) := by unfold natN iN; simp
theorem read_rec {zs : List Nat} {k p1 p : Nat} {e1 e : Int} {N : Nat → Nat} (hz : ∀ z ∈ zs, z ≤ 255) (hg : Gr zs 3 0 0 k p1 e1) (hr : Rds zs p1 e1 (fl k) N p e) (hf : Fin zs p e) (hok : Rok k (iN N)) : zs = pack (kb 3 k (fl k) (natN (iN N))) := by
  have hp1 : p1 ≤ 8 * zs.length := by
    rcases hg with ⟨a, _⟩ | ⟨_, _, _, b, c⟩ | ⟨_, _, _, c, _⟩
    · exact absurd rfl a
    · have := b.1; rw [bitsOf_length] at this; omega
    · omega
  have he1 := (hr.has (fl_nodup k) hp1 hf.1).1
  obtain ⟨rfl, _, hk⟩ := gr_has hg he1
  rw [he1] at hr
  obtain ⟨h1, _⟩ := read_pack hz hk (fl_nodup k) hr hf
  rw [h1]
  congr 1
  refine kb_congr _ _ _ _ _ fun f hf => ?_
  rw [natN_iN]
  have h5 := fl_lt k f hf
  have h2 := (hok.2 f h5).1.2
  exact (mn_back f (N f) h5 (by unfold iN at h2; omega)).symm
theorem rec_read {zs : List Nat} {k k' p1 p : Nat} {e1 e : Int} {N : Nat → Nat} {M : Nat → Int} (hg : Gr zs 3 0 0 k p1 e1) (hr : Rds zs p1 e1 (fl k) N p e) (hM : Rok k' M) (hz : zs = pack (kb 3 k' (fl k') (natN M))) :
    Fin zs p e ∧ k = k' ∧ ∀ f, f < 5 → iN N f = M f := by
  subst hz
  have hh := (pack_fin (kb 3 k' (fl k') (natN M))).1
  have hl := (has_left hh).1
  rw [bitsOf_length, Nat.zero_add] at hl
  have he1 := gr_read hg hl
  obtain ⟨rfl, hk8, hk⟩ := gr_has hg he1
  obtain rfl := pack_read (fs := fl k') (M := natN M) hk8 (show k' < 2 ^ 3 by have := hM.kind; omega) hk
  rw [he1] at hr
  have hrg : ∀ f, f ∈ fl k → rg f (natN M f) := fun f hf => rg_le f _ (fl_lt k f hf) (by have := (hM.field f hf).2.2; unfold natN; omega)
  obtain ⟨h1, h2⟩ := pack_reads (fl_nodup k) hrg hr
  refine ⟨h1, rfl, fun f hf => ?_⟩
  by_cases hm : f ∈ fl k
  · have := hM.field f hm
    unfold iN
    rw [h2 f hm, mn_le f _ hf (by unfold natN; omega)]
    unfold natN; omega
  · have h3 := hr.out f hm
    have h4 := (hM.2 f hf).2
    unfold iN
    rw [h3, mn_le f 0 hf (Nat.zero_le _)]
    rcases h4 with h4 | h4
    · omega
    · exact absurd h4 hm
/-- What Take gives: the record whose bytes those are, or that there is none. -/
def TakeTold (w : World) (zs : List Nat) (e : Ending) (w' : World) : Prop := Below w.heap.size w w' ∧
  ((∃ k : Nat, ∃ i r p c q : Int, Rok k (five i r p c q) ∧ zs = pack (kb 3 k (fl k) (natN (five i r p c q))) ∧ e = .returned (.tuple #[.agg #[.int .u8 (k : Int), .int .i64 i, .int .i64 r, .int .i64 p, .int .i64 c, .int .i64 q], .int .i64 0])) ∨
   ((∀ (k : Nat) (M : Nat → Int), Rok k M → zs ≠ pack (kb 3 k (fl k) (natN M))) ∧ e = .returned (.tuple #[.agg #[.int .u8 0, .int .i64 0, .int .i64 0, .int .i64 0, .int .i64 0, .int .i64 0], .int .i64 170])))
theorem five_iN (N : Nat → Nat) (f : Nat) (hf : f < 5) : five (iN N 0) (iN N 1) (iN N 2) (iN N 3) (iN N 4) f = iN N f := by
  have hcs : f = 0 ∨ f = 1 ∨ f = 2 ∨ f = 3 ∨ f = 4 := by omega
  rcases hcs with rfl | rfl | rfl | rfl | rfl <;> rfl
theorem rok_congr {k : Nat} {M N : Nat → Int} (h : ∀ f, f < 5 → M f = N f) (hM : Rok k M) : Rok k N := ⟨hM.1, fun f hf => by rw [← h f hf]; exact hM.2 f hf⟩
theorem set6 {w : World} {R : Nat} {a0 a1 a2 a3 a4 a5 : Value} {t : Nat} (h : w.heap[R]? = some (.cells #[a0, a1, a2, a3, a4, a5] t (0, 0))) (u0 u1 u2 u3 u4 u5 : Value) :
    ((((((w.setCell ⟨R, 0, none⟩ u0).setCell ⟨R, 1, none⟩ u1).setCell ⟨R, 2, none⟩ u2).setCell ⟨R, 3, none⟩ u3).setCell ⟨R, 4, none⟩ u4).setCell ⟨R, 5, none⟩ u5).heap[R]? = some (.cells #[u0, u1, u2, u3, u4, u5] t (0, 0)) := by
  have h0 := heap_setCell_same w R 0 _ _ u0 h
  have h1 := heap_setCell_same _ R 1 _ _ u1 h0
  have h2 := heap_setCell_same _ R 2 _ _ u2 h1
  have h3 := heap_setCell_same _ R 3 _ _ u3 h2
  have h4 := heap_setCell_same _ R 4 _ _ u4 h3
  have h5 := heap_setCell_same _ R 5 _ _ u5 h4
  rw [h5]; simp
theorem below6 {B : Nat} {a w : World} (h : Below B a w) {R : Nat} (hR : B ≤ R) (u0 u1 u2 u3 u4 u5 : Value) : Below B a ((((((w.setCell ⟨R, 0, none⟩ u0).setCell ⟨R, 1, none⟩ u1).setCell ⟨R, 2, none⟩ u2).setCell ⟨R, 3, none⟩ u3).setCell ⟨R, 4, none⟩ u4).setCell ⟨R, 5, none⟩ u5) :=
  (below5 h hR u0 u1 u2 u3 u4).setCell (p := ⟨R, 5, none⟩) hR _
theorem rd_below {C b : Nat} {v : Value} {zs : List Nat} {p : Nat} {e : Int} {w3 W : World} (h : Rd C w3 b v zs p e) (hb : Below w3.heap.size w3 W) : Rd C W b v zs p e := h.frame (fun j hj => hb.block j (h.lt hj).2)
theorem below_two {w3 W W' : World} (h : Below w3.heap.size w3 W) (hb : Below W.heap.size W W') : Below w3.heap.size w3 W' := h.trans (hb.mono h.size)
theorem below_three {w3 W W' : World} {o : Obj} (h : Below w3.heap.size w3 W) (hb : Below (W.alloc o).heap.size (W.alloc o) W') : Below w3.heap.size w3 W' := below_two (h.alloc h.size o) hb
theorem fs_two {w3 W W' : World} {v : Value} {fs : List Nat} (h : Below w3.heap.size w3 W) (hf : Fs W.heap.size W' v fs) : Fs w3.heap.size W' v fs := hf.mono h.size
theorem fs_three {w3 W W' : World} {o : Obj} {v : Value} {fs : List Nat} (h : Below w3.heap.size w3 W) (hf : Fs (W.alloc o).heap.size W' v fs) : Fs w3.heap.size W' v fs := hf.mono (h.alloc h.size o).size
theorem rd_three {C b : Nat} {v : Value} {zs : List Nat} {p : Nat} {e : Int} {w3 W : World} {o : Obj} (h : Rd C w3 b v zs p e) (hb : Below (w3.alloc o).heap.size (w3.alloc o) W) : Rd C W b v zs p e := rd_below (rd_below h (below_new _ o)) hb
theorem turn_four {F : Nat → Prop} {w3 W W' : World} {o : Obj} (h : Turn F F w3 W) (ht : Turn F F (W.alloc o) W') : Turn F F w3 W' := (h.more o).trans ht
theorem set6_other (w : World) {R D : Nat} (h : D ≠ R) {j : Nat} {u0 u1 u2 u3 u4 u5 : Value} : ((((((w.setCell ⟨R, 0, none⟩ u0).setCell ⟨R, 1, none⟩ u1).setCell ⟨R, 2, none⟩ u2).setCell ⟨R, 3, none⟩ u3).setCell ⟨R, 4, none⟩ u4).setCell ⟨R, 5, none⟩ u5).cell? ⟨D, j, none⟩ = w.cell? ⟨D, j, none⟩ :=
  World.cell?_of_block (w := w) (a := ⟨D, j, none⟩) (by rw [Below.heap_setCell _ _ _ _ h, Below.heap_setCell _ _ _ _ h, Below.heap_setCell _ _ _ _ h, Below.heap_setCell _ _ _ _ h, Below.heap_setCell _ _ _ _ h, Below.heap_setCell _ _ _ _ h])
theorem below_first {w3 W' : World} {o : Obj} (hb : Below ((w3.alloc o).drew).heap.size ((w3.alloc o).drew) W') : Below w3.heap.size w3 W' := below_two (below_new w3 o).drew hb
theorem fs_first {w3 W' : World} {o : Obj} {v : Value} {fs : List Nat} (hf : Fs ((w3.alloc o).drew).heap.size W' v fs) : Fs w3.heap.size W' v fs := hf.mono (below_new w3 o).drew.size
theorem turn_first {F : Nat → Prop} {w3 W' : World} {o : Obj} (hb : Below ((w3.alloc o).drew).heap.size ((w3.alloc o).drew) W') : Turn F F w3 W' := (Turn.alloc w3 o).drew.trans (Turn.ofBelow hb _)
theorem turn_two {F : Nat → Prop} {w3 W W' : World} (h : Turn F F w3 W) (hb : Below W.heap.size W W') : Turn F F w3 W' := h.trans (Turn.ofBelow hb _)
theorem turn_three {F : Nat → Prop} {w3 W W' : World} {o : Obj} (h : Turn F F w3 W) (hb : Below (W.alloc o).heap.size (W.alloc o) W') : Turn F F w3 W' := turn_two (h.more o) hb
theorem row_cells {W : World} {X : Nat} {t : Nat} (h : W.heap[X]? = some (.cells #[.int .u8 0, .int .i64 0, .int .i64 0, .int .i64 0, .int .i64 0, .int .i64 0] t (0, 0))) : (W.cell? ⟨X, 0, none⟩ = some (.int .u8 0) ∧ W.cell? ⟨X, 1, none⟩ = some (.int .i64 0) ∧ W.cell? ⟨X, 2, none⟩ = some (.int .i64 0) ∧ W.cell? ⟨X, 3, none⟩ = some (.int .i64 0) ∧ W.cell? ⟨X, 4, none⟩ = some (.int .i64 0) ∧ W.cell? ⟨X, 5, none⟩ = some (.int .i64 0)) ∧
    (W.frozen? ⟨X, 0, none⟩ = false ∧ W.frozen? ⟨X, 1, none⟩ = false ∧ W.frozen? ⟨X, 2, none⟩ = false ∧ W.frozen? ⟨X, 3, none⟩ = false ∧ W.frozen? ⟨X, 4, none⟩ = false ∧ W.frozen? ⟨X, 5, none⟩ = false) := by
  have k := fun j => cell_of_row W X j _ _ _ h
  have f := fun j => frozen_of_row W X j _ _ h
  exact ⟨⟨k 0, k 1, k 2, k 3, k 4, k 5⟩, f 0, f 1, f 2, f 3, f 4, f 5⟩
def zRec : Array Value := #[.int .u8 0, .int .i64 0, .int .i64 0, .int .i64 0, .int .i64 0, .int .i64 0]
end Rc
end Go.Proofs.YtobpinelhjpfgaaDoor
