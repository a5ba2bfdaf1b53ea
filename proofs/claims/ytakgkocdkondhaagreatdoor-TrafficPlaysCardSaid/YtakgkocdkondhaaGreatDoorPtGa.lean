/-
  Layer 5: what it asks of the library: Contains, Repeat, DeleteFunc.
  Layer 5: the cells that are not blocked (DeleteFunc).
  Layer 5: the steps out of a cell, asked once (next).
  Layer 5: stands, groundOf.
-/
import Derived.Test.YtakgkocdkondhaaGreatDoorPtA
import Derived.Test.YtakgkocdkondhaaGreatDoorPtLay
import Derived.Laws.CopyOwn
import Derived.Deep.RegionLaw
import Derived.Lib.SliceRun
import Derived.Shelf.Abstract
import Derived.Deep.RegionHeld3
set_option linter.unusedVariables false
set_option maxRecDepth 100000
section
namespace Go.Proofs.YtakgkocdkondhaaGreatDoor
open Go.RowKit Fl Pt


/-- Whether a number is in a list. -/
theorem contains_any (B : Nat) (A : Option Addr) (n cap : Nat) (f : Nat → Int) (x : Int) (w : World) (h : Il B w A n cap f) :
    Calls Tryz.prog 102 #[.slice A n cap, .int .i64 x] w fun e w' => e = .returned (.bool ((il f n).contains x)) ∧ w = w' := by
  by_cases h0 : 0 < n
  · obtain ⟨g, off, rfl, _, hc⟩ := h.cell h0
    refine (Any.slices_Contains_int Tryz.lays107 g off n cap (il f n) x w (by simp [il]) h.size (fun j hj => ?_)).mono fun e w' ⟨h1, h2⟩ => ⟨?_, h2.symm⟩
    · have hj' : j < n := by simpa [il] using hj
      rw [hc j hj']
      simp [il, List.getD, hj']
    · rw [h1, List.take_of_length_le (by simp [il])]
  · obtain rfl : n = 0 := by omega
    refine (Any.slices_Contains_int_empty Tryz.lays107 A cap x w).mono fun e w' ⟨h1, h2⟩ => ⟨by rw [h1]; rfl, h2.symm⟩

/-- So many of a list are the same number, then zeros. -/
def rep (N k : Nat) (v : Int) : List Value := List.replicate k (.int .i64 v) ++ List.replicate (N - k) (.int .i64 0)
def RepTold (N : Nat) (v : Int) (w : World) (e : Ending) (w' : World) : Prop :=
  ∃ g, e = .returned (.slice (some ⟨g, 0, none⟩) N N) ∧ Cells g N (fun _ => .int .i64 v) w' ∧ w.heap.size ≤ g ∧ Below w.heap.size w w'
theorem cells_row {w : World} {g n : Nat} {l : List Value} {t : TypeId} (h : w.heap[g]? = some (.cells l.toArray t (0, 0))) (hn : l.length = n) : Cells g n (fun x => l.getD x undef) w := by
  refine ⟨lt_of_heap h, fun x hx => ⟨?_, frozen_of_row w g x _ _ h⟩⟩
  rw [cell_of_row w g x _ _ _ h]
  simp [List.getD, List.getElem?_eq_getElem (show x < l.length by omega)]

end Go.Proofs.YtakgkocdkondhaaGreatDoor
end

section
namespace Go.Proofs.YtakgkocdkondhaaGreatDoor
open Go.RowKit Fl Pt


def iv (xs : List Nat) (x : Nat) : Value := .int .i64 ((xs.getD x 0 : Nat) : Int)

/-- The first of those that are so, or -1. -/
def IdxTold (P : Nat → Bool) (xs : List Nat) (w : World) (e : Ending) (w' : World) : Prop :=
  w = w' ∧ ((e = .returned (.int .i64 (-1)) ∧ ∀ j, j < xs.length → P (xs.getD j 0) = false) ∨ ∃ i : Nat, e = .returned (.int .i64 (i : Int)) ∧ i < xs.length ∧ P (xs.getD i 0) = true ∧ ∀ j, j < i → P (xs.getD j 0) = false)


/-- Those of the first so many that stay. -/
def kp (P : Nat → Bool) (xs : List Nat) (j : Nat) : List Nat := (xs.take j).filter fun y => !P y
/-- What has become of the list's block. -/
structure Kept (g n : Nat) (P : Nat → Bool) (xs : List Nat) (i j : Nat) (w wr : World) : Prop where
  cnt : i = (kp P xs j).length
  lt : i < j
  turn : Turn (fun k => k = g) (fun k => k = g) w wr
  cells : ∃ f, Cells g n f wr ∧ (∀ x, x < i → f x = iv (kp P xs j) x) ∧ ∀ x, j ≤ x → x < n → f x = iv xs x
/-- Those that are not so, in the block of the list. -/
def DelTold (g n cap : Nat) (ys : List Nat) (w : World) (e : Ending) (w' : World) : Prop :=
  e = .returned (.slice (some ⟨g, 0, none⟩) ys.length cap) ∧ ys.length ≤ n ∧ (∃ f, Cells g n f w' ∧ ∀ x, x < ys.length → f x = iv ys x) ∧ Turn (fun k => k = g) (fun k => k = g) w w'

end Go.Proofs.YtakgkocdkondhaaGreatDoor
end

section
namespace Go.Proofs.YtakgkocdkondhaaGreatDoor
open Go.RowKit Fl Pt

/-- A list lies at v: none, or in a block from base on. -/
def Ml (w : World) (base : Nat) (v : Value) (xs : List Nat) : Prop :=
  (v = .slice none 0 0 ∧ xs = []) ∨ ∃ g cap, v = .slice (some ⟨g, 0, none⟩) xs.length cap ∧ base ≤ g ∧ xs.length ≤ cap ∧ cap ≤ maxLen ∧ ∃ f, Cells g xs.length f w ∧ ∀ x, x < xs.length → f x = iv xs x
/-- A floor as the ways from a cell go over it, in three blocks; mv: the steps that were asked for. -/
structure Gd (w : World) (W H : Nat) (s : ByteArray) (a : Nat) (B : Nat → Bool) (base gl gs gt : Nat) (mv : Nat → Value) : Prop where
  lv : Cells gl s.size (fun x => .bool (outB (at_ s) a x)) w
  sh : Cells gs s.size (fun x => .bool (B x)) w
  tb : Cells gt s.size mv w
  bl : base ≤ gl
  bs : base ≤ gs
  bt : base ≤ gt
  n1 : gl ≠ gt
  n2 : gs ≠ gt
  mem : ∀ c, c < s.size → mv c = .slice none 0 0 ∨ (outB (at_ s) a c = true ∧ (mv c).ownBlock ≠ none ∧ (mv c).ownBlock ≠ some gt ∧ Ml w base (mv c) (nx5 W H (at_ s) a B c))
/-- Its blocks. -/
def GF (gl gs gt n : Nat) (mv : Nat → Value) : Nat → Prop := fun k => k = gl ∨ k = gs ∨ k = gt ∨ ∃ c, c < n ∧ (mv c).ownBlock = some k
/-- As a value. -/
def gv (W H : Nat) (s : ByteArray) (gl gs gt : Nat) : Value := .agg #[.int .i64 (W : Int), .int .i64 (H : Int), .string s, .slice (some ⟨gl, 0, none⟩) s.size s.size, .slice (some ⟨gs, 0, none⟩) s.size s.size, .slice (some ⟨gt, 0, none⟩) s.size s.size]
def NextTold (W H : Nat) (s : ByteArray) (a : Nat) (B : Nat → Bool) (base gl gs gt : Nat) (mv : Nat → Value) (c : Nat) (w : World) (e : Ending) (w' : World) : Prop :=
  ∃ A n cap mv', e = .returned (.slice A n cap) ∧ n = (nx5 W H (at_ s) a B c).length ∧ Ml w' base (.slice A n cap) (nx5 W H (at_ s) a B c) ∧ Gd w' W H s a B base gl gs gt mv' ∧ Turn (fun k => k = gt) (fun k => k = gt) w w' ∧
    (∀ k, GF gl gs gt s.size mv' k → GF gl gs gt s.size mv k ∨ w.heap.size ≤ k) ∧ ∀ k, (Value.slice A n cap).ownBlock = some k → GF gl gs gt s.size mv' k

/-- What is near to a cell that is no wall. -/
def NrTold (xs : List Nat) (w : World) (e : Ending) (w' : World) : Prop :=
  ∃ g n cap, e = .returned (.slice (some ⟨g, 0, none⟩) n cap) ∧ n = xs.length ∧ (1 ≤ n ∧ n ≤ 4) ∧ (n ≤ cap ∧ cap ≤ maxLen) ∧ Cells g n (iv xs) w' ∧ w.heap.size ≤ g ∧ Below w.heap.size w w'
theorem nears_nr (W H c : Nat) (s : ByteArray) : nears (W : Int) (H : Int) s (c : Int) = nr W H (at_ s) c := rfl
end Go.Proofs.YtakgkocdkondhaaGreatDoor
end

section
namespace Go.Proofs.YtakgkocdkondhaaGreatDoor
open Go.RowKit Fl Pt

theorem onFloor_some {W H : Int} {s : ByteArray} {c : Int} (h : OnFloor W H s c) : ∃ a b k : Nat, W = a ∧ H = b ∧ c = k ∧ k < s.size ∧ at_ s k ≠ 35 ∧ Sides a b s ∧ RightN a b (at_ s) ∧ nears W H s c = nr a b (at_ s) k ∧ nr a b (at_ s) k ≠ [] := by
  obtain ⟨a, b, rfl, rfl, hS, hN⟩ := rightNat h.1
  obtain ⟨k, rfl, hk, hz⟩ := bAt_in h.2
  have h2 := h.2
  rw [hz] at h2
  exact ⟨a, b, k, rfl, rfl, rfl, hk, h2, hS, hN, rfl, near_some hS.w1 hN (by rw [← hS.sz]; exact hk) h2⟩

def GroundTold (W H : Nat) (s : ByteArray) (a : Nat) (B : Nat → Bool) (w : World) (e : Ending) (w' : World) : Prop :=
  ∃ gl gs gt, e = .returned (.agg #[.int .i64 (W : Int), .int .i64 (H : Int), .string s, .slice (some ⟨gl, 0, none⟩) s.size s.size, .slice (some ⟨gs, 0, none⟩) s.size s.size, .slice (some ⟨gt, 0, none⟩) s.size s.size]) ∧
    Gd w' W H s a B w.heap.size gl gs gt (fun _ => .slice none 0 0) ∧ Below w.heap.size w w'
/-- Lanes are marked. -/
def LaneTold (s : ByteArray) (w : World) (v : Value) (w' : World) : Prop := ∃ g, v = .slice (some ⟨g, 0, none⟩) s.size s.size ∧ Cells g s.size (fun x => .bool (isL (at_ s x))) w' ∧ w.heap.size ≤ g ∧ Below w.heap.size w w'

/-- The floor's box and the ground's, behind whatever is new. -/
structure Gs (w : World) (W H : Int) (s : ByteArray) (wx : World) : Prop where
  box : Box w W H s wx
  out : ∃ f, Cells (w.heap.size + 1) 6 f wx
theorem args_il {w wx : World} {A : Option Addr} {n cap : Nat} {f : Nat → Int} (h : Il w.heap.size w A n cap f) (hb : Below w.heap.size w wx) : Il wx.heap.size wx A n cap f := (h.below hb).raise hb.size
/-- The ground's values. -/
def gvs (W H : Nat) (s : ByteArray) (gl gs gt : Nat) : Nat → Value
  | 0 => .int .i64 (W : Int)
  | 1 => .int .i64 (H : Int)
  | 2 => .string s
  | 3 => .slice (some ⟨gl, 0, none⟩) s.size s.size
  | 4 => .slice (some ⟨gs, 0, none⟩) s.size s.size
  | _ => .slice (some ⟨gt, 0, none⟩) s.size s.size
structure GEnd (W H : Nat) (s : ByteArray) (a : Nat) (B : Nat → Bool) (gl gs gt : Nat) (w w6 : World) : Prop where
  c : ∀ i, i < 6 → w6.cell? ⟨w.heap.size + 1, i, none⟩ = some (gvs W H s gl gs gt i)
  gd : Gd w6 W H s a B w.heap.size gl gs gt (fun _ => .slice none 0 0)
  below : Below w.heap.size w w6
theorem alloc_size (w : World) (o : Obj) : (w.alloc o).heap.size = w.heap.size + 1 := by simp
end Go.Proofs.YtakgkocdkondhaaGreatDoor
end
