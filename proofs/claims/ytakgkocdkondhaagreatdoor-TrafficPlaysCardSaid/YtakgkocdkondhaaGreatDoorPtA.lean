/-
  Layer 5: cells of a block, lists of integers of whatever make; marked; stands.
-/
import Derived.Test.YtakgkocdkondhaaGreatDoorFlOne
import Derived.Test.YtakgkocdkondhaaGreatDoorFrame
import Derived.Test.YtakgkocdkondhaaGreatDoorPtPlain
set_option linter.unusedVariables false
set_option maxRecDepth 100000
namespace Go.Proofs.YtakgkocdkondhaaGreatDoor
open Go.RowKit Fl Pt

/-- n cells of block b. -/
def Cells (b n : Nat) (f : Nat → Value) (w : World) : Prop := b < w.heap.size ∧ ∀ x, x < n → w.cell? ⟨b, x, none⟩ = some (f x) ∧ w.frozen? ⟨b, x, none⟩ = false
theorem Cells.same {b n : Nat} {f : Nat → Value} {w w' : World} (h : Cells b n f w) (hs : w.heap.size ≤ w'.heap.size) (hb : w'.heap[b]? = w.heap[b]?) : Cells b n f w' :=
  ⟨Nat.lt_of_lt_of_le h.1 hs, fun x hx => ⟨(World.cell?_of_block (a := ⟨b, x, none⟩) hb).trans (h.2 x hx).1, (World.frozen?_of_block (a := ⟨b, x, none⟩) hb).trans (h.2 x hx).2⟩⟩
theorem Cells.later {b n : Nat} {f : Nat → Value} {w w' : World} (h : Cells b n f w) (hb : Below w.heap.size w w') : Cells b n f w' := h.same hb.size (hb.block b h.1)
theorem Cells.more {b n : Nat} {f : Nat → Value} {w : World} (h : Cells b n f w) (o : Obj) : Cells b n f (w.alloc o) := h.later ((Below.refl _ w).alloc (Nat.le_refl _) o)
theorem Cells.congr {b n : Nat} {f g : Nat → Value} {w : World} (h : Cells b n f w) (e : ∀ x, x < n → f x = g x) : Cells b n g w := ⟨h.1, fun x hx => by rw [← e x hx]; exact h.2 x hx⟩
theorem Cells.put {b n : Nat} {f g : Nat → Value} {w : World} (h : Cells b n f w) (y : Nat) (v : Value) (hy : y < n) (hg : ∀ x, x < n → g x = if x = y then v else f x) : Cells b n g (w.setCell ⟨b, y, none⟩ v) := by
  refine ⟨by simpa [World.setCell] using h.1, fun q hq => ⟨?_, by rw [World.frozen?_setCell]; exact (h.2 q hq).2⟩⟩
  rw [hg q hq]
  by_cases e : q = y
  · subst e
    rw [if_pos rfl, World.cell?_setCell_same (h := (h.2 q hq).1)]
  · rw [if_neg e, World.cell?_setCell_other (h := (fun e2 => e (by simpa using e2.symm) : (⟨b, y, none⟩ : Addr) ≠ ⟨b, q, none⟩))]
    exact (h.2 q hq).1
theorem Cells.made {w1 : World} {base g n : Nat} {e : TypeId} {u : Value} (hu : u.cells = #[u]) (h : w1.ownsRow base e 1 (.slice (some ⟨g, 0, none⟩) n n) n (madeCells u.cells (n * 1)).toList) : Cells g n (fun _ => u) w1 := by
  refine ⟨(h.lt g rfl).2, fun x hx => ⟨?_, h.frozenAt x⟩⟩
  rw [h.cellAt x (by omega)]
  simp [madeCells, hu, hx, Nat.mod_one]

/-- A list of integers at a slice, of whatever make, in a block below B. -/
structure Il (B : Nat) (w : World) (A : Option Addr) (n cap : Nat) (f : Nat → Int) : Prop where
  le : n ≤ cap
  max : cap ≤ maxLen
  nil : A = none → n = 0 ∧ cap = 0
  cell : 0 < n → ∃ g off, A = some ⟨g, off, none⟩ ∧ g < B ∧ ∀ j, j < n → w.cell? ⟨g, off + j, none⟩ = some (.int .i64 (f j))
theorem Il.below {B : Nat} {w w' : World} {A : Option Addr} {n cap : Nat} {f : Nat → Int} (h : Il B w A n cap f) (hb : Below B w w') : Il B w' A n cap f :=
  ⟨h.le, h.max, h.nil, fun hn => by
    obtain ⟨g, off, e, hg, hc⟩ := h.cell hn
    exact ⟨g, off, e, hg, fun j hj => (hb.cell (p := ⟨g, off + j, none⟩) hg).trans (hc j hj)⟩⟩
theorem Il.raise {B B' : Nat} {w : World} {A : Option Addr} {n cap : Nat} {f : Nat → Int} (h : Il B w A n cap f) (hb : B ≤ B') : Il B' w A n cap f :=
  ⟨h.le, h.max, h.nil, fun hn => by
    obtain ⟨g, off, e, hg, hc⟩ := h.cell hn
    exact ⟨g, off, e, by omega, hc⟩⟩
theorem Il.size {B : Nat} {w : World} {A : Option Addr} {n cap : Nat} {f : Nat → Int} (h : Il B w A n cap f) : n ≤ 9223372036854775807 := by
  have h1 := h.le
  have h2 := h.max
  unfold maxLen at h2; omega
theorem Il.empty (B : Nat) (w : World) (f : Nat → Int) : Il B w none 0 0 f := ⟨Nat.le_refl _, Nat.zero_le _, fun _ => ⟨rfl, rfl⟩, fun h => by omega⟩
/-- The list's numbers. -/
def il (f : Nat → Int) (n : Nat) : List Int := (List.range n).map f
/-- A list of one's own reads as one of whatever make. -/
theorem Own.il {w : World} {base : Nat} {a : Option Addr} {n cap : Nat} {xs : List Nat} (h : Own w base (.slice a n cap) xs) (hn : n = xs.length) : Il w.heap.size w a n cap (fun j => ((xs.getD j 0 : Nat) : Int)) := by
  have hc := h.cap hn
  refine ⟨hc.1, hc.2, fun e => ?_, fun h0 => ?_⟩
  · subst e
    rcases h.2 with ⟨e1, e2⟩ | ⟨g, c, cur, e1, _⟩
    · simp only [Value.slice.injEq] at e1; exact ⟨e1.2.1, e1.2.2⟩
    · simp only [Value.slice.injEq] at e1; cases e1.1
  · obtain ⟨g, rfl, hg, _⟩ := h.at 0 (by omega)
    refine ⟨g, 0, rfl, hg, fun j hj => ?_⟩
    obtain ⟨g', e, _, hc⟩ := h.at j (by omega)
    obtain rfl : g = g' := by simpa using e
    rw [Nat.zero_add]; exact hc

/-- Is a cell among the first so many? -/
def mk (f : Nat → Int) (n x : Nat) : Bool := (List.range n).any fun j => f j == (x : Int)
/-- Marks are told. -/
def MarkTold (f : Nat → Int) (n N : Nat) (w : World) (e : Ending) (w' : World) : Prop :=
  ∃ g, e = .returned (.slice (some ⟨g, 0, none⟩) N N) ∧ Cells g N (fun x => .bool (mk f n x)) w' ∧ w.heap.size ≤ g ∧ Below w.heap.size w w'

theorem Tryz.infoBool5 : (Tryz.prog.info? 4).map (fun i => (i.zero, i.size, i.bytes)) = some (some (.bool false), 1, 1) := by kernel_rfl

/-- Beside each cell that is no wall is one that is none. -/
theorem near_some {W H : Nat} {z : Nat → Nat} (hW : 1 ≤ W) (hR : RightN W H z) {c : Nat} (hc : c < W * H) (h : z c ≠ 35) : nr W H z c ≠ [] := by
  have hne : ∀ b, b ∈ side W H c → isL (z b) = true → nr W H z c ≠ [] := fun b hb hl e => by
    have : b ∈ nr W H z c := mem_nr.2 ⟨hb, fun e => by rw [e] at hl; revert hl; decide⟩
    rw [e] at this; cases this
  have hk := hR.bytes c hc
  unfold okc at hk
  rw [beq_eq_false_iff_ne.2 h, Bool.false_or, Bool.or_eq_true] at hk
  rcases hk with hl | hd
  · obtain ⟨a, r, hp, hr⟩ := hR.lanes
    have hcm : c ∈ a :: r := by rw [← hp]; exact mem_pick.2 ⟨hc, hl⟩
    by_cases hx : ∃ b, b ∈ side W H c ∧ isL (z b) = true
    · obtain ⟨b, hb, hbl⟩ := hx; exact hne b hb hbl
    · -- no lane beside: the lane is the only one, and a dock is beside it
      obtain ⟨d, hdm⟩ : ∃ d, d ∈ docks W H z := by
        have := hR.docks.one
        cases e : docks W H z with
        | nil => rw [e] at this; simp at this
        | cons d t => exact ⟨d, by simp⟩
      obtain ⟨b, hb, hbl⟩ := hR.docks.near d hdm
      obtain ⟨hdN, hdd⟩ := mem_pick.1 hdm
      have hbN := side_lt hW hdN hb
      have hall : ∀ l, l ∈ a :: r → l = c := by
        have hac : a = c := by
          refine Classical.byContradiction fun hne => ?_
          have ham : a ∈ pick isL z (W * H) := by rw [hp]; simp
          have := hr c hcm (fun y => y ≠ c ∧ y < W * H ∧ isL (z y) = true) ⟨hne, (mem_pick.1 ham).1, (mem_pick.1 ham).2⟩
            (fun x y hxS hy hyl => ⟨fun e => by subst e; exact hx ⟨x, side_sym hW hxS.2.1 hy, hxS.2.2⟩, side_lt hW hxS.2.1 hy, hyl⟩)
          exact this.1 rfl
        subst hac
        intro l hl2
        have := hr l hl2 (fun y => y = a) rfl (fun x y hx2 hy hyl => by subst hx2; exact absurd ⟨y, hy, hyl⟩ hx)
        exact this
      have hbc : b = c := hall b (by rw [← hp]; exact mem_pick.2 ⟨hbN, hbl⟩)
      subst hbc
      intro e
      have : d ∈ nr W H z b := mem_nr.2 ⟨side_sym hW hdN hb, fun e => by rw [e] at hdd; revert hdd; decide⟩
      rw [e] at this; cases this
  · obtain ⟨b, hb, hbl⟩ := hR.docks.near c (mem_pick.2 ⟨hc, hd⟩)
    exact hne b hb hbl
end Go.Proofs.YtakgkocdkondhaaGreatDoor
