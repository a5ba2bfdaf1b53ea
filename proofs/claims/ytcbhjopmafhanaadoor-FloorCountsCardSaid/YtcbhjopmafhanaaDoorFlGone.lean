/-
  FloorReached: its walk.
-/
import Derived.Test.YtcbhjopmafhanaaDoorFlIns
import Derived.Test.YtcbhjopmafhanaaDoorFloorNearW
import Derived.Test.YtcbhjopmafhanaaDoorFloorAsksW
set_option linter.unusedVariables false
namespace Go.Proofs.YtcbhjopmafhanaaDoor
open Go.RowKit Fl Go.Maps

theorem zeroBool (w : World) : (zeroValue 4).run Tryd.prog w = .ok (.bool false) w := by kernel_rfl
def OnSet (w : World) (b : Nat) (R : List Nat) : Prop := SetOf Tryd.prog 3 (plainElem Tryd.prog 4) (.lit (.bool true)) w b R.length R
theorem OnSet.later {w w' : World} {b : Nat} {R : List Nat} (h : OnSet w b R) (hb : Below w.heap.size w w') : OnSet w' b R := SetOf.later h hb
/-- What has been reached from a dock. -/
structure Gone (a b : Nat) (c : ByteArray) (d i : Nat) (R : List Nat) : Prop where
  nd : R.Nodup
  lt : ∀ x, x ∈ R → x < c.size
  open_ : ∀ x, x ∈ R → at_ c x ≠ 35
  head : d ∈ R
  done : ∀ j, j < i → ∀ y, y ∈ side a b (R.getD j 0) → isL (at_ c y) = true → y ∈ R
theorem Gone.len {a b : Nat} {c : ByteArray} {d i : Nat} {R : List Nat} (h : Gone a b c d i R) : R.length ≤ c.size := by
  have h1 := h.nd.length_le_of_subset (l₂ := List.range c.size) (fun x hx => List.mem_range.2 (h.lt x hx))
  simpa using h1
theorem Gone.start {a b : Nat} {c : ByteArray} {d : Nat} (h : d < c.size) (h2 : at_ c d ≠ 35) : Gone a b c d 0 [d] :=
  ⟨by simp, fun x hx => by rw [List.mem_singleton] at hx; rw [hx]; exact h, fun x hx => by rw [List.mem_singleton] at hx; rw [hx]; exact h2, by simp, fun j hj => by omega⟩
theorem Gone.step {a b : Nat} {c : ByteArray} {d i : Nat} {R : List Nat} (h : Gone a b c d i R) (hi : i < R.length) (y : Nat) (hy : y ∉ R) (hl : y < c.size) (h2 : at_ c y ≠ 35) : Gone a b c d i (R ++ [y]) := by
  refine ⟨?_, fun x hx => ?_, fun x hx => ?_, by simp [h.head], fun j hj z hz hlz => ?_⟩
  · rw [List.nodup_append]
    refine ⟨h.nd, by simp, fun x hx z hz e => ?_⟩
    rw [List.mem_singleton] at hz
    subst hz; subst e
    exact hy hx
  · rcases List.mem_append.1 hx with k | k
    · exact h.lt x k
    · rw [List.mem_singleton] at k; rw [k]; exact hl
  · rcases List.mem_append.1 hx with k | k
    · exact h.open_ x k
    · rw [List.mem_singleton] at k; rw [k]; exact h2
  · rw [getD_app (by omega)] at hz
    exact List.mem_append_left _ (h.done j hj z hz hlz)
theorem Gone.next {a b : Nat} {c : ByteArray} {d i : Nat} {R : List Nat} (h : Gone a b c d i R) (hd : ∀ y, y ∈ side a b (R.getD i 0) → isL (at_ c y) = true → y ∈ R) : Gone a b c d (i + 1) R :=
  ⟨h.nd, h.lt, h.open_, h.head, fun j hj y hy hl => by
    rcases Nat.lt_succ_iff_lt_or_eq.1 hj with h1 | h1
    · exact h.done j h1 y hy hl
    · rw [h1] at hy; exact hd y hy hl⟩
/-- All lanes are among them. -/
theorem Gone.finish {a b : Nat} {c : ByteArray} {d i : Nat} {R : List Nat} (h : Gone a b c d i R) (hi : R.length ≤ i) (hS : Sides a b c) (hN : RightN a b (at_ c)) (hd : d ∈ Fl.docks a b (at_ c)) : ∀ l, l ∈ pick isL (at_ c) c.size → l ∈ R :=
  all_lanes hS hN hd (fun x => x ∈ R) h.head fun x y hx hy hl => by
    obtain ⟨j, hj, rfl⟩ := List.getElem_of_mem hx
    refine h.done j (by omega) y ?_ hl
    rw [List.getD, List.getElem?_eq_getElem hj]
    exact hy
theorem dock_in {a b : Nat} {c : ByteArray} (hS : Sides a b c) (hN : RightN a b (at_ c)) {k d : Nat} (hk : k < (pick isD (at_ c) c.size).length) (h : IsFirst c (48 + k) d) : d ∈ Fl.docks a b (at_ c) ∧ d < c.size ∧ at_ c d ≠ 35 := by
  have h8 := hN.docks.few
  have e : Fl.docks a b (at_ c) = pick isD (at_ c) c.size := by unfold Fl.docks; rw [hS.sz]
  rw [e] at h8 ⊢
  refine ⟨mem_pick.2 ⟨h.1, ?_⟩, h.1, by rw [h.2.1]; omega⟩
  rw [h.2.1]
  unfold isD
  simp
  omega
end Go.Proofs.YtcbhjopmafhanaaDoor
