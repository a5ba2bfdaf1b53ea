/-
  Layer 10: Zones: a set of cells that are gone to; zones sorted, each once.
-/
import Derived.Test.YtokjnmgbgflgnaaGreatDoorTrB
import Derived.Test.YtokjnmgbgflgnaaGreatDoorTrLay
import Derived.Lib.OwnBridge
import Derived.Sort.OwnSortedInts
set_option linter.unusedVariables false
set_option maxRecDepth 100000
namespace Go.Proofs.YtokjnmgbgflgnaaGreatDoor
namespace Tr
open Go.RowKit Fl Pt Go.Maps Go.Sort

/-! ### Plain -/
/-- The zones of a floor that acts go through, rising. -/
def zonL (s : ByteArray) (L : List Ac) : List Nat := (List.range 26).filter fun z => L.any fun a => a.1 == 1 && (isL (bAt s a.2.1) && (bAt s a.2.1 - 97 == z))
def goneL (L : List Ac) (c : Int) : Bool := L.any fun a => a.1 == 1 && (a.2.1 == c)
theorem strict_ext : ∀ (l m : List Int), l.Pairwise (· < ·) → m.Pairwise (· < ·) → (∀ x, x ∈ l ↔ x ∈ m) → l = m
  | [], [], _, _, _ => rfl
  | [], y :: m, _, _, h => absurd ((h y).2 (by simp)) (by simp)
  | x :: l, [], _, _, h => absurd ((h x).1 (by simp)) (by simp)
  | x :: l, y :: m, hl, hm, h => by
    rw [List.pairwise_cons] at hl hm
    have hxy : x = y := by
      rcases List.mem_cons.1 ((h x).1 (by simp)) with e | e
      · exact e
      · rcases List.mem_cons.1 ((h y).2 (by simp)) with e2 | e2
        · exact e2.symm
        · have h1 := hm.1 x e
          have h2 := hl.1 y e2
          omega
    subst hxy
    rw [strict_ext l m hl.2 hm.2 (fun z => ?_)]
    constructor
    · intro hz
      rcases List.mem_cons.1 ((h z).1 (by simp [hz])) with e | e
      · subst e; have := hl.1 z hz; omega
      · exact e
    · intro hz
      rcases List.mem_cons.1 ((h z).2 (by simp [hz])) with e | e
      · subst e; have := hm.1 z hz; omega
      · exact e
theorem kept_at (d : Array Int) {j : Nat} (h : Lib.keeps d j = true) : j = 0 ∨ d[j]! ≠ d[j - 1]! := by simpa [Lib.keeps] using h
/-- What compacting leaves of a sorted list. -/
theorem compact_strict (zs : List Int) (h : zs.Pairwise (· ≤ ·)) : (Lib.compact zs).Pairwise (· < ·) ∧ ∀ x, x ∈ Lib.compact zs ↔ x ∈ zs := by
  have hget : ∀ j, zs.toArray[j]! = zs.getD j 0 := fun j => by
    rw [getElem!_def]
    simp only [List.getElem?_toArray, List.getD]
    cases zs[j]? <;> rfl
  have hmono : ∀ i j, i ≤ j → j < zs.length → zs.getD i 0 ≤ zs.getD j 0 := fun i j hij hj => by
    rcases Nat.lt_or_ge i j with h1 | h1
    · have := (List.pairwise_iff_getElem.1 h) i j (by omega) hj h1
      simpa [List.getD, List.getElem?_eq_getElem hj, List.getElem?_eq_getElem (show i < zs.length by omega)] using this
    · obtain rfl : i = j := by omega
      exact Int.le_refl _
  unfold Lib.compact Lib.compactUpTo
  constructor
  · rw [List.pairwise_map]
    have hr : ((List.range zs.length).filter (Lib.keeps zs.toArray)).Pairwise (· < ·) := List.Pairwise.sublist List.filter_sublist List.pairwise_lt_range
    refine (List.Pairwise.and_mem.1 hr).imp (fun {i j} q => ?_)
    obtain ⟨h1, h2, h3⟩ := q
    have hj := List.mem_filter.1 h2
    have hjl : j < zs.length := List.mem_range.1 hj.1
    rw [hget, hget]
    rcases kept_at _ hj.2 with e | e
    · omega
    · rw [hget, hget] at e
      have a1 := hmono i (j - 1) (by omega) (by omega)
      have a2 := hmono (j - 1) j (by omega) hjl
      omega
  · intro x
    simp only [List.mem_map, List.mem_filter, List.mem_range]
    constructor
    · rintro ⟨j, ⟨hj, _⟩, rfl⟩
      rw [hget, List.getD, List.getElem?_eq_getElem hj]
      exact List.getElem_mem hj
    · intro hx
      obtain ⟨j, hj, e0⟩ := List.getElem_of_mem hx
      have e : zs.getD j 0 = x := by rw [List.getD, List.getElem?_eq_getElem hj]; exact e0
      clear hx e0
      induction j with
      | zero => exact ⟨0, ⟨hj, Lib.keeps_lt_one _ 0 (by omega)⟩, by rw [hget]; exact e⟩
      | succ j ih =>
        by_cases q : zs.getD (j + 1) 0 = zs.getD j 0
        · exact ih (by omega) (by rw [← q]; exact e)
        · refine ⟨j + 1, ⟨hj, Lib.keeps_pos ?_⟩, by rw [hget]; exact e⟩
          rw [hget, hget]; exact q
theorem mem_zonL {s : ByteArray} {L : List Ac} {z : Nat} : z ∈ zonL s L ↔ ∃ a, a ∈ L ∧ a.1 = 1 ∧ isL (bAt s a.2.1) = true ∧ bAt s a.2.1 - 97 = z := by
  unfold zonL
  simp only [List.mem_filter, List.mem_range, List.any_eq_true, Bool.and_eq_true, beq_iff_eq]
  constructor
  · rintro ⟨_, a, h1, h2, h3, h4⟩; exact ⟨a, h1, h2, h3, h4⟩
  · rintro ⟨a, h1, h2, h3, h4⟩
    refine ⟨?_, a, h1, h2, h3, h4⟩
    unfold isL at h3
    simp only [Bool.and_eq_true, decide_eq_true_eq] at h3
    omega
/-- The zones of those lanes that were gone to. -/
def rawL (s : ByteArray) (L : List Ac) : List Nat := ((lanL s).filter fun (c : Nat) => goneL L (c : Int)).map fun (c : Nat) => at_ s c - 97
theorem mem_rawL {s : ByteArray} {L : List Ac} {z : Nat} : z ∈ rawL s L ↔ z ∈ zonL s L := by
  rw [mem_zonL]
  unfold rawL goneL
  simp only [List.mem_map, List.mem_filter, List.any_eq_true, Bool.and_eq_true, beq_iff_eq]
  constructor
  · rintro ⟨c, ⟨hc, a, h1, h2, h3⟩, h4⟩
    obtain ⟨q1, q2⟩ := mem_pick.1 hc
    refine ⟨a, h1, h2, ?_, ?_⟩
    · rw [h3, bAt_in5 s c q1]; exact q2
    · rw [h3, bAt_in5 s c q1]; exact h4
  · rintro ⟨a, h1, h2, h3, h4⟩
    obtain ⟨k, hk, hks, e⟩ := bAt_in (s := s) (c := a.2.1) (fun e => by rw [e] at h3; revert h3; decide)
    refine ⟨k, ⟨mem_pick.2 ⟨hks, by rw [← e]; exact h3⟩, a, h1, h2, hk⟩, by rw [← e]; exact h4⟩
def toI (l : List Nat) : List Int := l.map fun n : Nat => (n : Int)
theorem toI_length (l : List Nat) : (toI l).length = l.length := by simp [toI]
theorem toI_getD (l : List Nat) (j : Nat) : (toI l).getD j 0 = ((l.getD j 0 : Nat) : Int) := by
  unfold toI
  simp only [List.getD, List.getElem?_map]
  cases l[j]? <;> rfl
theorem toI_ic (l : List Nat) : (toI l).map (Value.int .i64) = ic l := by simp [toI, ic]
theorem zones_eq (s : ByteArray) (L : List Ac) : Lib.compact ((toI (rawL s L)).mergeSort fun x y => decide (x ≤ y)) = toI (zonL s L) := by
  have hs : ((toI (rawL s L)).mergeSort fun x y => decide (x ≤ y)).Pairwise (· ≤ ·) := by
    have := List.pairwise_mergeSort (le := fun x y : Int => decide (x ≤ y)) (fun a b c h1 h2 => by simp only [decide_eq_true_eq] at *; omega) (fun a b => by simp only [Bool.or_eq_true, decide_eq_true_eq]; omega) (toI (rawL s L))
    exact this.imp (fun h => by simpa using h)
  obtain ⟨h1, h2⟩ := compact_strict _ hs
  refine strict_ext _ _ h1 ?_ (fun x => ?_)
  · unfold toI
    rw [List.pairwise_map]
    refine List.Pairwise.imp (fun {a b} h => ?_) (List.Pairwise.sublist (List.filter_sublist (p := fun z => L.any fun a => a.1 == 1 && (isL (bAt s a.2.1) && (bAt s a.2.1 - 97 == z)))) (List.pairwise_lt_range (n := 26)))
    omega
  · rw [h2, List.mem_mergeSort]
    unfold toI
    simp only [List.mem_map]
    constructor
    · rintro ⟨z, hz, rfl⟩; exact ⟨z, mem_rawL.1 hz, rfl⟩
    · rintro ⟨z, hz, rfl⟩; exact ⟨z, mem_rawL.2 hz, rfl⟩

/-! ### Sorted, each once -/
theorem Own.ints {w : World} {base : Nat} {v : Value} {xs : List Nat} (h : Own w base v xs) : w.ownsRow base 3 1 v (toI xs).length ((toI xs).map (Value.int .i64)) := by rw [toI_length, toI_ic]; exact h
/-- Numbers of one's own. -/
def OwI (w : World) (base : Nat) (v : Value) (zs : List Int) : Prop := w.ownsRow base 3 1 v zs.length (zs.map (Value.int .i64))
theorem sort_any {w : World} {base : Nat} {A : Option Addr} {n c : Nat} {zs : List Int} (h : OwI w base (.slice A n c) zs) (hz : zs.length ≤ 1000000) (hbase : base ≤ w.heap.size) :
    Calls Tryz.prog 38 #[.slice A n c] w fun e w1 => e = .returned (.tuple #[]) ∧ OwI w1 base (.slice A n c) (zs.mergeSort fun x y => decide (x ≤ y)) ∧ Below base w w1 := by
  by_cases h0 : zs = []
  · subst h0
    have hn : n = 0 := by
      rcases h.2 with ⟨e, _⟩ | ⟨g, cap, cur, e, _⟩
      · injection e
      · injection e
    subst hn
    exact (Any.slices_Sort_int_none Tryz.lays189 A c w).mono (fun e w' ⟨h1, h2⟩ => ⟨h1, by rw [h2]; simpa using h, by rw [h2]; exact Below.refl _ _⟩)
  · have hv : (Value.slice A n c) ≠ .slice none 0 0 := fun e => by
      rcases h.2 with ⟨_, e2⟩ | ⟨g, cap, cur, e2, _⟩
      · exact h0 (List.eq_nil_of_length_eq_zero e2)
      · rw [e] at e2; cases e2
    obtain ⟨g, cap, e, hbg, hgl, hncap, hcm, hlen, hH⟩ := Lib.holds_of_ownsRow h hv
    injection e with e1 e2 e3
    subst e1 e2 e3
    refine (Any.slices_Sort_int Tryz.lays189 g 0 c zs w hH hgl (by omega)).mono (fun e w1 ⟨h1, n, os, h2⟩ => ⟨h1, ?_, ?_⟩)
    · rcases h.2 with ⟨e, _⟩ | ⟨g', cap', cur, e, hbase', hb, k1, k2, k3, k4⟩
      · cases e
      · injection e with e1 e2 e3
        injection e1 with e1
        injection e1 with e1
        subst e1 e3
        have hl2 : (zs.mergeSort fun x y => decide (x ≤ y)).length = zs.length := List.length_mergeSort zs
        have := ownsRow_sortedI (n := n) (os := os) (ts := zs.mergeSort fun x y => decide (x ≤ y)) hl2 hbase' hb k1 k2 k3
        rw [h2]
        unfold OwI
        rw [hl2]
        exact this
    · rw [h2]
      exact Below.grown (Below.refl _ _) (grownBy_sortedI _) hbase (fun k hk => by injection hk with hk; subst hk; exact hbg)
theorem compact_any {w : World} {base : Nat} {A : Option Addr} {n c : Nat} {zs : List Int} (h : OwI w base (.slice A n c) zs) (hz : zs.length ≤ 1000000) (hbase : base ≤ w.heap.size) :
    Calls Tryz.prog 39 #[.slice A n c] w fun e w1 => e = .returned (.slice A (Lib.compact zs).length c) ∧ OwI w1 base (.slice A (Lib.compact zs).length c) (Lib.compact zs) ∧ Below base w w1 := by
  by_cases h0 : zs = []
  · subst h0
    have hn : n = 0 := by
      rcases h.2 with ⟨e, _⟩ | ⟨g, cap, cur, e, _⟩
      · injection e
      · injection e
    subst hn
    exact (Any.slices_Compact_int_empty Tryz.laysNm220 A c w).mono (fun e w' ⟨h1, h2⟩ => ⟨h1, by rw [h2]; exact h, by rw [h2]; exact Below.refl _ _⟩)
  · have hv : (Value.slice A n c) ≠ .slice none 0 0 := fun e => by
      rcases h.2 with ⟨_, e2⟩ | ⟨g, cap, cur, e2, _⟩
      · exact h0 (List.eq_nil_of_length_eq_zero e2)
      · rw [e] at e2; cases e2
    obtain ⟨g, cap, e, hbg, hgl, hncap, hcm, hlen, hH⟩ := Lib.holds_of_ownsRow h hv
    injection e with e1 e2 e3
    subst e1 e2 e3
    have hcl := Lib.compact_length_le zs
    refine (Any.slices_Compact_int Tryz.laysNm220 g 0 c zs w hH (by omega) hncap).mono (fun e w1 ⟨h1, q, h2⟩ => ⟨h1, ?_, ?_⟩)
    · have := Lib.ownsRow_putRow (q := q) (k := (Lib.compact zs).length) (ys := Lib.compact zs ++ List.replicate (zs.length - (Lib.compact zs).length) 0) h (by simp; omega) hcl
      rw [List.take_left] at this
      rw [h2]
      exact this
    · rw [h2]
      exact Lib.below_putRow (Below.refl _ _) hbg
end Tr
end Go.Proofs.YtokjnmgbgflgnaaGreatDoor
