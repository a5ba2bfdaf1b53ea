/-
  Layer 9: who holds which zone: plain facts; the program's table in memory.
-/
import Derived.Test.YtnbdgijppdiecaaBkA
set_option linter.unusedVariables false
set_option maxRecDepth 100000
namespace Go.Proofs.Ytnbdgijppdiecaa
namespace Lk
open Go.RowKit Bk

/-- A robot, or nobody. -/
abbrev Ow := Int × Bool
def Rb (r : Int) : Prop := 0 ≤ r ∧ r < 8
def Zo (z : Int) : Prop := 0 ≤ z ∧ z < 26
instance (r : Int) : Decidable (Rb r) := by unfold Rb; exact inferInstance
instance (z : Int) : Decidable (Zo z) := by unfold Zo; exact inferInstance
/-- Who holds a zone. -/
def at9 (T : List Ow) (z : Int) : Ow := if Zo z then T.getD z.toNat (0, false) else (0, false)
def hold9 (T : List Ow) (r z : Int) : Int × List Ow := if ¬ (Rb r ∧ Zo z) then (1, T) else if (at9 T z).2 = true ∧ (at9 T z).1 ≠ r then (3, T) else (0, T.set z.toNat (r, true))
def rel9 (T : List Ow) (r z : Int) : Int × List Ow := if ¬ (Rb r ∧ Zo z) then (1, T) else if at9 T z = (r, true) then (0, T.set z.toNat (0, false)) else (2, T)
def act9 (T : List Ow) (q : Bool) (r z : Int) : Int × List Ow := if q then rel9 T r z else hold9 T r z
/-- The zones of an owner. -/
def zns (T : List Ow) (p : Ow) (n : Nat) : List Int := ((List.range n).filter fun z => T.getD z (0, false) == p).map fun (z : Nat) => (z : Int)
theorem zns_succ (T : List Ow) (p : Ow) (n : Nat) : zns T p (n + 1) = zns T p n ++ if T.getD n (0, false) = p then [(n : Int)] else [] := by
  unfold zns
  rw [List.range_succ, List.filter_append, List.map_append]
  by_cases h : T.getD n (0, false) = p
  · rw [if_pos h, List.filter_cons, if_pos (by rw [h]; simp)]; rfl
  · rw [if_neg h, List.filter_cons, if_neg (by simpa using h)]; rfl
theorem zns_len (T : List Ow) (p : Ow) (n : Nat) : (zns T p n).length ≤ n := by
  unfold zns
  rw [List.length_map]
  exact Nat.le_trans (List.length_filter_le _ _) (by simp)
theorem mem_zns {T : List Ow} {p : Ow} {n : Nat} {z : Int} : z ∈ zns T p n ↔ 0 ≤ z ∧ z < n ∧ T.getD z.toNat (0, false) = p := by
  unfold zns
  simp only [List.mem_map, List.mem_filter, List.mem_range, beq_iff_eq]
  constructor
  · rintro ⟨k, ⟨h1, h2⟩, rfl⟩
    exact ⟨by omega, by omega, by simpa using h2⟩
  · rintro ⟨h1, h2, h3⟩
    exact ⟨z.toNat, ⟨by omega, h3⟩, by omega⟩
/-- A table as it can be. -/
structure Tb (T : List Ow) : Prop where
  len : T.length = 26
  ok : ∀ z, z < 26 → ((T.getD z (0, false)).2 = false → (T.getD z (0, false)).1 = 0) ∧ ((T.getD z (0, false)).2 = true → Rb (T.getD z (0, false)).1)
def T0 : List Ow := List.replicate 26 (0, false)
theorem getD_rep (z : Nat) : T0.getD z (0, false) = (0, false) := by
  unfold T0
  rw [List.getD_eq_getElem?_getD, List.getElem?_replicate]
  split <;> rfl
theorem Tb.start : Tb T0 := ⟨by simp [T0], fun z _ => by rw [getD_rep]; exact ⟨fun _ => rfl, fun h => by cases h⟩⟩
theorem getD_set9 {T : List Ow} {z y : Nat} {p : Ow} (hz : z < T.length) : (T.set z p).getD y (0, false) = if y = z then p else T.getD y (0, false) := by
  rw [List.getD_eq_getElem?_getD, List.getD_eq_getElem?_getD, List.getElem?_set]
  by_cases e : z = y
  · subst e; rw [if_pos rfl, if_pos hz, if_pos rfl]; rfl
  · rw [if_neg e, if_neg (fun h => e h.symm)]
theorem Tb.set {T : List Ow} (h : Tb T) {z : Nat} (hz : z < 26) {p : Ow} (h1 : p.2 = false → p.1 = 0) (h2 : p.2 = true → Rb p.1) : Tb (T.set z p) := by
  refine ⟨by rw [List.length_set]; exact h.len, fun y hy => ?_⟩
  rw [getD_set9 (by rw [h.len]; exact hz)]
  split
  · exact ⟨h1, h2⟩
  · exact h.ok y hy
theorem at9_set {T : List Ow} (h : Tb T) {z y : Int} (hz : Zo z) (p : Ow) : at9 (T.set z.toNat p) y = if y = z then p else at9 T y := by
  unfold at9
  have hz1 := hz.1
  have hz2 := hz.2
  by_cases hy : Zo y
  · have hy1 := hy.1
    rw [if_pos hy, if_pos hy, getD_set9 (by rw [h.len]; omega)]
    by_cases e : y = z
    · subst e; rw [if_pos rfl, if_pos rfl]
    · rw [if_neg (by omega), if_neg e]
  · rw [if_neg hy, if_neg hy]
    rw [if_neg]
    rintro rfl; exact hy hz
theorem Tb.hold {T : List Ow} (h : Tb T) (r z : Int) : Tb (hold9 T r z).2 := by
  unfold hold9
  by_cases h1 : Rb r ∧ Zo z
  · rw [if_neg (fun q => q h1)]
    split
    · exact h
    · exact h.set (by have := h1.2.1; have := h1.2.2; omega) (fun e => by cases e) (fun _ => h1.1)
  · rw [if_pos h1]; exact h
theorem Tb.rel {T : List Ow} (h : Tb T) (r z : Int) : Tb (rel9 T r z).2 := by
  unfold rel9
  by_cases h1 : Rb r ∧ Zo z
  · rw [if_neg (fun q => q h1)]
    split
    · exact h.set (by have := h1.2.1; have := h1.2.2; omega) (fun _ => rfl) (fun e => by cases e)
    · exact h
  · rw [if_pos h1]; exact h
theorem Tb.act {T : List Ow} (h : Tb T) (q : Bool) (r z : Int) : Tb (act9 T q r z).2 := by
  unfold act9
  split
  · exact h.rel r z
  · exact h.hold r z

/-! ### The table in memory -/
def ocl : List Ow → List Value
  | [] => []
  | x :: l => .int .i64 x.1 :: .bool x.2 :: ocl l
theorem ocl_get : ∀ (l : List Ow) (i : Nat), i < l.length → (ocl l)[i * 2]? = some (.int .i64 (l.getD i (0, false)).1) ∧ (ocl l)[i * 2 + 1]? = some (.bool (l.getD i (0, false)).2)
  | [], i, h => by simp at h
  | x :: l, 0, h => by simp [ocl]
  | x :: l, i + 1, h => by
    have ih := ocl_get l i (by simpa using h)
    have e1 : (i + 1) * 2 = i * 2 + 2 := by omega
    have e2 : (i + 1) * 2 + 1 = i * 2 + 1 + 2 := by omega
    rw [e2, e1]
    simpa [ocl] using ih
theorem ocl_set : ∀ (l : List Ow) (i : Nat) (p : Ow), ((ocl l).set (i * 2) (.int .i64 p.1)).set (i * 2 + 1) (.bool p.2) = ocl (l.set i p)
  | [], i, p => rfl
  | x :: l, 0, p => by simp [ocl]
  | x :: l, i + 1, p => by
    have e1 : (i + 1) * 2 = i * 2 + 1 + 1 := by omega
    have e2 : (i + 1) * 2 + 1 = i * 2 + 1 + 1 + 1 := by omega
    rw [e2, e1]
    simp only [ocl, List.set_cons_succ]
    rw [ocl_set l i p]
/-- A table lies in block g. -/
structure LkAt (w : World) (g : Nat) (T : List Ow) : Prop where
  box : w.heap[g]? = some (.cells (ocl T).toArray 51 (0, 0))
  tb : Tb T
theorem LkAt.lt {w : World} {g : Nat} {T : List Ow} (h : LkAt w g T) : g < w.heap.size := lt_of_heap h.box
theorem LkAt.cells {w : World} {g : Nat} {T : List Ow} (h : LkAt w g T) {z : Nat} (hz : z < 26) : w.cell? ⟨g, z * 2, none⟩ = some (.int .i64 (T.getD z (0, false)).1) ∧ w.cell? ⟨g, z * 2 + 1, none⟩ = some (.bool (T.getD z (0, false)).2) ∧ w.frozen? ⟨g, z * 2, none⟩ = false ∧ w.frozen? ⟨g, z * 2 + 1, none⟩ = false := by
  obtain ⟨h1, h2⟩ := ocl_get T z (by rw [h.tb.len]; exact hz)
  refine ⟨?_, ?_, frozen_of_row w g _ _ _ h.box, frozen_of_row w g _ _ _ h.box⟩
  · rw [cell_of_row w g _ _ _ _ h.box, ← h1]; simp
  · rw [cell_of_row w g _ _ _ _ h.box, ← h2]; simp
theorem LkAt.same {w w' : World} {g : Nat} {T : List Ow} (h : LkAt w g T) (hb : w'.heap[g]? = w.heap[g]?) : LkAt w' g T := ⟨hb.trans h.box, h.tb⟩
theorem LkAt.later {w w' : World} {g : Nat} {T : List Ow} (h : LkAt w g T) (hb : Below w.heap.size w w') : LkAt w' g T := h.same (hb.block g h.lt)
theorem LkAt.turn {w w' : World} {g : Nat} {T : List Ow} {F F' : Nat → Prop} (h : LkAt w g T) (ht : Turn F F' w w') (hF : ¬ F g) : LkAt w' g T := h.same (ht.block g h.lt hF)
theorem LkAt.put {w : World} {g : Nat} {T : List Ow} (h : LkAt w g T) {z : Nat} (hz : z < 26) {p : Ow} (h1 : p.2 = false → p.1 = 0) (h2 : p.2 = true → Rb p.1) :
    LkAt ((w.setCell ⟨g, z * 2, none⟩ (.int .i64 p.1)).setCell ⟨g, z * 2 + 1, none⟩ (.bool p.2)) g (T.set z p) := by
  refine ⟨?_, h.tb.set hz h1 h2⟩
  have k1 := heap_setCell_same w g (z * 2) _ _ (.int .i64 p.1) h.box
  have k2 := heap_setCell_same _ g (z * 2 + 1) _ _ (.bool p.2) k1
  rw [k2, ← ocl_set]
  simp
/-- Only the table is written. -/
def Only (g : Nat) (w w' : World) : Prop := Turn (fun k => k = g) (fun k => k = g) w w'
theorem Only.refl (g : Nat) (w : World) : Only g w w := Turn.refl _ _
theorem Only.trans {g : Nat} {a b c : World} (h : Only g a b) (k : Only g b c) : Only g a c := Turn.trans h k
theorem Only.of {g : Nat} {w w' : World} (h : Below w.heap.size w w') : Only g w w' := Turn.ofBelow h _
theorem Only.put2 {g : Nat} {w w' : World} (h : Only g w w') (i j : Nat) (u v : Value) : Only g w ((w'.setCell ⟨g, i, none⟩ u).setCell ⟨g, j, none⟩ v) := (Turn.put h u rfl).put v rfl
theorem Only.below {g B : Nat} {w w' : World} (h : Only g w w') (hB : B ≤ w.heap.size) (hg : B ≤ g) : Below B w w' := Turn.below h B hB (fun k hk => by obtain rfl : k = g := hk; exact hg)
theorem LkAt.new (w : World) : LkAt (w.alloc (.cells (ocl T0).toArray 51)) w.heap.size T0 := ⟨heap_alloc_new w _, Tb.start⟩
theorem new9_any (w : World) : Calls Try.prog 8 #[] w fun e w' => e = .returned (.pointer (some ⟨w.heap.size, 0, none⟩)) ∧ w' = w.alloc (.cells (ocl T0).toArray 51) := by
  go_enter Try.func8, Try.ntmps8
  go_wp2_with fail
  go_ret
  exact ⟨rfl, rfl⟩
theorem isZone9_any (z : Int) (w : World) : Calls Try.prog 23 #[.int .i64 z] w fun e w' => e = .returned (.bool (decide (Zo z))) ∧ w = w' := by
  by_cases h1 : 0 ≤ z
  · by_cases h2 : z < 26
    · have d1 : decide (0 ≤ z) = true := decide_eq_true h1
      have d2 : decide (z < 26) = true := decide_eq_true h2
      rw [decide_eq_true (show Zo z from ⟨h1, h2⟩)]
      go_enter Try.func23, Try.ntmps23
      go_wp2
      go_ret
      exact ⟨rfl, rfl⟩
    · have d1 : decide (0 ≤ z) = true := decide_eq_true h1
      have d2 : decide (z < 26) = false := decide_eq_false h2
      rw [decide_eq_false (show ¬ Zo z from fun h => h2 h.2)]
      go_enter Try.func23, Try.ntmps23
      go_wp2
      go_ret
      exact ⟨rfl, rfl⟩
  · have d1 : decide (0 ≤ z) = false := decide_eq_false h1
    rw [decide_eq_false (show ¬ Zo z from fun h => h1 h.1)]
    go_enter Try.func23, Try.ntmps23
    go_wp2
    go_ret
    exact ⟨rfl, rfl⟩
theorem isRobot9_any (z : Int) (w : World) : Calls Try.prog 26 #[.int .i64 z] w fun e w' => e = .returned (.bool (decide (Rb z))) ∧ w = w' := by
  by_cases h1 : 0 ≤ z
  · by_cases h2 : z < 8
    · have d1 : decide (0 ≤ z) = true := decide_eq_true h1
      have d2 : decide (z < 8) = true := decide_eq_true h2
      rw [decide_eq_true (show Rb z from ⟨h1, h2⟩)]
      go_enter Try.func26, Try.ntmps26
      go_wp2
      go_ret
      exact ⟨rfl, rfl⟩
    · have d1 : decide (0 ≤ z) = true := decide_eq_true h1
      have d2 : decide (z < 8) = false := decide_eq_false h2
      rw [decide_eq_false (show ¬ Rb z from fun h => h2 h.2)]
      go_enter Try.func26, Try.ntmps26
      go_wp2
      go_ret
      exact ⟨rfl, rfl⟩
  · have d1 : decide (0 ≤ z) = false := decide_eq_false h1
    rw [decide_eq_false (show ¬ Rb z from fun h => h1 h.1)]
    go_enter Try.func26, Try.ntmps26
    go_wp2
    go_ret
    exact ⟨rfl, rfl⟩
end Lk
end Go.Proofs.Ytnbdgijppdiecaa
