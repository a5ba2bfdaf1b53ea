/-
  Layer 9: who holds which zone: plain facts; the program's table in memory.
  Layer 9: the program's functions on a table: refuse, Owner, zones, Of, Free, Hold, Release.
-/
import Derived.Test.YtakgkocdkondhaaGreatDoorBkA
import Derived.Deep.RegionHeld3
import Derived.StillTailTactics
set_option linter.unusedVariables false
set_option maxRecDepth 100000
section
namespace Go.Proofs.YtakgkocdkondhaaGreatDoor
namespace Lk
open Go.RowKit Bk

/-- A robot, or nobody. -/
abbrev Ow := Int × Bool
def Rb (r : Int) : Prop := 0 ≤ r ∧ r < 8
def Zo (z : Int) : Prop := 0 ≤ z ∧ z < 26
instance (r : Int) : Decidable (Rb r) := by unfold Rb; exact inferInstance
instance (z : Int) : Decidable (Zo z) := by unfold Zo; exact inferInstance
/-- Who holds a zone. -/
def at9 (T : List Ow) (z : Int) : Ow := if Zo z then T.getD z.toNat (0, false) else (0, false)
def hold9 (T : List Ow) (r z : Int) : Int × List Ow := if ¬ (Rb r ∧ Zo z) then (1, T) else if (at9 T z).2 = true ∧ (at9 T z).1 ≠ r then (3, T) else (0, T.set z.toNat (r, true))
def rel9 (T : List Ow) (r z : Int) : Int × List Ow := if ¬ (Rb r ∧ Zo z) then (1, T) else if at9 T z = (r, true) then (0, T.set z.toNat (0, false)) else (2, T)
def act9 (T : List Ow) (q : Bool) (r z : Int) : Int × List Ow := if q then rel9 T r z else hold9 T r z
/-- The zones of an owner. -/
def zns (T : List Ow) (p : Ow) (n : Nat) : List Int := ((List.range n).filter fun z => T.getD z (0, false) == p).map fun (z : Nat) => (z : Int)
theorem zns_succ (T : List Ow) (p : Ow) (n : Nat) : zns T p (n + 1) = zns T p n ++ if T.getD n (0, false) = p then [(n : Int)] else [] := by
  unfold zns
  rw [List.range_succ, List.filter_append, List.map_append]
  by_cases h : T.getD n (0, false) = p
  · rw [if_pos h, List.filter_cons, if_pos (by rw [h]; simp)]; rfl
  · rw [if_neg h, List.filter_cons, if_neg (by simpa using h)]; rfl
theorem zns_len (T : List Ow) (p : Ow) (n : Nat) : (zns T p n).length ≤ n := by
  unfold zns
  rw [List.length_map]
  exact Nat.le_trans (List.length_filter_le _ _) (by simp)
theorem mem_zns {T : List Ow} {p : Ow} {n : Nat} {z : Int} : z ∈ zns T p n ↔ 0 ≤ z ∧ z < n ∧ T.getD z.toNat (0, false) = p := by
  unfold zns
  simp only [List.mem_map, List.mem_filter, List.mem_range, beq_iff_eq]
  constructor
  · rintro ⟨k, ⟨h1, h2⟩, rfl⟩
    exact ⟨by omega, by omega, by simpa using h2⟩
  · rintro ⟨h1, h2, h3⟩
    exact ⟨z.toNat, ⟨by omega, h3⟩, by omega⟩
/-- A table as it can be. -/
structure Tb (T : List Ow) : Prop where
  len : T.length = 26
  ok : ∀ z, z < 26 → ((T.getD z (0, false)).2 = false → (T.getD z (0, false)).1 = 0) ∧ ((T.getD z (0, false)).2 = true → Rb (T.getD z (0, false)).1)
def T0 : List Ow := List.replicate 26 (0, false)
theorem getD_rep (z : Nat) : T0.getD z (0, false) = (0, false) := by
  unfold T0
  rw [List.getD_eq_getElem?_getD, List.getElem?_replicate]
  split <;> rfl
theorem Tb.start : Tb T0 := ⟨by simp [T0], fun z _ => by rw [getD_rep]; exact ⟨fun _ => rfl, fun h => by cases h⟩⟩
theorem getD_set9 {T : List Ow} {z y : Nat} {p : Ow} (hz : z < T.length) : (T.set z p).getD y (0, false) = if y = z then p else T.getD y (0, false) := by
  rw [List.getD_eq_getElem?_getD, List.getD_eq_getElem?_getD, List.getElem?_set]
  by_cases e : z = y
  · subst e; rw [if_pos rfl, if_pos hz, if_pos rfl]; rfl
  · rw [if_neg e, if_neg (fun h => e h.symm)]
theorem Tb.set {T : List Ow} (h : Tb T) {z : Nat} (hz : z < 26) {p : Ow} (h1 : p.2 = false → p.1 = 0) (h2 : p.2 = true → Rb p.1) : Tb (T.set z p) := by
  refine ⟨by rw [List.length_set]; exact h.len, fun y hy => ?_⟩
  rw [getD_set9 (by rw [h.len]; exact hz)]
  split
  · exact ⟨h1, h2⟩
  · exact h.ok y hy
theorem at9_set {T : List Ow} (h : Tb T) {z y : Int} (hz : Zo z) (p : Ow) : at9 (T.set z.toNat p) y = if y = z then p else at9 T y := by
  unfold at9
  have hz1 := hz.1
  have hz2 := hz.2
  by_cases hy : Zo y
  · have hy1 := hy.1
    rw [if_pos hy, if_pos hy, getD_set9 (by rw [h.len]; omega)]
    by_cases e : y = z
    · subst e; rw [if_pos rfl, if_pos rfl]
    · rw [if_neg (by omega), if_neg e]
  · rw [if_neg hy, if_neg hy]
    rw [if_neg]
    rintro rfl; exact hy hz
/-! ### The table in memory -/
def ocl : List Ow → List Value
  | [] => []
  | x :: l => .int .i64 x.1 :: .bool x.2 :: ocl l
theorem ocl_get : ∀ (l : List Ow) (i : Nat), i < l.length → (ocl l)[i * 2]? = some (.int .i64 (l.getD i (0, false)).1) ∧ (ocl l)[i * 2 + 1]? = some (.bool (l.getD i (0, false)).2)
  | [], i, h => by simp at h
  | x :: l, 0, h => by simp [ocl]
  | x :: l, i + 1, h => by
    have ih := ocl_get l i (by simpa using h)
    have e1 : (i + 1) * 2 = i * 2 + 2 := by omega
    have e2 : (i + 1) * 2 + 1 = i * 2 + 1 + 2 := by omega
    rw [e2, e1]
    simpa [ocl] using ih
theorem ocl_set : ∀ (l : List Ow) (i : Nat) (p : Ow), ((ocl l).set (i * 2) (.int .i64 p.1)).set (i * 2 + 1) (.bool p.2) = ocl (l.set i p)
  | [], i, p => rfl
  | x :: l, 0, p => by simp [ocl]
  | x :: l, i + 1, p => by
    have e1 : (i + 1) * 2 = i * 2 + 1 + 1 := by omega
    have e2 : (i + 1) * 2 + 1 = i * 2 + 1 + 1 + 1 := by omega
    rw [e2, e1]
    simp only [ocl, List.set_cons_succ]
    rw [ocl_set l i p]
/-- A table lies in block g. -/
structure LkAt (w : World) (g : Nat) (T : List Ow) : Prop where
  box : w.heap[g]? = some (.cells (ocl T).toArray 132 (0, 0))
  tb : Tb T
theorem LkAt.lt {w : World} {g : Nat} {T : List Ow} (h : LkAt w g T) : g < w.heap.size := lt_of_heap h.box
theorem LkAt.cells {w : World} {g : Nat} {T : List Ow} (h : LkAt w g T) {z : Nat} (hz : z < 26) : w.cell? ⟨g, z * 2, none⟩ = some (.int .i64 (T.getD z (0, false)).1) ∧ w.cell? ⟨g, z * 2 + 1, none⟩ = some (.bool (T.getD z (0, false)).2) ∧ w.frozen? ⟨g, z * 2, none⟩ = false ∧ w.frozen? ⟨g, z * 2 + 1, none⟩ = false := by
  obtain ⟨h1, h2⟩ := ocl_get T z (by rw [h.tb.len]; exact hz)
  refine ⟨?_, ?_, frozen_of_row w g _ _ _ h.box, frozen_of_row w g _ _ _ h.box⟩
  · rw [cell_of_row w g _ _ _ _ h.box, ← h1]; simp
  · rw [cell_of_row w g _ _ _ _ h.box, ← h2]; simp
theorem LkAt.same {w w' : World} {g : Nat} {T : List Ow} (h : LkAt w g T) (hb : w'.heap[g]? = w.heap[g]?) : LkAt w' g T := ⟨hb.trans h.box, h.tb⟩
theorem LkAt.later {w w' : World} {g : Nat} {T : List Ow} (h : LkAt w g T) (hb : Below w.heap.size w w') : LkAt w' g T := h.same (hb.block g h.lt)
theorem LkAt.put {w : World} {g : Nat} {T : List Ow} (h : LkAt w g T) {z : Nat} (hz : z < 26) {p : Ow} (h1 : p.2 = false → p.1 = 0) (h2 : p.2 = true → Rb p.1) :
    LkAt ((w.setCell ⟨g, z * 2, none⟩ (.int .i64 p.1)).setCell ⟨g, z * 2 + 1, none⟩ (.bool p.2)) g (T.set z p) := by
  refine ⟨?_, h.tb.set hz h1 h2⟩
  have k1 := heap_setCell_same w g (z * 2) _ _ (.int .i64 p.1) h.box
  have k2 := heap_setCell_same _ g (z * 2 + 1) _ _ (.bool p.2) k1
  rw [k2, ← ocl_set]
  simp
/-- Only the table is written. -/
def Only (g : Nat) (w w' : World) : Prop := Turn (fun k => k = g) (fun k => k = g) w w'
theorem Only.refl (g : Nat) (w : World) : Only g w w := Turn.refl _ _
theorem Only.trans {g : Nat} {a b c : World} (h : Only g a b) (k : Only g b c) : Only g a c := Turn.trans h k
theorem Only.of {g : Nat} {w w' : World} (h : Below w.heap.size w w') : Only g w w' := Turn.ofBelow h _
theorem Only.put2 {g : Nat} {w w' : World} (h : Only g w w') (i j : Nat) (u v : Value) : Only g w ((w'.setCell ⟨g, i, none⟩ u).setCell ⟨g, j, none⟩ v) := (Turn.put h u rfl).put v rfl
theorem LkAt.new (w : World) : LkAt (w.alloc (.cells (ocl T0).toArray 132)) w.heap.size T0 := ⟨heap_alloc_new w _, Tb.start⟩
theorem new9_any (w : World) : Calls Tryz.prog 41 #[] w fun e w' => e = .returned (.pointer (some ⟨w.heap.size, 0, none⟩)) ∧ w' = w.alloc (.cells (ocl T0).toArray 132) := by
  go_enter Tryz.func41, Tryz.ntmps41
  go_wp2_with fail
  go_ret
  exact ⟨rfl, rfl⟩
theorem isZone9_any (z : Int) (w : World) : Calls Tryz.prog 126 #[.int .i64 z] w fun e w' => e = .returned (.bool (decide (Zo z))) ∧ w = w' := by
  by_cases h1 : 0 ≤ z
  · by_cases h2 : z < 26
    · have d1 : decide (0 ≤ z) = true := decide_eq_true h1
      have d2 : decide (z < 26) = true := decide_eq_true h2
      rw [decide_eq_true (show Zo z from ⟨h1, h2⟩)]
      go_enter Tryz.func126, Tryz.ntmps126
      go_wp2
      go_ret
      exact ⟨rfl, rfl⟩
    · have d1 : decide (0 ≤ z) = true := decide_eq_true h1
      have d2 : decide (z < 26) = false := decide_eq_false h2
      rw [decide_eq_false (show ¬ Zo z from fun h => h2 h.2)]
      go_enter Tryz.func126, Tryz.ntmps126
      go_wp2
      go_ret
      exact ⟨rfl, rfl⟩
  · have d1 : decide (0 ≤ z) = false := decide_eq_false h1
    rw [decide_eq_false (show ¬ Zo z from fun h => h1 h.1)]
    go_enter Tryz.func126, Tryz.ntmps126
    go_wp2
    go_ret
    exact ⟨rfl, rfl⟩
theorem isRobot9_any (z : Int) (w : World) : Calls Tryz.prog 148 #[.int .i64 z] w fun e w' => e = .returned (.bool (decide (Rb z))) ∧ w = w' := by
  by_cases h1 : 0 ≤ z
  · by_cases h2 : z < 8
    · have d1 : decide (0 ≤ z) = true := decide_eq_true h1
      have d2 : decide (z < 8) = true := decide_eq_true h2
      rw [decide_eq_true (show Rb z from ⟨h1, h2⟩)]
      go_enter Tryz.func148, Tryz.ntmps148
      go_wp2
      go_ret
      exact ⟨rfl, rfl⟩
    · have d1 : decide (0 ≤ z) = true := decide_eq_true h1
      have d2 : decide (z < 8) = false := decide_eq_false h2
      rw [decide_eq_false (show ¬ Rb z from fun h => h2 h.2)]
      go_enter Tryz.func148, Tryz.ntmps148
      go_wp2
      go_ret
      exact ⟨rfl, rfl⟩
  · have d1 : decide (0 ≤ z) = false := decide_eq_false h1
    rw [decide_eq_false (show ¬ Rb z from fun h => h1 h.1)]
    go_enter Tryz.func148, Tryz.ntmps148
    go_wp2
    go_ret
    exact ⟨rfl, rfl⟩
end Lk
end Go.Proofs.YtakgkocdkondhaaGreatDoor
end

section
namespace Go.Proofs.YtakgkocdkondhaaGreatDoor
namespace Lk
open Go.RowKit Bk

theorem refuse9_any (g : Nat) (r z : Int) (w : World) : Calls Tryz.prog 127 #[.pointer (some ⟨g, 0, none⟩), .int .i64 r, .int .i64 z] w fun e w' => e = .returned (.int .i64 (if Rb r ∧ Zo z then 0 else 1)) ∧ w = w' := by
  by_cases h1 : Rb r
  · by_cases h2 : Zo z
    · rw [if_pos ⟨h1, h2⟩]
      have d1 : decide (Rb r) = true := decide_eq_true h1
      have d2 : decide (Zo z) = true := decide_eq_true h2
      clear h1 h2
      go_enter Tryz.func127, Tryz.ntmps127
      go_wp2_with (first
        | (go_at_call 148; refine (isRobot9_any r _).mono ?_; rintro e w' ⟨rfl, rfl⟩; rw [d1])
        | (go_at_call 126; refine (isZone9_any z _).mono ?_; rintro e w' ⟨rfl, rfl⟩; rw [d2]))
      go_ret
      exact ⟨rfl, rfl⟩
    · rw [if_neg (fun h => h2 h.2)]
      have d1 : decide (Rb r) = true := decide_eq_true h1
      have d2 : decide (Zo z) = false := decide_eq_false h2
      clear h1 h2
      go_enter Tryz.func127, Tryz.ntmps127
      go_wp2_with (first
        | (go_at_call 148; refine (isRobot9_any r _).mono ?_; rintro e w' ⟨rfl, rfl⟩; rw [d1])
        | (go_at_call 126; refine (isZone9_any z _).mono ?_; rintro e w' ⟨rfl, rfl⟩; rw [d2]))
      go_ret
      exact ⟨rfl, rfl⟩
  · rw [if_neg (fun h => h1 h.1)]
    have d1 : decide (Rb r) = false := decide_eq_false h1
    clear h1
    go_enter Tryz.func127, Tryz.ntmps127
    go_wp2_with (first
      | (go_at_call 148; refine (isRobot9_any r _).mono ?_; rintro e w' ⟨rfl, rfl⟩; rw [d1]))
    go_ret
    exact ⟨rfl, rfl⟩
theorem owner9_any {w : World} {g : Nat} {T : List Ow} (h : LkAt w g T) (z : Int) : Calls Tryz.prog 100 #[.pointer (some ⟨g, 0, none⟩), .int .i64 z] w fun e w' => e = .returned (.tuple #[.int .i64 (at9 T z).1, .bool (at9 T z).2]) ∧ Below w.heap.size w w' := by
  have HB := Lib.hid (Below.refl w.heap.size w)
  by_cases h2 : Zo z
  · have d2 : decide (Zo z) = true := decide_eq_true h2
    obtain ⟨k, rfl⟩ := Int.eq_ofNat_of_zero_le h2.1
    have hk : k < 26 := by have := h2.2; omega
    obtain ⟨c1, c2, _, _⟩ := h.cells hk
    have hlt := h.lt
    have HA := Lib.hid (fun (o : Obj) => (Below.refl w.heap.size w).alloc (Nat.le_refl _) o)
    unfold at9
    rw [if_pos h2, Int.toNat_natCast]
    generalize T.getD k (0, false) = p at *
    obtain ⟨a, b⟩ := p
    have c1 : w.cell? ⟨g, k * 2, none⟩ = some (.int .i64 a) := c1
    have c2 : w.cell? ⟨g, k * 2 + 1, none⟩ = some (.bool b) := c2
    have hk0 : (0 : Int) ≤ (k : Int) := by omega
    have hk1 : (k : Int) < 26 := by omega
    clear h h2
    go_enter Tryz.func100, Tryz.ntmps100
    go_wp2_with (first
      | (go_at_call 126; refine (isZone9_any (k : Int) _).mono ?_; rintro e w' ⟨rfl, rfl⟩; rw [d2]))
    go_big_quiet (fail)
    go_wp2_with fail
    go_ret2
    exact ⟨rfl, (HA.out _).trans (Bk.below_drewN _ _ _)⟩
  · have d2 : decide (Zo z) = false := decide_eq_false h2
    unfold at9
    rw [if_neg h2]
    clear h h2
    go_enter Tryz.func100, Tryz.ntmps100
    go_wp2_with (first
      | (go_at_call 126; refine (isZone9_any z _).mono ?_; rintro e w' ⟨rfl, rfl⟩; rw [d2]))
    go_ret2
    exact ⟨rfl, HB.out⟩
/-- Numbers of one's own are told. -/
def ToldI (L : List Int) (w : World) (e : Ending) (w' : World) : Prop := ∃ A n c, e = .returned (.slice A n c) ∧ n = L.length ∧ Iw w' w.heap.size (.slice A n c) L ∧ Below w.heap.size w w'
set_option maxHeartbeats 2000000 in
theorem zones9_any {w : World} {g : Nat} {T : List Ow} (h : LkAt w g T) (r : Int) (q : Bool) : Calls Tryz.prog 92 #[.pointer (some ⟨g, 0, none⟩), .agg #[.int .i64 r, .bool q]] w (ToldI (zns T (r, q) 26) w) := by
  have HT := Lib.hid h
  obtain ⟨b, hb⟩ : ∃ b, b = w.heap.size := ⟨_, rfl⟩
  have HA := Lib.hid ((Below.refl w.heap.size w).alloc (Nat.le_refl _) (.cells #[.int .i64 r, .bool q] 129))
  have HX : Hid ((w.alloc (.cells #[.int .i64 r, .bool q] 129)).heap[b]? = some (.cells #[.int .i64 r, .bool q] 129 (0, 0))) := Lib.hid (by rw [hb]; exact heap_alloc_new w _)
  have HBW : Hid (b = w.heap.size) := Lib.hid hb
  clear h
  go_enter Tryz.func92, Tryz.ntmps92
  go_wp2_with fail
  rw [← hb]
  clear hb
  obtain ⟨w1, hw1⟩ : ∃ w1, w1 = w.alloc (.cells #[.int .i64 r, .bool q] 129) := ⟨_, rfl⟩
  rw [← hw1] at HA HX ⊢
  clear hw1
  go_loopw [5, 9] (fun lv iv wr => ∃ (j : Nat) (A : Option Addr) (n c : Nat), j ≤ 26 ∧ lv = .slice A n c ∧ iv = .int .i64 (j : Int) ∧ n = (zns T (r, q) j).length ∧ Hid (Iw wr w1.heap.size (.slice A n c) (zns T (r, q) j) ∧ Below w1.heap.size w1 wr)) (fun _ iv _ => 26 - (intOf iv).toNat)
  case atStart => exact ⟨0, none, 0, 0, by omega, rfl, rfl, rfl, Lib.hid ⟨Iw.nil _ _, Below.refl _ _⟩⟩
  case round =>
    rename World => wr
    obtain ⟨j, A, n, c, hj, rfl, rfl, hn, HI⟩ := hrel
    have HTr := Lib.hid ((HT.out.later HA.out).later HI.out.2)
    have HN := Lib.hid hn
    have hx := (HI.out.2.block b (lt_of_heap HX.out)).trans HX.out
    have x0 : wr.cell? ⟨b, 0, none⟩ = some (.int .i64 r) := by rw [cell_of_row wr b 0 _ _ _ hx]; rfl
    have x1 : wr.cell? ⟨b, 1, none⟩ = some (.bool q) := by rw [cell_of_row wr b 1 _ _ _ hx]; rfl
    clear hn hx
    by_cases hlt : j < 26
    · obtain ⟨c1, c2, _, _⟩ := HTr.out.cells hlt
      have HS := Lib.hid (zns_succ T (r, q) j)
      have hlg := HTr.out.lt
      have hk0 : (0 : Int) ≤ (j : Int) := by omega
      have hk1 : (j : Int) < 26 := by omega
      have HL : Hid ((zns T (r, q) j).length ≤ 26) := Lib.hid (by have := zns_len T (r, q) j; omega)
      generalize T.getD j (0, false) = p at *
      obtain ⟨a, d⟩ := p
      have c1 : wr.cell? ⟨g, j * 2, none⟩ = some (.int .i64 a) := c1
      have c2 : wr.cell? ⟨g, j * 2 + 1, none⟩ = some (.bool d) := c2
      by_cases he : (a, d) = (r, q)
      · have e1 := congrArg Prod.fst he
        have e2 := congrArg Prod.snd he
        simp only at e1 e2
        subst e1 e2
        rw [if_pos rfl] at HS
        have hdd : (d == d) = true := by cases d <;> rfl
        clear he
        go_wp2_with fail
        go_big_quiet (fail)
        rename_i nq _
        have HID := Lib.hid (And.intro (HI.out.1.later (Bk.below_drewN _ _ nq)) (HI.out.2.trans (Bk.below_drewN _ _ nq)))
        generalize wr.drewN nq = wd at *
        have HAd := Lib.hid ((Below.refl wd.heap.size wd).alloc (Nat.le_refl _) (.cells #[.int .i64 (j : Int)] 3))
        have HB5 : Hid (w1.heap.size ≤ (wd.alloc (.cells #[.int .i64 (j : Int)] 3)).heap.size) := Lib.hid (Nat.le_trans HID.out.2.size HAd.out.size)
        go_wp2_with (at_builtin; refine app_ints rfl _ _ rfl w1.heap.size _ _ rfl (HID.out.1.later HAd.out) (some ⟨wd.heap.size, 0, none⟩) 1 1 [(j : Int)] rfl (Lt.one wd j) (by have := HL.out; omega) HB5.out ?_; intro A5 n5 c5 w5 hn5 ho5 hb5 _ _; have HN5 := Lib.hid hn5; have HK5 := Lib.hid (And.intro ho5 ((HID.out.2.trans (HAd.out.mono HID.out.2.size)).trans hb5)); clear hn5 ho5 hb5)
        go_roundw
        case rel => exact ⟨j + 1, A5, n5, c5, by omega, rfl, by go_num, by rw [HS.out]; exact HN5.out, by rw [HS.out]; exact HK5⟩
        case measure => simp [intOf]; omega
      · rw [if_neg he, List.append_nil] at HS
        have hne : a ≠ r ∨ (a = r ∧ d ≠ q) := by
          by_cases e : a = r
          · exact .inr ⟨e, fun e2 => he (by rw [e, e2])⟩
          · exact .inl e
        clear he
        rcases hne with e | ⟨rfl, e⟩
        · have e1 : (a == r) = false := by rw [beq_eq_false_iff_ne]; exact e
          go_wp2_with fail
          go_big_quiet (fail)
          rename_i nq _
          have HID := Lib.hid (And.intro (HI.out.1.later (Bk.below_drewN _ _ nq)) (HI.out.2.trans (Bk.below_drewN _ _ nq)))
          go_wp2_with fail
          go_roundw
          case rel => exact ⟨j + 1, A, n, c, by omega, rfl, by go_num, by rw [HS.out]; exact HN.out, by rw [HS.out]; exact HID⟩
          case measure => simp [intOf]; omega
        · have e1 : (d == q) = false := by cases d <;> cases q <;> simp_all
          go_wp2_with fail
          go_big_quiet (fail)
          rename_i nq _
          have HID := Lib.hid (And.intro (HI.out.1.later (Bk.below_drewN _ _ nq)) (HI.out.2.trans (Bk.below_drewN _ _ nq)))
          go_wp2_with fail
          go_roundw
          case rel => exact ⟨j + 1, A, n, c, by omega, rfl, by go_num, by rw [HS.out]; exact HN.out, by rw [HS.out]; exact HID⟩
          case measure => simp [intOf]; omega
    · obtain rfl : j = 26 := by omega
      go_wp2_with fail
      go_ret
      exact ⟨A, n, c, rfl, HN.out, own_lower HI.out.1 HA.out.size, HA.out.trans (HI.out.2.mono HA.out.size)⟩
theorem of9_any {w : World} {g : Nat} {T : List Ow} (h : LkAt w g T) (r : Int) : Calls Tryz.prog 50 #[.pointer (some ⟨g, 0, none⟩), .int .i64 r] w (ToldI (zns T (r, true) 26) w) := by
  have HZ := Lib.hid (zones9_any h r true)
  clear h
  go_enter Tryz.func50, Tryz.ntmps50
  go_wp2_with fail
  refine HZ.out.mono ?_
  rintro e w' ⟨A, n, c, rfl, hn, ho, hb⟩
  have HH := Lib.hid (And.intro hn (And.intro ho hb))
  clear hn ho hb
  go_wp2_with fail
  go_ret
  exact ⟨A, n, c, rfl, HH.out.1, HH.out.2.1, HH.out.2.2⟩
/-- An act on the table: its error, the table behind it. -/
def ToldA (p : Int × List Ow) (g : Nat) (w : World) (e : Ending) (w' : World) : Prop := e = .returned (.int .i64 p.1) ∧ LkAt w' g p.2 ∧ Only g w w'
theorem at9_nat (T : List Ow) {k : Nat} (hk : k < 26) : at9 T (k : Int) = T.getD k (0, false) := by
  unfold at9
  rw [if_pos ⟨by omega, by omega⟩, Int.toNat_natCast]
set_option maxHeartbeats 2000000 in
theorem hold9_any {w : World} {g : Nat} {T : List Ow} (h : LkAt w g T) (r z : Int) : Calls Tryz.prog 101 #[.pointer (some ⟨g, 0, none⟩), .int .i64 r, .int .i64 z] w (ToldA (hold9 T r z) g w) := by
  have HT := Lib.hid h
  have HOW := Lib.hid (owner9_any h z)
  have HRF := Lib.hid (refuse9_any g r z w)
  clear h
  by_cases h1 : Rb r ∧ Zo z
  · rw [if_pos h1] at HRF
    obtain ⟨k, rfl⟩ := Int.eq_ofNat_of_zero_le h1.2.1
    have hk : k < 26 := by have := h1.2.2; omega
    have HRB := Lib.hid h1.1
    have HE : Hid (hold9 T r (k : Int) = if (at9 T k).2 = true ∧ (at9 T k).1 ≠ r then (3, T) else (0, T.set k (r, true))) := Lib.hid (by unfold hold9; rw [if_neg (fun q => q h1), Int.toNat_natCast])
    rw [HE.out]
    have hk0 : (0 : Int) ≤ (k : Int) := by omega
    have hk1 : (k : Int) < 26 := by omega
    clear h1 HE
    generalize at9 T (k : Int) = p at *
    obtain ⟨a, d⟩ := p
    cases d with
    | false =>
      rw [if_neg (fun h => by cases h.1)]
      go_enter Tryz.func101, Tryz.ntmps101
      go_wp2_with (go_at_call 127; refine HRF.out.mono ?_; rintro e w' ⟨rfl, rfl⟩)
      refine HOW.out.mono ?_
      rintro e w1 ⟨rfl, hb1⟩
      have HB1 := Lib.hid (Only.of (g := g) hb1)
      have HT1 := Lib.hid (HT.out.later hb1)
      obtain ⟨c1, c2, f1, f2⟩ := HT1.out.cells hk
      have hlg := HT1.out.lt
      have HP := Lib.hid (HT1.out.put hk (p := (r, true)) (fun h => by cases h) (fun _ => HRB.out))
      have HPO := Lib.hid (HB1.out.put2 (k * 2) (k * 2 + 1) (.int .i64 r) (.bool true))
      clear hb1
      go_wp2_with fail
      go_ret
      exact ⟨rfl, HP.out, HPO.out⟩
    | true =>
      by_cases e : a = r
      · subst e
        rw [if_neg (fun h => h.2 rfl)]
        go_enter Tryz.func101, Tryz.ntmps101
        go_wp2_with (go_at_call 127; refine HRF.out.mono ?_; rintro e w' ⟨rfl, rfl⟩)
        refine HOW.out.mono ?_
        rintro e w1 ⟨rfl, hb1⟩
        have HB1 := Lib.hid (Only.of (g := g) hb1)
        have HT1 := Lib.hid (HT.out.later hb1)
        obtain ⟨c1, c2, f1, f2⟩ := HT1.out.cells hk
        have hlg := HT1.out.lt
        have HP := Lib.hid (HT1.out.put hk (p := (a, true)) (fun h => by cases h) (fun _ => HRB.out))
        have HPO := Lib.hid (HB1.out.put2 (k * 2) (k * 2 + 1) (.int .i64 a) (.bool true))
        clear hb1
        go_wp2_with fail
        go_ret
        exact ⟨rfl, HP.out, HPO.out⟩
      · rw [if_pos ⟨rfl, e⟩]
        have hd : (a != r) = true := by rw [bne_iff_ne]; exact e
        clear e
        go_enter Tryz.func101, Tryz.ntmps101
        go_wp2_with (go_at_call 127; refine HRF.out.mono ?_; rintro e w' ⟨rfl, rfl⟩)
        refine HOW.out.mono ?_
        rintro e w1 ⟨rfl, hb1⟩
        have HB1 := Lib.hid (Only.of (g := g) hb1)
        have HT1 := Lib.hid (HT.out.later hb1)
        clear hb1
        go_wp2_with fail
        go_ret
        exact ⟨rfl, HT1.out, HB1.out⟩
  · rw [if_neg h1] at HRF
    have HE : Hid (hold9 T r z = (1, T)) := Lib.hid (by unfold hold9; rw [if_pos h1])
    rw [HE.out]
    clear h1 HE
    go_enter Tryz.func101, Tryz.ntmps101
    go_wp2_with (go_at_call 127; refine HRF.out.mono ?_; rintro e w' ⟨rfl, rfl⟩)
    go_ret
    exact ⟨rfl, HT.out, Only.refl _ _⟩
set_option maxHeartbeats 2000000 in
theorem release9_any {w : World} {g : Nat} {T : List Ow} (h : LkAt w g T) (r z : Int) : Calls Tryz.prog 103 #[.pointer (some ⟨g, 0, none⟩), .int .i64 r, .int .i64 z] w (ToldA (rel9 T r z) g w) := by
  have HT := Lib.hid h
  have HOW := Lib.hid (owner9_any h z)
  have HRF := Lib.hid (refuse9_any g r z w)
  clear h
  by_cases h1 : Rb r ∧ Zo z
  · rw [if_pos h1] at HRF
    obtain ⟨k, rfl⟩ := Int.eq_ofNat_of_zero_le h1.2.1
    have hk : k < 26 := by have := h1.2.2; omega
    have HE : Hid (rel9 T r (k : Int) = if at9 T k = (r, true) then (0, T.set k (0, false)) else (2, T)) := Lib.hid (by unfold rel9; rw [if_neg (fun q => q h1), Int.toNat_natCast])
    rw [HE.out]
    have hk0 : (0 : Int) ≤ (k : Int) := by omega
    have hk1 : (k : Int) < 26 := by omega
    clear h1 HE
    generalize at9 T (k : Int) = p at *
    obtain ⟨a, d⟩ := p
    cases d with
    | false =>
      rw [if_neg (fun h => by cases h)]
      go_enter Tryz.func103, Tryz.ntmps103
      go_wp2_with (go_at_call 127; refine HRF.out.mono ?_; rintro e w' ⟨rfl, rfl⟩)
      refine HOW.out.mono ?_
      rintro e w1 ⟨rfl, hb1⟩
      have HB1 := Lib.hid (Only.of (g := g) hb1)
      have HT1 := Lib.hid (HT.out.later hb1)
      clear hb1
      go_wp2_with fail
      go_ret
      exact ⟨rfl, HT1.out, HB1.out⟩
    | true =>
      by_cases e : a = r
      · subst e
        rw [if_pos rfl]
        go_enter Tryz.func103, Tryz.ntmps103
        go_wp2_with (go_at_call 127; refine HRF.out.mono ?_; rintro e w' ⟨rfl, rfl⟩)
        refine HOW.out.mono ?_
        rintro e w1 ⟨rfl, hb1⟩
        have HB1 := Lib.hid (Only.of (g := g) hb1)
        have HT1 := Lib.hid (HT.out.later hb1)
        obtain ⟨c1, c2, f1, f2⟩ := HT1.out.cells hk
        have hlg := HT1.out.lt
        have HP := Lib.hid (HT1.out.put hk (p := (0, false)) (fun _ => rfl) (fun h => by cases h))
        have HPO := Lib.hid (HB1.out.put2 (k * 2) (k * 2 + 1) (.int .i64 0) (.bool false))
        clear hb1
        go_wp2_with fail
        go_ret
        exact ⟨rfl, HP.out, HPO.out⟩
      · rw [if_neg (fun h => e (congrArg Prod.fst h))]
        have hd : (a != r) = true := by rw [bne_iff_ne]; exact e
        clear e
        go_enter Tryz.func103, Tryz.ntmps103
        go_wp2_with (go_at_call 127; refine HRF.out.mono ?_; rintro e w' ⟨rfl, rfl⟩)
        refine HOW.out.mono ?_
        rintro e w1 ⟨rfl, hb1⟩
        have HB1 := Lib.hid (Only.of (g := g) hb1)
        have HT1 := Lib.hid (HT.out.later hb1)
        clear hb1
        go_wp2_with fail
        go_ret
        exact ⟨rfl, HT1.out, HB1.out⟩
  · rw [if_neg h1] at HRF
    have HE : Hid (rel9 T r z = (1, T)) := Lib.hid (by unfold rel9; rw [if_pos h1])
    rw [HE.out]
    clear h1 HE
    go_enter Tryz.func103, Tryz.ntmps103
    go_wp2_with (go_at_call 127; refine HRF.out.mono ?_; rintro e w' ⟨rfl, rfl⟩)
    go_ret
    exact ⟨rfl, HT.out, Only.refl _ _⟩
end Lk
end Go.Proofs.YtakgkocdkondhaaGreatDoor
end
