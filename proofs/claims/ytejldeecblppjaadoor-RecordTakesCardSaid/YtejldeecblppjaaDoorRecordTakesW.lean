/-
  Layer 17: the record, and the act, whose bytes those are, is the document's: the law's walk.
-/
import Derived.Test.YtejldeecblppjaaDoorRcV
set_option linter.unusedVariables false
set_option maxRecDepth 100000
namespace Go.Proofs.YtejldeecblppjaaDoor
namespace Rc
open Go.RowKit Bp Ck
theorem take_same {w w' w2 w2' : World} {zs : List Nat} {e e2 : Ending} (h : TakeTold w zs e w') (h2 : TakeTold w2 zs e2 w2') : e2 = e := by
  obtain ⟨_, ⟨k, i, r, p, c, q, hok, hz, rfl⟩ | ⟨hno, rfl⟩⟩ := h
  · subst hz
    exact (h2.yes hok).1
  · exact (h2.no hno).1
theorem TakeTold.shape {w w' : World} {zs : List Nat} {e : Ending} (h : TakeTold w zs e w') : ∃ K i r p c q E : Int, e = .returned (.tuple #[.agg #[.int .u8 K, .int .i64 i, .int .i64 r, .int .i64 p, .int .i64 c, .int .i64 q], .int .i64 E]) := by
  obtain ⟨_, ⟨k, i, r, p, c, q, hok, hz, rfl⟩ | ⟨hno, rfl⟩⟩ := h
  · exact ⟨_, _, _, _, _, _, _, rfl⟩
  · exact ⟨_, _, _, _, _, _, _, rfl⟩
theorem takeA_same {w w' w2 w2' : World} {zs : List Nat} {e e2 : Ending} (h : TakeATold w zs e w') (h2 : TakeATold w2 zs e2 w2') : e2 = e := by
  obtain ⟨_, ⟨k, c, p, hok, hz, rfl⟩ | ⟨hno, rfl⟩⟩ := h
  · subst hz
    exact (h2.yes hok).1
  · obtain ⟨_, ⟨k, c, p, hok, hz, rfl⟩ | ⟨_, rfl⟩⟩ := h2
    · exact absurd hz (hno _ _ _ hok)
    · rfl
theorem TakeATold.shape {w w' : World} {zs : List Nat} {e : Ending} (h : TakeATold w zs e w') : ∃ K c p E : Int, e = .returned (.tuple #[.agg #[.int .u8 K, .int .i64 c, .int .i64 p], .int .i64 E]) := by
  obtain ⟨_, ⟨k, c, p, hok, hz, rfl⟩ | ⟨hno, rfl⟩⟩ := h
  · exact ⟨_, _, _, _, rfl⟩
  · exact ⟨_, _, _, _, rfl⟩
/-- A law under way: the table, and all that was there. -/
def Lw (w w' : World) : Prop := Shp w' ∧ Below w.heap.size w w'
theorem Lw.later {w w1 w2 : World} (h : Lw w w1) (hb : Below w1.heap.size w1 w2) : Lw w w2 := ⟨h.1.later hb, h.2.trans (hb.mono h.2.size)⟩
theorem row6 {W : World} {X : Nat} {a0 a1 a2 a3 a4 a5 : Value} {t : TypeId} {m : Nat × Nat} (h : W.heap[X]? = some (.cells #[a0, a1, a2, a3, a4, a5] t m)) : W.cell? ⟨X, 0, none⟩ = some a0 ∧ W.cell? ⟨X, 1, none⟩ = some a1 ∧ W.cell? ⟨X, 2, none⟩ = some a2 ∧ W.cell? ⟨X, 3, none⟩ = some a3 ∧ W.cell? ⟨X, 4, none⟩ = some a4 ∧ W.cell? ⟨X, 5, none⟩ = some a5 := by
  have k := fun j => cell_of_row W X j _ _ _ h
  exact ⟨k 0, k 1, k 2, k 3, k 4, k 5⟩
theorem row3 {W : World} {X : Nat} {a0 a1 a2 : Value} {t : TypeId} {m : Nat × Nat} (h : W.heap[X]? = some (.cells #[a0, a1, a2] t m)) : W.cell? ⟨X, 0, none⟩ = some a0 ∧ W.cell? ⟨X, 1, none⟩ = some a1 ∧ W.cell? ⟨X, 2, none⟩ = some a2 := by
  have k := fun j => cell_of_row W X j _ _ _ h
  exact ⟨k 0, k 1, k 2⟩
set_option maxHeartbeats 4000000 in
theorem recordTakes_walk (A0 : Option Addr) (n0 cap0 : Nat) (bs : List Nat) (w : World) (hy : By w.heap.size w A0 n0 cap0 bs) (hS : Shp w) :
    Calls Tryd.prog 4 #[.slice A0 n0 cap0] w fun e w' => e = .returned (.bool true) ∧ Below w.heap.size w w' := by
  have HSW := Lib.hid (shown_any w hS)
  have HS := Lib.hid hS
  have HY := Lib.hid hy
  have hcp := hy.le
  have hmx := hy.max
  unfold maxLen at hmx
  clear hS hy
  go_enter Tryd.func4, Tryd.ntmps4
  go_wp2_with fail
  refine HSW.out.mono ?_
  rintro e w1 ⟨rfl, hb⟩
  have H1 : Hid (Lw w w1) := Lib.hid ⟨HS.out.later hb, hb⟩
  clear hb HSW HS
  by_cases hn : n0 ≤ 1000
  · have e1 : decide ((1000 : Int) < (n0 : Int)) = false := decide_eq_false (by omega)
    go_wp2_with fail
    refine (take_any (HY.out.below H1.out.2) H1.out.2.size H1.out.1 (by omega)).mono ?_
    intro e w2 ht
    obtain ⟨K, i, r, p, c, q, E, he⟩ := ht.shape
    have HT1 := Lib.hid ht
    have h2 := (H1.out.later ht.1).later (below_new w2 (.cells #[.int .u8 K, .int .i64 i, .int .i64 r, .int .i64 p, .int .i64 c, .int .i64 q] 23))
    have HX := Lib.hid (heap_alloc_new w2 (.cells #[.int .u8 K, .int .i64 i, .int .i64 r, .int .i64 p, .int .i64 c, .int .i64 q] 23))
    have H2 := Lib.hid h2
    subst he
    clear ht h2 H1
    go_wp2_with fail
    generalize (w2.alloc (.cells #[.int .u8 K, .int .i64 i, .int .i64 r, .int .i64 p, .int .i64 c, .int .i64 q] 23)) = w3 at *
    generalize w2.heap.size = X at *
    refine (rtake_any (HY.out.below H2.out.2) H2.out.2.size (by omega)).mono ?_
    intro e w4 ht
    have he := take_same HT1.out ht
    subst he
    have h4 := (H2.out.later ht.1).later (below_new w4 (.cells #[.int .u8 K, .int .i64 i, .int .i64 r, .int .i64 p, .int .i64 c, .int .i64 q] 23))
    have hx := (ht.1.block X (lt_of_heap HX.out)).trans HX.out
    have HXa := Lib.hid ((Below.heap_alloc w4 (.cells #[.int .u8 K, .int .i64 i, .int .i64 r, .int .i64 p, .int .i64 c, .int .i64 q] 23) X (lt_of_heap hx)).trans hx)
    have HXb := Lib.hid (heap_alloc_new w4 (.cells #[.int .u8 K, .int .i64 i, .int .i64 r, .int .i64 p, .int .i64 c, .int .i64 q] 23))
    have H4 := Lib.hid h4
    clear ht h4 hx HX H2 HT1
    go_wp2_with fail
    generalize (w4.alloc (.cells #[.int .u8 K, .int .i64 i, .int .i64 r, .int .i64 p, .int .i64 c, .int .i64 q] 23)) = w5 at *
    generalize w4.heap.size = X2 at *
    refine (takeAct_any (HY.out.below H4.out.2) H4.out.2.size H4.out.1 (by omega)).mono ?_
    intro e w6 ht
    obtain ⟨K3, c3, p3, E3, he⟩ := ht.shape
    have HT1 := Lib.hid ht
    have hb6 := ht.1
    have hb7 := below_two hb6 (below_new w6 (.cells #[.int .u8 K3, .int .i64 c3, .int .i64 p3] 33))
    have HXa := Lib.hid ((hb7.block X (lt_of_heap HXa.out)).trans HXa.out)
    have HXb := Lib.hid ((hb7.block X2 (lt_of_heap HXb.out)).trans HXb.out)
    have HXc := Lib.hid (heap_alloc_new w6 (.cells #[.int .u8 K3, .int .i64 c3, .int .i64 p3] 33))
    have H6 := Lib.hid (H4.out.later hb7)
    subst he
    clear ht hb6 hb7 H4
    go_wp2_with fail
    generalize (w6.alloc (.cells #[.int .u8 K3, .int .i64 c3, .int .i64 p3] 33)) = w7 at *
    generalize w6.heap.size = X3 at *
    refine (rtakeAct_any (HY.out.below H6.out.2) H6.out.2.size (by omega)).mono ?_
    intro e w8 ht
    have he := takeA_same HT1.out ht
    subst he
    have hb6 := ht.1
    have hb9 := below_two hb6 (below_new w8 (.cells #[.int .u8 K3, .int .i64 c3, .int .i64 p3] 33))
    obtain ⟨y0, y1, y2, y3, y4, y5⟩ := row6 ((hb9.block X (lt_of_heap HXa.out)).trans HXa.out)
    obtain ⟨z0, z1, z2, z3, z4, z5⟩ := row6 ((hb9.block X2 (lt_of_heap HXb.out)).trans HXb.out)
    obtain ⟨u0, u1, u2⟩ := row3 ((hb9.block X3 (lt_of_heap HXc.out)).trans HXc.out)
    obtain ⟨v0, v1, v2⟩ := row3 (heap_alloc_new w8 (.cells #[.int .u8 K3, .int .i64 c3, .int .i64 p3] 33))
    have H8 := Lib.hid (H6.out.later hb9)
    clear ht hb6 hb9 HXa HXb HXc H6 HT1
    go_wp2
    go_ret
    exact ⟨by first | rfl | simp, H8.out.2⟩
  · have e1 : decide ((1000 : Int) < (n0 : Int)) = true := decide_eq_true (by omega)
    clear hn
    go_wp2
    go_ret
    exact ⟨rfl, H1.out.2⟩
end Rc
end Go.Proofs.YtejldeecblppjaaDoor
