/-
  Layer 18: the document's robot: Step, Hear, Cells.
-/
import Derived.Test.YtobpinelhjpfgaaDoorRbI
set_option linter.unusedVariables false
set_option maxRecDepth 100000
namespace Go.Proofs.YtobpinelhjpfgaaDoor
namespace Rb
open Go.RowKit Bp Ck Ln
open Rc (Aok Shp TakeATold act_uniq)
theorem put40 {w : World} {q : Nat} {v0 v1 v2 v3 v4 v5 v6 v7 v8 v9 v10 v11 v12 v13 x4 x1 : Value} {t : TypeId} (h : w.heap[q]? = some (.cells #[v0, v1, v2, v3, v4, v5, v6, v7, v8, v9, v10, v11, v12, v13] t (0, 0))) :
    ((w.setCell ⟨q, 4, none⟩ x4).setCell ⟨q, 1, none⟩ x1).heap[q]? = some (.cells #[v0, x1, v2, v3, x4, v5, v6, v7, v8, v9, v10, v11, v12, v13] t (0, 0)) := by
  have g0 : (w.setCell ⟨q, 4, none⟩ x4).heap[q]? = some (.cells #[v0, v1, v2, v3, x4, v5, v6, v7, v8, v9, v10, v11, v12, v13] t (0, 0)) := heap_setCell_same w q 4 _ _ x4 h
  have g1 : ((w.setCell ⟨q, 4, none⟩ x4).setCell ⟨q, 1, none⟩ x1).heap[q]? = some (.cells #[v0, x1, v2, v3, x4, v5, v6, v7, v8, v9, v10, v11, v12, v13] t (0, 0)) := heap_setCell_same (w.setCell ⟨q, 4, none⟩ x4) q 1 _ _ x1 g0
  exact g1
theorem put00 {w : World} {q : Nat} {v0 v1 v2 v3 v4 v5 v6 v7 v8 v9 v10 v11 v12 v13 x0 : Value} {t : TypeId} (h : w.heap[q]? = some (.cells #[v0, v1, v2, v3, v4, v5, v6, v7, v8, v9, v10, v11, v12, v13] t (0, 0))) :
    (w.setCell ⟨q, 0, none⟩ x0).heap[q]? = some (.cells #[x0, v1, v2, v3, v4, v5, v6, v7, v8, v9, v10, v11, v12, v13] t (0, 0)) := by
  have g0 : (w.setCell ⟨q, 0, none⟩ x0).heap[q]? = some (.cells #[x0, v1, v2, v3, v4, v5, v6, v7, v8, v9, v10, v11, v12, v13] t (0, 0)) := heap_setCell_same w q 0 _ _ x0 h
  exact g0
theorem put04 {w : World} {q : Nat} {v0 v1 v2 v3 v4 v5 v6 v7 v8 v9 v10 v11 v12 v13 x0 x4 : Value} {t : TypeId} (h : w.heap[q]? = some (.cells #[v0, v1, v2, v3, v4, v5, v6, v7, v8, v9, v10, v11, v12, v13] t (0, 0))) :
    ((w.setCell ⟨q, 0, none⟩ x0).setCell ⟨q, 4, none⟩ x4).heap[q]? = some (.cells #[x0, v1, v2, v3, x4, v5, v6, v7, v8, v9, v10, v11, v12, v13] t (0, 0)) := by
  have g0 : (w.setCell ⟨q, 0, none⟩ x0).heap[q]? = some (.cells #[x0, v1, v2, v3, v4, v5, v6, v7, v8, v9, v10, v11, v12, v13] t (0, 0)) := heap_setCell_same w q 0 _ _ x0 h
  have g1 : ((w.setCell ⟨q, 0, none⟩ x0).setCell ⟨q, 4, none⟩ x4).heap[q]? = some (.cells #[x0, v1, v2, v3, x4, v5, v6, v7, v8, v9, v10, v11, v12, v13] t (0, 0)) := heap_setCell_same (w.setCell ⟨q, 0, none⟩ x0) q 4 _ _ x4 g0
  exact g1
theorem put5678 {w : World} {q : Nat} {v0 v1 v2 v3 v4 v5 v6 v7 v8 v9 v10 v11 v12 v13 x5 x6 x7 x8 : Value} {t : TypeId} (h : w.heap[q]? = some (.cells #[v0, v1, v2, v3, v4, v5, v6, v7, v8, v9, v10, v11, v12, v13] t (0, 0))) :
    ((((w.setCell ⟨q, 5, none⟩ x5).setCell ⟨q, 6, none⟩ x6).setCell ⟨q, 7, none⟩ x7).setCell ⟨q, 8, none⟩ x8).heap[q]? = some (.cells #[v0, v1, v2, v3, v4, x5, x6, x7, x8, v9, v10, v11, v12, v13] t (0, 0)) := by
  have g0 : (w.setCell ⟨q, 5, none⟩ x5).heap[q]? = some (.cells #[v0, v1, v2, v3, v4, x5, v6, v7, v8, v9, v10, v11, v12, v13] t (0, 0)) := heap_setCell_same w q 5 _ _ x5 h
  have g1 : ((w.setCell ⟨q, 5, none⟩ x5).setCell ⟨q, 6, none⟩ x6).heap[q]? = some (.cells #[v0, v1, v2, v3, v4, x5, x6, v7, v8, v9, v10, v11, v12, v13] t (0, 0)) := heap_setCell_same (w.setCell ⟨q, 5, none⟩ x5) q 6 _ _ x6 g0
  have g2 : (((w.setCell ⟨q, 5, none⟩ x5).setCell ⟨q, 6, none⟩ x6).setCell ⟨q, 7, none⟩ x7).heap[q]? = some (.cells #[v0, v1, v2, v3, v4, x5, x6, x7, v8, v9, v10, v11, v12, v13] t (0, 0)) := heap_setCell_same ((w.setCell ⟨q, 5, none⟩ x5).setCell ⟨q, 6, none⟩ x6) q 7 _ _ x7 g1
  have g3 : ((((w.setCell ⟨q, 5, none⟩ x5).setCell ⟨q, 6, none⟩ x6).setCell ⟨q, 7, none⟩ x7).setCell ⟨q, 8, none⟩ x8).heap[q]? = some (.cells #[v0, v1, v2, v3, v4, x5, x6, x7, x8, v9, v10, v11, v12, v13] t (0, 0)) := heap_setCell_same (((w.setCell ⟨q, 5, none⟩ x5).setCell ⟨q, 6, none⟩ x6).setCell ⟨q, 7, none⟩ x7) q 8 _ _ x8 g2
  exact g3
theorem put12 {w : World} {q : Nat} {v0 v1 v2 v3 v4 v5 v6 v7 v8 v9 v10 v11 v12 v13 x12 x11 x5 x6 x7 x8 : Value} {t : TypeId} (h : w.heap[q]? = some (.cells #[v0, v1, v2, v3, v4, v5, v6, v7, v8, v9, v10, v11, v12, v13] t (0, 0))) :
    ((((((w.setCell ⟨q, 12, none⟩ x12).setCell ⟨q, 11, none⟩ x11).setCell ⟨q, 5, none⟩ x5).setCell ⟨q, 6, none⟩ x6).setCell ⟨q, 7, none⟩ x7).setCell ⟨q, 8, none⟩ x8).heap[q]? = some (.cells #[v0, v1, v2, v3, v4, x5, x6, x7, x8, v9, v10, x11, x12, v13] t (0, 0)) := by
  have g0 : (w.setCell ⟨q, 12, none⟩ x12).heap[q]? = some (.cells #[v0, v1, v2, v3, v4, v5, v6, v7, v8, v9, v10, v11, x12, v13] t (0, 0)) := heap_setCell_same w q 12 _ _ x12 h
  have g1 : ((w.setCell ⟨q, 12, none⟩ x12).setCell ⟨q, 11, none⟩ x11).heap[q]? = some (.cells #[v0, v1, v2, v3, v4, v5, v6, v7, v8, v9, v10, x11, x12, v13] t (0, 0)) := heap_setCell_same (w.setCell ⟨q, 12, none⟩ x12) q 11 _ _ x11 g0
  have g2 : (((w.setCell ⟨q, 12, none⟩ x12).setCell ⟨q, 11, none⟩ x11).setCell ⟨q, 5, none⟩ x5).heap[q]? = some (.cells #[v0, v1, v2, v3, v4, x5, v6, v7, v8, v9, v10, x11, x12, v13] t (0, 0)) := heap_setCell_same ((w.setCell ⟨q, 12, none⟩ x12).setCell ⟨q, 11, none⟩ x11) q 5 _ _ x5 g1
  have g3 : ((((w.setCell ⟨q, 12, none⟩ x12).setCell ⟨q, 11, none⟩ x11).setCell ⟨q, 5, none⟩ x5).setCell ⟨q, 6, none⟩ x6).heap[q]? = some (.cells #[v0, v1, v2, v3, v4, x5, x6, v7, v8, v9, v10, x11, x12, v13] t (0, 0)) := heap_setCell_same (((w.setCell ⟨q, 12, none⟩ x12).setCell ⟨q, 11, none⟩ x11).setCell ⟨q, 5, none⟩ x5) q 6 _ _ x6 g2
  have g4 : (((((w.setCell ⟨q, 12, none⟩ x12).setCell ⟨q, 11, none⟩ x11).setCell ⟨q, 5, none⟩ x5).setCell ⟨q, 6, none⟩ x6).setCell ⟨q, 7, none⟩ x7).heap[q]? = some (.cells #[v0, v1, v2, v3, v4, x5, x6, x7, v8, v9, v10, x11, x12, v13] t (0, 0)) := heap_setCell_same ((((w.setCell ⟨q, 12, none⟩ x12).setCell ⟨q, 11, none⟩ x11).setCell ⟨q, 5, none⟩ x5).setCell ⟨q, 6, none⟩ x6) q 7 _ _ x7 g3
  have g5 : ((((((w.setCell ⟨q, 12, none⟩ x12).setCell ⟨q, 11, none⟩ x11).setCell ⟨q, 5, none⟩ x5).setCell ⟨q, 6, none⟩ x6).setCell ⟨q, 7, none⟩ x7).setCell ⟨q, 8, none⟩ x8).heap[q]? = some (.cells #[v0, v1, v2, v3, v4, x5, x6, x7, x8, v9, v10, x11, x12, v13] t (0, 0)) := heap_setCell_same (((((w.setCell ⟨q, 12, none⟩ x12).setCell ⟨q, 11, none⟩ x11).setCell ⟨q, 5, none⟩ x5).setCell ⟨q, 6, none⟩ x6).setCell ⟨q, 7, none⟩ x7) q 8 _ _ x8 g4
  exact g5
section
variable {w : World} {q i : Nat} {z : R}
/-- What a call on the document's robot comes to. -/
def DTold (q : Nat) (z : R) (x : Value) (w : World) (e : Ending) (w' : World) : Prop := e = .returned x ∧ Turn (One q) (One q) w w' ∧ DAt w' q z
set_option maxHeartbeats 1000000 in
theorem r18step_any (h : DAt w q z) (gd : Gd i z) (gx : Gx z) : Calls Tryd.prog 18 #[.pointer (some ⟨q, 0, none⟩)] w (DTold q (stD z).1 (.bool (stD z).2) w) := by
  have c5 : w.cell? ⟨q, 5, none⟩ = some (.bool (decide (z.k ≠ 0))) := (h.row 5).1
  by_cases hk : z.k = 0
  · rw [st_none hk]
    rw [decide_eq_false (show ¬ z.k ≠ 0 by simpa using hk)] at c5
    have HH := Lib.hid h
    clear h gd gx
    go_enter Tryd.func18, Tryd.ntmps18
    go_wp2_with fail
    go_ret
    exact ⟨rfl, Turn.refl _ _, HH.out⟩
  · rw [decide_eq_true hk] at c5
    have hp := gd.idle hk
    have ht := gd.told
    have hcc := (gx.act hk).2.1
    have hch := gd.chg
    have c6 : w.cell? ⟨q, 6, none⟩ = some (.int .u8 (z.k : Int)) := (h.row 6).1
    by_cases hk1 : z.k = 1
    · rw [hk1] at c6
      have c0 : w.cell? ⟨q, 0, none⟩ = some (.int .i64 z.cell) := (h.row 0).1
      have c1 : w.cell? ⟨q, 1, none⟩ = some (.int .i64 (if z.on = true then z.c else -1)) := (h.row 1).1
      have c2 : w.cell? ⟨q, 2, none⟩ = some (.int .i64 z.dock) := (h.row 2).1
      have c3 : w.cell? ⟨q, 3, none⟩ = some (.int .i64 z.full) := (h.row 3).1
      have c4 : w.cell? ⟨q, 4, none⟩ = some (.int .i64 z.chg) := (h.row 4).1
      have c7 : w.cell? ⟨q, 7, none⟩ = some (.int .i64 z.c) := (h.row 7).1
      have f0 := (h.row 0).2
      have f1 := (h.row 1).2
      have f4 := (h.row 4).2
      have HH := Lib.hid h
      cases ho : z.on with
      | false =>
        rw [st_go hk1 ho]
        rw [ho] at c1
        have c1 : w.cell? ⟨q, 1, none⟩ = some (.int .i64 (-1)) := c1
        by_cases hc : 0 < z.chg
        · rw [lv_yes hc]
          have t1 : decide (0 < z.chg) = true := decide_eq_true hc
          have HE : Hid (rclR { z with chg := z.chg - 1, on := true } = #[.int .i64 z.cell, .int .i64 z.c, .int .i64 z.dock, .int .i64 z.full, .int .i64 (z.chg - 1), .bool (decide (z.k ≠ 0)), .int .u8 (z.k : Int), .int .i64 z.c, .int .i64 z.p, .int .u64 (dn z : Int), .int .u64 (z.heard : Int), .int .u64 (z.told : Int), .bool (decide (z.pk ≠ [])), .string (strOf [])]) := Lib.hid rfl
          have HP := Lib.hid (put40 (x4 := .int .i64 (z.chg - 1)) (x1 := .int .i64 z.c) h.box)
          clear h gd gx hp ht
          go_enter Tryd.func18, Tryd.ntmps18
          go_wp2_with fail
          go_ret
          exact ⟨rfl, ((Turn.refl (One q) w).put _ (show One q q from rfl)).put _ (show One q q from rfl), by rw [HE.out]; exact HP.out, HH.out.num⟩
        · rw [lv_no hc]
          have t1 : decide (0 < z.chg) = false := decide_eq_false hc
          clear h gd gx hp ht
          go_enter Tryd.func18, Tryd.ntmps18
          go_wp2_with fail
          go_ret
          exact ⟨rfl, Turn.refl _ _, HH.out⟩
      | true =>
        rw [st_arr hk1 ho]
        rw [ho] at c1
        have c1 : w.cell? ⟨q, 1, none⟩ = some (.int .i64 z.c) := c1
        have t0 : decide ((0 : Int) ≤ z.c) = true := decide_eq_true hcc.1
        have HE : Hid (∀ x : Int, rclR { z with cell := z.c, chg := x } = #[.int .i64 z.c, .int .i64 (if z.on = true then z.c else -1), .int .i64 z.dock, .int .i64 z.full, .int .i64 x, .bool (decide (z.k ≠ 0)), .int .u8 (z.k : Int), .int .i64 z.c, .int .i64 z.p, .int .u64 (dn z : Int), .int .u64 (z.heard : Int), .int .u64 (z.told : Int), .bool (decide (z.pk ≠ [])), .string (strOf [])]) := Lib.hid (fun x => rfl)
        have HP0 := Lib.hid (put00 (x0 := .int .i64 z.c) h.box)
        have HP4 := Lib.hid (put04 (x0 := .int .i64 z.c) (x4 := .int .i64 z.full) h.box)
        have HD : Hid (∀ W, DAt W q (arD z) → Calls Tryd.prog 61 #[.pointer (some ⟨q, 0, none⟩)] W fun e w' => e = .returned (.bool true) ∧ Turn (One q) (One q) W w' ∧ DAt w' q (dnD (arD z))) := Lib.hid (fun W hW => r18done_any hW hp ht)
        by_cases hdk : z.c = z.dock
        · have t1 : (z.c == z.dock) = true := by simpa using hdk
          have ea : arD z = { z with cell := z.c, chg := z.full } := by unfold arD; rw [if_pos hdk]
          rw [ea] at HD ⊢
          clear h gd gx hp ht ea hdk
          go_enter Tryd.func18, Tryd.ntmps18
          go_wp2_with fail
          go_region
          go_wp2_with fail
          have hda : DAt (((w.setCell ⟨q, 0, none⟩ (.int .i64 z.c)).drew).setCell ⟨q, 4, none⟩ (.int .i64 z.full)) q { z with cell := z.c, chg := z.full } := ⟨by rw [HE.out]; exact HP4.out, HH.out.num⟩
          refine (HD.out _ hda).mono ?_
          rintro e w2 ⟨rfl, ht2, hd2⟩
          have HT2 := Lib.hid ht2
          have HD2 := Lib.hid hd2
          clear ht2 hd2 HD
          go_wp2_with fail
          go_ret
          exact ⟨rfl, ((((Turn.refl (One q) w).put _ (show One q q from rfl)).drew).put _ (show One q q from rfl)).trans HT2.out, HD2.out⟩
        · have t1 : (z.c == z.dock) = false := by simpa using hdk
          have ea : arD z = { z with cell := z.c, chg := z.chg } := by unfold arD; rw [if_neg hdk]
          rw [ea] at HD ⊢
          clear h gd gx hp ht ea hdk
          go_enter Tryd.func18, Tryd.ntmps18
          go_wp2_with fail
          go_region
          go_wp2_with fail
          have hda : DAt ((w.setCell ⟨q, 0, none⟩ (.int .i64 z.c)).drew) q { z with cell := z.c, chg := z.chg } := ⟨by rw [HE.out]; exact HP0.out, HH.out.num⟩
          refine (HD.out _ hda).mono ?_
          rintro e w2 ⟨rfl, ht2, hd2⟩
          have HT2 := Lib.hid ht2
          have HD2 := Lib.hid hd2
          clear ht2 hd2 HD
          go_wp2_with fail
          go_ret
          exact ⟨rfl, (((Turn.refl (One q) w).put _ (show One q q from rfl)).drew).trans HT2.out, HD2.out⟩
    · rw [st_do hk hk1]
      have t1 : ((z.k : Int) != 1) = true := by rw [bne_iff_ne]; omega
      have HD := Lib.hid (r18done_any h hp ht)
      clear h gd gx hp ht
      go_enter Tryd.func18, Tryd.ntmps18
      go_wp2_with fail
      refine HD.out.mono ?_
      rintro e w2 ⟨rfl, ht2, hd2⟩
      have HT2 := Lib.hid ht2
      have HD2 := Lib.hid hd2
      clear ht2 hd2 HD
      go_wp2_with fail
      go_ret
      exact ⟨rfl, HT2.out, HD2.out⟩
set_option maxHeartbeats 1000000 in
theorem r18cells_any (h : DAt w q z) (gx : Gx z) (gd : Gd i z) {L : List Int} {nL : Nat} (hL : cls z = L) (hn : nL = L.length) : Calls Tryd.prog 27 #[.pointer (some ⟨q, 0, none⟩)] w fun e w' => ∃ A c, e = .returned (.slice A nL c) ∧ Bk.Lt w'.heap.size w' A nL c L ∧ Below w.heap.size w w' := by
  have c0 : w.cell? ⟨q, 0, none⟩ = some (.int .i64 z.cell) := (h.row 0).1
  have c1 : w.cell? ⟨q, 1, none⟩ = some (.int .i64 (if z.on = true then z.c else -1)) := (h.row 1).1
  subst hn hL
  unfold cls
  cases hon : z.on with
  | false =>
    have e : (if false = true ∧ z.c ≠ z.cell then [z.cell, z.c] else [z.cell]) = [z.cell] := by simp
    rw [e]
    rw [hon] at c1
    have c1 : w.cell? ⟨q, 1, none⟩ = some (.int .i64 (-1)) := c1
    clear e hon h gx gd
    go_enter Tryd.func27, Tryd.ntmps27
    go_wp2_with fail
    go_region
    go_wp2_with fail
    go_ret
    exact ⟨_, _, rfl, Bk.Gt.later (Bk.Lt.one w z.cell) (Below.refl _ _).drew, (Rc.below_new w _).drew⟩
  | true =>
    rw [hon] at c1
    have c1 : w.cell? ⟨q, 1, none⟩ = some (.int .i64 z.c) := c1
    have hk1 := gd.on hon
    have t0 : decide ((0 : Int) ≤ z.c) = true := decide_eq_true (gx.act (by omega)).2.1.1
    by_cases hc : z.c = z.cell
    · have e : (if true = true ∧ z.c ≠ z.cell then [z.cell, z.c] else [z.cell]) = [z.cell] := by simp [hc]
      rw [e]
      have t1 : (z.c != z.cell) = false := by simpa using hc
      clear e hon h gx gd hk1 hc
      go_enter Tryd.func27, Tryd.ntmps27
      go_wp2_with fail
      go_region
      go_wp2_with fail
      go_ret
      exact ⟨_, _, rfl, Bk.Gt.later (Bk.Lt.one w z.cell) (Below.refl _ _).drew, (Rc.below_new w _).drew⟩
    · have e : (if true = true ∧ z.c ≠ z.cell then [z.cell, z.c] else [z.cell]) = [z.cell, z.c] := by simp [hc]
      rw [e]
      have t1 : (z.c != z.cell) = true := by simpa using hc
      clear e hon h gx gd hk1 hc
      go_enter Tryd.func27, Tryd.ntmps27
      go_wp2_with fail
      go_region
      go_wp2_with fail
      go_region
      go_wp2_with fail
      go_ret
      exact ⟨_, _, rfl, Bk.Gt.later (lt_two w z.cell z.c) (Below.refl _ _).drew.drew, (Rc.below_new w _).drew.drew⟩
/-- What the document's Hear comes to. -/
def DHTold (q : Nat) (z : R) (bs : List Nat) (w : World) (e : Ending) (w' : World) : Prop := ∃ (bb : List Nat) (z' : R) (A : Option Addr) (c : Nat), e = .returned (.slice A bb.length c) ∧ By w'.heap.size w' A bb.length c bb ∧ Turn (One q) (One q) w w' ∧ DAt w' q z' ∧ HearR z bs z' bb
set_option maxHeartbeats 2000000 in
theorem r18hear_any {B : Nat} {A : Option Addr} {n c : Nat} {bs : List Nat} (h : DAt w q z) (gd : Gd i z) (hd : By B w A n c bs) (hB : B ≤ w.heap.size) : Calls Tryd.prog 22 #[.pointer (some ⟨q, 0, none⟩), .slice A n c] w (DHTold q z bs w) := by
  have HH := Lib.hid (d_rhear h hd hB)
  have HD := Lib.hid h
  have HQ := Lib.hid (lt_of_heap h.box)
  have hon : z.k = 0 → z.on = false := fun hk => by
    cases ho : z.on
    · rfl
    · have := gd.on ho; omega
  have HON := Lib.hid hon
  have htl := gd.told
  clear h hd gd hon
  go_enter Tryd.func22, Tryd.ntmps22
  go_wp2_with fail
  refine HH.out.mono ?_
  intro e w1 hx
  obtain ⟨bd, fr, bb, nh, A1, c1, A2, c2, rfl, ht1, hy1, ⟨hy2, hf2⟩, hd1, hrh⟩ := d_form hx
  have HT1 := Lib.hid ht1
  have HD1 := Lib.hid hd1
  have HRH := Lib.hid hrh
  have HY2 := Lib.hid hy2
  have HF2 := Lib.hid hf2
  cases fr with
  | false =>
    clear hx ht1 hy1 hy2 hf2 hd1 hrh HH
    go_wp2_with fail
    go_ret
    exact ⟨bb, _, A2, c2, rfl, HY2.out, HT1.out, HD1.out, bd, false, nh, HRH.out, .inr ⟨.inl rfl, rfl⟩⟩
  | true =>
    have hl := rh_len hrh
    have HTA := Lib.hid (Rc.rtakeAct_any hy1 (Nat.le_refl _) (by omega))
    have hz1 := ht1.size
    clear hx ht1 hy1 hy2 hf2 hd1 hrh HH
    go_wp2_with fail
    refine HTA.out.mono ?_
    rintro e w2 ⟨hb2, hcase⟩
    rcases hcase with ⟨k, x, y, hok, hbd, rfl⟩ | ⟨hno, rfl⟩
    · have hal := Rc.below_new w2 (.cells #[.int .u8 (k : Int), .int .i64 x, .int .i64 y] 33)
      have hal0 := heap_alloc_new w2 (.cells #[.int .u8 (k : Int), .int .i64 x, .int .i64 y] 33)
      have hb3 := hb2.trans (hal.mono hb2.size)
      have hd3 := HD1.out.later hb3
      have HOK := Lib.hid hok
      have HBD := Lib.hid hbd
      have HY3 := Lib.hid (Ln.by_later HY2.out hb3)
      have a0 := cell_of_row _ w2.heap.size 0 _ _ _ hal0
      have a1 := cell_of_row _ w2.heap.size 1 _ _ _ hal0
      have a2 := cell_of_row _ w2.heap.size 2 _ _ _ hal0
      have HT3 := Lib.hid (HT1.out.trans (Turn.ofBelow hb3 _))
      have HD3 := Lib.hid hd3
      have c5 : _ = some (Value.bool (decide (z.k ≠ 0))) := (hd3.row 5).1
      by_cases hz : z.k = 0
      · rw [decide_eq_false (show ¬ z.k ≠ 0 by simpa using hz)] at c5
        have HZ := Lib.hid hz
        have hzo := HON.out hz
        have c6 : _ = some (Value.int .u8 (z.k : Int)) := (hd3.row 6).1
        have c7 : _ = some (Value.int .i64 z.c) := (hd3.row 7).1
        have c8 : _ = some (Value.int .i64 z.p) := (hd3.row 8).1
        have c11 : _ = some (Value.int .u64 (z.told : Int)) := (hd3.row 11).1
        have c12 : _ = some (Value.bool (decide (z.pk ≠ []))) := (hd3.row 12).1
        have f5 := (hd3.row 5).2
        have f6 := (hd3.row 6).2
        have f7 := (hd3.row 7).2
        have f8 := (hd3.row 8).2
        have f11 := (hd3.row 11).2
        have f12 := (hd3.row 12).2
        have hkk := HOK.out.1
        by_cases hp : z.pk = []
        · rw [decide_eq_false (show ¬ z.pk ≠ [] by simpa using hp)] at c12
          have HP := Lib.hid (put5678 (x5 := .bool true) (x6 := .int .u8 (k : Int)) (x7 := .int .i64 x) (x8 := .int .i64 y) hd3.box)
          have HE : Hid (rclR { z with heard := nh, k := k, c := x, p := y, told := if z.pk = [] then z.told else z.told + 1, pk := [] } = #[.int .i64 z.cell, .int .i64 (if z.on = true then z.c else -1), .int .i64 z.dock, .int .i64 z.full, .int .i64 z.chg, .bool true, .int .u8 (k : Int), .int .i64 x, .int .i64 y, .int .u64 (dn { z with heard := nh } : Int), .int .u64 (nh : Int), .int .u64 (z.told : Int), .bool (decide (z.pk ≠ [])), .string (strOf [])]) := Lib.hid (by
            have e1 : decide (k ≠ 0) = true := decide_eq_true (by omega)
            unfold rclR dn
            simp only [hp, hzo, e1]
            rfl)
          clear hd3 hal hal0 hb3 hok hbd hb2 HTA HY2 hz hkk
          go_wp2_with fail
          have HTF := Lib.hid ((Turn.put (o := 8) (Turn.put (o := 7) (Turn.put (o := 6) (Turn.put (o := 5) (Turn.refl (One q) (w2.alloc (.cells #[.int .u8 (k : Int), .int .i64 x, .int .i64 y] 33))) (.bool true) (show One q q from rfl)) (.int .u8 (k : Int)) (show One q q from rfl)) (.int .i64 x) (show One q q from rfl)) (.int .i64 y) (show One q q from rfl)))
          go_ret
          exact ⟨bb, { z with heard := nh, k := k, c := x, p := y, told := if z.pk = [] then z.told else z.told + 1, pk := [] }, A2, c2, rfl, by_turnF HY3.out HTF.out (fun j hj => by have e : j = q := hj; rw [e]; exact HQ.out) HF2.out, HT3.out.trans HTF.out, ⟨by rw [HE.out]; exact HP.out, HD1.out.num⟩, bd, true, nh, HRH.out, .inl ⟨k, x, y, rfl, HZ.out, HOK.out, HBD.out, rfl⟩⟩
        · rw [decide_eq_true hp] at c12
          have hw : IntKind.u64.wrap ((z.told : Int) + 1) = (z.told : Int) + 1 := IntWalk.u64_in _ ⟨by omega, by omega⟩
          have HP := Lib.hid (put12 (x12 := .bool false) (x11 := .int .u64 ((z.told : Int) + 1)) (x5 := .bool true) (x6 := .int .u8 (k : Int)) (x7 := .int .i64 x) (x8 := .int .i64 y) hd3.box)
          have HE : Hid (rclR { z with heard := nh, k := k, c := x, p := y, told := if z.pk = [] then z.told else z.told + 1, pk := [] } = #[.int .i64 z.cell, .int .i64 (if z.on = true then z.c else -1), .int .i64 z.dock, .int .i64 z.full, .int .i64 z.chg, .bool true, .int .u8 (k : Int), .int .i64 x, .int .i64 y, .int .u64 (dn { z with heard := nh } : Int), .int .u64 (nh : Int), .int .u64 ((z.told : Int) + 1), .bool false, .string (strOf [])]) := Lib.hid (by
            have e1 : decide (k ≠ 0) = true := decide_eq_true (by omega)
            unfold rclR dn
            simp only [hp, hzo, e1]
            rfl)
          clear hd3 hal hal0 hb3 hok hbd hb2 HTA HY2 hz hkk
          go_wp2_with fail
          have HTF := Lib.hid ((Turn.put (o := 8) (Turn.put (o := 7) (Turn.put (o := 6) (Turn.put (o := 5) (Turn.put (o := 11) (Turn.put (o := 12) (Turn.refl (One q) (w2.alloc (.cells #[.int .u8 (k : Int), .int .i64 x, .int .i64 y] 33))) (.bool false) (show One q q from rfl)) (.int .u64 ((z.told : Int) + 1)) (show One q q from rfl)) (.bool true) (show One q q from rfl)) (.int .u8 (k : Int)) (show One q q from rfl)) (.int .i64 x) (show One q q from rfl)) (.int .i64 y) (show One q q from rfl)))
          go_ret
          exact ⟨bb, { z with heard := nh, k := k, c := x, p := y, told := if z.pk = [] then z.told else z.told + 1, pk := [] }, A2, c2, rfl, by_turnF HY3.out HTF.out (fun j hj => by have e : j = q := hj; rw [e]; exact HQ.out) HF2.out, HT3.out.trans HTF.out, ⟨by rw [HE.out]; exact HP.out, HD1.out.num⟩, bd, true, nh, HRH.out, .inl ⟨k, x, y, rfl, HZ.out, HOK.out, HBD.out, rfl⟩⟩
      · rw [decide_eq_true hz] at c5
        have HZ := Lib.hid hz
        clear hd3 hal hal0 hb3 hok hbd hb2 HTA HY2 hz
        go_wp2_with fail
        go_ret
        exact ⟨bb, _, A2, c2, rfl, HY3.out, HT3.out, HD3.out, bd, true, nh, HRH.out, .inr ⟨.inr (.inl HZ.out), rfl⟩⟩
    · have hal := Rc.below_new w2 (.cells #[.int .u8 0, .int .i64 0, .int .i64 0] 33)
      have hb3 := hb2.trans (hal.mono hb2.size)
      have HD3 := Lib.hid (HD1.out.later hb3)
      have HN := Lib.hid hno
      have HY3 := Lib.hid (Ln.by_later HY2.out hb3)
      have HT3 := Lib.hid (HT1.out.trans (Turn.ofBelow hb3 _))
      clear hal hb3 hno hb2 HTA HY2
      go_wp2_with fail
      go_ret
      exact ⟨bb, _, A2, c2, rfl, HY3.out, HT3.out, HD3.out, bd, true, nh, HRH.out, .inr ⟨.inr (.inr HN.out), rfl⟩⟩
end
end Rb
end Go.Proofs.YtobpinelhjpfgaaDoor
