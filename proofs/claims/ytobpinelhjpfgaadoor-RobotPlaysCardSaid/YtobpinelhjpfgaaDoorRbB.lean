/-
  Layer 18: Next, Cells, leave, arrive, wasHeard, Step.
-/
import Derived.Test.YtobpinelhjpfgaaDoorRbA
import Derived.Deep.RegionHeld3
set_option linter.unusedVariables false
set_option maxRecDepth 100000
namespace Go.Proofs.YtobpinelhjpfgaaDoor
namespace Rb
open Go.RowKit Bp Ck Ln
open Rc (Aok Shp TakeATold act_uniq)
section
variable {w : World} {base r h s : Nat} {v : Value} {z : R}
theorem next_any (g : RbAt w base r h s v z) : Calls Tryd.prog 23 #[.pointer (some ⟨r, 0, none⟩)] w fun e w' => e = .returned (.tuple #[.agg #[.int .u8 (z.k : Int), .int .i64 z.c, .int .i64 z.p], .bool (decide (z.k ≠ 0))]) ∧ Below w.heap.size w w' := by
  have hb1 := Rc.below_new w (.cells #[.int .u8 0, .int .i64 0, .int .i64 0] 33)
  have hr1 := heap_alloc_new w (.cells #[.int .u8 0, .int .i64 0, .int .i64 0] 33)
  have g1 := g.later hb1
  have HBU := Lib.hid (busy_any (g1.later (Below.refl _ _).drew))
  have HB := Lib.hid hb1
  obtain ⟨⟨-, -, -, -, c4, c5, c6, -⟩, -⟩ := g1.cells
  generalize decide (z.k ≠ 0) = b at *
  obtain ⟨⟨r0, r1, r2⟩, f0, f1, f2⟩ := Rc.row_cells3 hr1
  have HR1 := Lib.hid hr1
  clear g g1 hb1 hr1
  go_enter Tryd.func23, Tryd.ntmps23
  go_wp2_with fail
  generalize w.alloc (.cells #[.int .u8 0, .int .i64 0, .int .i64 0] 33) = w1 at *
  go_region_with (go_simp; go_at_call 58; refine HBU.out.mono ?_; rintro e w2 ⟨rfl, rfl⟩)
  all_goals (go_wp2_with fail; refine bodyPost_ret (ret_next _ rfl (show _ = _ from Rc.set3a HR1.out _ _ _)) rfl ?_; exact ⟨rfl, (Rc.below3a HB.out (Nat.le_refl _) _ _ _).drew⟩)
set_option maxHeartbeats 1000000 in
theorem cells_any (g : RbAt w base r h s v z) : Calls Tryd.prog 26 #[.pointer (some ⟨r, 0, none⟩)] w (CellsTold z w) := by
  obtain ⟨⟨-, -, c2, -, -, c5, -, c7, -, -⟩, -⟩ := g.cells
  clear g
  unfold CellsTold cls
  cases hon : z.on with
  | false =>
    have e : (if false = true ∧ z.c ≠ z.cell then [z.cell, z.c] else [z.cell]) = [z.cell] := by simp
    rw [e]
    rw [hon] at c7
    clear e hon
    go_enter Tryd.func26, Tryd.ntmps26
    go_wp2_with fail
    go_region
    go_wp2_with fail
    go_ret
    exact ⟨_, _, rfl, Bk.Gt.later (Bk.Lt.one w z.cell) (Below.refl _ _).drew, (Rc.below_new w _).drew, fun a ha => by cases ha; exact Nat.le_refl _⟩
  | true =>
    rw [hon] at c7
    by_cases hc : z.c = z.cell
    · have e : (if true = true ∧ z.c ≠ z.cell then [z.cell, z.c] else [z.cell]) = [z.cell] := by simp [hc]
      rw [e]
      have t1 : (z.c != z.cell) = false := by simpa using hc
      clear e hon
      go_enter Tryd.func26, Tryd.ntmps26
      go_wp2_with fail
      go_region
      go_wp2_with fail
      go_ret
      exact ⟨_, _, rfl, Bk.Gt.later (Bk.Lt.one w z.cell) (Below.refl _ _).drew, (Rc.below_new w _).drew, fun a ha => by cases ha; exact Nat.le_refl _⟩
    · have e : (if true = true ∧ z.c ≠ z.cell then [z.cell, z.c] else [z.cell]) = [z.cell, z.c] := by simp [hc]
      rw [e]
      have t1 : (z.c != z.cell) = true := by simpa using hc
      clear e hon
      go_enter Tryd.func26, Tryd.ntmps26
      go_wp2_with fail
      go_region
      go_wp2_with fail
      go_region
      go_wp2_with fail
      go_ret
      exact ⟨_, _, rfl, Bk.Gt.later (lt_two w z.cell z.c) (Below.refl _ _).drew.drew, (Rc.below_new w _).drew.drew, fun a ha => by cases ha; exact Nat.le_refl _⟩
end
/-- It begins to go. -/
theorem put_two {w : World} {r h s : Nat} {z : R} (hb : w.heap[r]? = some (.cells (rcl z h s) 85 (0, 0))) (x : Int) :
    ((w.setCell ⟨r, 3, none⟩ (.int .i64 x)).setCell ⟨r, 7, none⟩ (.bool true)).heap[r]? = some (.cells (rcl { z with chg := x, on := true } h s) 85 (0, 0)) := by
  have g1 := heap_setCell_same w r 3 _ _ (.int .i64 x) hb
  rw [heap_setCell_same _ r 7 _ _ _ g1]
  rfl
theorem set_only {w : World} {r j : Nat} {u : Value} : ∀ k, k ≠ r → (w.setCell ⟨r, j, none⟩ u).heap[k]? = w.heap[k]? := fun k hk => Below.heap_setCell _ _ _ _ hk
section
variable {w : World} {base r h s : Nat} {v : Value} {z : R}
/-- What a call comes to that writes the robot's own block alone. -/
def BTold (base r h s : Nat) (v : Value) (z : R) (x : Value) (w : World) (e : Ending) (w' : World) : Prop := e = .returned x ∧ RbAt w' base r h s v z ∧ Turn (One r) (One r) w w'
def lvD (z : R) : R := if 0 < z.chg then { z with chg := z.chg - 1, on := true } else z
theorem leave_any (g : RbAt w base r h s v z) (hc : z.chg ≤ 9223372036854775807) : Calls Tryd.prog 59 #[.pointer (some ⟨r, 0, none⟩)] w (BTold base r h s v (lvD z) (.tuple #[]) w) := by
  obtain ⟨⟨-, -, -, c3, -⟩, fz⟩ := g.cells
  have f3 := fz 3
  have f7 := fz 7
  have HG := Lib.hid g
  clear g fz
  by_cases h0 : 0 < z.chg
  · have t1 : decide (0 < z.chg) = true := decide_eq_true h0
    have e1 : lvD z = { z with chg := z.chg - 1, on := true } := by unfold lvD; rw [if_pos h0]
    rw [e1]
    clear e1
    have d1 := frozen_of_row _ r 7 _ _ (heap_setCell_same w r 3 _ _ (.int .i64 (z.chg - 1)) HG.out.box)
    have d2 := cell_of_row _ r 7 _ _ _ (heap_setCell_same w r 3 _ _ (.int .i64 (z.chg - 1)) HG.out.box)
    have d3 : (w.setCell ⟨r, 3, none⟩ (.int .i64 (z.chg - 1))).cell? ⟨r, 7, none⟩ = some (.bool z.on) := d2
    clear d2
    go_enter Tryd.func59, Tryd.ntmps59
    go_wp2_with fail
    go_end0
    exact ⟨rfl, HG.out.set (fun k hk => (set_only k hk).trans (set_only k hk)) (put_two HG.out.box _) rfl rfl rfl, ((Turn.refl (One r) w).put _ (show One r r from rfl)).put _ (show One r r from rfl)⟩
  · have t1 : decide (0 < z.chg) = false := decide_eq_false h0
    have e1 : lvD z = z := by unfold lvD; rw [if_neg h0]
    rw [e1]
    clear e1
    go_enter Tryd.func59, Tryd.ntmps59
    go_wp2_with fail
    go_end0
    exact ⟨rfl, HG.out, Turn.refl _ _⟩
def arD (z : R) : R := { z with cell := z.c, chg := if z.c = z.dock then z.full else z.chg }
theorem arrive_any (g : RbAt w base r h s v z) : Calls Tryd.prog 60 #[.pointer (some ⟨r, 0, none⟩)] w (BTold base r h s v (arD z) (.tuple #[]) w) := by
  obtain ⟨⟨c0, c1, c2, c3, -, c5, -⟩, fz⟩ := g.cells
  have f2 := fz 2
  have HG := Lib.hid g
  clear g fz
  have hb1 : (w.setCell ⟨r, 2, none⟩ (.int .i64 z.c)).heap[r]? = some (.cells (rcl { z with cell := z.c } h s) 85 (0, 0)) := by rw [heap_setCell_same w r 2 _ _ (.int .i64 z.c) HG.out.box]; rfl
  have q := fun j => cell_of_row (w.setCell ⟨r, 2, none⟩ (.int .i64 z.c)) r j _ _ _ hb1
  have d0 : (w.setCell ⟨r, 2, none⟩ (.int .i64 z.c)).cell? ⟨r, 0, none⟩ = some (.int .i64 z.dock) := q 0
  have d1 : (w.setCell ⟨r, 2, none⟩ (.int .i64 z.c)).cell? ⟨r, 1, none⟩ = some (.int .i64 z.full) := q 1
  have d2 : (w.setCell ⟨r, 2, none⟩ (.int .i64 z.c)).cell? ⟨r, 2, none⟩ = some (.int .i64 z.c) := q 2
  have d3 : (w.setCell ⟨r, 2, none⟩ (.int .i64 z.c)).cell? ⟨r, 3, none⟩ = some (.int .i64 z.chg) := q 3
  have k3 := frozen_of_row _ r 3 _ _ hb1
  have HB1 := Lib.hid hb1
  clear q hb1
  by_cases hd : z.c = z.dock
  · have e1 : arD z = { z with cell := z.c, chg := z.full } := by unfold arD; rw [if_pos hd]
    rw [e1]
    have t1 : (z.c == z.dock) = true := by simpa using hd
    clear e1 hd
    go_enter Tryd.func60, Tryd.ntmps60
    go_wp2_with fail
    go_region
    go_wp2_with fail
    go_end0
    refine ⟨rfl, HG.out.set (fun k hk => (set_only k hk).trans (set_only k hk)) ?_ rfl rfl rfl, (((Turn.refl (One r) w).put _ (show One r r from rfl)).drew).put _ (show One r r from rfl)⟩
    show ((w.setCell ⟨r, 2, none⟩ (.int .i64 z.c)).setCell ⟨r, 3, none⟩ (.int .i64 z.full)).heap[r]? = _
    rw [heap_setCell_same _ r 3 _ _ (.int .i64 z.full) HB1.out]
    rfl
  · have e1 : arD z = { z with cell := z.c } := by unfold arD; rw [if_neg hd]
    rw [e1]
    have t1 : (z.c == z.dock) = false := by simpa using hd
    clear e1 hd
    go_enter Tryd.func60, Tryd.ntmps60
    go_wp2_with fail
    go_region
    go_wp2_with fail
    go_end0
    exact ⟨rfl, HG.out.set (fun k hk => set_only k hk) HB1.out rfl rfl rfl, ((Turn.refl (One r) w).put _ (show One r r from rfl)).drew⟩
/-- What it told last is taken as heard. -/
def wsD (z : R) : R := { z with told := if z.pk = [] then z.told else z.told + 1, pk := [] }
theorem wasHeard_any (g : RbAt w base r h s v z) (hB : base ≤ w.heap.size) (hn : z.told + 2 < 18446744073709551616) : Calls Tryd.prog 63 #[.pointer (some ⟨r, 0, none⟩)] w (RTold base r h s v (wsD z) (.tuple #[]) w) := by
  obtain ⟨⟨-, -, -, -, -, -, -, -, -, c9⟩, -⟩ := g.cells
  have HT := Lib.hid (told_any g.sat)
  have hok : Ok true (z.told + 1) [] := ok_heard (by omega)
  have HL : Hid (Calls Tryd.prog 45 #[.agg #[.bool true, .int .u64 ((z.told : Int) + 1), .slice none 0 0]] w (Ln.LayTold w (play true (z.told + 1) []))) := Lib.hid (lay_ok (n := z.told + 1) hok (By.none_ 0 w) (Nat.zero_le _))
  have HK := Lib.hid hok
  have HG := Lib.hid g
  have hw : IntKind.u64.wrap ((z.told : Int) + 1) = (z.told : Int) + 1 := IntWalk.u64_in _ ⟨by omega, by omega⟩
  clear g hok
  go_enter Tryd.func63, Tryd.ntmps63
  go_wp2_with fail
  refine HT.out.mono ?_
  rintro e w1 ⟨rfl, rfl⟩
  go_wp2_with fail
  refine HL.out.mono ?_
  rintro e w2 ⟨ga, c2, rfl, ho, hb⟩
  have hg2 := HG.out.later hb
  obtain ⟨⟨-, -, -, -, -, -, -, -, -, d9⟩, -⟩ := hg2.cells
  have HS := Lib.hid (shear_any hg2.sat (By.own ho HK.out.play_byte) (Nat.le_refl _))
  have HG2 := Lib.hid hg2
  have HB := Lib.hid hb
  clear hg2 ho hb HL HT c9
  go_wp2_with fail
  refine HS.out.mono ?_
  rintro e w3 ⟨v', rfl, hs3, ht3, hv3⟩
  have HS3 := Lib.hid (HG2.out.sender (Nat.le_trans hB HB.out.size) hs3 ht3 hv3)
  clear hs3 ht3 hv3 HS d9
  go_wp2_with fail
  go_end0
  refine ⟨v', rfl, ?_, (Turn.ofBelow HB.out _).trans HS3.out.2⟩
  have q := HS3.out.1
  by_cases hp : z.pk = []
  · have e1 : heB z.told z.pk (play true (z.told + 1) []) = false := by unfold heB; rw [hp]; rfl
    rw [e1] at q
    have e2 : wsD z = z := by
      cases z
      simp only at hp
      subst hp
      rfl
    rw [e2]
    exact q
  · have e1 : heB z.told z.pk (play true (z.told + 1) []) = true := by unfold heB; rw [decide_eq_true hp, decide_eq_true rfl]; rfl
    rw [e1] at q
    have e2 : wsD z = { z with told := z.told + 1, pk := [] } := by unfold wsD; rw [if_neg hp]
    rw [e2]
    exact q
end
def clr (z : R) : R := { z with k := 0, c := 0, p := 0, on := false }
/-- An act is done: that is told. -/
def dnD (z : R) : R := { clr z with pk := tlP z.told z.pk [] }
def stD (z : R) : R × Bool := if z.k = 0 then (z, false) else if z.k = 1 then (if z.on = true then (dnD (arD z), true) else (lvD z, false)) else (dnD z, true)
theorem put_clr {w : World} {r h s : Nat} {z : R} (hb : w.heap[r]? = some (.cells (rcl z h s) 85 (0, 0))) :
    ((((w.setCell ⟨r, 4, none⟩ (.int .u8 0)).setCell ⟨r, 5, none⟩ (.int .i64 0)).setCell ⟨r, 6, none⟩ (.int .i64 0)).setCell ⟨r, 7, none⟩ (.bool false)).heap[r]? = some (.cells (rcl (clr z) h s) 85 (0, 0)) := by
  have g1 := heap_setCell_same w r 4 _ _ (.int .u8 0) hb
  have g2 := heap_setCell_same _ r 5 _ _ (.int .i64 0) g1
  have g3 := heap_setCell_same _ r 6 _ _ (.int .i64 0) g2
  rw [heap_setCell_same _ r 7 _ _ _ g3]
  rfl
/-- What is written last. -/
structure Clr (w : World) (r h s : Nat) (z : R) : Prop where
  f4 : w.frozen? ⟨r, 4, none⟩ = false
  f5 : (w.setCell ⟨r, 4, none⟩ (.int .u8 0)).frozen? ⟨r, 5, none⟩ = false
  f6 : ((w.setCell ⟨r, 4, none⟩ (.int .u8 0)).setCell ⟨r, 5, none⟩ (.int .i64 0)).frozen? ⟨r, 6, none⟩ = false
  f7 : (((w.setCell ⟨r, 4, none⟩ (.int .u8 0)).setCell ⟨r, 5, none⟩ (.int .i64 0)).setCell ⟨r, 6, none⟩ (.int .i64 0)).frozen? ⟨r, 7, none⟩ = false
  c7 : (((w.setCell ⟨r, 4, none⟩ (.int .u8 0)).setCell ⟨r, 5, none⟩ (.int .i64 0)).setCell ⟨r, 6, none⟩ (.int .i64 0)).cell? ⟨r, 7, none⟩ = some (.bool z.on)
section
variable {w : World} {base r h s : Nat} {v : Value} {z : R}
theorem RbAt.clr (g : RbAt w base r h s v z) : RbAt ((((w.setCell ⟨r, 4, none⟩ (.int .u8 0)).setCell ⟨r, 5, none⟩ (.int .i64 0)).setCell ⟨r, 6, none⟩ (.int .i64 0)).setCell ⟨r, 7, none⟩ (.bool false)) base r h s v (clr z) :=
  g.set (fun k hk => (set_only k hk).trans ((set_only k hk).trans ((set_only k hk).trans (set_only k hk)))) (put_clr g.box) rfl rfl rfl
theorem turn_clr (w : World) (r : Nat) (a b c d : Value) : Turn (One r) (One r) w ((((w.setCell ⟨r, 4, none⟩ a).setCell ⟨r, 5, none⟩ b).setCell ⟨r, 6, none⟩ c).setCell ⟨r, 7, none⟩ d) :=
  ((((Turn.refl (One r) w).put _ (show One r r from rfl)).put _ (show One r r from rfl)).put _ (show One r r from rfl)).put _ (show One r r from rfl)
theorem turn_own {w' : World} (r h s : Nat) (v : Value) (ht : Turn (One r) (One r) w w') : Turn (RbF r h s v) (RbF r h s v) w w' :=
  ⟨ht.os, ht.tape, ht.output, ht.size, fun k h1 h2 => ht.block k h1 (fun e => h2 (.inl e)), fun k hk => .inl hk⟩
theorem RbAt.told_none (g : RbAt w base r h s v z) : Calls Tryd.prog 33 #[.pointer (some ⟨s, 0, none⟩), .slice none 0 0] w (STold s v z.told (tlP z.told z.pk []) (.int .i64 (tlE z.told z.pk 0)) w) := tell_any g.sat (By.none_ 0 w) (Nat.zero_le _)
set_option maxHeartbeats 2000000 in
theorem step_any (g : RbAt w base r h s v z) (hB : base ≤ w.heap.size) (hc : z.chg ≤ 9223372036854775807) : Calls Tryd.prog 17 #[.pointer (some ⟨r, 0, none⟩)] w (RTold base r h s v (stD z).1 (.bool (stD z).2) w) := by
  have HBU := Lib.hid (busy_any g)
  obtain ⟨⟨-, -, -, -, c4, -, -, c7, -, c9⟩, fz⟩ := g.cells
  by_cases hk0 : z.k = 0
  · have e1 : stD z = (z, false) := by unfold stD; rw [if_pos hk0]
    rw [e1]
    rw [decide_eq_false (show ¬ z.k ≠ 0 by simpa using hk0)] at HBU
    have HG := Lib.hid g
    clear g e1 fz
    go_enter Tryd.func17, Tryd.ntmps17
    go_wp2_with fail
    refine HBU.out.mono ?_
    rintro e w1 ⟨rfl, rfl⟩
    go_wp2_with fail
    go_ret
    exact ⟨v, rfl, HG.out, Turn.refl _ _⟩
  · rw [decide_eq_true hk0] at HBU
    by_cases hk1 : z.k = 1
    · rw [hk1] at c4
      cases hon : z.on with
      | false =>
        have e1 : stD z = (lvD z, false) := by unfold stD; rw [if_neg hk0, if_pos hk1, if_neg (by simp [hon])]
        rw [e1]
        rw [hon] at c7
        have HL := Lib.hid (leave_any g hc)
        clear g e1 fz
        go_enter Tryd.func17, Tryd.ntmps17
        go_wp2_with fail
        refine HBU.out.mono ?_
        rintro e w1 ⟨rfl, rfl⟩
        go_wp2_with fail
        refine HL.out.mono ?_
        rintro e w1 ⟨rfl, hg1, ht1⟩
        have HG1 := Lib.hid hg1
        have HT1 := Lib.hid ht1
        clear hg1 ht1 HL
        go_wp2_with fail
        go_ret
        exact ⟨v, rfl, HG1.out, turn_own r h s v HT1.out⟩
      | true =>
        have e1 : stD z = (dnD (arD z), true) := by unfold stD; rw [if_neg hk0, if_pos hk1, if_pos hon]
        rw [e1]
        rw [hon] at c7
        have HL := Lib.hid (arrive_any g)
        clear g e1 fz
        go_enter Tryd.func17, Tryd.ntmps17
        go_wp2_with fail
        refine HBU.out.mono ?_
        rintro e w1 ⟨rfl, rfl⟩
        go_wp2_with fail
        refine HL.out.mono ?_
        rintro e w1 ⟨rfl, hg1, ht1⟩
        have HG1 := Lib.hid hg1
        have HT1 := Lib.hid ht1
        clear hg1 ht1 HL c4 c7 c9
        obtain ⟨⟨-, -, -, -, d4, d5, d6, d7, -, d9⟩, fz⟩ := HG1.out.cells
        have f4 := fz 4
        have f5 := fz 5
        have f6 := fz 6
        have f7 := fz 7
        have HC := Lib.hid HG1.out.clr
        obtain ⟨⟨-, -, -, -, -, -, -, -, -, k9⟩, -⟩ := HC.out.cells
        have HTC := Lib.hid (turn_own r h s v (turn_clr w1 r (.int .u8 0) (.int .i64 0) (.int .i64 0) (.bool false)))
        have HTL := Lib.hid HC.out.told_none
        clear fz
        go_wp2_with fail
        refine HTL.out.mono ?_
        rintro e w3 ⟨v', rfl, hs3, ht3, hv3⟩
        have HS3 := Lib.hid (HC.out.sender (Nat.le_trans hB ((turn_own r h s v HT1.out).trans HTC.out).size) hs3 ht3 hv3)
        clear hs3 ht3 hv3 HTL d4 d5 d6 d7 d9 k9
        go_wp2_with fail
        go_ret
        exact ⟨v', rfl, HS3.out.1, ((turn_own r h s v HT1.out).trans HTC.out).trans HS3.out.2⟩
    · have e1 : stD z = (dnD z, true) := by unfold stD; rw [if_neg hk0, if_neg hk1]
      rw [e1]
      have t1 : ((z.k : Int) == 1) = false := by rw [beq_eq_false_iff_ne]; omega
      have HG1 := Lib.hid g
      clear g e1 fz
      go_enter Tryd.func17, Tryd.ntmps17
      go_wp2_with fail
      refine HBU.out.mono ?_
      rintro e w1 ⟨rfl, rfl⟩
      obtain ⟨⟨-, -, -, -, d4, d5, d6, d7, -, d9⟩, fz⟩ := HG1.out.cells
      have f4 := fz 4
      have f5 := fz 5
      have f6 := fz 6
      have f7 := fz 7
      have HC := Lib.hid HG1.out.clr
      obtain ⟨⟨-, -, -, -, -, -, -, -, -, k9⟩, -⟩ := HC.out.cells
      have HTC := Lib.hid (turn_own r h s v (turn_clr w r (.int .u8 0) (.int .i64 0) (.int .i64 0) (.bool false)))
      have HTL := Lib.hid HC.out.told_none
      clear fz
      go_wp2_with fail
      refine HTL.out.mono ?_
      rintro e w3 ⟨v', rfl, hs3, ht3, hv3⟩
      have HS3 := Lib.hid (HC.out.sender (Nat.le_trans hB ((Turn.refl (RbF r h s v) w).trans HTC.out).size) hs3 ht3 hv3)
      clear hs3 ht3 hv3 HTL d4 d5 d6 d7 d9 k9
      go_wp2_with fail
      go_ret
      exact ⟨v', rfl, HS3.out.1, ((Turn.refl (RbF r h s v) w).trans HTC.out).trans HS3.out.2⟩
end
end Rb
end Go.Proofs.YtobpinelhjpfgaaDoor
