/-
  Layer 18: the document's robot: New, Step, Hear, Cells.
-/
import Derived.Test.YtobpinelhjpfgaaDoorRbH
import Derived.Deep.RegionHeld3
set_option linter.unusedVariables false
set_option maxRecDepth 100000
namespace Go.Proofs.YtobpinelhjpfgaaDoor
namespace Rb
open Go.RowKit Bp Ck Ln
open Rc (Aok Shp TakeATold act_uniq)
/-- What holds of a robot's act, and of what it tells. -/
structure Gx (z : R) : Prop where
  act : z.k ≠ 0 → Aok z.k z.c z.p
  zero : z.k = 0 → z.c = 0 ∧ z.p = 0 ∧ z.on = false
  link : z.pk ≠ [] → z.pk = play false (z.told + 1) []
theorem Gx.hear {z z' : R} {bs bb : List Nat} (h : Gx z) (hr : HearR z bs z' bb) : Gx z' := by
  obtain ⟨bd, fr, nh, _, ⟨k, c, p, _, hk, ha, _, rfl⟩ | ⟨_, rfl⟩⟩ := hr
  · exact ⟨fun _ => ha, fun e => by have e2 : k = 0 := e; have := ha.1; omega, fun e => absurd rfl e⟩
  · exact ⟨h.act, h.zero, h.link⟩
theorem Gx.heard {z : R} (h : Gx z) (bs : List Nat) : Gx (hdD z bs) := by
  cases hb : heB z.told z.pk bs with
  | false =>
    have e : hdD z bs = z := by unfold hdD; rw [hb]; rfl
    rw [e]; exact h
  | true =>
    have e : hdD z bs = { z with told := z.told + 1, pk := [] } := by unfold hdD; rw [hb]; rfl
    rw [e]
    exact ⟨h.act, h.zero, fun e => absurd rfl e⟩
theorem dn_link {z : R} (hp : z.pk = []) (ht : z.told + 2 < 18446744073709551616) : Gx (dnD z) := by
  refine ⟨fun e => absurd rfl e, fun _ => ⟨rfl, rfl, rfl⟩, fun _ => ?_⟩
  show tlP z.told z.pk [] = play false (z.told + 1) []
  rw [hp, tl_new ht]
theorem Gx.step {i : Nat} {z : R} (h : Gx z) (hd : Gd i z) : Gx (stD z).1 := by
  by_cases hk : z.k = 0
  · rw [st_none hk]; exact h
  · have hp := hd.idle hk
    by_cases hk1 : z.k = 1
    · cases ho : z.on with
      | false =>
        rw [st_go hk1 ho]
        by_cases hc : 0 < z.chg
        · rw [lv_yes hc]
          exact ⟨h.act, fun e => absurd e hk, h.link⟩
        · rw [lv_no hc]; exact h
      | true =>
        rw [st_arr hk1 ho]
        exact dn_link (z := arD z) hp hd.told
    · rw [st_do hk hk1]
      exact dn_link hp hd.told
theorem Gx.new (dock chg : Int) : Gx (z0 dock chg) := ⟨fun e => absurd rfl e, fun _ => ⟨rfl, rfl, rfl⟩, fun e => absurd rfl e⟩
theorem r18new_no (dock chg : Int) (hd : dock < 0 ∨ 255 < dock ∨ chg < 0) (w : World) : Calls Tryd.prog 11 #[.int .i64 dock, .int .i64 chg] w fun e w' => e = .returned (.tuple #[.pointer none, .int .i64 1]) ∧ w = w' := by
  by_cases h1 : dock < 0
  · have t1 : decide (dock < 0) = true := decide_eq_true h1
    go_enter Tryd.func11, Tryd.ntmps11
    go_wp2
    go_ret2
    exact ⟨rfl, rfl⟩
  · have t1 : decide (dock < 0) = false := decide_eq_false h1
    by_cases h2 : 255 < dock
    · have t2 : decide (255 < dock) = true := decide_eq_true h2
      go_enter Tryd.func11, Tryd.ntmps11
      go_wp2
      go_ret2
      exact ⟨rfl, rfl⟩
    · have t2 : decide (255 < dock) = false := decide_eq_false h2
      have t3 : decide (chg < 0) = true := decide_eq_true (by omega)
      go_enter Tryd.func11, Tryd.ntmps11
      go_wp2
      go_ret2
      exact ⟨rfl, rfl⟩
theorem r18new_any (dock chg : Int) (hd : 0 ≤ dock ∧ dock ≤ 255) (hc : 0 ≤ chg) (w : World) : Calls Tryd.prog 11 #[.int .i64 dock, .int .i64 chg] w fun e w' => e = .returned (.tuple #[.pointer (some ⟨w.heap.size, 0, none⟩), .int .i64 0]) ∧ DAt w' w.heap.size (z0 dock chg) ∧ Below w.heap.size w w' := by
  have t1 : decide (dock < 0) = false := decide_eq_false (by omega)
  have t2 : decide (255 < dock) = false := decide_eq_false (by omega)
  have t3 : decide (chg < 0) = false := decide_eq_false (by omega)
  go_enter Tryd.func11, Tryd.ntmps11
  go_wp2_with fail
  go_ret2
  exact ⟨rfl, ⟨heap_alloc_new w _, show 0 < 18446744073709551616 by decide⟩, (Below.refl _ _).alloc (Nat.le_refl _) _⟩
theorem d_tell {w : World} {q told : Nat} {s : Value} (c11 : w.cell? ⟨q, 11, none⟩ = some (.int .u64 (told : Int))) (c12 : w.cell? ⟨q, 12, none⟩ = some (.bool false)) (c13 : w.cell? ⟨q, 13, none⟩ = some s) (f12 : w.frozen? ⟨q, 12, none⟩ = false) (f13 : w.frozen? ⟨q, 13, none⟩ = false) (ht : told + 2 < 18446744073709551616) :
    Calls Tryd.prog 96 #[.pointer (some ⟨q, 11, none⟩), .string ⟨#[]⟩] w fun e w' => e = .returned (.int .i64 0) ∧ w' = (w.setCell ⟨q, 12, none⟩ (.bool true)).setCell ⟨q, 13, none⟩ (.string ⟨#[]⟩) := by
  have t2 : decide ((18446744073709551614 : Int) ≤ (told : Int)) = false := decide_eq_false (by omega)
  have hsz : (⟨#[]⟩ : ByteArray).size = 0 := rfl
  go_enter Tryd.func96, Tryd.ntmps96
  go_wp2_with fail
  go_ret
  exact ⟨rfl, rfl⟩
section
variable {w : World} {q : Nat} {z : R}
theorem str_nil : strOf [] = ⟨#[]⟩ := rfl
theorem put14 {w : World} {q : Nat} {v0 v1 v2 v3 v4 v5 v6 v7 v8 v9 v10 v11 v12 v13 x5 x6 x7 x8 x1 x9 x12 x13 : Value} {t : TypeId} (h : w.heap[q]? = some (.cells #[v0, v1, v2, v3, v4, v5, v6, v7, v8, v9, v10, v11, v12, v13] t (0, 0))) :
    ((((((((w.setCell ⟨q, 5, none⟩ x5).setCell ⟨q, 6, none⟩ x6).setCell ⟨q, 7, none⟩ x7).setCell ⟨q, 8, none⟩ x8).setCell ⟨q, 1, none⟩ x1).setCell ⟨q, 9, none⟩ x9).setCell ⟨q, 12, none⟩ x12).setCell ⟨q, 13, none⟩ x13).heap[q]? = some (.cells #[v0, x1, v2, v3, v4, x5, x6, x7, x8, x9, v10, v11, x12, x13] t (0, 0)) := by
  have g0 : (w.setCell ⟨q, 5, none⟩ x5).heap[q]? = some (.cells #[v0, v1, v2, v3, v4, x5, v6, v7, v8, v9, v10, v11, v12, v13] t (0, 0)) := heap_setCell_same w q 5 _ _ x5 h
  have g1 : ((w.setCell ⟨q, 5, none⟩ x5).setCell ⟨q, 6, none⟩ x6).heap[q]? = some (.cells #[v0, v1, v2, v3, v4, x5, x6, v7, v8, v9, v10, v11, v12, v13] t (0, 0)) := heap_setCell_same (w.setCell ⟨q, 5, none⟩ x5) q 6 _ _ x6 g0
  have g2 : (((w.setCell ⟨q, 5, none⟩ x5).setCell ⟨q, 6, none⟩ x6).setCell ⟨q, 7, none⟩ x7).heap[q]? = some (.cells #[v0, v1, v2, v3, v4, x5, x6, x7, v8, v9, v10, v11, v12, v13] t (0, 0)) := heap_setCell_same ((w.setCell ⟨q, 5, none⟩ x5).setCell ⟨q, 6, none⟩ x6) q 7 _ _ x7 g1
  have g3 : ((((w.setCell ⟨q, 5, none⟩ x5).setCell ⟨q, 6, none⟩ x6).setCell ⟨q, 7, none⟩ x7).setCell ⟨q, 8, none⟩ x8).heap[q]? = some (.cells #[v0, v1, v2, v3, v4, x5, x6, x7, x8, v9, v10, v11, v12, v13] t (0, 0)) := heap_setCell_same (((w.setCell ⟨q, 5, none⟩ x5).setCell ⟨q, 6, none⟩ x6).setCell ⟨q, 7, none⟩ x7) q 8 _ _ x8 g2
  have g4 : (((((w.setCell ⟨q, 5, none⟩ x5).setCell ⟨q, 6, none⟩ x6).setCell ⟨q, 7, none⟩ x7).setCell ⟨q, 8, none⟩ x8).setCell ⟨q, 1, none⟩ x1).heap[q]? = some (.cells #[v0, x1, v2, v3, v4, x5, x6, x7, x8, v9, v10, v11, v12, v13] t (0, 0)) := heap_setCell_same ((((w.setCell ⟨q, 5, none⟩ x5).setCell ⟨q, 6, none⟩ x6).setCell ⟨q, 7, none⟩ x7).setCell ⟨q, 8, none⟩ x8) q 1 _ _ x1 g3
  have g5 : ((((((w.setCell ⟨q, 5, none⟩ x5).setCell ⟨q, 6, none⟩ x6).setCell ⟨q, 7, none⟩ x7).setCell ⟨q, 8, none⟩ x8).setCell ⟨q, 1, none⟩ x1).setCell ⟨q, 9, none⟩ x9).heap[q]? = some (.cells #[v0, x1, v2, v3, v4, x5, x6, x7, x8, x9, v10, v11, v12, v13] t (0, 0)) := heap_setCell_same (((((w.setCell ⟨q, 5, none⟩ x5).setCell ⟨q, 6, none⟩ x6).setCell ⟨q, 7, none⟩ x7).setCell ⟨q, 8, none⟩ x8).setCell ⟨q, 1, none⟩ x1) q 9 _ _ x9 g4
  have g6 : (((((((w.setCell ⟨q, 5, none⟩ x5).setCell ⟨q, 6, none⟩ x6).setCell ⟨q, 7, none⟩ x7).setCell ⟨q, 8, none⟩ x8).setCell ⟨q, 1, none⟩ x1).setCell ⟨q, 9, none⟩ x9).setCell ⟨q, 12, none⟩ x12).heap[q]? = some (.cells #[v0, x1, v2, v3, v4, x5, x6, x7, x8, x9, v10, v11, x12, v13] t (0, 0)) := heap_setCell_same ((((((w.setCell ⟨q, 5, none⟩ x5).setCell ⟨q, 6, none⟩ x6).setCell ⟨q, 7, none⟩ x7).setCell ⟨q, 8, none⟩ x8).setCell ⟨q, 1, none⟩ x1).setCell ⟨q, 9, none⟩ x9) q 12 _ _ x12 g5
  have g7 : ((((((((w.setCell ⟨q, 5, none⟩ x5).setCell ⟨q, 6, none⟩ x6).setCell ⟨q, 7, none⟩ x7).setCell ⟨q, 8, none⟩ x8).setCell ⟨q, 1, none⟩ x1).setCell ⟨q, 9, none⟩ x9).setCell ⟨q, 12, none⟩ x12).setCell ⟨q, 13, none⟩ x13).heap[q]? = some (.cells #[v0, x1, v2, v3, v4, x5, x6, x7, x8, x9, v10, v11, x12, x13] t (0, 0)) := heap_setCell_same (((((((w.setCell ⟨q, 5, none⟩ x5).setCell ⟨q, 6, none⟩ x6).setCell ⟨q, 7, none⟩ x7).setCell ⟨q, 8, none⟩ x8).setCell ⟨q, 1, none⟩ x1).setCell ⟨q, 9, none⟩ x9).setCell ⟨q, 12, none⟩ x12) q 13 _ _ x13 g6
  exact g7
theorem put_done (h : DAt w q z) (hp : z.pk = []) (ht : z.told + 2 < 18446744073709551616) :
    ((((((((w.setCell ⟨q, 5, none⟩ (.bool false)).setCell ⟨q, 6, none⟩ (.int .u8 0)).setCell ⟨q, 7, none⟩ (.int .i64 0)).setCell ⟨q, 8, none⟩ (.int .i64 0)).setCell ⟨q, 1, none⟩ (.int .i64 (-1))).setCell ⟨q, 9, none⟩ (.int .u64 ((dn z : Int) + 1))).setCell ⟨q, 12, none⟩ (.bool true)).setCell ⟨q, 13, none⟩ (.string ⟨#[]⟩)).heap[q]? = some (.cells (rclR (dnD z)) 44 (0, 0)) := by
  have e1 : dn (dnD z) = dn z + 1 := by
    unfold dn dnD clr
    simp only [hp]
    rw [if_neg (tl_ne ht), if_pos trivial]
  have e2 : decide ((dnD z).pk ≠ []) = true := decide_eq_true (by show tlP z.told z.pk [] ≠ []; rw [hp]; exact tl_ne ht)
  have g := put14 (x5 := .bool false) (x6 := .int .u8 0) (x7 := .int .i64 0) (x8 := .int .i64 0) (x1 := .int .i64 (-1)) (x9 := .int .u64 ((dn z : Int) + 1)) (x12 := .bool true) (x13 := .string ⟨#[]⟩) h.box
  rw [g]
  unfold rclR
  rw [e1, e2, str_nil]
  rfl
set_option maxHeartbeats 400000 in
theorem r18done_any (h : DAt w q z) (hp : z.pk = []) (ht : z.told + 2 < 18446744073709551616) : Calls Tryd.prog 61 #[.pointer (some ⟨q, 0, none⟩)] w fun e w' => e = .returned (.bool true) ∧ Turn (One q) (One q) w w' ∧ DAt w' q (dnD z) := by
  have hdn : dn z = z.told := by unfold dn; rw [if_pos hp]; rfl
  have c1 : w.cell? ⟨q, 1, none⟩ = some (.int .i64 (if z.on = true then z.c else -1)) := (h.row 1).1
  have c5 : w.cell? ⟨q, 5, none⟩ = some (.bool (decide (z.k ≠ 0))) := (h.row 5).1
  have c6 : w.cell? ⟨q, 6, none⟩ = some (.int .u8 (z.k : Int)) := (h.row 6).1
  have c7 : w.cell? ⟨q, 7, none⟩ = some (.int .i64 z.c) := (h.row 7).1
  have c8 : w.cell? ⟨q, 8, none⟩ = some (.int .i64 z.p) := (h.row 8).1
  have c9 : w.cell? ⟨q, 9, none⟩ = some (.int .u64 (z.told : Int)) := by rw [← hdn]; exact (h.row 9).1
  have c11 : w.cell? ⟨q, 11, none⟩ = some (.int .u64 (z.told : Int)) := (h.row 11).1
  have c12 : w.cell? ⟨q, 12, none⟩ = some (.bool false) := by have e := (h.row 12).1; rw [e]; show some (Value.bool (decide (z.pk ≠ []))) = _; rw [decide_eq_false (by simpa using hp)]
  have c13 : w.cell? ⟨q, 13, none⟩ = some (.string (strOf [])) := (h.row 13).1
  have f1 := (h.row 1).2
  have f5 := (h.row 5).2
  have f6 := (h.row 6).2
  have f7 := (h.row 7).2
  have f8 := (h.row 8).2
  have f9 := (h.row 9).2
  have f12 := (h.row 12).2
  have f13 := (h.row 13).2
  have hpd := put_done h hp ht
  rw [hdn] at hpd
  have HP := Lib.hid hpd
  have HH := Lib.hid h.num
  have HT : Hid (∀ W : World, W.cell? ⟨q, 11, none⟩ = some (.int .u64 (z.told : Int)) → W.cell? ⟨q, 12, none⟩ = some (.bool false) → W.cell? ⟨q, 13, none⟩ = some (.string (strOf [])) → W.frozen? ⟨q, 12, none⟩ = false → W.frozen? ⟨q, 13, none⟩ = false → Calls Tryd.prog 96 #[.pointer (some ⟨q, 11, none⟩), .string ⟨#[]⟩] W fun e w' => e = .returned (.int .i64 0) ∧ w' = (W.setCell ⟨q, 12, none⟩ (.bool true)).setCell ⟨q, 13, none⟩ (.string ⟨#[]⟩)) := Lib.hid (fun W a b c d e => d_tell a b c d e ht)
  clear h hp hdn hpd
  go_enter Tryd.func61, Tryd.ntmps61
  go_wp2_with fail
  refine (HT.out _ (by go_simp) (by go_simp) (by go_simp) (by go_simp) (by go_simp)).mono ?_
  rintro e w2 ⟨rfl, rfl⟩
  go_wp2_with fail
  go_ret
  exact ⟨rfl, ((((((((Turn.refl (One q) w).put _ (show One q q from rfl)).put _ (show One q q from rfl)).put _ (show One q q from rfl)).put _ (show One q q from rfl)).put _ (show One q q from rfl)).put _ (show One q q from rfl)).put _ (show One q q from rfl)).put _ (show One q q from rfl), HP.out, HH.out⟩
end
end Rb
end Go.Proofs.YtobpinelhjpfgaaDoor
