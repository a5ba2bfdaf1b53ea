/-
  Layer 6: keep, in a loop over the map; Forget.
-/
import Derived.Test.YtcdclghmebgpnaaGreatDoorWnR
import Derived.Maps.RangeWalk
set_option linter.unusedVariables false
set_option maxRecDepth 100000
namespace Go.Proofs.YtcdclghmebgpnaaGreatDoor.Wn
open Go.RowKit Go.Maps

set_option maxHeartbeats 2000000 in
theorem keep_st (tb N mb r cnt : Nat) (D : DataW Unit) (left : Lit → Bool) (x : Int) (g n c : Nat) (w : World) (hrg : w.ranges Tryz.prog 3 slR mb r N D left cnt) (hbox : w.heap[tb]? = some (.cells #[.map (some mb)] 88 (0, 0))) (hx : IW x) (hN : N ≤ 100000) (hin : has D (kI x) = true) (hn : n ≠ 0) (hnc : n ≤ 1000000) :
    Calls Tryz.prog 44 #[.pointer (some ⟨tb, 0, none⟩), .int .i64 x, .slice (some ⟨g, 0, none⟩) n c] w fun e w' => e = .returned (.tuple #[]) ∧ w'.ranges Tryz.prog 3 slR mb r N (D.put (kI x) (slD g n c)) left cnt ∧ w.mapTurned w' mb := by
  have q22 : ∀ (w : World) (r : Option Nat), (binOp .eql 86 (.map r) (.map none)).run Tryz.prog w = .ok (.bool r.isNone) w := fun w r => run_eql_map_nil w _ _ _ r Tryz.underlying86
  have c0 : w.cell? ⟨tb, 0, none⟩ = some (.map (some mb)) := by rw [cell_of_row w tb 0 _ _ _ hbox]; rfl
  have dn : ((n : Int) == 0) = false := by rw [beq_eq_false_iff_ne]; omega
  obtain ⟨w3, hup, hr3, ht3⟩ := ranges_store hrg (int_keyed Tryz.underlying3) Tryz.underlying86 (by unfold maxLen; omega) (keyOf_int_mk Tryz.underlying3 (WalkArith.wf_i64 hx)) (show slR (.slice (some ⟨g, 0, none⟩) n c) = some (slD g n c, []) from rfl) hin
  have HR3 := Lib.hid hr3
  have HT3 := Lib.hid ht3
  clear hrg hbox hin hr3 ht3
  go_enter Tryz.func44, Tryz.ntmps44
  go_wp2_with fail
  go_end0
  exact ⟨rfl, HR3.out, HT3.out⟩
set_option maxHeartbeats 2000000 in
theorem keep_dl (tb N mb r cnt : Nat) (D : DataW Unit) (left : Lit → Bool) (x : Int) (A : Option Addr) (c : Nat) (w : World) (hrg : w.ranges Tryz.prog 3 slR mb r N D left cnt) (hbox : w.heap[tb]? = some (.cells #[.map (some mb)] 88 (0, 0))) (hx : IW x) :
    Calls Tryz.prog 44 #[.pointer (some ⟨tb, 0, none⟩), .int .i64 x, .slice A 0 c] w fun e w' => e = .returned (.tuple #[]) ∧ ∃ cnt', w'.ranges Tryz.prog 3 slR mb r N (D.del (kI x)) (fun z => left z && !z.sameKey (kI x)) cnt' ∧ cnt' ≤ cnt ∧ w.mapTurned w' mb := by
  have c0 : w.cell? ⟨tb, 0, none⟩ = some (.map (some mb)) := by rw [cell_of_row w tb 0 _ _ _ hbox]; rfl
  obtain ⟨w3, cnt3, hdl0, hr3, hle, ht3⟩ := hrg.drop (int_keyed Tryz.underlying3) Tryz.underlying86 (keyOf_int_mk Tryz.underlying3 (WalkArith.wf_i64 hx)) 86
  have hdl : ∀ ty, (Builtin.delete_ #[86, 3] ty #[.map (some mb), .int .i64 x]).run Tryz.prog w = .ok (.tuple #[]) w3 := fun ty => hdl0
  have HR3 := Lib.hid hr3
  have HT3 := Lib.hid ht3
  have HLE := Lib.hid hle
  clear hrg hbox hr3 ht3 hdl0 hle
  go_enter Tryz.func44, Tryz.ntmps44
  go_wp2_with fail
  refine bodyPost_ret (results_none rfl _ _ _) rfl ?_
  exact ⟨rfl, cnt3, HR3.out, HLE.out, HT3.out⟩
end Go.Proofs.YtcdclghmebgpnaaGreatDoor.Wn
