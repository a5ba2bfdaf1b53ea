/-
  RobotNil: the walk.
-/
import Derived.Test.YtobpinelhjpfgaaDoorRbE
set_option linter.unusedVariables false
set_option maxRecDepth 100000
namespace Go.Proofs.YtobpinelhjpfgaaDoor
namespace Rc
open Go.RowKit Bp Ck Ln Rb
set_option maxHeartbeats 2000000 in
theorem robotNil_walk (A : Option Addr) (n cap : Nat) (l : List Nat) (w : World) (hy : By w.heap.size w A n cap l) (hS : Shp w) :
    Calls Tryd.prog 6 #[.slice A n cap] w fun e w' => e = .returned (.bool true) ∧ Below w.heap.size w w' := by
  have HS := Lib.hid (shown18_any w hS)
  clear hS
  go_enter Tryd.func6, Tryd.ntmps6
  go_wp2_with fail
  refine HS.out.mono ?_
  rintro e w1 ⟨rfl, hb1⟩
  have HB1 := Lib.hid hb1
  clear hb1 HS
  go_wp2_with fail
  refine (nil_next _).mono ?_
  rintro e w2 ⟨rfl, hb2⟩
  have HB2 := Lib.hid ((HB1.out.trans (hb2.mono HB1.out.size)).trans ((below_new w2 (.cells #[.int .u8 0, .int .i64 0, .int .i64 0] 33)).mono (Nat.le_trans HB1.out.size hb2.size)))
  clear hb2 HB1
  go_wp2_with fail
  generalize w2.alloc (.cells #[.int .u8 0, .int .i64 0, .int .i64 0] 33) = w3 at *
  refine (nil_packet _).mono ?_
  rintro e w4 ⟨rfl, rfl⟩
  go_wp2_with fail
  refine (nil_hear _ _ _ _).mono ?_
  rintro e w4 ⟨rfl, rfl⟩
  go_wp2_with fail
  refine (nil_step _).mono ?_
  rintro e w4 ⟨rfl, rfl⟩
  go_wp2_with fail
  refine (nil_heard _ _ _ _).mono ?_
  rintro e w4 ⟨rfl, rfl⟩
  go_wp2_with fail
  refine (nil_cells _).mono ?_
  rintro e w4 ⟨rfl, rfl⟩
  go_wp2_with fail
  refine (nil_charge _).mono ?_
  rintro e w4 ⟨rfl, rfl⟩
  go_wp2_with fail
  refine (nil_done _).mono ?_
  rintro e w4 ⟨rfl, rfl⟩
  go_wp2_with fail
  go_ret
  exact ⟨rfl, HB2.out⟩
end Rc
end Go.Proofs.YtobpinelhjpfgaaDoor
