/-
  FloorParses: its walk.
-/
import Derived.Test.YtlecichbenpiiaaDoorFlR9
import Derived.Test.YtlecichbenpiiaaDoorFloorRightsW
set_option linter.unusedVariables false
namespace Go.Proofs.YtlecichbenpiiaaDoor
open Go.RowKit Fl

set_option maxHeartbeats 8000000 in
theorem floorParses_walk (s : ByteArray) (hs : s.size ≤ maxLen) (w : World) :
    Calls Tryd.prog 3 #[.string s] w fun e w' => e = .returned (.bool true) ∧ Below w.heap.size w w' := by
  have hs' := hs
  unfold maxLen at hs'
  go_enter Tryd.func3, Tryd.ntmps3
  go_wp2_with fail
  refine (shown_any _).mono ?_
  rintro e w1 ⟨rfl, hb1⟩
  have HB1 := Lib.hid hb1
  clear hb1
  by_cases hl : 2000 < s.size
  · have hd : decide (2000 < (s.size : Int)) = true := by simp; omega
    go_wp2_with fail
    go_ret
    exact ⟨rfl, HB1.out⟩
  · have hd : decide (2000 < (s.size : Int)) = false := by simp; omega
    have HR := Lib.hid (fun wx => rparse_any s (by omega) wx)
    go_wp2_with fail
    refine (parse_any s (by omega) _).mono ?_
    rintro e w2 ⟨W, H, c, row, err, rfl, ho, hb2⟩
    have HB2 := Lib.hid (HB1.out.trans (hb2.mono HB1.out.size))
    have HX2 := Lib.hid (Box.start w2 W H c 24)
    have k0 := HX2.out.c0
    have k1 := HX2.out.c1
    have k2 := HX2.out.c2
    have HBA := Lib.hid (HB2.out.alloc HB2.out.size (.cells #[.int .i64 W, .int .i64 H, .string c] 24))
    have HO := Lib.hid ho
    clear ho hb2
    go_wp2_with fail
    refine (HR.out _).mono ?_
    rintro e w3 ⟨W', H', c', row', err', rfl, ho, hb3⟩
    obtain ⟨rfl, rfl, rfl, rfl, rfl⟩ := POut.one HO.out ho
    have HB3 := Lib.hid (HBA.out.trans (hb3.mono HBA.out.size))
    have HX3 := Lib.hid (HX2.out.after hb3)
    have HY3 := Lib.hid (Box.start w3 W H c 24)
    have HX4 := Lib.hid (HX3.out.after ((Below.refl _ _).alloc (Nat.le_refl _) (.cells #[.int .i64 W, .int .i64 H, .string c] 24)))
    have HB4 := Lib.hid (HB3.out.alloc HB3.out.size (.cells #[.int .i64 W, .int .i64 H, .string c] 24))
    have e0 := HX4.out.c0
    have e1 := HX4.out.c1
    have e2 := HX4.out.c2
    have f0 := HY3.out.c0
    have f1 := HY3.out.c1
    have f2 := HY3.out.c2
    clear ho hb3 k0 k1 k2
    go_wp2_with fail
    go_ret
    exact ⟨rfl, HB4.out⟩

end Go.Proofs.YtlecichbenpiiaaDoor
