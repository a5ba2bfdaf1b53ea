/-
  NetNil: the walk.
-/
import Derived.Test.YtedhmlggmfgpgaaNwF
set_option linter.unusedVariables false
set_option maxRecDepth 100000
namespace Go.Proofs.Ytedhmlggmfgpgaa
namespace Nw
open Go.RowKit Bk

set_option maxHeartbeats 2000000 in
theorem netNil_walk (x : Nat) (A : Option Addr) (n c : Nat) (i : Int) (w : World) : Calls Try.prog 5 #[.agg #[.int .u8 (x : Int), .slice A n c, .int .i64 i]] w fun e w' => e = .returned (.bool true) ∧ Below w.heap.size w w' := by
  have hB := (Below.refl w.heap.size w).alloc (Nat.le_refl _) (.cells #[.int .u8 (x : Int), .slice A n c, .int .i64 i] 33)
  have HB := Lib.hid hB
  obtain ⟨c0, c1, c2⟩ := act3_cells w x A n c i
  have hlt : w.heap.size < (w.alloc (.cells #[.int .u8 (x : Int), .slice A n c, .int .i64 i] 33)).heap.size := by simp
  clear hB
  go_enter Try.func5, Try.ntmps5
  go_wp2_with fail
  generalize w.alloc (.cells #[.int .u8 (x : Int), .slice A n c, .int .i64 i] 33) = w1 at *
  refine (shown13_any w1).mono ?_
  rintro e w2 ⟨rfl, hb2⟩
  have e0 := (hb2.cell (p := ⟨w.heap.size, 0, none⟩) hlt).trans c0
  have e1 := (hb2.cell (p := ⟨w.heap.size, 1, none⟩) hlt).trans c1
  have e2 := (hb2.cell (p := ⟨w.heap.size, 2, none⟩) hlt).trans c2
  have HB2 := Lib.hid (HB.out.trans (hb2.mono HB.out.size))
  clear hb2 c0 c1 c2
  go_wp2_with fail
  refine (Take_nil i w2).mono ?_
  rintro e w3 ⟨rfl, rfl⟩
  go_wp2_with fail
  refine (Peek_nil i w2).mono ?_
  rintro e w3 ⟨rfl, rfl⟩
  go_wp2_with fail
  refine (Send_nil A n c w2).mono ?_
  rintro e w3 ⟨rfl, rfl⟩
  go_wp2_with fail
  refine (Lose_nil i w2).mono ?_
  rintro e w3 ⟨rfl, rfl⟩
  go_wp2_with fail
  refine (Len_nil w2).mono ?_
  rintro e w3 ⟨rfl, rfl⟩
  go_wp2_with fail
  go_ret
  exact ⟨rfl, HB2.out⟩
end Nw
end Go.Proofs.Ytedhmlggmfgpgaa
