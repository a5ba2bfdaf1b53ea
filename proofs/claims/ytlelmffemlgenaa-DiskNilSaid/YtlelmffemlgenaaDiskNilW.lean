/-
  DiskNil: the walk.
-/
import Derived.Test.YtlelmffemlgenaaDkF
import Derived.Test.YtlelmffemlgenaaDkG
set_option linter.unusedVariables false
set_option maxRecDepth 100000
namespace Go.Proofs.Ytlelmffemlgenaa
namespace Dk
open Go.RowKit Bk Nw

set_option maxHeartbeats 2000000 in
theorem diskNil_walk (k : Nat) (A : Option Addr) (n c : Nat) (i : Int) (w : World) : Calls Try.prog 6 #[.agg #[.int .u8 (k : Int), .slice A n c, .int .i64 i]] w fun e w' => e = .returned (.bool true) ∧ Below w.heap.size w w' := by
  have hB := (Below.refl w.heap.size w).alloc (Nat.le_refl _) (.cells #[.int .u8 (k : Int), .slice A n c, .int .i64 i] 31)
  have HB := Lib.hid hB
  obtain ⟨c0, c1, c2⟩ := act_cells w k A n c i
  have hlt : w.heap.size < (w.alloc (.cells #[.int .u8 (k : Int), .slice A n c, .int .i64 i] 31)).heap.size := by simp
  clear hB
  rcases (by omega : k % 7 = 0 ∨ k % 7 = 1 ∨ k % 7 = 2 ∨ k % 7 = 3 ∨ k % 7 = 4 ∨ k % 7 = 5 ∨ k % 7 = 6) with hr | hr | hr | hr | hr | hr | hr
  all_goals
    have hrI := (show (k : Int) % 7 = ((k % 7 : Nat) : Int) by omega)
    rw [hr] at hrI
    have HD := Lib.hid (fun w2 => does_nil k A n c i w2)
    simp only [hr] at HD
    simp at hrI HD
    clear hr
    go_enter Try.func6, Try.ntmps6
    go_wp2_with fail
    generalize w.alloc (.cells #[.int .u8 (k : Int), .slice A n c, .int .i64 i] 31) = w1 at *
    refine (shown15_any w1).mono ?_
    rintro e w2 ⟨rfl, hb2⟩
    have e0 := (hb2.cell (p := ⟨w.heap.size, 0, none⟩) hlt).trans c0
    have e1 := (hb2.cell (p := ⟨w.heap.size, 1, none⟩) hlt).trans c1
    have e2 := (hb2.cell (p := ⟨w.heap.size, 2, none⟩) hlt).trans c2
    have HB2 := Lib.hid (HB.out.trans (hb2.mono HB.out.size))
    clear hb2 c0 c1 c2
    go_wp2_with fail
    refine (Read_nil w2).mono ?_
    rintro e w3 ⟨rfl, rfl⟩
    go_wp2_with fail
    refine (HD.out w2).mono ?_
    rintro e w3 ⟨rfl, hb3⟩
    have HB3 := Lib.hid (HB2.out.trans (hb3.mono HB2.out.size))
    clear hb3 e0 e1 e2
    go_wp2_with fail
    refine (Dead_nil w3).mono ?_
    rintro e w4 ⟨rfl, rfl⟩
    go_wp2_with fail
    refine (Safe_nil w3).mono ?_
    rintro e w4 ⟨rfl, rfl⟩
    go_wp2_with fail
    refine (Copy_nil w3).mono ?_
    rintro e w4 ⟨rfl, rfl⟩
    go_wp2_with fail
    go_ret
    exact ⟨rfl, HB3.out⟩
end Dk
end Go.Proofs.Ytlelmffemlgenaa
