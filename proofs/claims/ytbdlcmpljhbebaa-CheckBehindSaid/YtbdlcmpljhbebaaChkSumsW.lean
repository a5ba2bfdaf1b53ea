/-
  The statement CheckSums: its walk.
-/
import Derived.Test.YtbdlcmpljhbebaaChkI
set_option linter.unusedVariables false
namespace Go.Proofs.Ytbdlcmpljhbebaa
open Go.RowKit Bp Ck

/-- The first so many bytes of what came in. -/
theorem first_by {w : World} {ao : Option Addr} {len cap : Nat} {f : Nat → Nat} (hA : ArgIn (fun z : Nat => Value.int .u8 (z : Int)) w ao len cap f) (hf : ∀ i, i < len → f i ≤ 255) (M : Nat) :
    ∃ m : Nat, min (len : Int) (M : Int) = (m : Int) ∧ m ≤ M ∧ m ≤ len ∧ By w.heap.size w ao m cap (listOf f m) :=
  ⟨min len M, by omega, by omega, by omega, By.arg hA hf _ (by omega)⟩

set_option maxHeartbeats 1000000 in
theorem checkSums_walk (ao : Option Addr) (len cap : Nat) (f : Nat → Nat) (w : World) (hA : ArgIn (fun z : Nat => Value.int .u8 (z : Int)) w ao len cap f) (hf : ∀ i, i < len → f i ≤ 255) :
    Calls Try.prog 4 #[.slice ao len cap] w fun e w' => e = .returned (.bool true) ∧ Below w.heap.size w w' := by
  obtain ⟨m, hm, hm1, hm2, hy⟩ := first_by hA hf 20000
  have hle := hA.le
  have hmx := hA.max
  unfold maxLen at hmx
  have HFew := Lib.hid fun W => few2_any ao len cap m W hle hmx hm
  have HY := Lib.hid hy
  generalize listOf f m = zs at *
  clear hy hm hA hf
  go_enter Try.func4, Try.ntmps4
  go_wp2_with fail
  refine (shown2_any _).mono ?_
  rintro e w1 ⟨rfl, hb⟩
  have HB := Lib.hid hb
  have HY1 := Lib.hid (HY.out.below hb)
  clear hb
  go_wp2_with fail
  refine (HFew.out _).mono ?_
  rintro e w2 ⟨rfl, rfl⟩
  go_wp2_with fail
  refine (sum_any HY1.out).mono ?_
  rintro e w2 ⟨rfl, rfl⟩
  go_wp2_with fail
  refine (HFew.out _).mono ?_
  rintro e w2 ⟨rfl, rfl⟩
  go_wp2_with fail
  refine (refSum_any HY1.out).mono ?_
  rintro e w2 ⟨rfl, rfl⟩
  go_wp2
  go_ret
  exact ⟨rfl, HB.out⟩

end Go.Proofs.Ytbdlcmpljhbebaa
