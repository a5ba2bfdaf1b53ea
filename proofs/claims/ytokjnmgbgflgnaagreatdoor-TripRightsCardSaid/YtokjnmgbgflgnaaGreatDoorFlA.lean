/-
  Lists of numbers in memory; bytes of a string; the leaves of layer 3: isLane, isDock, sideRight, bytesRight, and the document's lane, dock.
-/
import Derived.Test.YtokjnmgbgflgnaaGreatDoorRows
import Derived.Test.YtokjnmgbgflgnaaGreatDoorFlPlain
import Derived.Test.YtokjnmgbgflgnaaGreatDoorArgs
import Derived.WalkKit
import Derived.WalkSpells
import Derived.WalkLawsBesides
import Derived.RegionTactic
import Derived.Maps.AppendAt
import Derived.Lib.Hide
import Derived.Deep.QuietTactic
import Derived.BigQuiet
import Derived.ChangeAlike
set_option linter.unusedVariables false
set_option maxRecDepth 100000
namespace Go.Proofs.YtokjnmgbgflgnaaGreatDoor
open Go.RowKit Fl

theorem ret_int {k : IntKind} {a b : Int} (h : a = b) : Ending.returned (.int k a) = .returned (.int k b) := by rw [h]
theorem ret_bool {a b : Bool} (h : a = b) : Ending.returned (.bool a) = .returned (.bool b) := by rw [h]
theorem plain_add (g off i : Nat) : (Addr.add ⟨g, off, none⟩ i) = ⟨g, off + i, none⟩ := by unfold Addr.add; split <;> simp_all
theorem at_get (s : ByteArray) (k : Nat) (h : k < s.size) : s[k].toNat = at_ s k := by
  unfold at_
  rw [List.getD, List.getElem?_eq_getElem (by simpa using h)]
  rfl
theorem at_lt (s : ByteArray) (k : Nat) : at_ s k < 256 := by unfold at_; exact UInt8.toNat_lt _

theorem isLane_any (c : Nat) (w : World) : Calls Tryz.prog 48 #[.int .u8 (c : Int)] w fun e w' => e = .returned (.bool (isL c)) ∧ w = w' := by
  by_cases h1 : 97 ≤ c
  · have d1 : decide (97 ≤ (c : Int)) = true := by simp; omega
    have HH : Hid (isL c = decide ((c : Int) < 123)) := Lib.hid (by unfold isL; rw [decide_eq_true h1, Bool.true_and, decide_eq_decide]; omega)
    go_enter Tryz.func48, Tryz.ntmps48
    go_wp2
    go_ret
    exact ⟨ret_bool HH.out.symm, rfl⟩
  · have d1 : decide (97 ≤ (c : Int)) = false := by simp; omega
    have HH : Hid (isL c = false) := Lib.hid (by unfold isL; rw [decide_eq_false h1]; rfl)
    go_enter Tryz.func48, Tryz.ntmps48
    go_wp2
    go_ret
    exact ⟨ret_bool HH.out.symm, rfl⟩
theorem isDock_any (c : Nat) (w : World) : Calls Tryz.prog 70 #[.int .u8 (c : Int)] w fun e w' => e = .returned (.bool (isD c)) ∧ w = w' := by
  by_cases h1 : 48 ≤ c
  · have d1 : decide (48 ≤ (c : Int)) = true := by simp; omega
    have HH : Hid (isD c = decide ((c : Int) < 56)) := Lib.hid (by unfold isD; rw [decide_eq_true h1, Bool.true_and, decide_eq_decide]; omega)
    go_enter Tryz.func70, Tryz.ntmps70
    go_wp2
    go_ret
    exact ⟨ret_bool HH.out.symm, rfl⟩
  · have d1 : decide (48 ≤ (c : Int)) = false := by simp; omega
    have HH : Hid (isD c = false) := Lib.hid (by unfold isD; rw [decide_eq_false h1]; rfl)
    go_enter Tryz.func70, Tryz.ntmps70
    go_wp2
    go_ret
    exact ⟨ret_bool HH.out.symm, rfl⟩
theorem rlane_any (c : Nat) (w : World) : Calls Tryz.prog 54 #[.int .u8 (c : Int)] w fun e w' => e = .returned (.bool (isL c)) ∧ w = w' := by
  by_cases h1 : 97 ≤ c
  · have d1 : decide (97 ≤ (c : Int)) = true := by simp; omega
    have HH : Hid (isL c = decide ((c : Int) ≤ 122)) := Lib.hid (by unfold isL; rw [decide_eq_true h1, Bool.true_and, decide_eq_decide]; omega)
    go_enter Tryz.func54, Tryz.ntmps54
    go_wp2
    go_ret
    exact ⟨ret_bool HH.out.symm, rfl⟩
  · have d1 : decide (97 ≤ (c : Int)) = false := by simp; omega
    have HH : Hid (isL c = false) := Lib.hid (by unfold isL; rw [decide_eq_false h1]; rfl)
    go_enter Tryz.func54, Tryz.ntmps54
    go_wp2
    go_ret
    exact ⟨ret_bool HH.out.symm, rfl⟩
theorem rdock_any (c : Nat) (w : World) : Calls Tryz.prog 53 #[.int .u8 (c : Int)] w fun e w' => e = .returned (.bool (isD c)) ∧ w = w' := by
  by_cases h1 : 48 ≤ c
  · have d1 : decide (48 ≤ (c : Int)) = true := by simp; omega
    have HH : Hid (isD c = decide ((c : Int) ≤ 55)) := Lib.hid (by unfold isD; rw [decide_eq_true h1, Bool.true_and, decide_eq_decide]; omega)
    go_enter Tryz.func53, Tryz.ntmps53
    go_wp2
    go_ret
    exact ⟨ret_bool HH.out.symm, rfl⟩
  · have d1 : decide (48 ≤ (c : Int)) = false := by simp; omega
    have HH : Hid (isD c = false) := Lib.hid (by unfold isD; rw [decide_eq_false h1]; rfl)
    go_enter Tryz.func53, Tryz.ntmps53
    go_wp2
    go_ret
    exact ⟨ret_bool HH.out.symm, rfl⟩

def okSide (n : Int) : Bool := decide (1 ≤ n) && decide (n ≤ 16)
theorem sideRight_any (n : Int) (w : World) : Calls Tryz.prog 66 #[.int .i64 n] w fun e w' => e = .returned (.bool (okSide n)) ∧ w = w' := by
  by_cases h1 : 1 ≤ n
  · have d1 : decide (1 ≤ n) = true := by simp; omega
    have HH : Hid (okSide n = decide (n ≤ 16)) := Lib.hid (by unfold okSide; rw [d1, Bool.true_and])
    go_enter Tryz.func66, Tryz.ntmps66
    go_wp2
    go_ret
    exact ⟨ret_bool HH.out.symm, rfl⟩
  · have d1 : decide (1 ≤ n) = false := by simp; omega
    have HH : Hid (okSide n = false) := Lib.hid (by unfold okSide; rw [d1]; rfl)
    go_enter Tryz.func66, Tryz.ntmps66
    go_wp2
    go_ret
    exact ⟨ret_bool HH.out.symm, rfl⟩

def okAll (s : ByteArray) : Bool := (List.range s.size).all fun i => okc (at_ s i)
theorem okAll_iff (s : ByteArray) : okAll s = true ↔ ∀ i, i < s.size → okc (at_ s i) = true := by simp [okAll]
theorem okAll_no {s : ByteArray} {k : Nat} (hk : k < s.size) (h : okc (at_ s k) = false) : okAll s = false := by
  rw [Bool.eq_false_iff]
  intro e
  have := (okAll_iff s).1 e k hk
  rw [h] at this
  cases this
theorem okc_of (c : Nat) (h : c = 35 ∨ isL c = true ∨ isD c = true) : okc c = true := by
  unfold okc
  rcases h with rfl | h | h
  · rfl
  · rw [h]; simp
  · rw [h]; simp
theorem okc_not (c : Nat) (h : c ≠ 35) (h1 : isL c = false) (h2 : isD c = false) : okc c = false := by
  unfold okc
  rw [h1, h2, beq_eq_false_iff_ne.2 h]; rfl

set_option maxHeartbeats 1000000 in
theorem bytesRight_any (s : ByteArray) (hs : s.size ≤ maxLen) (w : World) : Calls Tryz.prog 67 #[.string s] w fun e w' => e = .returned (.bool (okAll s)) ∧ w = w' := by
  unfold maxLen at hs
  go_enter Tryz.func67, Tryz.ntmps67
  go_wp2
  go_loop [7] (fun i => ∃ k : Nat, k ≤ s.size ∧ i = .int .i64 (k : Int) ∧ ∀ j, j < k → okc (at_ s j) = true) (fun i => s.size - (intOf i).toNat)
  case atStart => exact ⟨0, Nat.zero_le _, rfl, fun j hj => by omega⟩
  case round =>
    obtain ⟨k, hk, rfl, hj⟩ := hrel
    have HJ := Lib.hid hj
    clear hj
    by_cases hlt : k < s.size
    · have HZ := Lib.hid (at_get s k hlt)
      by_cases h35 : s[k].toNat = 35
      · have hb : ((s[k].toNat : Int) != 35) = false := by rw [bne_eq_false_iff_eq]; omega
        have HO : Hid (okc (at_ s k) = true) := Lib.hid (by rw [← HZ.out]; exact okc_of _ (.inl h35))
        clear h35
        go_wp2
        go_round
        case rel => exact ⟨k + 1, by omega, by go_num, fun j hj => by rcases Nat.lt_succ_iff_lt_or_eq.1 hj with h | h; exact HJ.out j h; rw [h]; exact HO.out⟩
        case measure => simp [intOf]; omega
      · have hb : ((s[k].toNat : Int) != 35) = true := by rw [bne_iff_ne]; omega
        cases h1 : isL s[k].toNat with
        | true =>
          have HO : Hid (okc (at_ s k) = true) := Lib.hid (by rw [← HZ.out]; exact okc_of _ (.inr (.inl h1)))
          clear h35
          go_wp2_with (go_at_call 48; refine (isLane_any _ _).mono ?_; rintro e w' ⟨rfl, rfl⟩)
          go_round
          case rel => exact ⟨k + 1, by omega, by go_num, fun j hj => by rcases Nat.lt_succ_iff_lt_or_eq.1 hj with h | h; exact HJ.out j h; rw [h]; exact HO.out⟩
          case measure => simp [intOf]; omega
        | false =>
          cases h2 : isD s[k].toNat with
          | true =>
            have HO : Hid (okc (at_ s k) = true) := Lib.hid (by rw [← HZ.out]; exact okc_of _ (.inr (.inr h2)))
            clear h35
            go_wp2_with (first | (go_at_call 48; refine (isLane_any _ _).mono ?_; rintro e w' ⟨rfl, rfl⟩) | (go_at_call 70; refine (isDock_any _ _).mono ?_; rintro e w' ⟨rfl, rfl⟩))
            go_round
            case rel => exact ⟨k + 1, by omega, by go_num, fun j hj => by rcases Nat.lt_succ_iff_lt_or_eq.1 hj with h | h; exact HJ.out j h; rw [h]; exact HO.out⟩
            case measure => simp [intOf]; omega
          | false =>
            have HO : Hid (okAll s = false) := Lib.hid (okAll_no hlt (by rw [← HZ.out]; exact okc_not _ h35 h1 h2))
            clear h35
            go_wp2_with (first | (go_at_call 48; refine (isLane_any _ _).mono ?_; rintro e w' ⟨rfl, rfl⟩) | (go_at_call 70; refine (isDock_any _ _).mono ?_; rintro e w' ⟨rfl, rfl⟩))
            go_ret
            exact ⟨ret_bool HO.out.symm, rfl⟩
    · go_wp2
      go_ret
      exact ⟨ret_bool ((okAll_iff s).2 fun i hi => HJ.out i (by omega)).symm, rfl⟩

end Go.Proofs.YtokjnmgbgflgnaaGreatDoor
