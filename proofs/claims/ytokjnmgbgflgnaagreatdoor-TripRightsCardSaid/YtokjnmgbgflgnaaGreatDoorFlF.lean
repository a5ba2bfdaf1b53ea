/-
  Whether lanes are right: lanesRight; whether a floor is right: Right.
-/
import Derived.Test.YtokjnmgbgflgnaaGreatDoorFlD
import Derived.Test.YtokjnmgbgflgnaaGreatDoorFlE
set_option linter.unusedVariables false
set_option maxRecDepth 100000
namespace Go.Proofs.YtokjnmgbgflgnaaGreatDoor
open Go.RowKit Fl

set_option maxHeartbeats 1000000 in
theorem lanesRight_any (W H : Nat) (s : ByteArray) (w : World) (hS : Sides W H s) :
    Calls Tryz.prog 69 #[.agg #[.int .i64 (W : Int), .int .i64 (H : Int), .string s]] w (Told (Joined W H (at_ s)) w) := by
  have h256 := hS.le
  have HS := Lib.hid hS
  have HL := Lib.hid (pick_le isL (at_ s) s.size)
  have HSZ := Lib.hid hS.sz
  clear hS
  go_enter Tryz.func69, Tryz.ntmps69
  go_wp2_with fail
  refine (cellsLane_any (W : Int) (H : Int) s h256 _).mono ?_
  rintro e w1 ⟨a, n, cap, rfl, hn, ho, hb⟩
  have HB1 := Lib.hid ((Box.start w (W : Int) (H : Int) s 23).after hb)
  have hn2 : n ≤ 256 := by rw [hn]; have := HL.out; omega
  have e0 := HB1.out.c0
  have e1 := HB1.out.c1
  have e2 := HB1.out.c2
  rw [HSZ.out] at hn ho
  cases hp : pick isL (at_ s) (W * H) with
  | nil =>
    rw [hp] at hn
    obtain rfl : n = 0 := hn
    have HP := Lib.hid hp
    clear hp ho hb
    go_wp2_with fail
    go_ret
    refine ⟨false, rfl, iff_of_false (by decide) ?_, HB1.out.below⟩
    rintro ⟨x, y, h, _⟩
    rw [HP.out] at h
    cases h
  | cons x r =>
    have hn1 : 1 ≤ n := by rw [hn, hp]; simp
    rw [hp] at hn ho
    have HJ := Lib.hid (joined_any W H s a n cap _ x r w1 HS.out hn ho hp)
    clear hp ho hb hn
    go_wp2_with fail
    refine HJ.out.mono ?_
    rintro e w2 ⟨b, rfl, hbl, hb2⟩
    have HB2 := Lib.hid (HB1.out.after hb2)
    have HBL := Lib.hid hbl
    clear hbl hb2 e0 e1 e2
    go_wp2_with fail
    go_ret
    exact ⟨b, rfl, HBL.out, HB2.out.below⟩

theorem okSide_iff (n : Int) : okSide n = true ↔ 1 ≤ n ∧ n ≤ 16 := by unfold okSide; simp
theorem right_nat {a b : Nat} {s : ByteArray} : Right (a : Int) (b : Int) s ↔ Sides a b s ∧ RightN a b (at_ s) := by
  constructor
  · rintro ⟨w, h, h1, h2, h3, h4⟩
    obtain rfl : a = w := by omega
    obtain rfl : b = h := by omega
    exact ⟨h3, h4⟩
  · rintro ⟨h1, h2⟩
    exact ⟨a, b, rfl, rfl, h1, h2⟩

set_option maxHeartbeats 2000000 in
theorem right_any (W H : Int) (s : ByteArray) (hs : s.size ≤ maxLen) (w : World) :
    Calls Tryz.prog 43 #[.agg #[.int .i64 W, .int .i64 H, .string s]] w (Told (Right W H s) w) := by
  have hs' := hs
  unfold maxLen at hs'
  have HA := Lib.hid ((Below.refl w.heap.size w).alloc (Nat.le_refl _) (.cells #[.int .i64 W, .int .i64 H, .string s] 23))
  have hside : ∀ {n : Int} {k : Nat}, n = k → 1 ≤ k → k ≤ 16 → okSide n = true := fun e h1 h2 => (okSide_iff _).2 (by omega)
  cases h1 : okSide W with
  | false =>
    have HN : Hid (¬ Right W H s) := Lib.hid (by rintro ⟨x, y, e1, e2, h3, _⟩; rw [hside e1 h3.w1 h3.w2] at h1; cases h1)
    clear hside
    go_enter Tryz.func43, Tryz.ntmps43
    go_wp2_with (go_at_call 66; refine (sideRight_any _ _).mono ?_; rintro e w' ⟨rfl, rfl⟩)
    go_ret
    exact ⟨false, rfl, iff_of_false (by decide) HN.out, HA.out⟩
  | true =>
    cases h2 : okSide H with
    | false =>
      have HN : Hid (¬ Right W H s) := Lib.hid (by rintro ⟨x, y, e1, e2, h3, _⟩; rw [hside e2 h3.h1 h3.h2] at h2; cases h2)
      clear hside
      go_enter Tryz.func43, Tryz.ntmps43
      go_wp2_with (go_at_call 66; refine (sideRight_any _ _).mono ?_; rintro e w' ⟨rfl, rfl⟩)
      go_ret
      exact ⟨false, rfl, iff_of_false (by decide) HN.out, HA.out⟩
    | true =>
      have k1 := (okSide_iff W).1 h1
      have k2 := (okSide_iff H).1 h2
      obtain ⟨a, rfl⟩ := Int.eq_ofNat_of_zero_le (by omega : 0 ≤ W)
      obtain ⟨b, rfl⟩ := Int.eq_ofNat_of_zero_le (by omega : 0 ≤ H)
      have hm := le_mul16 (W := a) (H := b) (by omega) (by omega)
      have p1 : (a : Int) * (b : Int) ≤ 256 := by rw [← Int.natCast_mul]; omega
      have p0 : 0 ≤ (a : Int) * (b : Int) := by rw [← Int.natCast_mul]; omega
      clear hside
      by_cases hz : s.size = a * b
      · have hq : ((s.size : Int) == (a : Int) * (b : Int)) = true := by rw [beq_iff_eq, hz, Int.natCast_mul]
        have HS : Hid (Sides a b s) := Lib.hid ⟨by omega, by omega, by omega, by omega, hz⟩
        clear hz hm
        cases h3 : okAll s with
        | false =>
          have HN : Hid (¬ Right (a : Int) (b : Int) s) := Lib.hid (by
            rw [right_nat]
            rintro ⟨h4, h5⟩
            rw [(okAll_iff s).2 (by rw [h4.sz]; exact h5.bytes)] at h3
            cases h3)
          go_enter Tryz.func43, Tryz.ntmps43
          go_wp2_with (first
            | (go_at_call 66; refine (sideRight_any _ _).mono ?_; rintro e w' ⟨rfl, rfl⟩)
            | (go_at_call 67; refine (bytesRight_any s hs _).mono ?_; rintro e w' ⟨rfl, rfl⟩))
          go_ret
          exact ⟨false, rfl, iff_of_false (by decide) HN.out, HA.out⟩
        | true =>
          have HBY := Lib.hid ((okAll_iff s).1 h3)
          go_enter Tryz.func43, Tryz.ntmps43
          go_wp2_with (first
            | (go_at_call 66; refine (sideRight_any _ _).mono ?_; rintro e w' ⟨rfl, rfl⟩)
            | (go_at_call 67; refine (bytesRight_any s hs _).mono ?_; rintro e w' ⟨rfl, rfl⟩))
          refine (docksRight_any a b s _ HS.out).mono ?_
          rintro e w1 ⟨b1, rfl, hb1, hbw⟩
          have HB1 := Lib.hid ((Box.start w (a : Int) (b : Int) s 23).after hbw)
          have HD := Lib.hid hb1
          have e0 := HB1.out.c0
          have e1 := HB1.out.c1
          have e2 := HB1.out.c2
          clear hb1 hbw h1 h2 h3
          cases b1
          · go_wp2_with fail
            go_ret
            refine ⟨false, rfl, iff_of_false (by decide) ?_, HB1.out.below⟩
            rw [right_nat]
            exact fun h => by have := HD.out.2 h.2.docks; cases this
          · go_wp2_with fail
            refine (lanesRight_any a b s _ HS.out).mono ?_
            rintro e w2 ⟨b2, rfl, hb2, hbw2⟩
            have HB2 := Lib.hid (HB1.out.after hbw2)
            have HL := Lib.hid hb2
            clear hb2 hbw2 e0 e1 e2
            go_wp2_with fail
            go_ret
            refine ⟨b2, rfl, ?_, HB2.out.below⟩
            rw [HL.out, right_nat]
            exact ⟨fun h => ⟨HS.out, ⟨by rw [← HS.out.sz]; exact HBY.out, HD.out.1 (by trivial), h⟩⟩, fun h => h.2.lanes⟩
      · have hq : ((s.size : Int) == (a : Int) * (b : Int)) = false := by rw [beq_eq_false_iff_ne, ← Int.natCast_mul]; omega
        have HN : Hid (¬ Right (a : Int) (b : Int) s) := Lib.hid (by rw [right_nat]; exact fun h => hz h.1.sz)
        clear hz
        go_enter Tryz.func43, Tryz.ntmps43
        go_wp2_with (go_at_call 66; refine (sideRight_any _ _).mono ?_; rintro e w' ⟨rfl, rfl⟩)
        go_ret
        exact ⟨false, rfl, iff_of_false (by decide) HN.out, HA.out⟩

end Go.Proofs.YtokjnmgbgflgnaaGreatDoor
