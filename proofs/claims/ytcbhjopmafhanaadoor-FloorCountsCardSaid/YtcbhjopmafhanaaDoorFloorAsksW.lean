/-
  FloorAsks: its walk.
-/
import Derived.Test.YtcbhjopmafhanaaDoorFloorRightsW
set_option linter.unusedVariables false
namespace Go.Proofs.YtcbhjopmafhanaaDoor
open Go.RowKit Fl

theorem NumTold.is {P : Prop} {a b : Nat} {w : World} {e : Ending} {w' : World} (h : NumTold P a b w e w') (n : Nat) (h1 : P → n = a) (h2 : ¬ P → n = b) : e = .returned (.int .i64 (n : Int)) ∧ Below w.heap.size w w' := by
  obtain ⟨n', rfl, k1, k2, k3⟩ := h
  have : n' = n := by
    by_cases hp : P
    · rw [k1 hp, h1 hp]
    · rw [k2 hp, h2 hp]
  rw [this]
  exact ⟨rfl, k3⟩
theorem PairTold.is {P : Prop} {a : Nat} {w : World} {e : Ending} {w' : World} (h : PairTold P a w e w') (n : Nat) (b : Bool) (h1 : P → n = a ∧ b = true) (h2 : ¬ P → n = 0 ∧ b = false) : e = .returned (.tuple #[.int .i64 (n : Int), .bool b]) ∧ Below w.heap.size w w' := by
  obtain ⟨n', b', rfl, k1, k2, k3⟩ := h
  by_cases hp : P
  · rw [(k1 hp).1, (k1 hp).2, (h1 hp).1, (h1 hp).2]; exact ⟨rfl, k3⟩
  · rw [(k2 hp).1, (k2 hp).2, (h2 hp).1, (h2 hp).2]; exact ⟨rfl, k3⟩
theorem DockTold.is {W H : Int} {s : ByteArray} {r : Int} {w : World} {e : Ending} {w' : World} (h : DockTold W H s r w e w') (n : Nat) (b : Bool) (h1 : IsRobot W H s r → IsFirst s (48 + r.toNat) n ∧ b = true) (h2 : ¬ IsRobot W H s r → n = 0 ∧ b = false) : e = .returned (.tuple #[.int .i64 (n : Int), .bool b]) ∧ Below w.heap.size w w' := by
  obtain ⟨n', b', rfl, k1, k2, k3⟩ := h
  by_cases hp : IsRobot W H s r
  · rw [(k1 hp).1.one (h1 hp).1, (k1 hp).2, (h1 hp).2]; exact ⟨rfl, k3⟩
  · rw [(k2 hp).1, (k2 hp).2, (h2 hp).1, (h2 hp).2]; exact ⟨rfl, k3⟩
/-- A list that is known is told. -/
def ListIs (xs : List Nat) (w : World) (e : Ending) (w' : World) : Prop := ∃ a n cap, e = .returned (.slice a n cap) ∧ n = xs.length ∧ Own w' w.heap.size (.slice a n cap) xs ∧ Below w.heap.size w w'
theorem IntsIf.is {P : Prop} {l : List Nat} {w : World} {e : Ending} {w' : World} (h : IntsIf P l w e w') (xs : List Nat) (h1 : P → xs = l) (h2 : ¬ P → xs = []) : ListIs xs w e w' := by
  obtain ⟨a, n, cap, ys, rfl, hn, k1, k2, ho, hb⟩ := h
  have : ys = xs := by
    by_cases hp : P
    · rw [k1 hp, h1 hp]
    · rw [k2 hp, h2 hp]
  subst this
  exact ⟨a, n, cap, rfl, hn, ho, hb⟩
theorem dock_val (W H : Int) (s : ByteArray) (r : Int) : ∃ (n : Nat) (b : Bool), n ≤ 1000 ∧ (IsRobot W H s r → IsFirst s (48 + r.toNat) n ∧ b = true) ∧ (¬ IsRobot W H s r → n = 0 ∧ b = false) := by
  by_cases h : IsRobot W H s r
  · obtain ⟨h8, d, hd⟩ := right_first h.1 r.toNat (by have := h.2.1; have := h.2.2; omega)
    exact ⟨d, true, by have := rightLe h.1; have := hd.1; omega, fun _ => ⟨hd, rfl⟩, fun k => absurd h k⟩
  · exact ⟨0, false, by omega, fun k => absurd k h, fun _ => ⟨rfl, rfl⟩⟩
theorem zone_val (W H : Int) (s : ByteArray) (c : Int) : ∃ (n : Nat) (b : Bool), n ≤ 1000 ∧ (OnLane W H s c → n = bAt s c - 97 ∧ b = true) ∧ (¬ OnLane W H s c → n = 0 ∧ b = false) := by
  by_cases h : OnLane W H s c
  · exact ⟨_, true, by unfold bAt; split; (have := at_lt s c.toNat; omega); omega, fun _ => ⟨rfl, rfl⟩, fun k => absurd h k⟩
  · exact ⟨0, false, by omega, fun k => absurd k h, fun _ => ⟨rfl, rfl⟩⟩
theorem robots_val (W H : Int) (s : ByteArray) : ∃ n : Nat, n ≤ 1000 ∧ (Right W H s → n = (pick isD (at_ s) s.size).length) ∧ (¬ Right W H s → n = 0) := by
  by_cases h : Right W H s
  · exact ⟨_, by have := rightLe h; have := pick_le isD (at_ s) s.size; omega, fun _ => rfl, fun k => absurd h k⟩
  · exact ⟨0, by omega, fun k => absurd k h, fun _ => rfl⟩
theorem lanes_val (W H : Int) (s : ByteArray) : ∃ xs : List Nat, xs.length ≤ 1000 ∧ (∀ x, x ∈ xs → x ≤ 1048576) ∧ (Right W H s → xs = pick isL (at_ s) s.size) ∧ (¬ Right W H s → xs = []) := by
  by_cases h : Right W H s
  · exact ⟨_, by have := rightLe h; have := pick_le isL (at_ s) s.size; omega, fun x hx => by have := (mem_pick.1 hx).1; have := rightLe h; omega, fun _ => rfl, fun k => absurd h k⟩
  · exact ⟨[], by simp, by simp, fun k => absurd k h, fun _ => rfl⟩
theorem near_val (W H : Int) (s : ByteArray) (c : Int) : ∃ xs : List Nat, xs.length ≤ 1000 ∧ (∀ x, x ∈ xs → x ≤ 1048576) ∧ (OnFloor W H s c → xs = nears W H s c) ∧ (¬ OnFloor W H s c → xs = []) := by
  by_cases h : OnFloor W H s c
  · refine ⟨_, ?_, fun x hx => ?_, fun _ => rfl, fun k => absurd h k⟩
    · unfold nears nearL
      have h1 := List.length_filter_le (fun b => at_ s b != 35) (side W.toNat H.toNat c.toNat)
      have h2 := side_len W.toNat H.toNat c.toNat
      omega
    · obtain ⟨k, rfl, hk, _⟩ := bAt_in h.2
      obtain ⟨a, b, rfl, rfl, hS, hR⟩ := rightNat h.1
      unfold nears nearL at hx
      have h1 := (List.mem_filter.1 hx).1
      have h2 := side_lt (W := a) (H := b) hS.w1 (by rw [← hS.sz]; exact hk) h1
      have h3 := le_mul16 hS.w2 hS.h2
      omega
  · exact ⟨[], by simp, by simp, fun k => absurd k h, fun _ => rfl⟩

set_option maxHeartbeats 8000000 in
theorem floorAsks_walk (W H : Int) (hH : H ≤ 9223372036854775807) (s : ByteArray) (hs : s.size ≤ maxLen) (c : Int) (hc : -9223372036854775808 ≤ c ∧ c ≤ 9223372036854775807) (w : World) :
    Calls Tryd.prog 5 #[.agg #[.int .i64 W, .int .i64 H, .string s], .int .i64 c] w fun e w' => e = .returned (.bool true) ∧ Below w.heap.size w w' := by
  have hs' := hs
  unfold maxLen at hs'
  obtain ⟨nd, bd, hnd, d1, d2⟩ := dock_val W H s c
  obtain ⟨nz, bz, hnz, z1, z2⟩ := zone_val W H s c
  obtain ⟨nr, hnr, r1, r2⟩ := robots_val W H s
  obtain ⟨xl, hxl, bxl, l1, l2⟩ := lanes_val W H s
  obtain ⟨xn, hxn, bxn, n1, n2⟩ := near_val W H s c
  have D1 := Lib.hid (fun wx => (dock_any W H s hs c wx).mono fun e w' h => DockTold.is h nd bd d1 d2)
  have D2 := Lib.hid (fun wx => (rdock_of_any W H s hs c wx).mono fun e w' h => DockTold.is h nd bd d1 d2)
  have Z1 := Lib.hid (fun wx => (zone_any W H s hs c wx).mono fun e w' h => PairTold.is h nz bz z1 z2)
  have Z2 := Lib.hid (fun wx => (rzone_any W H s hs c wx).mono fun e w' h => PairTold.is h nz bz z1 z2)
  have R1 := Lib.hid (fun wx => (robots_any W H s hs wx).mono fun e w' h => NumTold.is h nr r1 r2)
  have R2 := Lib.hid (fun wx => (rrobots_any W H s hs wx).mono fun e w' h => NumTold.is h nr r1 r2)
  have L1 := Lib.hid (fun wx => (lanes_any W H s hs wx).mono fun e w' h => IntsIf.is h xl l1 l2)
  have L2 := Lib.hid (fun wx => (rlanes_any W H s hs wx).mono fun e w' h => IntsIf.is h xl l1 l2)
  have N1 := Lib.hid (fun wx => (near_any W H s hs c wx).mono fun e w' h => IntsIf.is h xn n1 n2)
  have N2 := Lib.hid (fun wx => (rnear_any W H s hs c wx).mono fun e w' h => IntsIf.is h xn n1 n2)
  have BL := Lib.hid bxl
  have BN := Lib.hid bxn
  clear d1 d2 z1 z2 r1 r2 l1 l2 n1 n2 bxl bxn
  go_enter Tryd.func5, Tryd.ntmps5
  go_wp2_with fail
  refine (shown_any _).mono ?_
  rintro e w1 ⟨rfl, hb1⟩
  have HB1 := Lib.hid ((Box.start w W H s 24).after hb1)
  have k0 := HB1.out.c0
  have k1 := HB1.out.c1
  have k2 := HB1.out.c2
  clear hb1
  by_cases hl : 2000 < s.size
  · have hd : decide (2000 < (s.size : Int)) = true := by simp; omega
    go_wp2_with fail
    go_ret
    exact ⟨rfl, HB1.out.below⟩
  · have hd : decide (2000 < (s.size : Int)) = false := by simp; omega
    go_wp2_with fail
    refine (D1.out _).mono ?_
    rintro e w2 ⟨rfl, hb2⟩
    have HB2 := Lib.hid (HB1.out.after hb2)
    have q0 := HB2.out.c0
    have q1 := HB2.out.c1
    have q2 := HB2.out.c2
    clear hb2 k0 k1 k2
    go_wp2_with fail
    refine (D2.out _).mono ?_
    rintro e w3 ⟨rfl, hb3⟩
    have HB3 := Lib.hid (HB2.out.after hb3)
    have k0 := HB3.out.c0
    have k1 := HB3.out.c1
    have k2 := HB3.out.c2
    clear hb3 q0 q1 q2
    go_wp2_with fail
    refine (Z1.out _).mono ?_
    rintro e w4 ⟨rfl, hb4⟩
    have HB4 := Lib.hid (HB3.out.after hb4)
    have q0 := HB4.out.c0
    have q1 := HB4.out.c1
    have q2 := HB4.out.c2
    clear hb4 k0 k1 k2
    go_wp2_with fail
    refine (Z2.out _).mono ?_
    rintro e w5 ⟨rfl, hb5⟩
    have HB5 := Lib.hid (HB4.out.after hb5)
    have k0 := HB5.out.c0
    have k1 := HB5.out.c1
    have k2 := HB5.out.c2
    have hz := HB5.out.lt
    clear hb5 q0 q1 q2
    go_upto_region 8 with (fail)
    go_region_held3 (fun w' => w'.cell? ⟨w.heap.size, 0, none⟩ = some (.int .i64 W) ∧ w'.cell? ⟨w.heap.size, 1, none⟩ = some (.int .i64 H) ∧ w'.cell? ⟨w.heap.size, 2, none⟩ = some (.string s)) (go_keep)
      ((first
        | (go_at_call 21; refine (R1.out _).mono ?_; rintro e wa ⟨rfl, hb⟩; have HBa := Lib.hid (HB5.out.drew.after hb); have e0 := HBa.out.c0; have e1 := HBa.out.c1; have e2 := HBa.out.c2; clear hb)
        | (go_at_call 22; refine (R2.out _).mono ?_; rintro e wb ⟨rfl, hb⟩; have HBb := Lib.hid (HBa.out.after hb); have e0 := HBb.out.c0; have e1 := HBb.out.c1; have e2 := HBb.out.c2; clear hb)
        | (go_at_call 24; refine (N1.out _).mono ?_; rintro e wc ⟨A1, m1, c1, rfl, hn1, ho1, hb⟩; have HBc := Lib.hid (HBb.out.after hb); have HO1 := Lib.hid ho1; have HN1 := Lib.hid hn1; have e0 := HBc.out.c0; have e1 := HBc.out.c1; have e2 := HBc.out.c2; clear hb ho1 hn1)
        | (go_at_call 25; refine (N2.out _).mono ?_; rintro e wd ⟨A2, m2, c2, rfl, hn2, ho2, hb⟩; have HBd := Lib.hid (HBc.out.after hb); have HO1d := Lib.hid (HO1.out.later hb); have HO2 := Lib.hid ho2; have HN2 := Lib.hid hn2; have e0 := HBd.out.c0; have e1 := HBd.out.c1; have e2 := HBd.out.c2; clear hb ho2 hn2)
        | (go_at_call_of 23 (Value.slice A1 m1 c1); refine (sameInts_any A1 A2 m1 m2 c1 c2 _ _ xn xn wd HN1.out HN2.out HO1d.out HO2.out BN.out BN.out (by rw [HN1.out]; omega) (by rw [HN2.out]; omega)).mono ?_; rintro e we ⟨b, rfl, hb1, hb⟩; obtain rfl : b = true := hb1.2 rfl; have HBe := Lib.hid (HBd.out.after hb); have e0 := HBe.out.c0; have e1 := HBe.out.c1; have e2 := HBe.out.c2; clear hb hb1)
        | (go_at_call 26; refine (L1.out _).mono ?_; rintro e wf ⟨A3, m3, c3, rfl, hn3, ho3, hb⟩; have HBf := Lib.hid (HBe.out.after hb); have HO3 := Lib.hid ho3; have HN3 := Lib.hid hn3; have e0 := HBf.out.c0; have e1 := HBf.out.c1; have e2 := HBf.out.c2; clear hb ho3 hn3)
        | (go_at_call 27; refine (L2.out _).mono ?_; rintro e wg ⟨A4, m4, c4, rfl, hn4, ho4, hb⟩; have HBg := Lib.hid (HBf.out.after hb); have HO3g := Lib.hid (HO3.out.later hb); have HO4 := Lib.hid ho4; have HN4 := Lib.hid hn4; have e0 := HBg.out.c0; have e1 := HBg.out.c1; have e2 := HBg.out.c2; clear hb ho4 hn4)
        | (go_at_call_of 23 (Value.slice A3 m3 c3); refine (sameInts_any A3 A4 m3 m4 c3 c4 _ _ xl xl wg HN3.out HN4.out HO3g.out HO4.out BL.out BL.out (by rw [HN3.out]; omega) (by rw [HN4.out]; omega)).mono ?_; rintro e wh ⟨b, rfl, hb1, hb⟩; obtain rfl : b = true := hb1.2 rfl; have HBh := Lib.hid (HBg.out.after hb); have e0 := HBh.out.c0; have e1 := HBh.out.c1; have e2 := HBh.out.c2; clear hb hb1)))
    all_goals
      go_wp2_with fail
      go_ret
      exact ⟨by simp, HBh.out.below⟩

end Go.Proofs.YtcbhjopmafhanaaDoor
