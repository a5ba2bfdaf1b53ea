/-
  PathIs: the walk.
-/
import Derived.Test.YtaioiobimenkfaaDoorPtR3
set_option linter.unusedVariables false
set_option maxRecDepth 100000
namespace Go.Proofs.YtaioiobimenkfaaDoor
open Go.RowKit Fl Pt

set_option maxHeartbeats 4000000 in
theorem pathIs_walk (W H : Int) (hH : H ≤ 9223372036854775807) (s : ByteArray) (hs : s.size ≤ maxLen) (a : Int) (ha : -9223372036854775808 ≤ a ∧ a ≤ 9223372036854775807) (A1 : Option Addr) (n1 p1 : Nat) (f : Nat → Int) (A2 : Option Addr) (n2 p2 : Nat) (g : Nat → Int) (w : World) (hf : Il w.heap.size w A1 n1 p1 f) (_ : ∀ j, j < n1 → IW (f j)) (hg : Il w.heap.size w A2 n2 p2 g) (_ : ∀ j, j < n2 → IW (g j)) :
    Calls Tryd.prog 5 #[.agg #[.int .i64 W, .int .i64 H, .string s], .int .i64 a, .slice A1 n1 p1, .slice A2 n2 p2] w fun e w' => e = .returned (.bool true) ∧ Below w.heap.size w w' := by
  have HSM := Lib.hid (small_any W H s hs)
  obtain ⟨m1, hm1⟩ : ∃ m, m = min n1 50 := ⟨_, rfl⟩
  obtain ⟨m2, hm2⟩ : ∃ m, m = min n2 50 := ⟨_, rfl⟩
  have hm1' : m1 ≤ 50 := by omega
  have hm2' : m2 ≤ 50 := by omega
  have HE1 := Lib.hid (fun wx => few5_is _ _ A1 n1 p1 m1 f wx hf hm1)
  have HE2 := Lib.hid (fun wx => few5_is _ _ A2 n2 p2 m2 g wx hg hm2)
  have HF1 := Lib.hid (hf.cut (k := m1) (by omega))
  have HG1 := Lib.hid (hg.cut (k := m2) (by omega))
  obtain ⟨v, hv⟩ : ∃ v : Bool, v = true ↔ IsWay W H s a (mk g m2) (il f m1) := by
    by_cases h : IsWay W H s a (mk g m2) (il f m1)
    · exact ⟨true, by simp [h]⟩
    · exact ⟨false, by simp [h]⟩
  have HA : Hid (∀ wx, Below w.heap.size w wx → Calls Tryd.prog 17 #[.agg #[.int .i64 W, .int .i64 H, .string s], .int .i64 a, .slice A1 m1 p1, .slice A2 m2 p2] wx fun e w' => e = .returned (.bool v) ∧ Below wx.heap.size wx w') := Lib.hid (fun wx hb =>
    (is_any W H s hs a A1 m1 p1 f A2 m2 p2 g wx (args_il (hf.cut (k := m1) (by omega)) hb) (args_il (hg.cut (k := m2) (by omega)) hb)).mono fun e w' ⟨b, h1, h2, h3⟩ => ⟨by rw [h1]; congr 2; rw [Bool.eq_iff_iff]; exact h2.trans hv.symm, h3⟩)
  have HB : Hid (∀ wx, Below w.heap.size w wx → Calls Tryd.prog 18 #[.agg #[.int .i64 W, .int .i64 H, .string s], .int .i64 a, .slice A1 m1 p1, .slice A2 m2 p2] wx fun e w' => e = .returned (.bool v) ∧ Below wx.heap.size wx w') := Lib.hid (fun wx hb =>
    (ris_any W H s hs a A1 m1 p1 f A2 m2 p2 g wx (args_il (hf.cut (k := m1) (by omega)) hb) (args_il (hg.cut (k := m2) (by omega)) hb)).mono fun e w' ⟨b, h1, h2, h3⟩ => ⟨by rw [h1]; congr 2; rw [Bool.eq_iff_iff]; exact h2.trans hv.symm, h3⟩)
  clear hf hg hm1 hm2 ha hH hv
  go_enter Tryd.func5, Tryd.ntmps5
  go_wp2_with fail
  refine (shown_any _).mono ?_
  rintro e w1 ⟨rfl, hb1⟩
  have HX1 := Lib.hid ((Box.start w W H s 23).after hb1)
  have c0 := HX1.out.c0
  have c1 := HX1.out.c1
  have c2 := HX1.out.c2
  clear hb1
  go_wp2_with fail
  refine (HSM.out _).mono ?_
  rintro e w2 ⟨rfl, hb2⟩
  have HX2 := Lib.hid (HX1.out.after hb2)
  clear hb2 c0 c1 c2
  by_cases h80 : s.size ≤ 80
  · have hd : decide (s.size ≤ 80) = true := decide_eq_true h80
    rw [hd]
    clear hd h80
    have c0 := HX2.out.c0
    have c1 := HX2.out.c1
    have c2 := HX2.out.c2
    go_wp2_with fail
    cases v with
    | true =>
      go_region_held3 (fun w' => w'.cell? ⟨w.heap.size, 0, none⟩ = some (.int .i64 W) ∧ w'.cell? ⟨w.heap.size, 1, none⟩ = some (.int .i64 H) ∧ w'.cell? ⟨w.heap.size, 2, none⟩ = some (.string s)) (go_keep)
        ((first
          | (go_at_call_of 13 (Value.slice A1 n1 p1); refine (HE1.out _).mono ?_; rintro e w' ⟨rfl, rfl⟩)
          | (go_at_call_of 13 (Value.slice A2 n2 p2); refine (HE2.out _).mono ?_; rintro e w' ⟨rfl, rfl⟩)
          | (go_at_call 17; refine (HA.out _ HX2.out.drew.below).mono ?_; rintro e w3 ⟨rfl, hb3⟩; have HX3 := Lib.hid (HX2.out.drew.after hb3); have e0 := HX3.out.c0; have e1 := HX3.out.c1; have e2 := HX3.out.c2; clear hb3)
          | (go_at_call 18; refine (HB.out _ HX3.out.below).mono ?_; rintro e w4 ⟨rfl, hb4⟩; have HX4 := Lib.hid (HX3.out.after hb4); have e0 := HX4.out.c0; have e1 := HX4.out.c1; have e2 := HX4.out.c2; clear hb4)))
      all_goals
        go_wp2_with fail
        go_ret
        exact ⟨rfl, HX4.out.below⟩
    | false =>
      go_region_held3 (fun w' => w'.cell? ⟨w.heap.size, 0, none⟩ = some (.int .i64 W) ∧ w'.cell? ⟨w.heap.size, 1, none⟩ = some (.int .i64 H) ∧ w'.cell? ⟨w.heap.size, 2, none⟩ = some (.string s)) (go_keep)
        ((first
          | (go_at_call_of 13 (Value.slice A1 n1 p1); refine (HE1.out _).mono ?_; rintro e w' ⟨rfl, rfl⟩)
          | (go_at_call_of 13 (Value.slice A2 n2 p2); refine (HE2.out _).mono ?_; rintro e w' ⟨rfl, rfl⟩)
          | (go_at_call 17; refine (HA.out _ HX2.out.drew.below).mono ?_; rintro e w3 ⟨rfl, hb3⟩; have HX3 := Lib.hid (HX2.out.drew.after hb3); have e0 := HX3.out.c0; have e1 := HX3.out.c1; have e2 := HX3.out.c2; clear hb3)
          | (go_at_call 18; refine (HB.out _ HX3.out.below).mono ?_; rintro e w4 ⟨rfl, hb4⟩; have HX4 := Lib.hid (HX3.out.after hb4); have e0 := HX4.out.c0; have e1 := HX4.out.c1; have e2 := HX4.out.c2; clear hb4)))
      all_goals
        go_wp2_with fail
        go_ret
        exact ⟨rfl, HX4.out.below⟩
  · have hd : decide (s.size ≤ 80) = false := decide_eq_false h80
    rw [hd]
    clear hd
    go_wp2_with fail
    go_ret
    exact ⟨rfl, HX2.out.below⟩
end Go.Proofs.YtaioiobimenkfaaDoor
