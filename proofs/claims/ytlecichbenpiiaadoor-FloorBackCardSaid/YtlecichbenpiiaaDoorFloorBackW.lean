/-
  FloorBack: its walk.
-/
import Derived.Test.YtlecichbenpiiaaDoorFlBk
import Derived.Test.YtlecichbenpiiaaDoorFloorNearW
set_option linter.unusedVariables false
namespace Go.Proofs.YtlecichbenpiiaaDoor
open Go.RowKit Fl

set_option maxHeartbeats 8000000 in
theorem floorBack_walk (W H : Int) (hH : H ≤ 9223372036854775807) (s : ByteArray) (hs : s.size ≤ maxLen) (u : ByteArray) (hu : u.size ≤ maxLen) (w : World) :
    Calls Tryd.prog 6 #[.agg #[.int .i64 W, .int .i64 H, .string s], .string u] w fun e w' => e = .returned (.bool true) ∧ Below w.heap.size w w' := by
  have hs' := hs
  have hu' := hu
  unfold maxLen at hs' hu'
  go_enter Tryd.func6, Tryd.ntmps6
  go_wp2_with fail
  refine (shown_any _).mono ?_
  rintro e w1 ⟨rfl, hb1⟩
  have HB1 := Lib.hid ((Box.start w W H s 24).after hb1)
  have k0 := HB1.out.c0
  have k1 := HB1.out.c1
  have k2 := HB1.out.c2
  have hz := HB1.out.lt
  clear hb1
  by_cases hl : 2000 < s.size
  · have hd : decide (2000 < (s.size : Int)) = true := by simp; omega
    go_wp2_with fail
    go_ret
    exact ⟨rfl, HB1.out.below⟩
  · have hd : decide (2000 < (s.size : Int)) = false := by simp; omega
    by_cases hl2 : 2000 < u.size
    · have hd2 : decide (2000 < (u.size : Int)) = true := by simp; omega
      go_wp2_with fail
      go_ret
      exact ⟨rfl, HB1.out.below⟩
    · have hd2 : decide (2000 < (u.size : Int)) = false := by simp; omega
      have HP := Lib.hid (fun wx => parse_any u (by omega) wx)
      by_cases hR : Right W H s
      · have H1 := Lib.hid (fun wx => (right_any W H s hs wx).mono fun e w' h => Told.is h true (iff_of_true rfl hR))
        have H3 := Lib.hid (fun wx => (text_any W H s hs wx).mono fun e w' h => StrTold.is h ⟨(sTxt W H s).toArray⟩ (fun _ => rfl) (fun k => absurd hR k))
        have H4 := Lib.hid (fun wx => parse_any ⟨(sTxt W H s).toArray⟩ (by have := sTxt_len hR; rw [← len_list]; simp; omega) wx)
        have HQ := Lib.hid (fun (W' H' : Int) (c' : ByteArray) (row : Nat) (err : Int) (h : POut (rowsL (⟨(sTxt W H s).toArray⟩ : ByteArray).data.toList) W' H' c' row err) => back_floor hR (by simpa using h))
        obtain ⟨t, ht⟩ : ∃ t : ByteArray, t = ⟨(sTxt W H s).toArray⟩ := ⟨_, rfl⟩
        rw [← ht] at H3 H4 HQ
        clear hR ht
        go_wp2_with fail
        refine (H1.out _).mono ?_
        rintro e w2 ⟨rfl, hb2⟩
        have HB2 := Lib.hid (HB1.out.after hb2)
        have e0 := HB2.out.c0
        have e1 := HB2.out.c1
        have e2 := HB2.out.c2
        clear hb2
        go_wp2_with fail
        refine (H3.out _).mono ?_
        rintro e w3 ⟨rfl, hb3⟩
        have HB3 := Lib.hid (HB2.out.after hb3)
        have f0 := HB3.out.c0
        have f1 := HB3.out.c1
        have f2 := HB3.out.c2
        clear hb3
        go_wp2_with fail
        refine (H4.out _).mono ?_
        rintro e w4 ⟨W', H', c', row, err, rfl, ho, hb4⟩
        obtain ⟨rfl, rfl, rfl, rfl, rfl⟩ := HQ.out _ _ _ _ _ ho
        have HB4 := Lib.hid (HB3.out.after hb4)
        have HX4 := Lib.hid (Box.start w4 W' H' c' 24)
        have HB5 := Lib.hid (HB4.out.after ((Below.refl _ _).alloc (Nat.le_refl _) (.cells #[.int .i64 W', .int .i64 H', .string c'] 24)))
        have g0 := HB5.out.c0
        have g1 := HB5.out.c1
        have g2 := HB5.out.c2
        have x0 := HX4.out.c0
        have x1 := HX4.out.c1
        have x2 := HX4.out.c2
        clear ho hb4 e0 e1 e2 f0 f1 f2 k0 k1 k2
        go_wp2_with fail
        refine (HP.out _).mono ?_
        rintro e w6 ⟨W2, H2, c2, row2, err2, rfl, ho, hb6⟩
        have HB6 := Lib.hid (HB5.out.after hb6)
        have HX6 := Lib.hid (Box.start w6 W2 H2 c2 24)
        have HB7 := Lib.hid (HB6.out.after ((Below.refl _ _).alloc (Nat.le_refl _) (.cells #[.int .i64 W2, .int .i64 H2, .string c2] 24)))
        have y0 := HX6.out.c0
        have y1 := HX6.out.c1
        have y2 := HX6.out.c2
        have hoc := out_cases ho
        have HK := Lib.hid (fun he => back_text he ho)
        clear ho hb6 g0 g1 g2 x0 x1 x2
        rcases hoc with ⟨rfl, rfl, rfl, rfl⟩ | ⟨rfl, rfl, hR2⟩
        · go_wp2_with fail
          go_ret
          exact ⟨rfl, HB7.out.below⟩
        · have hc2 : c2.size ≤ maxLen := by have := rightLe hR2; unfold maxLen; omega
          have R1 := Lib.hid (fun wx => (right_any W2 H2 c2 hc2 wx).mono fun e w' h => Told.is h true (iff_of_true rfl hR2))
          have R3 := Lib.hid (fun wx => (text_any W2 H2 c2 hc2 wx).mono fun e w' h => StrTold.is h ⟨(sTxt W2 H2 c2).toArray⟩ (fun _ => rfl) (fun k => absurd hR2 k))
          have hT := (HK.out rfl).2
          have hT2 := sTxt_len hR2
          obtain ⟨l, hl0⟩ : ∃ l, l = sTxt W2 H2 c2 := ⟨_, rfl⟩
          rw [← hl0] at R3 hT hT2
          obtain ⟨t2, ht2⟩ : ∃ t2 : ByteArray, t2 = ⟨l.toArray⟩ := ⟨_, rfl⟩
          rw [← ht2] at R3
          have HT : Hid (t2 = u ∨ t2 = u ++ ⟨#[10]⟩) := Lib.hid (by
            rcases hT with h | h
            · left; rw [ht2, h]
            · right; rw [ht2, h]; apply ByteArray.ext; apply Array.ext'; simp)
          clear hR2 hl0 HK hT hT2 ht2
          go_wp2_with fail
          refine (R3.out _).mono ?_
          rintro e w8 ⟨rfl, hb8⟩
          have HB8 := Lib.hid (HB7.out.after hb8)
          have HX8 := Lib.hid ((HX6.out).after hb8)
          have z0 := HX8.out.c0
          have z1 := HX8.out.c1
          have z2 := HX8.out.c2
          clear hb8 y0 y1 y2
          go_wp2_with fail
          refine (R1.out _).mono ?_
          rintro e w9 ⟨rfl, hb9⟩
          have HB9 := Lib.hid (HB8.out.after hb9)
          clear hb9 z0 z1 z2
          go_wp2_with fail
          all_goals
            go_ret
            exact ⟨by first | rfl | (rcases HT.out with h | h <;> simp [h]), HB9.out.below⟩
      · have H1 := Lib.hid (fun wx => (right_any W H s hs wx).mono fun e w' h => Told.is h false (iff_of_false (by decide) hR))
        have H3 := Lib.hid (fun wx => (text_any W H s hs wx).mono fun e w' h => StrTold.is h ⟨#[]⟩ (fun k => absurd k hR) (fun _ => rfl))
        clear hR
        go_wp2_with fail
        refine (H1.out _).mono ?_
        rintro e w2 ⟨rfl, hb2⟩
        have HB2 := Lib.hid (HB1.out.after hb2)
        have e0 := HB2.out.c0
        have e1 := HB2.out.c1
        have e2 := HB2.out.c2
        clear hb2
        go_wp2_with fail
        refine (H3.out _).mono ?_
        rintro e w3 ⟨rfl, hb3⟩
        have HB3 := Lib.hid (HB2.out.after hb3)
        clear hb3 e0 e1 e2 k0 k1 k2
        go_wp2_with fail
        refine (HP.out _).mono ?_
        rintro e w6 ⟨W2, H2, c2, row2, err2, rfl, ho, hb6⟩
        have HB6 := Lib.hid (HB3.out.after hb6)
        have HX6 := Lib.hid (Box.start w6 W2 H2 c2 24)
        have HB7 := Lib.hid (HB6.out.after ((Below.refl _ _).alloc (Nat.le_refl _) (.cells #[.int .i64 W2, .int .i64 H2, .string c2] 24)))
        have y0 := HX6.out.c0
        have y1 := HX6.out.c1
        have y2 := HX6.out.c2
        have hoc := out_cases ho
        have HK := Lib.hid (fun he => back_text he ho)
        clear ho hb6
        rcases hoc with ⟨rfl, rfl, rfl, rfl⟩ | ⟨rfl, rfl, hR2⟩
        · go_wp2_with fail
          go_ret
          exact ⟨rfl, HB7.out.below⟩
        · have hc2 : c2.size ≤ maxLen := by have := rightLe hR2; unfold maxLen; omega
          have R1 := Lib.hid (fun wx => (right_any W2 H2 c2 hc2 wx).mono fun e w' h => Told.is h true (iff_of_true rfl hR2))
          have R3 := Lib.hid (fun wx => (text_any W2 H2 c2 hc2 wx).mono fun e w' h => StrTold.is h ⟨(sTxt W2 H2 c2).toArray⟩ (fun _ => rfl) (fun k => absurd hR2 k))
          have hT := (HK.out rfl).2
          have hT2 := sTxt_len hR2
          obtain ⟨l, hl0⟩ : ∃ l, l = sTxt W2 H2 c2 := ⟨_, rfl⟩
          rw [← hl0] at R3 hT hT2
          obtain ⟨t2, ht2⟩ : ∃ t2 : ByteArray, t2 = ⟨l.toArray⟩ := ⟨_, rfl⟩
          rw [← ht2] at R3
          have HT : Hid (t2 = u ∨ t2 = u ++ ⟨#[10]⟩) := Lib.hid (by
            rcases hT with h | h
            · left; rw [ht2, h]
            · right; rw [ht2, h]; apply ByteArray.ext; apply Array.ext'; simp)
          clear hR2 hl0 HK hT hT2 ht2
          go_wp2_with fail
          refine (R3.out _).mono ?_
          rintro e w8 ⟨rfl, hb8⟩
          have HB8 := Lib.hid (HB7.out.after hb8)
          have HX8 := Lib.hid ((HX6.out).after hb8)
          have z0 := HX8.out.c0
          have z1 := HX8.out.c1
          have z2 := HX8.out.c2
          clear hb8 y0 y1 y2
          go_wp2_with fail
          refine (R1.out _).mono ?_
          rintro e w9 ⟨rfl, hb9⟩
          have HB9 := Lib.hid (HB8.out.after hb9)
          clear hb9 z0 z1 z2
          go_wp2_with fail
          all_goals
            go_ret
            exact ⟨by first | rfl | (rcases HT.out with h | h <;> simp [h]), HB9.out.below⟩

end Go.Proofs.YtlecichbenpiiaaDoor
