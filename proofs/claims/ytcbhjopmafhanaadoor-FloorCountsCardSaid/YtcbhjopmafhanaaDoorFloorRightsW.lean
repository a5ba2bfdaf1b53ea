/-
  FloorRights: its walk.
-/
import Derived.Test.YtcbhjopmafhanaaDoorFlEx
import Derived.Test.YtcbhjopmafhanaaDoorFlR6
set_option linter.unusedVariables false
namespace Go.Proofs.YtcbhjopmafhanaaDoor
open Go.RowKit Fl

/-- A truth that is known is told. -/
theorem Told.is {P : Prop} {w : World} {e : Ending} {w' : World} (h : Told P w e w') (b : Bool) (hb : b = true ↔ P) : e = .returned (.bool b) ∧ Below w.heap.size w w' := by
  obtain ⟨b', rfl, h1, h2⟩ := h
  have : b' = b := by
    cases b <;> cases b'
    · rfl
    · have := hb.2 (h1.1 rfl); cases this
    · have := h1.2 (hb.1 rfl); cases this
    · rfl
  rw [this]
  exact ⟨rfl, h2⟩
theorem StrTold.is {P : Prop} {l : List UInt8} {w : World} {e : Ending} {w' : World} (h : StrTold P l w e w') (t : ByteArray) (h1 : P → t = ⟨l.toArray⟩) (h2 : ¬ P → t = ⟨#[]⟩) : e = .returned (.string t) ∧ Below w.heap.size w w' := by
  obtain ⟨t', rfl, k1, k2, k3⟩ := h
  have : t' = t := by
    by_cases hp : P
    · rw [k1 hp, h1 hp]
    · rw [k2 hp, h2 hp]
  rw [this]
  exact ⟨rfl, k3⟩

set_option maxHeartbeats 4000000 in
theorem floorRights_walk (W H : Int) (hH : H ≤ 9223372036854775807) (s : ByteArray) (hs : s.size ≤ maxLen) (w : World) :
    Calls Tryd.prog 4 #[.agg #[.int .i64 W, .int .i64 H, .string s]] w fun e w' => e = .returned (.bool true) ∧ Below w.heap.size w w' := by
  have hs' := hs
  unfold maxLen at hs'
  obtain ⟨b, hb⟩ : ∃ b : Bool, b = true ↔ Right W H s := by
    by_cases h : Right W H s
    · exact ⟨true, iff_of_true rfl h⟩
    · exact ⟨false, iff_of_false (by decide) h⟩
  obtain ⟨t, ht1, ht2⟩ : ∃ t : ByteArray, (Right W H s → t = ⟨(sTxt W H s).toArray⟩) ∧ (¬ Right W H s → t = ⟨#[]⟩) := by
    by_cases h : Right W H s
    · exact ⟨_, fun _ => rfl, fun k => absurd h k⟩
    · exact ⟨_, fun k => absurd k h, fun _ => rfl⟩
  have H1 := Lib.hid (fun wx => (right_any W H s hs wx).mono fun e w' h => Told.is h b hb)
  have H2 := Lib.hid (fun wx => (rright_any W H s hs wx).mono fun e w' h => Told.is h b hb)
  have H3 := Lib.hid (fun wx => (text_any W H s hs wx).mono fun e w' h => StrTold.is h t ht1 ht2)
  have H4 := Lib.hid (fun wx => (rtext_any W H s hs wx hH).mono fun e w' h => StrTold.is h t ht1 ht2)
  clear hb ht1 ht2
  go_enter Tryd.func4, Tryd.ntmps4
  go_wp2_with fail
  refine (shown_any _).mono ?_
  rintro e w1 ⟨rfl, hb1⟩
  have HB1 := Lib.hid ((Box.start w W H s 24).after hb1)
  have k0 := HB1.out.c0
  have k1 := HB1.out.c1
  have k2 := HB1.out.c2
  have hz := HB1.out.lt
  clear hb1
  by_cases hl : 2000 < s.size
  · have hd : decide (2000 < (s.size : Int)) = true := by simp; omega
    go_wp2_with fail
    go_ret
    exact ⟨rfl, HB1.out.below⟩
  · have hd : decide (2000 < (s.size : Int)) = false := by simp; omega
    go_upto_region 4 with (fail)
    go_region_held3 (fun w' => w'.cell? ⟨w.heap.size, 0, none⟩ = some (.int .i64 W) ∧ w'.cell? ⟨w.heap.size, 1, none⟩ = some (.int .i64 H) ∧ w'.cell? ⟨w.heap.size, 2, none⟩ = some (.string s)) (go_keep)
      ((first
        | (go_at_call 13; refine (H1.out _).mono ?_; rintro e w2 ⟨rfl, hb2⟩; have HB2 := Lib.hid (HB1.out.drew.after hb2); have e0 := HB2.out.c0; have e1 := HB2.out.c1; have e2 := HB2.out.c2; clear hb2)
        | (go_at_call 14; refine (H2.out _).mono ?_; rintro e w3 ⟨rfl, hb3⟩; have HB3 := Lib.hid (HB2.out.after hb3); have e0 := HB3.out.c0; have e1 := HB3.out.c1; have e2 := HB3.out.c2; clear hb3)
        | (go_at_call 15; refine (H3.out _).mono ?_; rintro e w4 ⟨rfl, hb4⟩; have HB4 := Lib.hid (HB3.out.after hb4); have e0 := HB4.out.c0; have e1 := HB4.out.c1; have e2 := HB4.out.c2; clear hb4)
        | (go_at_call 16; refine (H4.out _).mono ?_; rintro e w5 ⟨rfl, hb5⟩; have HB5 := Lib.hid (HB4.out.after hb5); have e0 := HB5.out.c0; have e1 := HB5.out.c1; have e2 := HB5.out.c2; clear hb5)))
    all_goals
      go_wp2_with fail
      go_ret
      exact ⟨by simp, HB5.out.below⟩

end Go.Proofs.YtcbhjopmafhanaaDoor
