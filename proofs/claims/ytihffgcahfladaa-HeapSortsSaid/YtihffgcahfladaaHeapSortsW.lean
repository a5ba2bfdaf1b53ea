/-
  HeapSorts: items as they come out are the document's.
-/
import Derived.Test.YtihffgcahfladaaHpW8
import Derived.Test.YtihffgcahfladaaHpR4
set_option linter.unusedVariables false
namespace Go.Proofs.Ytihffgcahfladaa
open Go.RowKit E

set_option maxHeartbeats 1000000 in
theorem heapSorts_walk (A : Option Addr) (len cap : Nat) (f : Nat → Int × Int) (w : World) (h : It w.heap.size w A len cap f) (_ : True) :
    Calls Try.prog 4 #[.slice A len cap] w fun e w' => e = .returned (.bool true) ∧ Below w.heap.size w w' := by
  have hle := h.le
  have hmax := h.max
  unfold maxLen at hmax
  cases A with
  | none =>
    obtain rfl : cap = 0 := h.nil rfl
    obtain rfl : len = 0 := by omega
    have HI := Lib.hid h
    clear h
    go_enter Try.func4, Try.ntmps4
    go_wp2_with (first | (go_at_call 10; refine (shown_any _).mono ?_; rintro e w1 ⟨rfl, hb1⟩; have HB1 := Lib.hid hb1; have HI1 := Lib.hid ((HI.out.below hb1).raise hb1.size); clear hb1) | (go_at_call 21; refine (sort_any _ _ _ f _ HI1.out (by omega)).mono ?_; rintro e w2 ⟨g, c, rfl, ho, hb2⟩; have HO2 := Lib.hid ho; have HB2 := Lib.hid (HB1.out.trans (hb2.mono HB1.out.size)); have HI2 := Lib.hid ((HI1.out.below hb2).raise hb2.size); clear ho hb2) | (go_at_call 22; refine (r4sort_any _ _ _ f _ HI2.out (by omega)).mono ?_; rintro e w3 ⟨A3, c3, rfl, h3, hb3⟩; have HI3 := Lib.hid h3; have HB3 := Lib.hid (HB2.out.trans (hb3.mono HB2.out.size)); have HO3 := Lib.hid (HO2.out.below hb3); clear h3 hb3) | (go_at_call 20; refine (r4same_any _ _ _ _ _ _ _ _ (HO3.out.it).2 HI3.out (fun i hi => rfl) (by omega)).mono ?_; rintro e w4 ⟨rfl, hb4⟩; have HB4 := Lib.hid (HB3.out.trans (hb4.mono HB3.out.size)); clear hb4))
    go_ret
    exact ⟨rfl, HB4.out⟩
  | some ad =>
    by_cases hl : (len : Int) ≤ 500
    · have HI := Lib.hid h
      clear h
      go_enter Try.func4, Try.ntmps4
      go_wp2_with (first | (go_at_call 10; refine (shown_any _).mono ?_; rintro e w1 ⟨rfl, hb1⟩; have HB1 := Lib.hid hb1; have HI1 := Lib.hid ((HI.out.below hb1).raise hb1.size); clear hb1) | (go_at_call 21; refine (sort_any _ _ _ f _ HI1.out (by omega)).mono ?_; rintro e w2 ⟨g, c, rfl, ho, hb2⟩; have HO2 := Lib.hid ho; have HB2 := Lib.hid (HB1.out.trans (hb2.mono HB1.out.size)); have HI2 := Lib.hid ((HI1.out.below hb2).raise hb2.size); clear ho hb2) | (go_at_call 22; refine (r4sort_any _ _ _ f _ HI2.out (by omega)).mono ?_; rintro e w3 ⟨A3, c3, rfl, h3, hb3⟩; have HI3 := Lib.hid h3; have HB3 := Lib.hid (HB2.out.trans (hb3.mono HB2.out.size)); have HO3 := Lib.hid (HO2.out.below hb3); clear h3 hb3) | (go_at_call 20; refine (r4same_any _ _ _ _ _ _ _ _ (HO3.out.it).2 HI3.out (fun i hi => rfl) (by omega)).mono ?_; rintro e w4 ⟨rfl, hb4⟩; have HB4 := Lib.hid (HB3.out.trans (hb4.mono HB3.out.size)); clear hb4))
      go_ret
      exact ⟨rfl, HB4.out⟩
    · have hl2 : 500 ≤ len := by omega
      have hl3 : (500 : Int) ≤ (cap : Int) := by omega
      have HI := Lib.hid (h.take hl2)
      clear h
      go_enter Try.func4, Try.ntmps4
      go_wp2_with (first | (go_at_call 10; refine (shown_any _).mono ?_; rintro e w1 ⟨rfl, hb1⟩; have HB1 := Lib.hid hb1; have HI1 := Lib.hid ((HI.out.below hb1).raise hb1.size); clear hb1) | (go_at_call 21; refine (sort_any _ _ _ f _ HI1.out (by omega)).mono ?_; rintro e w2 ⟨g, c, rfl, ho, hb2⟩; have HO2 := Lib.hid ho; have HB2 := Lib.hid (HB1.out.trans (hb2.mono HB1.out.size)); have HI2 := Lib.hid ((HI1.out.below hb2).raise hb2.size); clear ho hb2) | (go_at_call 22; refine (r4sort_any _ _ _ f _ HI2.out (by omega)).mono ?_; rintro e w3 ⟨A3, c3, rfl, h3, hb3⟩; have HI3 := Lib.hid h3; have HB3 := Lib.hid (HB2.out.trans (hb3.mono HB2.out.size)); have HO3 := Lib.hid (HO2.out.below hb3); clear h3 hb3) | (go_at_call 20; refine (r4same_any _ _ _ _ _ _ _ _ (HO3.out.it).2 HI3.out (fun i hi => rfl) (by omega)).mono ?_; rintro e w4 ⟨rfl, hb4⟩; have HB4 := Lib.hid (HB3.out.trans (hb4.mono HB3.out.size)); clear hb4))
      go_ret
      exact ⟨rfl, HB4.out⟩

end Go.Proofs.Ytihffgcahfladaa
