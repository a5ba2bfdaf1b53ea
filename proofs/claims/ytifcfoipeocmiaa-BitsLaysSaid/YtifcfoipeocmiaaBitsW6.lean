/-
  The document's examples, at the head of all statements of layer 1: they hold.
-/
import Derived.Test.YtifcfoipeocmiaaBitsW5
set_option linter.unusedVariables false
namespace Go.Proofs.Ytifcfoipeocmiaa
open Go.RowKit Bp

theorem kz0 : kz 0 = 0 := by decide
theorem kz1 : kz 1 = 1 := by decide
theorem kz4 : kz 4 = 2 := by decide
def ex1 : List Bool := [true, false, true]
def ex2 : List Bool := [true, false, true, false, true]
def cx1 : List Bool := [true]
def cx2 : List Bool := [true, false, true, false]
def cx3 : List Bool := [true, false, true, false, false, false, true, false, true]

theorem sh_put5 (B : Nat) (w0 w : World) (h : Two w0 w B [] []) :
    Calls Try.prog 10 #[.pointer (some ⟨B, 0, none⟩), .int .u64 5, .int .i64 3] w fun e w' => e = .returned (.int .i64 0) ∧ Two w0 w' B ex1 [] :=
  two_put B 5 3 w0 w [] [] h (by decide) (by decide) (by decide)
theorem sh_put1 (B : Nat) (w0 w : World) (h : Two w0 w B ex1 []) :
    Calls Try.prog 10 #[.pointer (some ⟨B, 0, none⟩), .int .u64 1, .int .i64 2] w fun e w' => e = .returned (.int .i64 0) ∧ Two w0 w' B ex2 [] :=
  two_put B 1 2 w0 w ex1 [] h (by decide) (by decide) (by decide)
theorem sh_count0 (B : Nat) (w0 w : World) (h : Two w0 w B ex2 []) :
    Calls Try.prog 8 #[.pointer (some ⟨B + 1, 0, none⟩), .int .u64 0] w fun e w' => e = .returned (.int .i64 0) ∧ Two w0 w' B ex2 cx1 := by
  have := two_count B 0 w0 w ex2 [] h (by decide) (by rw [kz0]; decide)
  have e : countBits 0 = cx1 := by unfold countBits; rw [kz0]; decide
  rw [e] at this; exact this
theorem sh_count1 (B : Nat) (w0 w : World) (h : Two w0 w B ex2 cx1) :
    Calls Try.prog 8 #[.pointer (some ⟨B + 1, 0, none⟩), .int .u64 1] w fun e w' => e = .returned (.int .i64 0) ∧ Two w0 w' B ex2 cx2 := by
  have := two_count B 1 w0 w ex2 cx1 h (by decide) (by rw [kz1]; decide)
  have e : cx1 ++ countBits 1 = cx2 := by unfold countBits; rw [kz1]; decide
  rw [e] at this; exact this
theorem sh_count4 (B : Nat) (w0 w : World) (h : Two w0 w B ex2 cx2) :
    Calls Try.prog 8 #[.pointer (some ⟨B + 1, 0, none⟩), .int .u64 4] w fun e w' => e = .returned (.int .i64 0) ∧ Two w0 w' B ex2 cx3 := by
  have := two_count B 4 w0 w ex2 cx2 h (by decide) (by rw [kz4]; decide)
  have e : cx2 ++ countBits 4 = cx3 := by unfold countBits; rw [kz4]; decide
  rw [e] at this; exact this
theorem sh_out0 (B : Nat) (w0 w : World) (h : Two w0 w B [] []) :
    Calls Try.prog 13 #[.pointer (some ⟨B, 0, none⟩)] w fun e w' => ∃ a cap, e = .returned (.slice a 0 cap) ∧ Two w0 w' B [] [] := by
  refine (two_out1 B w0 w [] [] h).mono ?_
  rintro e w' ⟨a, cap, rfl, _, ht⟩
  exact ⟨a, cap, rfl, ht⟩
theorem sh_out1 (B : Nat) (w0 w : World) (h : Two w0 w B ex2 cx3) :
    Calls Try.prog 13 #[.pointer (some ⟨B, 0, none⟩)] w fun e w' => ∃ a cap, e = .returned (.slice a 1 cap) ∧ (convert 37 9 (.slice a 1 cap)).run Try.prog w' = .ok (.string ⟨#[168]⟩) w' ∧ Two w0 w' B ex2 cx3 := by
  refine (two_out1 B w0 w ex2 cx3 h).mono ?_
  rintro e w' ⟨a, cap, rfl, hc, ht⟩
  have : strOf (pack ex2) = ⟨#[168]⟩ := by decide +kernel
  rw [this] at hc
  exact ⟨a, cap, rfl, hc, ht⟩
theorem sh_out2 (B : Nat) (w0 w : World) (h : Two w0 w B ex2 cx3) :
    Calls Try.prog 13 #[.pointer (some ⟨B + 1, 0, none⟩)] w fun e w' => ∃ a cap, e = .returned (.slice a 2 cap) ∧ (convert 37 9 (.slice a 2 cap)).run Try.prog w' = .ok (.string ⟨#[162, 128]⟩) w' ∧ Two w0 w' B ex2 cx3 := by
  refine (two_out2 B w0 w ex2 cx3 h).mono ?_
  rintro e w' ⟨a, cap, rfl, hc, ht⟩
  have : strOf (pack cx3) = ⟨#[162, 128]⟩ := by decide +kernel
  rw [this] at hc
  exact ⟨a, cap, rfl, hc, ht⟩
theorem sh_len1 (B : Nat) (w0 w : World) (h : Two w0 w B ex2 cx3) :
    Calls Try.prog 12 #[.pointer (some ⟨B, 0, none⟩)] w fun e w' => e = .returned (.int .i64 5) ∧ w = w' := two_len1 B w0 w ex2 cx3 h
theorem sh_len2 (B : Nat) (w0 w : World) (h : Two w0 w B ex2 cx3) :
    Calls Try.prog 12 #[.pointer (some ⟨B + 1, 0, none⟩)] w fun e w' => e = .returned (.int .i64 9) ∧ w = w' := two_len2 B w0 w ex2 cx3 h

set_option maxRecDepth 100000 in
set_option maxHeartbeats 1000000 in
theorem shown_any (w : World) : Calls Try.prog 5 #[] w fun e w' => e = .returned (.bool true) ∧ Below w.heap.size w w' := by
  have h0 := Lib.hid (two_start w)
  go_enter Try.func5, Try.ntmps5
  go_wp2_with (go_at_call 6; refine (newWriter_any _).mono ?_; rintro e w' ⟨rfl, rfl⟩)
  refine (sh_out0 w.heap.size w _ h0.out).mono ?_
  rintro e w1 ⟨a1, c1, rfl, h1⟩
  have H1 := Lib.hid h1
  clear h1 h0
  go_wp2_with fail
  refine (sh_put5 w.heap.size w _ H1.out).mono ?_
  rintro e w2 ⟨rfl, h2⟩
  have H2 := Lib.hid h2
  clear h2 H1
  go_wp2_with fail
  refine (sh_put1 w.heap.size w _ H2.out).mono ?_
  rintro e w3 ⟨rfl, h3⟩
  have H3 := Lib.hid h3
  clear h3 H2
  go_wp2_with fail
  refine (sh_count0 w.heap.size w _ H3.out).mono ?_
  rintro e w4 ⟨rfl, h4⟩
  have H4 := Lib.hid h4
  clear h4 H3
  go_wp2_with fail
  refine (sh_count1 w.heap.size w _ H4.out).mono ?_
  rintro e w5 ⟨rfl, h5⟩
  have H5 := Lib.hid h5
  clear h5 H4
  go_wp2_with fail
  refine (sh_count4 w.heap.size w _ H5.out).mono ?_
  rintro e w6 ⟨rfl, h6⟩
  have H6 := Lib.hid h6
  clear h6 H5
  go_wp2_with fail
  refine (sh_out1 w.heap.size w _ H6.out).mono ?_
  rintro e w7 ⟨a7, c7, rfl, hc7, h7⟩
  have H7 := Lib.hid h7
  clear h7 H6
  go_wp2_with fail
  refine (sh_len1 w.heap.size w _ H7.out).mono ?_
  rintro e w8 ⟨rfl, rfl⟩
  go_wp2_with fail
  refine (sh_len2 w.heap.size w _ H7.out).mono ?_
  rintro e w8 ⟨rfl, rfl⟩
  go_wp2_with fail
  refine (sh_out2 w.heap.size w _ H7.out).mono ?_
  rintro e w9 ⟨a9, c9, rfl, hc9, h9⟩
  have H9 := Lib.hid h9
  clear h9 H7
  go_wp2
  go_ret
  obtain ⟨v, u, x1, x2, x3, x4⟩ := H9.out
  exact ⟨rfl, x4⟩

end Go.Proofs.Ytifcfoipeocmiaa
