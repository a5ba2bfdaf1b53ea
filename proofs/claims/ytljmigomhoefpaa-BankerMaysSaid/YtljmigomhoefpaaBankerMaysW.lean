/-
  BankerMays: the walk.
-/
import Derived.Test.YtljmigomhoefpaaBkR5
set_option linter.unusedVariables false
set_option maxRecDepth 100000
namespace Go.Proofs.Ytljmigomhoefpaa.Bk
open Go.RowKit

theorem cl_few {w : World} {A : Option Addr} {n cap : Nat} {C : Cm} (h : Cl w.heap.size w A n cap C) {m : Nat} (hm : FewIs C m) : Cl w.heap.size w A m cap (C.take m) := h.cut (by rw [← h.len]; exact hm.le)
theorem few_short {C : Cm} {m : Nat} (hm : FewIs C m) : ∀ i, i < m → (hold (C.take m) i).length ≤ 1000 := fun i hi => by
  have := (hm.ok i hi).2.1
  rw [(hold_take hi).1]
  omega
set_option maxHeartbeats 4000000 in
theorem bankerMays_walk (A : Option Addr) (n cap : Nat) (C : Cm) (who : Int) (_ : -9223372036854775808 ≤ who ∧ who ≤ 9223372036854775807) (zone : Int) (_ : -9223372036854775808 ≤ zone ∧ zone ≤ 9223372036854775807) (w : World) (h : Cl w.heap.size w A n cap C) (_ : True) : Calls Try.prog 4 #[.slice A n cap, .int .i64 who, .int .i64 zone] w fun e w' => e = .returned (.bool true) ∧ Below w.heap.size w w' := by
  have HC := Lib.hid h
  clear h
  go_enter Try.func4, Try.ntmps4
  go_wp2_with fail
  refine (shown_any _).mono ?_
  rintro e w1 ⟨rfl, hb1⟩
  have HB1 := Lib.hid hb1
  have HC1 := Lib.hid (HC.out.later hb1)
  clear hb1
  go_wp2_with fail
  refine (few_any A n cap _ C _ HC1.out).mono ?_
  rintro e w' ⟨m, rfl, hm, rfl⟩
  have HD1 := Lib.hid (cl_few HC1.out hm)
  have HSH := Lib.hid (few_short hm)
  have HF := Lib.hid hm
  clear hm
  go_wp2_with fail
  refine (may_any A m cap (C.take m) who zone _ HD1.out).mono ?_
  rintro e w2 ⟨b2, rfl, hb2, hc2⟩
  have HM2 := Lib.hid hb2
  have HB2 := Lib.hid (HB1.out.trans (hc2.mono HB1.out.size))
  have HC2 := Lib.hid (HC1.out.later hc2)
  have HD2 := Lib.hid (HD1.out.later hc2)
  clear hb2 hc2
  go_wp2_with fail
  refine (few_any A n cap _ C _ HC2.out).mono ?_
  rintro e w' ⟨m', rfl, hm', rfl⟩
  obtain rfl : m = m' := HF.out.uniq hm'
  clear hm'
  go_wp2_with fail
  refine (r8may_any A m cap (C.take m) who zone _ HD2.out HSH.out).mono ?_
  rintro e w3 ⟨b3, rfl, hb3, hc3⟩
  have HB3 := Lib.hid (HB2.out.trans (hc3.mono HB2.out.size))
  obtain rfl : b2 = b3 := by rw [Bool.eq_iff_iff, HM2.out, hb3]
  have hbb : (b2 == b2) = true := by simp
  clear hb3 hc3
  go_wp2_with fail
  go_ret
  exact ⟨rfl, HB3.out⟩
end Go.Proofs.Ytljmigomhoefpaa.Bk
