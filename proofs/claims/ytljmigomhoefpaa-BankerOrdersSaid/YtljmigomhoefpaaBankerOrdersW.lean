/-
  BankerOrders: the walk.
-/
import Derived.Test.YtljmigomhoefpaaBkR4
set_option linter.unusedVariables false
set_option maxRecDepth 100000
namespace Go.Proofs.Ytljmigomhoefpaa.Bk
open Go.RowKit

theorem cl_few {w : World} {A : Option Addr} {n cap : Nat} {C : Cm} (h : Cl w.heap.size w A n cap C) {m : Nat} (hm : FewIs C m) : Cl w.heap.size w A m cap (C.take m) := h.cut (by rw [← h.len]; exact hm.le)
set_option maxHeartbeats 4000000 in
theorem bankerOrders_walk (A : Option Addr) (n cap : Nat) (C : Cm) (w : World) (h : Cl w.heap.size w A n cap C) (_ : True) : Calls Try.prog 3 #[.slice A n cap] w fun e w' => e = .returned (.bool true) ∧ Below w.heap.size w w' := by
  have HC := Lib.hid h
  clear h
  go_enter Try.func3, Try.ntmps3
  go_wp2_with fail
  refine (few_any A n cap _ C _ HC.out).mono ?_
  rintro e w' ⟨m, rfl, hm, rfl⟩
  have HD1 := Lib.hid (cl_few HC.out hm)
  clear hm
  generalize C.take m = D at *
  go_wp2_with fail
  refine (order_any A m cap D _ HD1.out).mono ?_
  rintro e w2 ⟨A2, m2, c2, o, is, rfl, hm2, ho2, hown2, hc2⟩
  have HO2 := Lib.hid ho2
  have HW2 := Lib.hid hown2
  have HB2 := Lib.hid hc2
  have HD2 := Lib.hid (HD1.out.later hc2)
  clear hm2 ho2 hown2 hc2
  go_wp2_with fail
  refine (r8order_any A m cap D _ HD2.out).mono ?_
  rintro e w3 ⟨A3, m3, c3, o3, is3, rfl, hm3, ho3, hown3, hc3⟩
  obtain ⟨e1, e2⟩ := HO2.out.uniq ho3
  subst e1 e2
  have HI3 := Lib.hid hown3.lt.2
  have HI2 := Lib.hid (Gt.later HW2.out.lt.2 hc3)
  have HB3 := Lib.hid (HB2.out.trans (hc3.mono HB2.out.size))
  have HD3 := Lib.hid (HD2.out.later hc3)
  clear hm3 ho3 hown3 hc3
  go_wp2_with fail
  refine (shown_any _).mono ?_
  rintro e w4 ⟨rfl, hc4⟩
  have HI34 := Lib.hid (Gt.later HI3.out hc4)
  have HI24 := Lib.hid (Gt.later HI2.out hc4)
  have HB4 := Lib.hid (HB3.out.trans (hc4.mono HB3.out.size))
  have HD4 := Lib.hid (HD3.out.later hc4)
  clear hc4
  go_wp2_with fail
  refine (right_any A m cap D _ HD4.out).mono ?_
  rintro e w5 ⟨b5, rfl, hb5, hc5⟩
  have HR5 := Lib.hid hb5
  have HI35 := Lib.hid (Gt.later HI34.out hc5)
  have HI25 := Lib.hid (Gt.later HI24.out hc5)
  have HB5 := Lib.hid (HB4.out.trans (hc5.mono HB4.out.size))
  have HD5 := Lib.hid (HD4.out.later hc5)
  clear hb5 hc5
  go_wp2_with fail
  refine (rright_any A m cap D _ HD5.out).mono ?_
  rintro e w6 ⟨b6, rfl, hb6, hc6⟩
  obtain rfl : b5 = b6 := by rw [Bool.eq_iff_iff, HR5.out, hb6]
  have HI36 := Lib.hid (Gt.later HI35.out hc6)
  have HI26 := Lib.hid (Gt.later HI25.out hc6)
  have HB6 := Lib.hid (HB5.out.trans (hc6.mono HB5.out.size))
  have HD6 := Lib.hid (HD5.out.later hc6)
  have hbb : (b5 == b5) = true := by simp
  clear hb6 hc6
  go_wp2_with fail
  refine (same_any A2 m2 c2 _ (nz o) A3 m3 c3 _ (nz o) _ HI26.out HI36.out (Nat.le_refl _) (Nat.le_refl _)).mono ?_
  rintro e w7 ⟨b7, rfl, hb7, hc7⟩
  obtain rfl : b7 = true := hb7.2 rfl
  have HB7 := Lib.hid (HB6.out.trans (hc7.mono HB6.out.size))
  have HD7 := Lib.hid (HD6.out.later hc7)
  have hii : (is == is) = true := by simp
  clear hb7 hc7
  go_wp2_with fail
  refine (safe_any A m cap D _ HD7.out).mono ?_
  rintro e w8 ⟨b8, rfl, hb8, hc8⟩
  obtain rfl : is = b8 := by rw [Bool.eq_iff_iff, hb8]; exact HO2.out.saf
  have HB8 := Lib.hid (HB7.out.trans (hc8.mono HB7.out.size))
  clear hb8 hc8
  go_wp2_with fail
  go_ret
  exact ⟨rfl, HB8.out⟩
end Go.Proofs.Ytljmigomhoefpaa.Bk
