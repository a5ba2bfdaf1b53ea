/-
  BankerTurned: the walk.
-/
import Derived.Test.YtljmigomhoefpaaBkJ
set_option linter.unusedVariables false
set_option maxRecDepth 100000
namespace Go.Proofs.Ytljmigomhoefpaa.Bk
open Go.RowKit

theorem cl_few {w : World} {A : Option Addr} {n cap : Nat} {C : Cm} (h : Cl w.heap.size w A n cap C) {m : Nat} (hm : FewIs C m) : Cl w.heap.size w A m cap (C.take m) := h.cut (by rw [← h.len]; exact hm.le)
/-- One of them alone. -/
theorem cl_one {B : Nat} {w : World} {g off n cap : Nat} {C : Cm} (h : Cl B w (some ⟨g, off, none⟩) n cap C) {i : Nat} (hi : i < n) : ∃ c, Cl B w (some ⟨g, off + i * 2, none⟩) 1 (cap - i) [c] := by
  have hl := h.len
  have h1 := (h.tail (m := i) (by omega) (some ⟨g, off + i * 2, none⟩) (by simp) (fun _ => rfl)).cut (m := 1) (by omega)
  have e : (C.drop i).take 1 = [C[i]'(by omega)] := by
    rw [List.drop_eq_getElem_cons (by omega)]; rfl
  rw [e] at h1
  exact ⟨_, h1⟩
theorem one_same (c : List Int × List Int) : Rg [c] ↔ Rg [c] ∧ SafC [c] := ⟨fun h => ⟨h, saf_one c⟩, fun h => h.1⟩
set_option maxHeartbeats 4000000 in
theorem bankerTurned_walk (A : Option Addr) (n cap : Nat) (C : Cm) (nn : Nat) (hnn : nn ≤ 255) (w : World) (h : Cl w.heap.size w A n cap C) (_ : True) : Calls Try.prog 9 #[.slice A n cap, .int .u8 (nn : Int)] w fun e w' => e = .returned (.bool true) ∧ Below w.heap.size w w' := by
  have HC := Lib.hid h
  clear h
  go_enter Try.func9, Try.ntmps9
  go_wp2_with fail
  refine (shown_any _).mono ?_
  rintro e w1 ⟨rfl, hb1⟩
  have HB1 := Lib.hid hb1
  have HC1 := Lib.hid (HC.out.later hb1)
  clear hb1
  go_wp2_with fail
  refine (few_any A n cap _ C _ HC1.out).mono ?_
  rintro e w' ⟨m, rfl, hm, rfl⟩
  have HD1 := Lib.hid (cl_few HC1.out hm)
  have hm9 := hm.nine
  clear hm HC1
  generalize C.take m = D at *
  have HN := Lib.hid HD1.out.len
  have hs := HD1.out.size
  have hs1 := hs.1
  have hs2 := hs.2
  clear hs
  by_cases hm0 : m = 0
  · subst hm0
    obtain rfl : D = [] := List.length_eq_zero_iff.1 HN.out
    go_wp2_with fail
    refine (safe_any A 0 cap [] _ HD1.out).mono ?_
    rintro e w3 ⟨b, rfl, hb, hb3⟩
    obtain rfl : b = true := hb.2 ⟨rg_nil, saf_nil⟩
    have HB3 := Lib.hid (HB1.out.trans (hb3.mono HB1.out.size))
    clear hb hb3
    go_wp2_with fail
    go_ret
    exact ⟨rfl, HB3.out⟩
  · have hd0 : ((m : Int) == 0) = false := by rw [beq_eq_false_iff_ne]; omega
    obtain ⟨k, hk⟩ : ∃ k, k = nn % m := ⟨_, rfl⟩
    have hkm : k < m := by rw [hk]; exact Nat.mod_lt _ (by omega)
    have hkI : (nn : Int) % (m : Int) = (k : Int) := by rw [hk]; rfl
    clear hk
    go_wp2_with fail
    rw [hkI]
    clear hkI hnn
    obtain ⟨g, off, _, _, _, _, _, _, rfl, _⟩ := HD1.out.cell hkm
    obtain ⟨P, h1, h2⟩ := HD1.out
    have HG1 : Hid (Gt 2 w1.heap.size w1 (some ⟨g, off + k * 2, none⟩) (m - k) (cap - k) (pcl (P.drop k))) := Lib.hid (by rw [pcl_drop]; exact h1.tail (by omega) _ (by simp) (fun _ => rfl))
    have HG2 : Hid (Gt 2 w1.heap.size w1 (some ⟨g, off, none⟩) k cap (pcl (P.take k))) := Lib.hid (by rw [pcl_take]; exact h1.cut (by omega))
    have HO1 := Lib.hid (h2.drop k).one
    have HO2 := Lib.hid (h2.take k).one
    have HR : Hid (Rd w1.heap.size w1 (P.drop k ++ P.take k) (rot D k)) := Lib.hid ((h2.drop k).app (h2.take k))
    have hPl : P.length = m := by rw [h2.1]; exact HN.out
    have HB0 := Lib.hid (((Below.refl w1.heap.size w1).alloc (Nat.le_refl _) (.cells #[] 33)).drew)
    have HSA : Hid (w1.heap.size ≤ (w1.alloc (.cells #[] 33)).drew.heap.size) := Lib.hid (by rw [show (w1.alloc (.cells #[] 33)).drew.heap.size = w1.heap.size + 1 by simp [World.drew]]; exact Nat.le_succ _)
    have HL1 : Hid (([] : List (Value × Value)).length + (m - k) ≤ 1000000) := Lib.hid (by simp; omega)
    have HL2 : Hid (([] ++ P.drop k).length + k ≤ 1000000) := Lib.hid (by simp; omega)
    have hk0 : (0 : Int) ≤ (k : Int) := by omega
    have hk1 : (k : Int) ≤ (m : Int) := by omega
    have hk2 : (k : Int) ≤ (cap : Int) := by omega
    have hk3 : ¬ cap = k := by omega
    have hmc : (m : Int) ≤ (cap : Int) := by omega
    clear h1 h2 hPl
    go_region_held3 (fun _ => True) (trivial) ((first
      | ((fail_if_success have _k := HO4); refine step_app_claims (by rfl) _ _ (by rfl) w1.heap.size (.slice (some ⟨w1.heap.size, 0, none⟩) 0 0) [] (by rfl) (Cw.empty w1.drew w1.heap.size (Nat.le_refl _)) _ (m - k) (cap - k) (P.drop k) (by rfl) ((HG1.out.below HB0.out).raise HSA.out) HO1.out HL1.out HSA.out ?_; intro A4 n4 c4 w4 hn4 ho4 hb4; have HO4 := Lib.hid ho4; have HB4 := Lib.hid (HB0.out.trans hb4); clear ho4 hb4 hn4)
      | (have _k := HO4; refine step_app_claims (by rfl) _ _ (by rfl) w1.heap.size _ ([] ++ P.drop k) (by rfl) HO4.out _ _ _ (P.take k) (by rfl) ((HG2.out.below HB4.out).raise HB4.out.size) HO2.out HL2.out HB4.out.size ?_; intro A5 n5 c5 w5 hn5 ho5 hb5; have HO5 := Lib.hid ho5; have HB5 := Lib.hid (HB4.out.trans hb5); clear ho5 hb5 hn5)
      | fail))
    have HY5 : Hid (Cl w5.heap.size w5 A5 n5 c5 (rot D k)) := Lib.hid ⟨_, HO5.out.gt.2, (HR.out.below HB5.out).raise HB5.out.size⟩
    have HX5 := Lib.hid (HD1.out.later HB5.out)
    have HW5 := Lib.hid (HB1.out.trans (HB5.out.mono HB1.out.size))
    have HRR := Lib.hid (rg_rot (C := D) (k := k) (by rw [HN.out]; exact hkm))
    have HSS := Lib.hid (saf_rot (C := D) (k := k) (by rw [HN.out]; exact hkm))
    clear HG1 HG2 HO1 HO2 HR HB0 HSA HL1 HL2 HO4 HB4 HO5 HB5
    go_wp2_with fail
    refine (safe_any _ m cap D _ HX5.out).mono ?_
    rintro e w6 ⟨b6, rfl, hb6, hc6⟩
    have HB6 := Lib.hid hb6
    have HW6 := Lib.hid (HW5.out.trans (hc6.mono HW5.out.size))
    have HX6 := Lib.hid (HX5.out.later hc6)
    have HY6 := Lib.hid (HY5.out.later hc6)
    clear hb6 hc6
    go_wp2_with fail
    refine (safe_any A5 n5 c5 _ _ HY6.out).mono ?_
    rintro e w7 ⟨b7, rfl, hb7, hc7⟩
    have HW7 := Lib.hid (HW6.out.trans (hc7.mono HW6.out.size))
    have HX7 := Lib.hid (HX6.out.later hc7)
    have HY7 := Lib.hid (HY6.out.later hc7)
    obtain rfl : b6 = b7 := by
      rw [Bool.eq_iff_iff, HB6.out, hb7, HRR.out, HSS.out]
    have hbb : (b6 != b6) = false := by simp
    clear hb7 hc7
    go_wp2_with fail
    refine (right_any _ m cap D _ HX7.out).mono ?_
    rintro e w8 ⟨b8, rfl, hb8, hc8⟩
    have HB8 := Lib.hid hb8
    have HW8 := Lib.hid (HW7.out.trans (hc8.mono HW7.out.size))
    have HX8 := Lib.hid (HX7.out.later hc8)
    have HY8 := Lib.hid (HY7.out.later hc8)
    clear hb8 hc8
    go_wp2_with fail
    refine (right_any A5 n5 c5 _ _ HY8.out).mono ?_
    rintro e w9 ⟨b9, rfl, hb9, hc9⟩
    have HW9 := Lib.hid (HW8.out.trans (hc9.mono HW8.out.size))
    have HX9 := Lib.hid (HX8.out.later hc9)
    obtain rfl : b8 = b9 := by
      rw [Bool.eq_iff_iff, HB8.out, hb9, HRR.out]
    have hbb8 : (b8 != b8) = false := by simp
    clear hb9 hc9
    go_wp2_with fail
    go_loopw [49] (fun iv wr => ∃ i : Nat, i ≤ m ∧ iv = .int .i64 (i : Int) ∧ Hid (Below w9.heap.size w9 wr)) (fun iv _ => m - (intOf iv).toNat)
    case atStart => exact ⟨0, Nat.zero_le _, rfl, Lib.hid (Below.refl _ _)⟩
    case round =>
      rename World => wr
      obtain ⟨i, hi, rfl, HW⟩ := hrel
      by_cases hlt : i < m
      · have HXr := Lib.hid (HX9.out.later HW.out)
        obtain ⟨c, hc⟩ := cl_one HXr.out hlt
        have HO := Lib.hid hc
        have hi0 : (0 : Int) ≤ (i : Int) := by omega
        have hi1 : (0 : Int) ≤ (i : Int) + 1 := by omega
        have hi2 : (i : Int) + 1 ≤ (cap : Int) := by omega
        have hi3 : (i : Int) ≤ (i : Int) + 1 := by omega
        have hi4 : ¬ cap = i := by omega
        have hi5 : (i : Int) ≤ (cap : Int) := by omega
        have hi6 : ((i : Int) + 1 - (i : Int)).toNat = 1 := by omega
        have hi7 : i + 1 - i = 1 := by omega
        have hiw : IntKind.i64.wrap ((i : Int) + 1) = (i : Int) + 1 := IntWalk.i64_in _ (by omega)
        have HB0 := Lib.hid ((Below.refl wr.heap.size wr).drew)
        clear hc
        go_wp2_with fail
        go_region_held3 (fun _ => True) (trivial) ((first
          | ((fail_if_success have _k := HR4); go_simp; go_at_call 14; refine (right_any _ 1 (cap - i) [c] _ ((HO.out.below HB0.out).raise HB0.out.size)).mono ?_; rintro e w4 ⟨b4, rfl, hb4, hc4⟩; have HR4 := Lib.hid hb4; have HV4 := Lib.hid (HB0.out.trans hc4); clear hb4 hc4)
          | (have _k := HR4; go_simp; go_at_call 17; refine (safe_any _ 1 (cap - i) [c] _ ((HO.out.below HV4.out).raise HV4.out.size)).mono ?_; rintro e w5 ⟨b5, rfl, hb5, hc5⟩; have HS5 := Lib.hid hb5; have HV5 := Lib.hid (HV4.out.trans (hc5.mono HV4.out.size)); clear hb5 hc5)
          | fail))
        obtain rfl : b4 = b5 := by
          rw [Bool.eq_iff_iff, HR4.out, HS5.out]
          exact one_same c
        have HWN := Lib.hid (HW.out.trans (HV5.out.mono HW.out.size))
        clear hi0 hi1 hi2 hi3 hi4 hi5 hi6 hi7 hiw
        clear HR4 HS5 _k
        cases b4 <;>
          (go_wp2_with fail
           go_roundw
           case rel => exact ⟨i + 1, by omega, by go_num, HWN⟩
           case measure => simp [intOf]; omega)
      · obtain rfl : i = m := by omega
        go_wp2_with fail
        go_ret
        exact ⟨rfl, HW9.out.trans (HW.out.mono HW9.out.size)⟩
end Go.Proofs.Ytljmigomhoefpaa.Bk
