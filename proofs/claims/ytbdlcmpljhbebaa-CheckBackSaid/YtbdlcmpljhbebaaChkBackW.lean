/-
  The statement CheckBack: its walk.
-/
import Derived.Test.YtbdlcmpljhbebaaChkFramesW
set_option linter.unusedVariables false
namespace Go.Proofs.Ytbdlcmpljhbebaa
open Go.RowKit Bp Ck

/-- No beginning of a frame is one. -/
theorem noFrm_take (f : List Nat) (h : isFrm f = true) (k : Nat) (hk : k < f.length) : isFrm (f.take k) = false := by
  obtain ⟨h1, h2, h3, _⟩ := (isFrm_iff f).1 h
  have hl : (f.take k).length = k := by rw [List.length_take]; omega
  by_cases h4 : k < 4
  · unfold isFrm
    rw [decide_eq_false (by omega : ¬ 4 ≤ (f.take k).length)]
    rfl
  · have g : ∀ i, i < 2 → (f.take k).getD i 0 = f.getD i 0 := fun i hi => by simp [List.getD, show i < k by omega]
    unfold isFrm
    rw [g 0 (by omega), g 1 (by omega), hl, beq_eq_false_iff_ne.2 (by omega : k ≠ 256 * f.getD 0 0 + f.getD 1 0 + 4)]
    simp

set_option maxHeartbeats 2000000 in
theorem checkBack_walk (ao : Option Addr) (len cap : Nat) (f : Nat → Nat) (bo : Option Addr) (len2 cap2 : Nat) (q : Nat → Nat) (n : Nat) (hn : n ≤ 65535) (w : World)
    (hA : ArgIn (fun z : Nat => Value.int .u8 (z : Int)) w ao len cap f) (hf : ∀ i, i < len → f i ≤ 255) (hQ : ArgIn (fun z : Nat => Value.int .u8 (z : Int)) w bo len2 cap2 q) (hq : ∀ i, i < len2 → q i ≤ 255) :
    Calls Try.prog 7 #[.slice ao len cap, .slice bo len2 cap2, .int .u16 (n : Int)] w fun e w' => e = .returned (.bool true) ∧ Below w.heap.size w w' := by
  obtain ⟨m, hm, hm1, hm2, hy⟩ := first_by hA hf 1000
  obtain ⟨m', hm', hm1', hm2', hy'⟩ := first_by hQ hq 1000
  replace hm : min (len : Int) 1000 = (m : Int) := hm
  replace hm' : min (len2 : Int) 1000 = (m' : Int) := hm'
  have hle := hA.le
  have hmx := hA.max
  have hle' := hQ.le
  have hmx' := hQ.max
  unfold maxLen at hmx hmx'
  have HY := Lib.hid hy
  have HY' := Lib.hid hy'
  generalize listOf f m = zs at *
  generalize listOf q m' = ys at *
  have s1 := fun wx => slice_h ao len cap m wx (by omega)
  have s2 := fun wx => slice_h bo len2 cap2 m' wx (by omega)
  have i1 : (0 : Int) ≤ (m : Int) := by omega
  have i2 : (m : Int) ≤ (cap : Int) := by omega
  have i3 : (0 : Int) ≤ (m' : Int) := by omega
  have i4 : (m' : Int) ≤ (cap2 : Int) := by omega
  clear hy hy' hA hf hQ hq
  go_enter Try.func7, Try.ntmps7
  go_wp2_with fail
  refine (shown2_any _).mono ?_
  rintro e w1 ⟨rfl, hb1⟩
  have HB1 := Lib.hid hb1.drew
  clear hb1
  go_wp2
  go_region
  go_wp2_with fail
  refine (frame_ok (HY.out.below HB1.out) HB1.out.size hm1).mono ?_
  rintro e w2 ⟨g2, c2, rfl, ho2, hb2⟩
  have hzb := frm_byte zs HY.out.byte (by rw [HY.out.len]; omega)
  have hzf := isFrm_frm zs (by rw [HY.out.len]; omega)
  have hzl : (frm zs).length = m + 4 := by rw [frm_len, HY.out.len]
  have HY2 := Lib.hid (By.own ho2 hzb)
  have HB2 := Lib.hid (HB1.out.trans (hb2.mono HB1.out.size))
  have hc2 := HY2.out.le
  have hcm := HY2.out.max
  unfold maxLen at hcm
  have HZ := Lib.hid hzf
  have HZL := Lib.hid hzl
  clear ho2 hb2 HB1 hzb hzf hzl hm hm'
  go_wp2_with fail
  refine (open_yes HY2.out (Nat.le_refl _) HZ.out).mono ?_
  rintro e w3 ⟨A3, rfl, hy3, _, hb3⟩
  rw [inn_frm] at hy3
  have cv3 := hy3.conv
  have HB3 := Lib.hid (HB2.out.trans (hb3.mono HB2.out.size))
  have cv3' := (HY.out.below HB3.out).conv
  have HY3 := Lib.hid (HY2.out.later hb3)
  clear hy3 hb3 HB2 HY2
  rw [show m + 4 - 4 = m by omega] at cv3 ⊢
  have hml : (0 : Int) ≤ (n : Int) % ((m : Int) + 4) := Int.emod_nonneg _ (by omega)
  have hl0 : (((m : Int) + 4) == 0) = false := by rw [beq_eq_false_iff_ne]; omega
  generalize strOf zs = sz at *
  obtain ⟨k, hk, hkl⟩ : ∃ k : Nat, (n : Int) % ((m : Int) + 4) = (k : Int) ∧ k < m + 4 := ⟨n % (m + 4), by simp, Nat.mod_lt _ (by omega)⟩
  have s3 := fun wx => slice_h (some ⟨g2, 0, none⟩) (m + 4) c2 k wx (by omega)
  go_wp2_with fail
  refine (open_no (HY3.out.take k (by omega)) (Nat.le_refl _) (noFrm_take (frm zs) HZ.out k (by rw [HZL.out]; exact hkl))).mono ?_
  rintro e w4 ⟨rfl, hb4⟩
  have HB4 := Lib.hid (HB3.out.trans (hb4.mono HB3.out.size))
  clear hb4 HB3 HY3 cv3 cv3' s3 hk hml
  have hyl := HY'.out.len
  by_cases hf : isFrm ys = true
  · obtain ⟨q1, q2⟩ := isFrm_len hf
    rw [hyl] at q1 q2
    have HL := Lib.hid hyl
    clear hyl
    go_wp2_with fail
    refine (open_yes (HY'.out.below HB4.out) HB4.out.size hf).mono ?_
    rintro e w5 ⟨A5, rfl, hy5, _, hb5⟩
    have HY5 := Lib.hid hy5
    have HB5 := Lib.hid (HB4.out.trans (hb5.mono HB4.out.size))
    have HF := Lib.hid (frm_inn ys HY'.out.byte hf)
    clear hy5 hb5 HB4 hf
    go_wp2_with fail
    refine (frame_ok HY5.out (Nat.le_refl _) (by omega)).mono ?_
    rintro e w6 ⟨g6, c6, rfl, ho6, hb6⟩
    rw [HF.out] at ho6
    have cv6 := (By.own ho6 HY'.out.byte).conv
    have HB6 := Lib.hid (HB5.out.trans (hb6.mono HB5.out.size))
    have cv6' := (HY'.out.below HB6.out).conv
    clear ho6 hb6 HB5 HY5
    rw [show m' - 4 + 4 = m' by omega] at cv6 ⊢
    generalize strOf ys = sy at *
    go_wp2
    go_ret
    exact ⟨rfl, HB6.out⟩
  · have hf' : isFrm ys = false := by simpa using hf
    clear hyl
    go_wp2_with fail
    refine (open_no (HY'.out.below HB4.out) HB4.out.size hf').mono ?_
    rintro e w5 ⟨rfl, hb5⟩
    have HB5 := Lib.hid (HB4.out.trans (hb5.mono HB4.out.size))
    clear hb5 HB4 hf hf'
    go_wp2_with fail
    refine (frame_ok (By.none_ 0 _) (Nat.zero_le _) (by omega)).mono ?_
    rintro e w6 ⟨g6, c6, rfl, ho6, hb6⟩
    have HB6 := Lib.hid (HB5.out.trans (hb6.mono HB5.out.size))
    clear ho6 hb6 HB5
    go_wp2
    go_ret
    exact ⟨rfl, HB6.out⟩

end Go.Proofs.Ytbdlcmpljhbebaa
