/-
  The statement CheckTells: its walk.
-/
import Derived.Test.YtbdlcmpljhbebaaChkP
import Derived.Test.YtbdlcmpljhbebaaChkSumsW
set_option linter.unusedVariables false
namespace Go.Proofs.Ytbdlcmpljhbebaa
open Go.RowKit Bp Ck

/-- Was a bit turned? -/
def anyB (bt k : Nat) : Bool := (List.range k).any fun j => bt.testBit j
theorem anyB_succ (bt k : Nat) : anyB bt (k + 1) = (anyB bt k || bt.testBit k) := by simp [anyB, List.range_succ]
theorem anyB_iff (bt k : Nat) : anyB bt k = true ↔ ∃ j, j < k ∧ bt.testBit j = true := by simp [anyB]
theorem bit_test (bt k : Nat) : ((((bt : Int) / 2 ^ k).tmod 2) == 1) = bt.testBit k := by
  rw [Nat.testBit_eq_decide_div_mod_eq]
  have e0 : (bt : Int) / 2 ^ k = ((bt / 2 ^ k : Nat) : Int) := by simp
  have e : ((bt : Int) / 2 ^ k).tmod 2 = ((bt / 2 ^ k % 2 : Nat) : Int) := by
    rw [e0, Int.tmod_eq_emod_of_nonneg (Int.natCast_nonneg _)]; omega
  rw [e]
  by_cases h : bt / 2 ^ k % 2 = 1
  · rw [h]; rfl
  · rw [decide_eq_false h, beq_eq_false_iff_ne]; omega

theorem xor_pw (x j : Nat) (hx : x ≤ 255) (hj : j ≤ 7) : bits BinOp.xor IntKind.u8 (x : Int) (128 / 2 ^ j) = ((x ^^^ pw j : Nat) : Int) := by
  have e : (128 : Int) / 2 ^ j = ((pw j : Nat) : Int) := by
    have : j = 0 ∨ j = 1 ∨ j = 2 ∨ j = 3 ∨ j = 4 ∨ j = 5 ∨ j = 6 ∨ j = 7 := by omega
    rcases this with rfl | rfl | rfl | rfl | rfl | rfl | rfl | rfl <;> rfl
  rw [e]
  exact u8_xor_nat x (pw j) (by omega) (by have := pw_le j; omega)

set_option maxHeartbeats 2000000 in
theorem checkTells_walk (ao : Option Addr) (len cap : Nat) (f : Nat → Nat) (a : Nat) (ha : a < 18446744073709551616) (bt : Nat) (hbt : bt ≤ 65535) (w : World)
    (hA : ArgIn (fun z : Nat => Value.int .u8 (z : Int)) w ao len cap f) (hf : ∀ i, i < len → f i ≤ 255) :
    Calls Try.prog 9 #[.slice ao len cap, .int .u64 (a : Int), .int .u16 (bt : Int)] w fun e w' => e = .returned (.bool true) ∧ Below w.heap.size w w' := by
  obtain ⟨m, hm, hm1, hm2, hy⟩ := first_by hA hf 1000
  replace hm : min (len : Int) 1000 = (m : Int) := hm
  have hle := hA.le
  have hmx := hA.max
  unfold maxLen at hmx
  have HY := Lib.hid hy
  generalize listOf f m = zs at *
  have s1 := fun wx => slice_h ao len cap m wx (by omega)
  clear hy hA hf
  go_enter Try.func9, Try.ntmps9
  go_wp2_with fail
  refine (shown2_any _).mono ?_
  rintro e w1 ⟨rfl, hb1⟩
  have HB1 := Lib.hid hb1
  clear hb1
  go_wp2_with fail
  refine (frame_ok (HY.out.below HB1.out) HB1.out.size hm1).mono ?_
  rintro e w2 ⟨g, c, rfl, ho2, hb2⟩
  have hzb := frm_byte zs HY.out.byte (by rw [HY.out.len]; omega)
  have hzf := isFrm_frm zs (by rw [HY.out.len]; omega)
  have hzl : (frm zs).length = m + 4 := by rw [frm_len, HY.out.len]
  have HO := Lib.hid (ownsRow_lower ho2 HB1.out.size)
  have HB2 := Lib.hid (HB1.out.trans (hb2.mono HB1.out.size))
  have HZ := Lib.hid hzf
  have HZB := Lib.hid hzb
  have HZL := Lib.hid hzl
  have HIF := Lib.hid (inn_frm zs)
  clear ho2 hb2 HB1 hzb hzf hzl hm s1
  generalize frm zs = ff at *
  have hcmp : (((m : Int) + 4) != ((m : Int) + 4)) = false := by simp
  obtain ⟨fi, hfi, hfl⟩ : ∃ fi : Nat, (a : Int) % (8 * ((m : Int) + 4)) = (fi : Int) ∧ fi < 8 * (m + 4) := ⟨a % (8 * (m + 4)), by simp, Nat.mod_lt _ (by omega)⟩
  go_wp2
  clear hfi hcmp
  go_loopw [12, 13] (fun tv kv wr => ∃ k : Nat, k ≤ 16 ∧ fi + k ≤ 8 * (m + 4) ∧ kv = .int .i64 (k : Int) ∧ tv = .bool (anyB bt k) ∧ wr.ownsRow w.heap.size 5 1 (.slice (some ⟨g, 0, none⟩) (m + 4) c) (m + 4) (bc (fl ff (oth fi bt k))) ∧ Below w.heap.size w wr) (fun _ kv _ => 16 - (intOf kv).toNat)
  case atStart => exact ⟨0, by omega, by omega, rfl, rfl, by rw [fl_start]; exact HO.out, HB2.out⟩
  case round =>
    obtain ⟨k, hk16, hkl, rfl, rfl, ho, hb⟩ := hrel
    have HOk := Lib.hid ho
    have HBk := Lib.hid hb
    have HAS := Lib.hid (anyB_succ bt k)
    have HOS := Lib.hid (oth_succ fi bt k)
    have HOL := Lib.hid (oth_len fi bt k)
    clear ho hb HO HB2
    by_cases hc : k < 16 ∧ fi + k < 8 * (m + 4)
    · obtain ⟨hc1, hc2⟩ := hc
      have ht := bit_test bt k
      cases hbk : bt.testBit k with
      | false =>
        rw [hbk] at ht HAS HOS
        have HF := Lib.hid (fl_false ff (oth fi bt k))
        clear hbk
        generalize anyB bt k = tn at *
        go_wp2
        go_roundw
        case rel => exact ⟨k + 1, by omega, by omega, by go_num, by rw [HAS.out, Bool.or_false], by rw [HOS.out, HF.out]; exact HOk.out, HBk.out⟩
        case measure => simp [intOf]; omega
      | true =>
        rw [hbk] at ht HAS HOS
        have HF := Lib.hid (fl_true ff (oth fi bt k) (by rw [HOL.out, HZL.out]; omega))
        rw [HOL.out] at HF
        clear hbk
        have hln : (fi + k) / 8 < m + 4 := by omega
        have cd : wr.cell? ⟨g, (fi + k) / 8, none⟩ = some (.int .u8 (((fl ff (oth fi bt k)).getD ((fi + k) / 8) 0 : Nat) : Int)) := by
          rw [HOk.out.cellAt _ (by omega)]
          simp [bc, List.getD, List.getElem?_eq_getElem (show (fi + k) / 8 < (fl ff (oth fi bt k)).length by rw [fl_len, HZL.out]; exact hln)]
        have fd : wr.frozen? ⟨g, (fi + k) / 8, none⟩ = false := HOk.out.frozenAt _
        have hby := getD_byte (fl ff (oth fi bt k)) ((fi + k) / 8) (fl_byte _ _ HZB.out)
        have q0 : (((fi : Int) + (k : Int)) / 8).toNat = (fi + k) / 8 := by omega
        have q1 : (0 : Int) ≤ ((fi : Int) + (k : Int)) / 8 := by omega
        have q2 : ((fi : Int) + (k : Int)) / 8 < (((m + 4 : Nat)) : Int) := by omega
        have q3 : (0 : Int) ≤ ((fi : Int) + (k : Int)) % 8 := by omega
        have q4 : ((fi : Int) + (k : Int)) % 8 ≤ 7 := by omega
        generalize (fl ff (oth fi bt k)).getD ((fi + k) / 8) 0 = x at *
        generalize anyB bt k = tn at *
        go_wp2
        go_region
        rw [xor_pw x ((fi + k) % 8) hby (by omega)]
        go_wp2
        go_roundw
        case rel =>
          refine ⟨k + 1, by omega, by omega, by go_num, by rw [HAS.out, Bool.or_true], ?_, ?_⟩
          · have h1 := (HOk.out.stored ((fi + k) / 8) (.int .u8 ((x ^^^ pw ((fi + k) % 8) : Nat) : Int))).1
            rw [bc_set] at h1
            rw [HOS.out, HF.out]
            exact h1
          · exact (HBk.out.setCell (p := ⟨g, (fi + k) / 8, none⟩) (HOk.out.lt g rfl).1 _).drew
        case measure => simp [intOf]; omega
    · have hend : k = 16 ∨ (k < 16 ∧ fi + k = 8 * (m + 4)) := by omega
      have HG := Lib.hid (By.own HOk.out (fl_byte _ _ HZB.out))
      clear hc
      cases han : anyB bt k with
      | true =>
        have hno := noFrm_oth ff fi bt k HZB.out HZ.out hk16 (by rw [HZL.out]; exact hkl) ((anyB_iff bt k).1 han)
        clear han HAS HOS HOL
        rcases hend with rfl | ⟨he1, he2⟩
        · go_wp2_with fail
          refine (open_no HG.out (Nat.le_refl _) hno).mono ?_
          rintro e w5 ⟨rfl, hb5⟩
          have HB5 := Lib.hid (HBk.out.trans (hb5.mono HBk.out.size))
          clear hb5
          go_wp2
          go_ret
          exact ⟨rfl, HB5.out⟩
        · have hx1 : ¬ ((fi : Int) + (k : Int) < 8 * ((m : Int) + 4)) := by omega
          go_wp2_with fail
          refine (open_no HG.out (Nat.le_refl _) hno).mono ?_
          rintro e w5 ⟨rfl, hb5⟩
          have HB5 := Lib.hid (HBk.out.trans (hb5.mono HBk.out.size))
          clear hb5
          go_wp2
          go_ret
          exact ⟨rfl, HB5.out⟩
      | false =>
        have hfe : fl ff (oth fi bt k) = ff := fl_none ff fi bt k (fun j hj => by
          cases h : bt.testBit j with
          | false => rfl
          | true => rw [(anyB_iff bt k).2 ⟨j, hj, h⟩] at han; cases han)
        rw [hfe] at HG
        clear han HAS HOS HOL hfe HOk
        rcases hend with rfl | ⟨he1, he2⟩
        · go_wp2_with fail
          refine (open_yes HG.out (Nat.le_refl _) HZ.out).mono ?_
          rintro e w5 ⟨A5, rfl, hy5, _, hb5⟩
          rw [HIF.out] at hy5
          have cv5 := hy5.conv
          have HB5 := Lib.hid (HBk.out.trans (hb5.mono HBk.out.size))
          have cv6 := (HY.out.below HB5.out).conv
          clear hb5 hy5
          rw [show m + 4 - 4 = m by omega] at cv5 ⊢
          generalize strOf zs = sz at *
          go_wp2
          go_ret
          exact ⟨rfl, HB5.out⟩
        · have hx1 : ¬ ((fi : Int) + (k : Int) < 8 * ((m : Int) + 4)) := by omega
          go_wp2_with fail
          refine (open_yes HG.out (Nat.le_refl _) HZ.out).mono ?_
          rintro e w5 ⟨A5, rfl, hy5, _, hb5⟩
          rw [HIF.out] at hy5
          have cv5 := hy5.conv
          have HB5 := Lib.hid (HBk.out.trans (hb5.mono HBk.out.size))
          have cv6 := (HY.out.below HB5.out).conv
          clear hb5 hy5
          rw [show m + 4 - 4 = m by omega] at cv5 ⊢
          generalize strOf zs = sz at *
          go_wp2
          go_ret
          exact ⟨rfl, HB5.out⟩

end Go.Proofs.Ytbdlcmpljhbebaa
