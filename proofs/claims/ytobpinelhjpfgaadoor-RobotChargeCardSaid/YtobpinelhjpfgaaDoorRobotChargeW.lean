/-
  RobotCharge: the walk.
-/
import Derived.Test.YtobpinelhjpfgaaDoorRbE
import Derived.Test.YtobpinelhjpfgaaDoorLnT
set_option linter.unusedVariables false
set_option maxRecDepth 100000
namespace Go.Proofs.YtobpinelhjpfgaaDoor
namespace Rc
open Go.RowKit Bp Ck Ln Rb
/-- The robot behind so many steps that it went. -/
def chZ (full i : Nat) : R := ⟨0, full, if i = 0 then 0 else 1 + ((i - 1) % 2 : Nat), (full : Int) - i, 0, 0, 0, false, i, i, []⟩
/-- It was told to go, and begins. -/
def chB (full i : Nat) (c : Int) : R := { chZ full i with heard := i + 1, k := 1, c := c }
def chC (full i : Nat) (c : Int) : R := { chZ full i with heard := i + 1, k := 1, c := c, chg := (full : Int) - i - 1, on := true }
def chD (full i : Nat) (c : Int) : R := { chZ full i with heard := i + 1, cell := c, chg := if c = 0 then (full : Int) else (full : Int) - i - 1, pk := play false (i + 1) [] }
theorem ch_new (full i : Nat) (c : Int) : nx (chZ full i) 1 c 0 = chB full i c := rfl
theorem ch_leave (full i : Nat) (c : Int) (hi : i < full) : stD (chB full i c) = (chC full i c, false) := by
  rw [st_go rfl rfl, lv_yes (show 0 < (full : Int) - i by omega)]
  rfl
theorem ch_stay (full i : Nat) (c : Int) (hi : ¬ i < full) : stD (chB full i c) = (chB full i c, false) := by
  rw [st_go rfl rfl, lv_no (show ¬ 0 < (full : Int) - i by omega)]
theorem ch_arrive (full i : Nat) (c : Int) (hi : i + 2 < 18446744073709551616) : stD (chC full i c) = (chD full i c, true) := by
  rw [st_arr rfl rfl]
  unfold chD
  rw [← tl_new hi]
  rfl
theorem ch_next (full i : Nat) (bs : List Nat) (hb : heB i (play false (i + 1) []) bs = true) (hi : i + 2 < 18446744073709551616) :
    ({ chD full i (1 + ((i % 2 : Nat) : Int)) with told := if heB i (play false (i + 1) []) bs then i + 1 else i, pk := if heB i (play false (i + 1) []) bs then [] else play false (i + 1) [] } : R) = chZ full (i + 1) := by
  rw [hb]
  simp only [chZ, chD]
  rw [if_neg (Nat.succ_ne_zero _), Nat.add_sub_cancel, if_neg (show ¬ (1 + ((i % 2 : Nat) : Int)) = 0 by omega), if_pos trivial, if_pos trivial]
  congr 1
  omega
theorem ch_zero (full : Nat) : z0 0 full = chZ full 0 := by simp [z0, chZ]
set_option maxHeartbeats 600000 in
theorem robotCharge_walk (ch : Nat) (hch : ch ≤ 255) (many : Nat) (hmany : many ≤ 255) (w : World) (hS : Shp w) :
    Calls Tryd.prog 5 #[.int .u8 (ch : Int), .int .u8 (many : Int)] w fun e w' => e = .returned (.bool true) ∧ Below w.heap.size w w' := by
  have HS := Lib.hid (shown18_any w hS)
  have HSH := Lib.hid hS
  obtain ⟨full, hf, hfm, hf1⟩ : ∃ full : Nat, (ch : Int).tmod 101 = (full : Int) ∧ (ch : Int) % 101 = (full : Int) ∧ full ≤ 100 := ⟨ch % 101, by rw [Int.tmod_eq_emod_of_nonneg (by omega)]; omega, by omega, by omega⟩
  clear hS
  go_enter Tryd.func5, Tryd.ntmps5
  go_wp2_with fail
  refine HS.out.mono ?_
  rintro e w1 ⟨rfl, hb1⟩
  have HB1 := Lib.hid hb1
  have HN := Lib.hid (rs_new w1 (HSH.out.later hb1) 0 full (by decide) (by omega))
  clear hb1 HS
  go_wp2_with fail
  refine HN.out.mono ?_
  rintro e w2 ⟨r, h, s, rfl, v, hg2⟩
  rw [ch_zero] at hg2
  have HG2 := Lib.hid hg2
  clear hg2 HN
  go_wp2_with fail
  go_loopw [36] (fun iv wr => ∃ i : Nat, iv = .int .i64 (i : Int) ∧ i ≤ many ∧ i ≤ full ∧ Hid (∃ v, Rs w1 wr r h s v (chZ full i))) (fun iv _ => many - (intOf iv).toNat)
  case atStart => exact ⟨0, rfl, Nat.zero_le _, Nat.zero_le _, Lib.hid ⟨_, HG2.out⟩⟩
  case round =>
    rename World => wr
    clear HG2
    obtain ⟨i, rfl, hi, hif, HI⟩ := hrel
    obtain ⟨vi, hgi⟩ := HI.out
    have HGI := Lib.hid hgi
    clear hgi HI
    by_cases hlt : i < many
    · have hltI : (i : Int) < (many : Int) := by omega
      obtain ⟨m, hm, hm0, hm1⟩ : ∃ m : Nat, (i : Int).tmod 2 = (m : Int) ∧ m = i % 2 ∧ m < 2 := ⟨i % 2, by rw [Int.tmod_eq_emod_of_nonneg (by omega)]; omega, rfl, Nat.mod_lt _ (by omega)⟩
      have HP : Hid (Calls Tryd.prog 13 #[.int .u64 ((i : Int) + 1), .agg #[.int .u8 1, .int .i64 (1 + (m : Int)), .int .i64 0]] wr fun e w' => ∃ A cp, e = .returned (.slice A (pkB (i + 1) 1 (1 + (m : Int)) 0).length cp) ∧ By w'.heap.size w' A (pkB (i + 1) 1 (1 + (m : Int)) 0).length cp (pkB (i + 1) 1 (1 + (m : Int)) 0) ∧ Below wr.heap.size wr w') := Lib.hid (packet_law (i + 1) 1 (by omega) (1 + (m : Int)) 0 wr)
      have HM0 := Lib.hid hm0
      have HAO : Hid (Aok 1 (1 + (m : Int)) 0) := Lib.hid ⟨by omega, by omega, by omega, fun _ => rfl⟩
      clear hm0
      go_wp2_with fail
      refine HP.out.mono ?_
      rintro e w3 ⟨A3, c3, rfl, hy3, hb3⟩
      have hnw := (HGI.out.later hb3).new (k := 1) (c := 1 + (m : Int)) (p := 0) (show i + 2 < 18446744073709551616 by omega) (show i + 2 < 18446744073709551616 by omega) rfl HAO.out hy3
      rw [ch_new] at hnw
      have HNW := Lib.hid hnw
      clear hy3 hb3 HGI hnw HP
      go_wp2_with fail
      refine HNW.out.mono ?_
      rintro e w4 ⟨A4, c4, rfl, -, v4, hg4, -⟩
      by_cases hlf : i < full
      · have hs4 := hg4.step (show (full : Int) - i ≤ 9223372036854775807 by omega)
        rw [ch_leave full i _ hlf] at hs4
        have HS4 := Lib.hid hs4
        clear hg4 hs4 HNW
        go_wp2_with fail
        refine HS4.out.mono ?_
        rintro e w5 ⟨rfl, v5, hg5, -⟩
        have hs5 := hg5.step (show (full : Int) - i - 1 ≤ 9223372036854775807 by omega)
        rw [ch_arrive full i _ (by omega)] at hs5
        have HS5 := Lib.hid hs5
        clear hg5 hs5 HS4
        go_wp2_with fail
        refine HS5.out.mono ?_
        rintro e w6 ⟨rfl, v6, hg6, -⟩
        have HC : Hid (Calls Tryd.prog 28 #[.pointer (some ⟨r, 0, none⟩)] w6 fun e w' => e = .returned (.int .i64 ((full : Int) - i - 1)) ∧ w6 = w') := Lib.hid (by
          have q := charge_any hg6.at_
          unfold chD at q
          rw [if_neg (show ¬ (1 + (m : Int)) = 0 by omega)] at q
          exact q)
        have HG6 := Lib.hid hg6
        have hlfI : (i : Int) < (full : Int) := by omega
        clear hg6 HS5
        go_wp2_with fail
        refine HC.out.mono ?_
        rintro e w7 ⟨rfl, rfl⟩
        have HOK : Hid (Ok false (i + 1) []) := Lib.hid (ok_told (by omega) (by simp) (by simp))
        have hpk := HG6.out.packet
        rw [show R.pk (chD full i (1 + (m : Int))) = play false (i + 1) [] from rfl, decide_eq_true (play_ne HOK.out)] at hpk
        have HPK := Lib.hid hpk
        have HNX := Lib.hid (ch_next full i (play true (i + 1) []) (he_play (by omega)) (by omega))
        have HEP := Lib.hid (he_play (told := i) (by omega))
        have hmx : max (0 : Int) ((full : Int) - i - 1) = (full : Int) - i - 1 := by omega
        clear hpk HC
        generalize hpf : play false (i + 1) [] = pf at *
        go_wp2_with fail
        refine HPK.out.mono ?_
        rintro e w8 ⟨A8, c8, rfl, hy8, hb8⟩
        have HTK : Hid (Calls Tryd.prog 15 #[.slice A8 pf.length c8] w8 (Ln.TakeTold w8 (play false (i + 1) []))) := Lib.hid (by rw [hpf]; exact Ln.rtake_any hy8 (Nat.le_refl _))
        have HG8 := Lib.hid (HG6.out.later hb8)
        clear hy8 hb8 HPK HG6
        go_wp2_with fail
        refine HTK.out.mono ?_
        intro e w9 hx9
        obtain ⟨A9, c9, rfl, hy9, hb9⟩ := take_play HOK.out hx9
        have hal := box3_below w9 (.bool false) (.int .u64 ((i : Int) + 1)) (.slice A9 0 c9)
        have hal0 := box3 w9 (.bool false) (.int .u64 ((i : Int) + 1)) (.slice A9 0 c9)
        obtain ⟨d0, d1, d2⟩ := pkt_cells hal0
        have HG9 := Lib.hid ((HG8.out.later hb9).later hal)
        have HLH : Hid (Calls Tryd.prog 16 #[.agg #[.bool true, .int .u64 ((i : Int) + 1), .slice none 0 0]] (w9.alloc (.cells #[.bool false, .int .u64 ((i : Int) + 1), .slice A9 0 c9] 48)) fun e w' => ∃ A c, e = .returned (.tuple #[.slice A (play true (i + 1) []).length c, .int .i64 0]) ∧ By w'.heap.size w' A (play true (i + 1) []).length c (play true (i + 1) []) ∧ Below (w9.alloc (.cells #[.bool false, .int .u64 ((i : Int) + 1), .slice A9 0 c9] 48)).heap.size (w9.alloc (.cells #[.bool false, .int .u64 ((i : Int) + 1), .slice A9 0 c9] 48)) w') := Lib.hid (rlay_heard (n := i + 1) (by omega))
        clear hx9 hy9 hb9 hal hal0 HTK HG8
        go_wp2_with fail
        generalize w9.alloc (.cells #[.bool false, .int .u64 ((i : Int) + 1), .slice A9 0 c9] 48) = w10 at *
        refine HLH.out.mono ?_
        rintro e w11 ⟨A11, c11, rfl, hy11, hb11⟩
        have hhe := (HG9.out.later hb11).heard hy11
        rw [show R.told (chD full i (1 + (m : Int))) = i from rfl, show R.pk (chD full i (1 + (m : Int))) = pf from hpf, HEP.out] at hhe
        have HHE := Lib.hid hhe
        clear hy11 hb11 hhe HG9 HLH d0 d1 d2
        go_wp2_with fail
        refine HHE.out.mono ?_
        rintro e w12 ⟨rfl, v12, hg12, -⟩
        have hg13 : Rs w1 w12 r h s v12 (chZ full (i + 1)) := by
          have q := HNX.out
          rw [HEP.out] at q
          rw [← q, ← HM0.out]
          exact hg12
        have HG13 := Lib.hid hg13
        clear hg12 hg13 HHE
        go_wp2_with fail
        go_roundw
        case rel => exact ⟨i + 1, by go_num, by omega, by omega, Lib.hid ⟨v12, HG13.out⟩⟩
        case measure => simp [intOf]; omega
      · have hlfI : ¬ (i : Int) < (full : Int) := by omega
        have hs4 := hg4.step (show (full : Int) - i ≤ 9223372036854775807 by omega)
        rw [ch_stay full i _ hlf] at hs4
        have HS4 := Lib.hid hs4
        clear hg4 hs4 HNW
        go_wp2_with fail
        refine HS4.out.mono ?_
        rintro e w5 ⟨rfl, v5, hg5, -⟩
        have hs5 := hg5.step (show (full : Int) - i ≤ 9223372036854775807 by omega)
        rw [ch_stay full i _ hlf] at hs5
        have HS5 := Lib.hid hs5
        clear hg5 hs5 HS4
        go_wp2_with fail
        refine HS5.out.mono ?_
        rintro e w6 ⟨rfl, v6, hg6, -⟩
        obtain rfl : i = full := by omega
        have HC : Hid (Calls Tryd.prog 28 #[.pointer (some ⟨r, 0, none⟩)] w6 fun e w' => e = .returned (.int .i64 ((i : Int) - i)) ∧ w6 = w') := Lib.hid (charge_any hg6.at_)
        have HD : Hid (Calls Tryd.prog 29 #[.pointer (some ⟨r, 0, none⟩)] w6 fun e w' => e = .returned (.int .u64 (i : Int)) ∧ Below w6.heap.size w6 w') := Lib.hid (done_any hg6.at_)
        have HG6 := Lib.hid hg6
        rw [show (i : Int) - i = 0 by omega] at HC
        have hmx : max (0 : Int) ((i : Int) - i - 1) = 0 := by omega
        clear hg6 HS5
        go_wp2_with fail
        refine HC.out.mono ?_
        rintro e w7 ⟨rfl, rfl⟩
        go_wp2_with fail
        refine HD.out.mono ?_
        rintro e w7 ⟨rfl, hb7⟩
        have HG7 := Lib.hid (HG6.out.later hb7)
        have HCE : Hid (Calls Tryd.prog 26 #[.pointer (some ⟨r, 0, none⟩)] w7 fun e w' => ∃ A c, e = .returned (.slice A 1 c) ∧ Bk.Lt w'.heap.size w' A 1 c (cls (chB i i (1 + (m : Int)))) ∧ Below w7.heap.size w7 w' ∧ ∀ a, A = some a → w7.heap.size ≤ a.block) := Lib.hid (cells_any HG7.out.at_)
        clear hb7 HG6 HD HC
        go_wp2_with fail
        refine HCE.out.mono ?_
        rintro e w8 ⟨A8, c8, rfl, hl8, hb8, -⟩
        have HB8 := Lib.hid (HG7.out.later hb8).below
        have hc8 := Bk.Gt.size hl8
        have hc81 := hc8.1
        have hc82 := hc8.2
        clear hl8 hb8 HG7 HCE hc8
        go_wp2_with fail
        go_ret
        exact ⟨rfl, HB1.out.trans (HB8.out.mono HB1.out.size)⟩
    · obtain rfl : i = many := by omega
      by_cases hlf : i < full
      · have hlfI : (i : Int) < (full : Int) := by omega
        have HP : Hid (Calls Tryd.prog 13 #[.int .u64 ((i : Int) + 1), .agg #[.int .u8 1, .int .i64 0, .int .i64 0]] wr fun e w' => ∃ A cp, e = .returned (.slice A (pkB (i + 1) 1 0 0).length cp) ∧ By w'.heap.size w' A (pkB (i + 1) 1 0 0).length cp (pkB (i + 1) 1 0 0) ∧ Below wr.heap.size wr w') := Lib.hid (packet_law (i + 1) 1 (by omega) 0 0 wr)
        go_wp2_with fail
        refine HP.out.mono ?_
        rintro e w3 ⟨A3, c3, rfl, hy3, hb3⟩
        have hnw := (HGI.out.later hb3).new (k := 1) (c := 0) (p := 0) (show i + 2 < 18446744073709551616 by omega) (show i + 2 < 18446744073709551616 by omega) rfl (by decide) hy3
        rw [ch_new] at hnw
        have HNW := Lib.hid hnw
        clear hy3 hb3 HGI hnw HP
        go_wp2_with fail
        refine HNW.out.mono ?_
        rintro e w4 ⟨A4, c4, rfl, -, v4, hg4, -⟩
        have hs4 := hg4.step (show (full : Int) - i ≤ 9223372036854775807 by omega)
        rw [ch_leave full i _ hlf] at hs4
        have HS4 := Lib.hid hs4
        clear hg4 hs4 HNW
        go_wp2_with fail
        refine HS4.out.mono ?_
        rintro e w5 ⟨rfl, v5, hg5, -⟩
        have HC : Hid (Calls Tryd.prog 28 #[.pointer (some ⟨r, 0, none⟩)] w5 fun e w' => e = .returned (.int .i64 ((full : Int) - i - 1)) ∧ w5 = w') := Lib.hid (charge_any hg5.at_)
        have hs5 := hg5.step (show (full : Int) - i - 1 ≤ 9223372036854775807 by omega)
        rw [ch_arrive full i _ (by omega)] at hs5
        have HS5 := Lib.hid hs5
        clear hg5 hs5 HS4
        have t1 : ((full : Int) - i - 1 != (full : Int) - (i + 1)) = false := by rw [bne_eq_false_iff_eq]; omega
        go_wp2_with fail
        refine HC.out.mono ?_
        rintro e w6 ⟨rfl, rfl⟩
        go_wp2_with fail
        refine HS5.out.mono ?_
        rintro e w6 ⟨rfl, v6, hg6, -⟩
        have HC2 : Hid (Calls Tryd.prog 28 #[.pointer (some ⟨r, 0, none⟩)] w6 fun e w' => e = .returned (.int .i64 (full : Int)) ∧ w6 = w') := Lib.hid (charge_any hg6.at_)
        have HB6 := Lib.hid hg6.below
        clear hg6 HS5 HC
        go_wp2_with fail
        refine HC2.out.mono ?_
        rintro e w7 ⟨rfl, rfl⟩
        go_wp2_with fail
        go_ret
        exact ⟨rfl, HB1.out.trans (HB6.out.mono HB1.out.size)⟩
      · have hlfI : ¬ (i : Int) < (full : Int) := by omega
        have HB6 := Lib.hid HGI.out.below
        clear HGI
        go_wp2_with fail
        go_ret
        exact ⟨rfl, HB1.out.trans (HB6.out.mono HB1.out.size)⟩
end Rc
end Go.Proofs.YtobpinelhjpfgaaDoor
