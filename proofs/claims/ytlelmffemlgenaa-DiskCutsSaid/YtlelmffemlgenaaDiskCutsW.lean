/-
  DiskCuts: the walk.
-/
import Derived.Test.YtlelmffemlgenaaDkG
set_option linter.unusedVariables false
set_option maxRecDepth 100000
namespace Go.Proofs.Ytlelmffemlgenaa
namespace Dk
open Go.RowKit Bk Nw

/-- Behind so many appends of one byte each, where the power was to go off behind n. -/
def Cx (w0 : World) (g n i : Nat) (w : World) : Prop := w0.heap.size ≤ g ∧ ∃ v d, DAt w g g v d ∧ d.s.size = min i n ∧ d.dead = decide (n < i) ∧ d.cut = true ∧ (d.dead = false → d.after = (n : Int) - (i : Int)) ∧ Below w0.heap.size w0 w
section
variable {w0 w : World} {g n i : Nat}
theorem Cx.below (h : Cx w0 g n i w) : Below w0.heap.size w0 w := by obtain ⟨_, _, _, _, _, _, _, _, h⟩ := h; exact h
theorem Cx.later {w' : World} (h : Cx w0 g n i w) (hb : Below w.heap.size w w') : Cx w0 g n i w' := by
  obtain ⟨h1, v, d, h2, h3, h4, h5, h6, h7⟩ := h
  exact ⟨h1, v, d, h2.later hb, h3, h4, h5, h6, h7.trans (hb.mono h7.size)⟩
theorem Cx.step (h : Cx w0 g n i w) (hn : n ≤ 255) (A : Option Addr) (c : Nat) (t : ByteArray) (hy : Yb w.heap.size w A 1 c t) :
    Calls Try.prog 13 #[.pointer (some ⟨g, 0, none⟩), .slice A 1 c] w fun e w' => e = .returned (.int .i64 (if i < n then 0 else 5)) ∧ Cx w0 g n (i + 1) w' := by
  obtain ⟨h1, v, d, h2, h3, h4, h5, h6, h7⟩ := h
  have ht : t.size = 1 := hy.size
  refine (Append_any h2 A 1 c t hy).mono ?_
  rintro e w' ⟨v', rfl, hn', ht'⟩
  have hb := h2.belowT ht' h7 (Nat.le_refl _) h1
  by_cases hd : n < i
  · have hdd : d.dead = true := by rw [h4]; exact decide_eq_true hd
    have e0 : op d = d := by unfold op; rw [if_neg (by rw [hdd]; simp)]
    have e1 : apE d t = 5 := by unfold apE; rw [if_pos (by rw [e0]; exact hdd)]
    have e2 : apD d t = d := by unfold apD; rw [e1, if_neg (by omega), e0]
    rw [e2] at hn'
    rw [e1, if_neg (by omega)]
    exact ⟨rfl, h1, v', d, hn', by omega, by rw [hdd]; exact (decide_eq_true (by omega)).symm, h5, fun q => (by rw [hdd] at q; cases q), hb⟩
  · have hdd : d.dead = false := by rw [h4]; exact decide_eq_false hd
    have ha := h6 hdd
    have e0 : op d = ⟨d.s, d.safe, decide (d.after = 0), true, d.after - 1⟩ := by unfold op; rw [if_pos ⟨hdd, h5⟩]
    by_cases hi : i < n
    · have hz : decide (d.after = 0) = false := decide_eq_false (by omega)
      have e1 : apE d t = 0 := by unfold apE; rw [e0, if_neg (by rw [hz]; simp), if_neg (by omega)]
      have e2 : apD d t = ⟨d.s ++ t, d.safe, false, true, d.after - 1⟩ := by unfold apD; rw [if_pos e1, e0, hz]
      rw [e2] at hn'
      rw [e1, if_pos hi]
      refine ⟨rfl, h1, v', _, hn', ?_, (decide_eq_false (by omega)).symm, rfl, fun _ => ?_, hb⟩
      · show (d.s ++ t).size = _
        rw [ByteArray.size_append]
        omega
      · show d.after - 1 = _
        omega
    · have hz : decide (d.after = 0) = true := decide_eq_true (by omega)
      have e1 : apE d t = 5 := by unfold apE; rw [e0, if_pos hz]
      have e2 : apD d t = ⟨d.s, d.safe, true, true, d.after - 1⟩ := by unfold apD; rw [e1, if_neg (by omega), e0, hz]
      rw [e2] at hn'
      rw [e1, if_neg hi]
      refine ⟨rfl, h1, v', _, hn', ?_, (decide_eq_true (by omega)).symm, rfl, fun q => (by cases q), hb⟩
      show d.s.size = _
      omega
end
theorem one_yb (w : World) (j : Nat) (hj : j ≤ 255) : Yb (w.alloc (.cells #[.int .u8 ((j : Int))] 5)).heap.size (w.alloc (.cells #[.int .u8 ((j : Int))] 5)) (some ⟨w.heap.size, 0, none⟩) 1 1 (strOfNums [(j : Int)]) :=
  lit_yb w [(j : Int)] 1 (0, 0) (by
    intro z hz
    obtain rfl : z = (j : Int) := by simpa using hz
    omega) rfl (by omega)
set_option maxHeartbeats 4000000 in
theorem diskCuts_walk (n : Nat) (hn : n ≤ 255) (m : Nat) (hm : m ≤ 255) (w : World) : Calls Try.prog 5 #[.int .u8 (n : Int), .int .u8 (m : Int)] w fun e w' => e = .returned (.bool true) ∧ Below w.heap.size w w' := by
  go_enter Try.func5, Try.ntmps5
  go_wp2_with fail
  refine (shown15_any w).mono ?_
  rintro e w1 ⟨rfl, hb1⟩
  have HB1 := Lib.hid hb1
  clear hb1
  go_wp2_with fail
  refine (new_any w1).mono ?_
  rintro e w2 ⟨rfl, hn2, hb2⟩
  have HN2 := Lib.hid hn2
  have HB2 := Lib.hid (HB1.out.trans (hb2.mono HB1.out.size))
  have HG : Hid (w.heap.size ≤ w1.heap.size) := Lib.hid HB1.out.size
  clear hn2 hb2 HB1
  generalize w1.heap.size = g at *
  go_wp2_with fail
  refine (Cut_any HN2.out (n : Int) (by unfold IW; omega)).mono ?_
  rintro e w3 ⟨v3, rfl, hn3, ht3⟩
  have HS : Hid (Cx w g n 0 w3) := Lib.hid ⟨HG.out, v3, _, hn3, (by show ByteArray.empty.size = _; simp), (by show false = _; exact (decide_eq_false (by omega)).symm), (by show decide (0 ≤ (n : Int)) = true; exact decide_eq_true (by omega)), fun _ => (by show (n : Int) = _; omega), HN2.out.belowT ht3 HB2.out (Nat.le_refl _) HG.out⟩
  clear hn3 ht3 HN2 HB2
  go_wp2_with fail
  go_loopw [7, 22] (fun dv iv wr => ∃ j : Nat, iv = .int .i64 (j : Int) ∧ dv = .int .i64 ((min j n : Nat) : Int) ∧ j ≤ m ∧ Hid (Cx w g n j wr)) (fun _ iv _ => m - (intOf iv).toNat)
  case atStart => exact ⟨0, rfl, by simp, Nat.zero_le _, HS⟩
  case round =>
    rename World => wr
    clear HS
    obtain ⟨j, rfl, rfl, hj, HI⟩ := hrel
    by_cases hlj : j < m
    · have hjI : (j : Int) < (m : Int) := by omega
      have hb := (Below.refl wr.heap.size wr).alloc (Nat.le_refl _) (.cells #[.int .u8 ((j : Int))] 5)
      have HC := Lib.hid ((HI.out.later hb).step hn _ 1 _ (one_yb wr j (by omega)))
      clear hb
      by_cases hjn : j < n
      · have hjnI : (j : Int) < (n : Int) := by omega
        have HM : Hid (min j n = j ∧ min (j + 1) n = j + 1) := Lib.hid ⟨by omega, by omega⟩
        rw [if_pos hjn] at HC
        rw [HM.out.1]
        go_wp2_with fail
        refine HC.out.mono ?_
        rintro e w4 ⟨rfl, hs4⟩
        have HS4 := Lib.hid hs4
        clear hs4 HC
        go_wp2_with fail
        go_roundw
        case rel => exact ⟨j + 1, by go_num, by rw [HM.out.2]; go_num, by omega, HS4⟩
        case measure => simp [intOf]; omega
      · have hjnI : ¬ (j : Int) < (n : Int) := by omega
        have HM : Hid (min j n = n ∧ min (j + 1) n = n) := Lib.hid ⟨by omega, by omega⟩
        have d0 : decide ((j : Int) < (n : Int)) = false := decide_eq_false hjnI
        rw [if_neg hjn] at HC
        rw [HM.out.1]
        go_wp2_with fail
        refine HC.out.mono ?_
        rintro e w4 ⟨rfl, hs4⟩
        have HS4 := Lib.hid hs4
        clear hs4 HC
        go_wp2_with fail
        go_roundw
        case rel => exact ⟨j + 1, by go_num, by rw [HM.out.2], by omega, HS4⟩
        case measure => simp [intOf]; omega
    · obtain rfl : j = m := by omega
      obtain ⟨h1, v, d, h2, h3, h4, h5, h6, h7⟩ := HI.out
      have HD := Lib.hid (Dead_any h2)
      rw [h4] at HD
      have HK := Lib.hid (Crash_any h2 1073741824)
      have hle := h2.le
      have hfew := h2.few
      obtain ⟨mn, hmn⟩ : ∃ mn : Nat, mn = min j n := ⟨_, rfl⟩
      rw [← hmn] at h3 ⊢
      have hcr : crN d 1073741824 = mn := by
        unfold crN
        rw [show Int.toNat 1073741824 = 1073741824 from rfl]
        omega
      have HCD : Hid (rdS (crD d 1073741824) = d.s.extract 0 mn ∧ (d.s.extract 0 mn).size = mn ∧ pwE (crD d 1073741824) = 0 ∧ (crD d 1073741824).safe = mn ∧ (crD d 1073741824).dead = false) := Lib.hid ⟨by unfold rdS crD; rw [if_neg (by simp), hcr], by rw [size_ext _ _ (by omega)], rfl, hcr, rfl⟩
      have H2 := Lib.hid h2
      have H7 := Lib.hid h7
      have H1 := Lib.hid h1
      generalize crD d 1073741824 = dc at *
      clear h1 h2 h3 h4 h5 h6 h7 hmn hcr hle hfew HI
      by_cases hnm : n < j
      · have dt : decide (n < j) = true := decide_eq_true hnm
        have hI : (n : Int) < (j : Int) := by omega
        rw [dt] at HD
        go_wp2_with fail
        refine HD.out.mono ?_
        rintro e w4 ⟨rfl, rfl⟩
        go_wp2_with fail
        refine HK.out.mono ?_
        rintro e w5 ⟨v5, rfl, hn5, ht5⟩
        have HB5 := Lib.hid (H2.out.belowT ht5 H7.out (Nat.le_refl _) H1.out)
        have HR := Lib.hid (Read_any hn5)
        unfold ReadTold at HR
        rw [HCD.out.1, HCD.out.2.1, HCD.out.2.2.1] at HR
        have HN5 := Lib.hid hn5
        clear hn5 ht5 HK HD H2 H7
        go_wp2_with fail
        refine HR.out.mono ?_
        rintro e w6 ⟨A6, c6, rfl, hy6, hb6⟩
        have HB6 := Lib.hid (HB5.out.trans (hb6.mono HB5.out.size))
        have HD6 := Lib.hid (Dead_any (HN5.out.later hb6))
        have HS6 := Lib.hid (Safe_any (HN5.out.later hb6))
        rw [HCD.out.2.2.2.2] at HD6
        rw [HCD.out.2.2.2.1] at HS6
        clear hy6 hb6 HR HN5
        go_wp2_with fail
        refine HD6.out.mono ?_
        rintro e w7 ⟨rfl, rfl⟩
        go_wp2_with fail
        refine HS6.out.mono ?_
        rintro e w7 ⟨rfl, rfl⟩
        go_wp2_with fail
        go_ret
        exact ⟨rfl, HB6.out⟩
      · have dt : decide (n < j) = false := decide_eq_false hnm
        have hI : ¬ (n : Int) < (j : Int) := by omega
        have dI : decide ((n : Int) < (j : Int)) = false := decide_eq_false hI
        rw [dt] at HD
        go_wp2_with fail
        refine HD.out.mono ?_
        rintro e w4 ⟨rfl, rfl⟩
        go_wp2_with fail
        refine HK.out.mono ?_
        rintro e w5 ⟨v5, rfl, hn5, ht5⟩
        have HB5 := Lib.hid (H2.out.belowT ht5 H7.out (Nat.le_refl _) H1.out)
        have HR := Lib.hid (Read_any hn5)
        unfold ReadTold at HR
        rw [HCD.out.1, HCD.out.2.1, HCD.out.2.2.1] at HR
        have HN5 := Lib.hid hn5
        clear hn5 ht5 HK HD H2 H7
        go_wp2_with fail
        refine HR.out.mono ?_
        rintro e w6 ⟨A6, c6, rfl, hy6, hb6⟩
        have HB6 := Lib.hid (HB5.out.trans (hb6.mono HB5.out.size))
        have HD6 := Lib.hid (Dead_any (HN5.out.later hb6))
        have HS6 := Lib.hid (Safe_any (HN5.out.later hb6))
        rw [HCD.out.2.2.2.2] at HD6
        rw [HCD.out.2.2.2.1] at HS6
        clear hy6 hb6 HR HN5
        go_wp2_with fail
        refine HD6.out.mono ?_
        rintro e w7 ⟨rfl, rfl⟩
        go_wp2_with fail
        refine HS6.out.mono ?_
        rintro e w7 ⟨rfl, rfl⟩
        go_wp2_with fail
        go_ret
        exact ⟨rfl, HB6.out⟩
end Dk
end Go.Proofs.Ytlelmffemlgenaa
