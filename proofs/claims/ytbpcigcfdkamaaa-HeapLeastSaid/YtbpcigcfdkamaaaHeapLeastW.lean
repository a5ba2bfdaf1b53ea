/-
  HeapLeast: its walk.
-/
import Derived.Test.YtbpcigcfdkamaaaHpK
set_option linter.unusedVariables false
namespace Go.Proofs.Ytbpcigcfdkamaaa
open Go.RowKit E Go.Maps


set_option maxRecDepth 100000 in
set_option maxHeartbeats 16000000 in
theorem heapLeast_walk (A : Option Addr) (len cap : Nat) (f : Nat → Bool × Int × Int) (w : World) (h : Acts w A len cap f) (hwf : ∀ j, j < len → wfI (f j).2.1 ∧ wfI (f j).2.2) :
    Calls Try.prog 8 #[.slice A len cap] w fun e w' => e = .returned (.bool true) ∧ Below w.heap.size w w' := by
  have HA := Lib.hid h
  have HWF := Lib.hid hwf
  have hmax := h.max
  have hle := h.le
  unfold maxLen at hmax
  clear h hwf
  have hmk := run_makeMap_int
  go_enter Try.func8, Try.ntmps8
  go_wp2_with fail
  refine (shown_any _).mono ?_
  rintro e w1 ⟨rfl, hb1⟩
  have HB1 := Lib.hid hb1
  clear hb1
  go_wp2_with fail
  refine (new_any _).mono ?_
  rintro e w2 ⟨rfl, h2, hb2, hlt2⟩
  have HB2 := Lib.hid (HB1.out.trans (hb2.mono HB1.out.size))
  obtain ⟨b, hb⟩ : ∃ b, b = w1.heap.size := ⟨_, rfl⟩
  rw [← hb] at h2 hlt2 ⊢
  have HLO : Hid (w.heap.size ≤ b) := Lib.hid (by rw [hb]; exact HB1.out.size)
  have HST := Lib.hid (Hk.start h2 HLO.out HB2.out)
  clear h2 hb2 hb
  go_wp2_with (go_at_call 12; refine (few4_any A len cap f _ ?_).mono ?_; (exact ⟨HA.out.le, HA.out.max, HA.out.nil, fun hn => by
    obtain ⟨g, off, e, hg, hc⟩ := HA.out.cell hn
    have hbb : Below w.heap.size w (w2.alloc (.map #[] 0)) := HB2.out.alloc HB2.out.size _
    exact ⟨g, off, e, Nat.lt_of_lt_of_le hg hbb.size, fun j hj => ⟨(hbb.cell (p := ⟨g, off + j * 3, none⟩) hg).trans (hc j hj).1, (hbb.cell (p := ⟨g, off + j * 3 + 1, none⟩) hg).trans (hc j hj).2.1, (hbb.cell (p := ⟨g, off + j * 3 + 2, none⟩) hg).trans (hc j hj).2.2⟩⟩⟩); rintro e w4 ⟨rfl, m, hm1, hm2, rfl⟩)
  clear hmk
  obtain ⟨mb, hmb⟩ : ∃ mb, mb = w2.heap.size := ⟨_, rfl⟩
  rw [← hmb] at HST ⊢
  clear hmb HB1 HB2 hlt2 HLO
  go_loopw [6, 23] (fun nv iv wr => ∃ (k : Nat) (M : List E) (n N : Nat), k ≤ m ∧ iv = .int .i64 (k : Int) ∧ nv = .int .i64 (M.length : Int) ∧ n ≤ k ∧ N ≤ k ∧ M.length ≤ k ∧ (∀ e, e ∈ M → wfI e.k) ∧ Hk w b mb M n N (fun x => cntI M x) wr) (fun _ iv _ => m - (intOf iv).toNat)
  case atStart => exact ⟨0, [], 0, 0, Nat.zero_le _, rfl, rfl, Nat.le_refl _, Nat.le_refl _, Nat.le_refl _, fun e h => absurd h (by simp), HST.out⟩
  case round =>
    rename World => wr
    obtain ⟨k, M, n, N, hk, rfl, rfl, hn, hN, hM, hMW, hB⟩ := hrel
    by_cases hlt : k < m
    · obtain ⟨g, off, rfl, hg, hc⟩ := HA.out.cell (by omega)
      obtain ⟨c0, c1, c2⟩ := hc k (by omega)
      have d0 := (hB.below.cell (p := ⟨g, off + k * 3, none⟩) hg).trans c0
      have d1 := (hB.below.cell (p := ⟨g, off + k * 3 + 1, none⟩) hg).trans c1
      have d2 := (hB.below.cell (p := ⟨g, off + k * 3 + 2, none⟩) hg).trans c2
      have HBM := Lib.hid (fun o => hB.more o)
      have HXW := Lib.hid (HWF.out k (by omega)).1
      have HMW := Lib.hid hMW
      have hn3 : n < 1000000 := by omega
      have hsz := hB.below.size
      have hgw : g < wr.heap.size := by omega
      clear hc c0 c1 c2 hB HST hMW
      generalize (f k).1 = out at *
      generalize (f k).2.1 = x at *
      generalize (f k).2.2 = y at *
      cases out
      · go_wp2_with fail
        refine (push_k x y (HBM.out _) hn3).mono ?_
        rintro e w5 ⟨rfl, hb5, hk5⟩
        obtain ⟨q0, q1, q2⟩ : w5.cell? ⟨wr.heap.size, 0, none⟩ = some (.bool false) ∧ w5.cell? ⟨wr.heap.size, 1, none⟩ = some (.int .i64 x) ∧ w5.cell? ⟨wr.heap.size, 2, none⟩ = some (.int .i64 y) := by
          have q := hk5 _ _ (heap_alloc_new wr _) (notHp_cells (by decide) (by decide) (by decide))
          exact ⟨by rw [cell_of_row w5 wr.heap.size 0 _ _ _ q]; rfl, by rw [cell_of_row w5 wr.heap.size 1 _ _ _ q]; rfl, by rw [cell_of_row w5 wr.heap.size 2 _ _ _ q]; rfl⟩
        have HB5 := Lib.hid hb5
        obtain ⟨D, hD, hDg⟩ := hb5.map
        have HDG := Lib.hid hDg
        have hcr := cntI_range M x
        clear hb5 hk5 HBM d0 d1 d2 hDg
        go_wp2_with (first
          | (at_lookup; refine wpList_lookup_own_int _ rfl _ _ 45 rfl 3 3 .i64 law_int Try.underlying45 Try.underlying3 (zeroInt _) mb N D rfl hD _ (.int .i64 x) rfl (keyOf_int_mk Try.underlying3 HXW.out) ?_; intro c hc hwc; (obtain rfl : cntI M x = c := by have := (HDG.out x).symm.trans hc; simpa using this); clear hc hwc)
          | (at_mapUpdate; refine wpList_mapUpdate_own _ rfl _ _ _ 45 rfl 3 3 law_int Try.underlying45 _ mb N D rfl hD (by unfold maxLen; omega) _ _ (.int .i64 x) rfl rfl (keyOf_int_mk Try.underlying3 HXW.out) _ [] (plainElem_int Try.underlying3 (WalkArith.wf_i64 (by omega))) ?_; intro w6 hm6 hg6; have HK := Lib.hid (HB5.out.upd (g' := fun z => cntI (ins ⟨x, y, n⟩ M) z) hD HDG.out hm6 hg6 (fun z => cntI_ins ⟨x, y, n⟩ M z)); clear hm6 hg6)
          | fail)
        have HMW2 : Hid (∀ e, e ∈ ins ⟨x, y, n⟩ M → wfI e.k) := Lib.hid (fun e he => by
          rcases (mem_ins _ _ _).1 he with rfl | he
          · exact HXW.out
          · exact HMW.out e he)
        have HNW : Hid (n + 1 ≤ k + 1 ∧ N + 1 ≤ k + 1 ∧ (ins ⟨x, y, n⟩ M).length ≤ k + 1 ∧ (ins ⟨x, y, n⟩ M).length = M.length + 1) := Lib.hid ⟨by omega, by omega, by rw [ins_length]; omega, ins_length _ _⟩
        clear HB5 HDG hD q0 q1 q2 hn hN hcr HMW HXW
        generalize ins ⟨x, y, n⟩ M = MM at HK HNW HMW2
        generalize n + 1 = nn at HK HNW
        generalize N + 1 = NN at HK HNW
        have e6 : (M.length : Int) + 1 = (MM.length : Int) := by have := HNW.out.2.2.2; omega
        have HNW := Lib.hid (show nn ≤ k + 1 ∧ NN ≤ k + 1 ∧ MM.length ≤ k + 1 from ⟨HNW.out.1, HNW.out.2.1, HNW.out.2.2.1⟩)
        rw [e6]
        clear e6
        have HSO := Lib.hid HK.out.sorted
        obtain ⟨z, hz⟩ : ∃ z, z = MM.length := ⟨_, rfl⟩
        try rw [← hz]
        have hzm : z ≤ m := by have := HNW.out.2.2; omega
        have HZK := Lib.hid HNW.out.2.2
        refine (peek_k HK.out).mono ?_
        rintro e w7 ⟨rfl, hk7⟩
        have HK7 := Lib.hid hk7
        clear hk7 HK
        cases MM with
        | nil =>
          obtain rfl : z = 0 := hz
          have HK8 := Lib.hid (HK7.out.more (.cells #[.int .i64 0, .int .i64 0] 32))
          obtain ⟨D, hD, hDg⟩ := HK8.out.map
          have HDG := Lib.hid hDg
          clear hDg HK7 HSO
          simp only [Item?]
          go_wp2_with fail
          refine (len_k HK8.out).mono ?_
          rintro e w9 ⟨rfl, rfl⟩
          go_wp2_with (first
            | (at_range; refine wpList_range_own _ rfl _ 45 rfl 3 3 law_int Try.underlying45 _ mb NN D rfl hD ?_; intro w0 hrg0 hg0 hs0)
            | fail)
          go_frame
          generalize w7.alloc (.cells #[.int .i64 0, .int .i64 0] 32) = W9 at *
          have HB0 := Lib.hid (Below.grown (Below.refl W9.heap.size W9) hg0 (Nat.le_refl _) (fun j hj => by cases hj))
          have HRG := Lib.hid hrg0
          clear hrg0 hg0 hs0 hD
          go_loopw [13] (fun _ wx => ∃ (left : Lit → Bool) (cnt : Nat), wx.ranges Try.prog 3 (plainElem Try.prog 3) mb W9.heap.size NN D left cnt ∧ Below W9.heap.size W9 wx) (fun _ wx => wx.rangeLeft mb W9.heap.size)
          case atStart => exact ⟨_, _, HRG.out, HB0.out⟩
          case round =>
            rename World => wx
            obtain ⟨left, cnt, hrg, hbx⟩ := hrel
            have HBX := Lib.hid hbx
            clear hbx HB0 HRG
            go_wp2_with (first
              | (at_next; refine wpList_next_ranges_ii _ rfl _ rfl 3 3 .i64 .i64 law_int Try.underlying3 Try.underlying3 mb W9.heap.size NN _ _ _ rfl hrg ?_ ?_)
              | go_in)
            · intro _ hl0
              have HKE := Lib.hid (HK8.out.later HBX.out)
              clear hrg hl0
              go_wp2
              go_roundw
              case rel => exact ⟨k + 1, [], nn, NN, by omega, by go_num, rfl, HNW.out.1, HNW.out.2.1, HNW.out.2.2, HMW2.out, HKE.out⟩
              case measure => simp [intOf]; omega
            · intro kx c wy cnt1 hwx hwc hlx hat hrg1 hlt1 hg1 hs1 hen
              have hc0 : c = 0 := by
                have := (hat (.lit (.int .i64 0))).symm.trans (HDG.out kx)
                simpa [cntI_nil] using this
              subst hc0
              have HBY := Lib.hid (Below.grown HBX.out hg1 HBX.out.size (fun j hj => by cases hj; exact Nat.le_refl _))
              clear hat hg1 hs1 hlx hwx hwc
              go_wp2
              go_roundw
              case rel => exact ⟨_, cnt1, hrg1, HBY.out⟩
              case measure => rw [hrg1.left_eq, hrg.left_eq]; exact hlt1
        | cons m1 M1 =>
          have hz0 : 0 < z := by rw [hz]; simp
          have hd0 : decide (0 < z) = true := by simpa using hz0
          have hd1 : decide (0 < (z : Int)) = true := by simp; omega
          have HK8 := Lib.hid (HK7.out.more (.cells #[.int .i64 m1.k, .int .i64 m1.v] 32))
          obtain ⟨D, hD, hDg⟩ := HK8.out.map
          have HDG := Lib.hid hDg
          obtain ⟨c1, hc1⟩ : ∃ c1, c1 = cntI (m1 :: M1) m1.k := ⟨_, rfl⟩
          have hc1p : decide (c1 < 1) = false := by have := cntI_head m1 M1; simp; omega
          have HC1 := Lib.hid hc1
          have hll := len_k HK8.out
          rw [← hz] at hll
          have HLL := Lib.hid hll
          have x0 : (w7.alloc (.cells #[.int .i64 m1.k, .int .i64 m1.v] 32)).cell? ⟨w7.heap.size, 0, none⟩ = some (.int .i64 m1.k) := by simp [World.cell?_alloc_new]
          have hx0 : w7.heap.size < (w7.alloc (.cells #[.int .i64 m1.k, .int .i64 m1.v] 32)).heap.size := by simp
          have HX0 := Lib.hid x0
          have HLE := Lib.hid (fun (x : Int) (h : 0 < cntI (m1 :: M1) x) => cntI_least HSO.out h)
          have hkw : (Lit.int .i64 m1.k).wf = true := HMW2.out m1 (by simp)
          clear hDg HK7 HSO hll hc1 x0
          simp only [Item?]
          go_wp2_with fail
          refine HLL.out.mono ?_
          rintro e w9 ⟨rfl, rfl⟩
          go_wp2_with (first
            | (at_lookup; refine lookup_int_g _ rfl _ _ 45 rfl 3 3 .i64 law_int Try.underlying45 Try.underlying3 (zeroInt _) mb NN D rfl hD _ (.int .i64 m1.k) rfl (keyOf_int_mk Try.underlying3 hkw) ?_; intro c hc hwc; (obtain rfl : c1 = c := by have := (HDG.out m1.k).symm.trans hc; rw [HC1.out]; simpa using this); clear hc hwc)
            | (at_range; refine wpList_range_own _ rfl _ 45 rfl 3 3 law_int Try.underlying45 _ mb NN D rfl hD ?_; intro w0 hrg0 hg0 hs0)
            | fail)
          go_frame
          generalize w7.alloc (.cells #[.int .i64 m1.k, .int .i64 m1.v] 32) = W9 at *
          have HB0 := Lib.hid (Below.grown (Below.refl W9.heap.size W9) hg0 (Nat.le_refl _) (fun j hj => by cases hj))
          have HRG := Lib.hid hrg0
          clear hrg0 hg0 hs0 hD HLL
          go_loopw [13] (fun _ wx => ∃ (left : Lit → Bool) (cnt : Nat), wx.ranges Try.prog 3 (plainElem Try.prog 3) mb W9.heap.size NN D left cnt ∧ Below W9.heap.size W9 wx) (fun _ wx => wx.rangeLeft mb W9.heap.size)
          case atStart => exact ⟨_, _, HRG.out, HB0.out⟩
          case round =>
            rename World => wx
            obtain ⟨left, cnt, hrg, hbx⟩ := hrel
            have HBX := Lib.hid hbx
            clear hbx HB0 HRG
            go_wp2_with (first
              | (at_next; refine wpList_next_ranges_ii _ rfl _ rfl 3 3 .i64 .i64 law_int Try.underlying3 Try.underlying3 mb W9.heap.size NN _ _ _ rfl hrg ?_ ?_)
              | go_in)
            · intro _ hl0
              have HKE := Lib.hid (HK8.out.later HBX.out)
              clear hrg hl0
              go_wp2
              go_roundw
              case rel => exact ⟨k + 1, m1 :: M1, nn, NN, by omega, by go_num, by simp, HNW.out.1, HNW.out.2.1, HNW.out.2.2, HMW2.out, HKE.out⟩
              case measure => simp [intOf]; omega
            · intro kx c wy cnt1 hwx hwc hlx hat hrg1 hlt1 hg1 hs1 hen
              have hcc : c = cntI (m1 :: M1) kx := by
                have := (hat (.lit (.int .i64 0))).symm.trans (HDG.out kx)
                simpa using this
              have hr := (cntI_range (m1 :: M1) kx).1
              have hn0 : decide (c < 0) = false := by simp; omega
              have HBY := Lib.hid (Below.grown HBX.out hg1 HBX.out.size (fun j hj => by cases hj; exact Nat.le_refl _))
              have y0 : wy.cell? ⟨w7.heap.size, 0, none⟩ = some (.int .i64 m1.k) := (HBY.out.cell (p := ⟨w7.heap.size, 0, none⟩) hx0).trans HX0.out
              by_cases hp : 0 < c
              · have hp1 : decide (0 < c) = true := by simpa using hp
                have hge : decide (kx < m1.k) = false := by have := HLE.out kx (by rw [← hcc]; exact hp); simp; omega
                clear hat hg1 hs1 hlx hwx hwc hcc hr
                go_wp2
                go_roundw
                case rel => exact ⟨_, cnt1, hrg1, HBY.out⟩
                case measure => rw [hrg1.left_eq, hrg.left_eq]; exact hlt1
              · have hp1 : decide (0 < c) = false := by simpa using hp
                clear hat hg1 hs1 hlx hwx hwc hcc hr
                go_wp2
                go_roundw
                case rel => exact ⟨_, cnt1, hrg1, HBY.out⟩
                case measure => rw [hrg1.left_eq, hrg.left_eq]; exact hlt1
      · by_cases hM0 : M = []
        · go_wp2_with fail
          refine (pop_k (HBM.out _)).mono ?_
          rintro e w5 ⟨rfl, hb5, hk5⟩
          rw [show M.tail = M by rw [hM0]; rfl] at hb5
          rw [show Item? M = .tuple #[.agg #[.int .i64 0, .int .i64 0], .bool false] by rw [hM0]; rfl]
          have HK := Lib.hid (hb5.more (.cells #[.int .i64 0, .int .i64 0] 32))
          have HMW2 := Lib.hid HMW.out
          have HNW : Hid (n ≤ k + 1 ∧ N ≤ k + 1 ∧ M.length ≤ k + 1) := Lib.hid ⟨by omega, by omega, by omega⟩
          clear hb5 hk5 HBM d0 d1 d2 hM0 hn hN hM HMW HXW
          generalize M = MM at *
          generalize n = nn at *
          generalize N = NN at *
          go_wp2_with fail
          have HSO := Lib.hid HK.out.sorted
          obtain ⟨z, hz⟩ : ∃ z, z = MM.length := ⟨_, rfl⟩
          try rw [← hz]
          have hzm : z ≤ m := by have := HNW.out.2.2; omega
          have HZK := Lib.hid HNW.out.2.2
          refine (peek_k HK.out).mono ?_
          rintro e w7 ⟨rfl, hk7⟩
          have HK7 := Lib.hid hk7
          clear hk7 HK
          cases MM with
          | nil =>
            obtain rfl : z = 0 := hz
            have HK8 := Lib.hid (HK7.out.more (.cells #[.int .i64 0, .int .i64 0] 32))
            obtain ⟨D, hD, hDg⟩ := HK8.out.map
            have HDG := Lib.hid hDg
            clear hDg HK7 HSO
            simp only [Item?]
            go_wp2_with fail
            refine (len_k HK8.out).mono ?_
            rintro e w9 ⟨rfl, rfl⟩
            go_wp2_with (first
              | (at_range; refine wpList_range_own _ rfl _ 45 rfl 3 3 law_int Try.underlying45 _ mb NN D rfl hD ?_; intro w0 hrg0 hg0 hs0)
              | fail)
            go_frame
            generalize w7.alloc (.cells #[.int .i64 0, .int .i64 0] 32) = W9 at *
            have HB0 := Lib.hid (Below.grown (Below.refl W9.heap.size W9) hg0 (Nat.le_refl _) (fun j hj => by cases hj))
            have HRG := Lib.hid hrg0
            clear hrg0 hg0 hs0 hD
            go_loopw [13] (fun _ wx => ∃ (left : Lit → Bool) (cnt : Nat), wx.ranges Try.prog 3 (plainElem Try.prog 3) mb W9.heap.size NN D left cnt ∧ Below W9.heap.size W9 wx) (fun _ wx => wx.rangeLeft mb W9.heap.size)
            case atStart => exact ⟨_, _, HRG.out, HB0.out⟩
            case round =>
              rename World => wx
              obtain ⟨left, cnt, hrg, hbx⟩ := hrel
              have HBX := Lib.hid hbx
              clear hbx HB0 HRG
              go_wp2_with (first
                | (at_next; refine wpList_next_ranges_ii _ rfl _ rfl 3 3 .i64 .i64 law_int Try.underlying3 Try.underlying3 mb W9.heap.size NN _ _ _ rfl hrg ?_ ?_)
                | go_in)
              · intro _ hl0
                have HKE := Lib.hid (HK8.out.later HBX.out)
                clear hrg hl0
                go_wp2
                go_roundw
                case rel => exact ⟨k + 1, [], nn, NN, by omega, by go_num, rfl, HNW.out.1, HNW.out.2.1, HNW.out.2.2, HMW2.out, HKE.out⟩
                case measure => simp [intOf]; omega
              · intro kx c wy cnt1 hwx hwc hlx hat hrg1 hlt1 hg1 hs1 hen
                have hc0 : c = 0 := by
                  have := (hat (.lit (.int .i64 0))).symm.trans (HDG.out kx)
                  simpa [cntI_nil] using this
                subst hc0
                have HBY := Lib.hid (Below.grown HBX.out hg1 HBX.out.size (fun j hj => by cases hj; exact Nat.le_refl _))
                clear hat hg1 hs1 hlx hwx hwc
                go_wp2
                go_roundw
                case rel => exact ⟨_, cnt1, hrg1, HBY.out⟩
                case measure => rw [hrg1.left_eq, hrg.left_eq]; exact hlt1
          | cons m1 M1 =>
            have hz0 : 0 < z := by rw [hz]; simp
            have hd0 : decide (0 < z) = true := by simpa using hz0
            have hd1 : decide (0 < (z : Int)) = true := by simp; omega
            have HK8 := Lib.hid (HK7.out.more (.cells #[.int .i64 m1.k, .int .i64 m1.v] 32))
            obtain ⟨D, hD, hDg⟩ := HK8.out.map
            have HDG := Lib.hid hDg
            obtain ⟨c1, hc1⟩ : ∃ c1, c1 = cntI (m1 :: M1) m1.k := ⟨_, rfl⟩
            have hc1p : decide (c1 < 1) = false := by have := cntI_head m1 M1; simp; omega
            have HC1 := Lib.hid hc1
            have hll := len_k HK8.out
            rw [← hz] at hll
            have HLL := Lib.hid hll
            have x0 : (w7.alloc (.cells #[.int .i64 m1.k, .int .i64 m1.v] 32)).cell? ⟨w7.heap.size, 0, none⟩ = some (.int .i64 m1.k) := by simp [World.cell?_alloc_new]
            have hx0 : w7.heap.size < (w7.alloc (.cells #[.int .i64 m1.k, .int .i64 m1.v] 32)).heap.size := by simp
            have HX0 := Lib.hid x0
            have HLE := Lib.hid (fun (x : Int) (h : 0 < cntI (m1 :: M1) x) => cntI_least HSO.out h)
            have hkw : (Lit.int .i64 m1.k).wf = true := HMW2.out m1 (by simp)
            clear hDg HK7 HSO hll hc1 x0
            simp only [Item?]
            go_wp2_with fail
            refine HLL.out.mono ?_
            rintro e w9 ⟨rfl, rfl⟩
            go_wp2_with (first
              | (at_lookup; refine lookup_int_g _ rfl _ _ 45 rfl 3 3 .i64 law_int Try.underlying45 Try.underlying3 (zeroInt _) mb NN D rfl hD _ (.int .i64 m1.k) rfl (keyOf_int_mk Try.underlying3 hkw) ?_; intro c hc hwc; (obtain rfl : c1 = c := by have := (HDG.out m1.k).symm.trans hc; rw [HC1.out]; simpa using this); clear hc hwc)
              | (at_range; refine wpList_range_own _ rfl _ 45 rfl 3 3 law_int Try.underlying45 _ mb NN D rfl hD ?_; intro w0 hrg0 hg0 hs0)
              | fail)
            go_frame
            generalize w7.alloc (.cells #[.int .i64 m1.k, .int .i64 m1.v] 32) = W9 at *
            have HB0 := Lib.hid (Below.grown (Below.refl W9.heap.size W9) hg0 (Nat.le_refl _) (fun j hj => by cases hj))
            have HRG := Lib.hid hrg0
            clear hrg0 hg0 hs0 hD HLL
            go_loopw [13] (fun _ wx => ∃ (left : Lit → Bool) (cnt : Nat), wx.ranges Try.prog 3 (plainElem Try.prog 3) mb W9.heap.size NN D left cnt ∧ Below W9.heap.size W9 wx) (fun _ wx => wx.rangeLeft mb W9.heap.size)
            case atStart => exact ⟨_, _, HRG.out, HB0.out⟩
            case round =>
              rename World => wx
              obtain ⟨left, cnt, hrg, hbx⟩ := hrel
              have HBX := Lib.hid hbx
              clear hbx HB0 HRG
              go_wp2_with (first
                | (at_next; refine wpList_next_ranges_ii _ rfl _ rfl 3 3 .i64 .i64 law_int Try.underlying3 Try.underlying3 mb W9.heap.size NN _ _ _ rfl hrg ?_ ?_)
                | go_in)
              · intro _ hl0
                have HKE := Lib.hid (HK8.out.later HBX.out)
                clear hrg hl0
                go_wp2
                go_roundw
                case rel => exact ⟨k + 1, m1 :: M1, nn, NN, by omega, by go_num, by simp, HNW.out.1, HNW.out.2.1, HNW.out.2.2, HMW2.out, HKE.out⟩
                case measure => simp [intOf]; omega
              · intro kx c wy cnt1 hwx hwc hlx hat hrg1 hlt1 hg1 hs1 hen
                have hcc : c = cntI (m1 :: M1) kx := by
                  have := (hat (.lit (.int .i64 0))).symm.trans (HDG.out kx)
                  simpa using this
                have hr := (cntI_range (m1 :: M1) kx).1
                have hn0 : decide (c < 0) = false := by simp; omega
                have HBY := Lib.hid (Below.grown HBX.out hg1 HBX.out.size (fun j hj => by cases hj; exact Nat.le_refl _))
                have y0 : wy.cell? ⟨w7.heap.size, 0, none⟩ = some (.int .i64 m1.k) := (HBY.out.cell (p := ⟨w7.heap.size, 0, none⟩) hx0).trans HX0.out
                by_cases hp : 0 < c
                · have hp1 : decide (0 < c) = true := by simpa using hp
                  have hge : decide (kx < m1.k) = false := by have := HLE.out kx (by rw [← hcc]; exact hp); simp; omega
                  clear hat hg1 hs1 hlx hwx hwc hcc hr
                  go_wp2
                  go_roundw
                  case rel => exact ⟨_, cnt1, hrg1, HBY.out⟩
                  case measure => rw [hrg1.left_eq, hrg.left_eq]; exact hlt1
                · have hp1 : decide (0 < c) = false := by simpa using hp
                  clear hat hg1 hs1 hlx hwx hwc hcc hr
                  go_wp2
                  go_roundw
                  case rel => exact ⟨_, cnt1, hrg1, HBY.out⟩
                  case measure => rw [hrg1.left_eq, hrg.left_eq]; exact hlt1
        · obtain ⟨m0, M0, rfl⟩ : ∃ m0 M0, M = m0 :: M0 := by
            cases M with
            | nil => exact absurd rfl hM0
            | cons a l => exact ⟨a, l, rfl⟩
          go_wp2_with fail
          refine (pop_k (HBM.out _)).mono ?_
          rintro e w5 ⟨rfl, hb5, hk5⟩
          rw [List.tail_cons] at hb5
          have HB5 := Lib.hid (hb5.more (.cells #[.int .i64 m0.k, .int .i64 m0.v] 32))
          obtain ⟨D, hD, hDg⟩ := HB5.out.map
          have HDG := Lib.hid hDg
          have hkw : (Lit.int .i64 m0.k).wf = true := HMW.out m0 (by simp)
          obtain ⟨c1, hc1⟩ : ∃ c1, c1 = cntI (m0 :: M0) m0.k := ⟨_, rfl⟩
          have hca := cntI_head m0 M0
          have hcb := (cntI_range (m0 :: M0) m0.k).2
          have hcd : 1 ≤ c1 ∧ c1 ≤ 300 := by rw [hc1]; omega
          have hcd1 := hcd.1
          have hcd2 := hcd.2
          have HC1 := Lib.hid hc1
          have HTL := Lib.hid (fun z => cntI_tail m0 M0 z)
          have HMW2 : Hid (∀ e, e ∈ M0 → wfI e.k) := Lib.hid (fun e he => HMW.out e (List.mem_cons_of_mem _ he))
          have hml : M0.length + 1 ≤ k := by simpa using hM
          have HNW : Hid (n ≤ k + 1 ∧ N + 1 ≤ k + 1 ∧ M0.length ≤ k + 1) := Lib.hid ⟨by omega, by omega, by omega⟩
          clear hb5 hk5 HBM d0 d1 d2 hM0 hDg hc1 hca hcb hcd hM HMW HXW
          simp only [Item?]
          go_wp2_with (first
            | (at_lookup; refine wpList_lookup_own_int _ rfl _ _ 45 rfl 3 3 .i64 law_int Try.underlying45 Try.underlying3 (zeroInt _) mb N D rfl hD _ (.int .i64 m0.k) rfl (keyOf_int_mk Try.underlying3 hkw) ?_; intro c hc hwc; (obtain rfl : c1 = c := by have := (HDG.out m0.k).symm.trans hc; rw [HC1.out]; simpa using this); clear hc hwc)
            | (at_mapUpdate; refine wpList_mapUpdate_own _ rfl _ _ _ 45 rfl 3 3 law_int Try.underlying45 _ mb N D rfl hD (by unfold maxLen; omega) _ _ (.int .i64 m0.k) rfl rfl (keyOf_int_mk Try.underlying3 hkw) _ [] (plainElem_int Try.underlying3 (WalkArith.wf_i64 (by omega))) ?_; intro w6 hm6 hg6; have HK := Lib.hid (HB5.out.upd (g' := fun z => cntI M0 z) hD HDG.out hm6 hg6 (fun z => by rw [HC1.out]; exact HTL.out z)); clear hm6 hg6)
            | fail)
          clear HB5 HDG hD hn hN HTL HC1 hcd1 hcd2
          generalize M0 = MM at *
          generalize n = nn at *
          generalize N + 1 = NN at *
          have HSO := Lib.hid HK.out.sorted
          obtain ⟨z, hz⟩ : ∃ z, z = MM.length := ⟨_, rfl⟩
          try rw [← hz]
          have hzm : z ≤ m := by have := HNW.out.2.2; omega
          have HZK := Lib.hid HNW.out.2.2
          refine (peek_k HK.out).mono ?_
          rintro e w7 ⟨rfl, hk7⟩
          have HK7 := Lib.hid hk7
          clear hk7 HK
          cases MM with
          | nil =>
            obtain rfl : z = 0 := hz
            have HK8 := Lib.hid (HK7.out.more (.cells #[.int .i64 0, .int .i64 0] 32))
            obtain ⟨D, hD, hDg⟩ := HK8.out.map
            have HDG := Lib.hid hDg
            clear hDg HK7 HSO
            simp only [Item?]
            go_wp2_with fail
            refine (len_k HK8.out).mono ?_
            rintro e w9 ⟨rfl, rfl⟩
            go_wp2_with (first
              | (at_range; refine wpList_range_own _ rfl _ 45 rfl 3 3 law_int Try.underlying45 _ mb NN D rfl hD ?_; intro w0 hrg0 hg0 hs0)
              | fail)
            go_frame
            generalize w7.alloc (.cells #[.int .i64 0, .int .i64 0] 32) = W9 at *
            have HB0 := Lib.hid (Below.grown (Below.refl W9.heap.size W9) hg0 (Nat.le_refl _) (fun j hj => by cases hj))
            have HRG := Lib.hid hrg0
            clear hrg0 hg0 hs0 hD
            go_loopw [13] (fun _ wx => ∃ (left : Lit → Bool) (cnt : Nat), wx.ranges Try.prog 3 (plainElem Try.prog 3) mb W9.heap.size NN D left cnt ∧ Below W9.heap.size W9 wx) (fun _ wx => wx.rangeLeft mb W9.heap.size)
            case atStart => exact ⟨_, _, HRG.out, HB0.out⟩
            case round =>
              rename World => wx
              obtain ⟨left, cnt, hrg, hbx⟩ := hrel
              have HBX := Lib.hid hbx
              clear hbx HB0 HRG
              go_wp2_with (first
                | (at_next; refine wpList_next_ranges_ii _ rfl _ rfl 3 3 .i64 .i64 law_int Try.underlying3 Try.underlying3 mb W9.heap.size NN _ _ _ rfl hrg ?_ ?_)
                | go_in)
              · intro _ hl0
                have HKE := Lib.hid (HK8.out.later HBX.out)
                clear hrg hl0
                go_wp2
                go_roundw
                case rel => exact ⟨k + 1, [], nn, NN, by omega, by go_num, rfl, HNW.out.1, HNW.out.2.1, HNW.out.2.2, HMW2.out, HKE.out⟩
                case measure => simp [intOf]; omega
              · intro kx c wy cnt1 hwx hwc hlx hat hrg1 hlt1 hg1 hs1 hen
                have hc0 : c = 0 := by
                  have := (hat (.lit (.int .i64 0))).symm.trans (HDG.out kx)
                  simpa [cntI_nil] using this
                subst hc0
                have HBY := Lib.hid (Below.grown HBX.out hg1 HBX.out.size (fun j hj => by cases hj; exact Nat.le_refl _))
                clear hat hg1 hs1 hlx hwx hwc
                go_wp2
                go_roundw
                case rel => exact ⟨_, cnt1, hrg1, HBY.out⟩
                case measure => rw [hrg1.left_eq, hrg.left_eq]; exact hlt1
          | cons m1 M1 =>
            have hz0 : 0 < z := by rw [hz]; simp
            have hd0 : decide (0 < z) = true := by simpa using hz0
            have hd1 : decide (0 < (z : Int)) = true := by simp; omega
            have HK8 := Lib.hid (HK7.out.more (.cells #[.int .i64 m1.k, .int .i64 m1.v] 32))
            obtain ⟨D, hD, hDg⟩ := HK8.out.map
            have HDG := Lib.hid hDg
            obtain ⟨c1, hc1⟩ : ∃ c1, c1 = cntI (m1 :: M1) m1.k := ⟨_, rfl⟩
            have hc1p : decide (c1 < 1) = false := by have := cntI_head m1 M1; simp; omega
            have HC1 := Lib.hid hc1
            have hll := len_k HK8.out
            rw [← hz] at hll
            have HLL := Lib.hid hll
            have x0 : (w7.alloc (.cells #[.int .i64 m1.k, .int .i64 m1.v] 32)).cell? ⟨w7.heap.size, 0, none⟩ = some (.int .i64 m1.k) := by simp [World.cell?_alloc_new]
            have hx0 : w7.heap.size < (w7.alloc (.cells #[.int .i64 m1.k, .int .i64 m1.v] 32)).heap.size := by simp
            have HX0 := Lib.hid x0
            have HLE := Lib.hid (fun (x : Int) (h : 0 < cntI (m1 :: M1) x) => cntI_least HSO.out h)
            have hkw : (Lit.int .i64 m1.k).wf = true := HMW2.out m1 (by simp)
            clear hDg HK7 HSO hll hc1 x0
            simp only [Item?]
            go_wp2_with fail
            refine HLL.out.mono ?_
            rintro e w9 ⟨rfl, rfl⟩
            go_wp2_with (first
              | (at_lookup; refine lookup_int_g _ rfl _ _ 45 rfl 3 3 .i64 law_int Try.underlying45 Try.underlying3 (zeroInt _) mb NN D rfl hD _ (.int .i64 m1.k) rfl (keyOf_int_mk Try.underlying3 hkw) ?_; intro c hc hwc; (obtain rfl : c1 = c := by have := (HDG.out m1.k).symm.trans hc; rw [HC1.out]; simpa using this); clear hc hwc)
              | (at_range; refine wpList_range_own _ rfl _ 45 rfl 3 3 law_int Try.underlying45 _ mb NN D rfl hD ?_; intro w0 hrg0 hg0 hs0)
              | fail)
            go_frame
            generalize w7.alloc (.cells #[.int .i64 m1.k, .int .i64 m1.v] 32) = W9 at *
            have HB0 := Lib.hid (Below.grown (Below.refl W9.heap.size W9) hg0 (Nat.le_refl _) (fun j hj => by cases hj))
            have HRG := Lib.hid hrg0
            clear hrg0 hg0 hs0 hD HLL
            go_loopw [13] (fun _ wx => ∃ (left : Lit → Bool) (cnt : Nat), wx.ranges Try.prog 3 (plainElem Try.prog 3) mb W9.heap.size NN D left cnt ∧ Below W9.heap.size W9 wx) (fun _ wx => wx.rangeLeft mb W9.heap.size)
            case atStart => exact ⟨_, _, HRG.out, HB0.out⟩
            case round =>
              rename World => wx
              obtain ⟨left, cnt, hrg, hbx⟩ := hrel
              have HBX := Lib.hid hbx
              clear hbx HB0 HRG
              go_wp2_with (first
                | (at_next; refine wpList_next_ranges_ii _ rfl _ rfl 3 3 .i64 .i64 law_int Try.underlying3 Try.underlying3 mb W9.heap.size NN _ _ _ rfl hrg ?_ ?_)
                | go_in)
              · intro _ hl0
                have HKE := Lib.hid (HK8.out.later HBX.out)
                clear hrg hl0
                go_wp2
                go_roundw
                case rel => exact ⟨k + 1, m1 :: M1, nn, NN, by omega, by go_num, by simp, HNW.out.1, HNW.out.2.1, HNW.out.2.2, HMW2.out, HKE.out⟩
                case measure => simp [intOf]; omega
              · intro kx c wy cnt1 hwx hwc hlx hat hrg1 hlt1 hg1 hs1 hen
                have hcc : c = cntI (m1 :: M1) kx := by
                  have := (hat (.lit (.int .i64 0))).symm.trans (HDG.out kx)
                  simpa using this
                have hr := (cntI_range (m1 :: M1) kx).1
                have hn0 : decide (c < 0) = false := by simp; omega
                have HBY := Lib.hid (Below.grown HBX.out hg1 HBX.out.size (fun j hj => by cases hj; exact Nat.le_refl _))
                have y0 : wy.cell? ⟨w7.heap.size, 0, none⟩ = some (.int .i64 m1.k) := (HBY.out.cell (p := ⟨w7.heap.size, 0, none⟩) hx0).trans HX0.out
                by_cases hp : 0 < c
                · have hp1 : decide (0 < c) = true := by simpa using hp
                  have hge : decide (kx < m1.k) = false := by have := HLE.out kx (by rw [← hcc]; exact hp); simp; omega
                  clear hat hg1 hs1 hlx hwx hwc hcc hr
                  go_wp2
                  go_roundw
                  case rel => exact ⟨_, cnt1, hrg1, HBY.out⟩
                  case measure => rw [hrg1.left_eq, hrg.left_eq]; exact hlt1
                · have hp1 : decide (0 < c) = false := by simpa using hp
                  clear hat hg1 hs1 hlx hwx hwc hcc hr
                  go_wp2
                  go_roundw
                  case rel => exact ⟨_, cnt1, hrg1, HBY.out⟩
                  case measure => rw [hrg1.left_eq, hrg.left_eq]; exact hlt1
    · obtain rfl : m = k := by omega
      have HBE := Lib.hid hB.below
      clear hB HST
      go_wp2
      go_ret
      exact ⟨rfl, HBE.out⟩

end Go.Proofs.Ytbpcigcfdkamaaa
