/-
  Layer 17: how many bytes a record has: the law's walk.
-/
import Derived.Test.YtejldeecblppjaaDoorRcH
set_option linter.unusedVariables false
set_option maxRecDepth 100000
namespace Go.Proofs.YtejldeecblppjaaDoor
namespace Rc
open Go.RowKit Bp Ck
theorem natN_zero (i r p c q : Int) : natN (five i r p c q) 0 = i.toNat := rfl
theorem kb_len (k : Nat) (i r p c q : Int) (h : Rok k (five i r p c q)) : (kb 3 k (fl k) (natN (five i r p c q))).length = (if k = 1 then 20 else if k = 2 then 4 + 2 * kz i.toNat else if k = 3 then 7 + 2 * kz i.toNat else 6) := by
  have hk := h.kind
  have : k = 1 ∨ k = 2 ∨ k = 3 ∨ k = 4 ∨ k = 5 := by omega
  unfold kb
  rw [List.length_append, bitsOf_length]
  rcases this with rfl | rfl | rfl | rfl | rfl
  · simp [fl, fbits, fld, bitsOf_length, fw]
  · simp [fl, fbits, fld, countBits_length, natN_zero]; omega
  · simp [fl, fbits, fld, bitsOf_length, countBits_length, fw, natN_zero]; omega
  · simp [fl, fbits, fld, bitsOf_length, fw]
  · simp [fl, fbits, fld, bitsOf_length, fw]
set_option maxHeartbeats 4000000 in
theorem recordLong_walk (k : Nat) (hk : k ≤ 255) (i r p c q : Int) (w : World) (hS : Shp w) :
    Calls Tryd.prog 8 #[.agg #[.int .u8 (k : Int), .int .i64 i, .int .i64 r, .int .i64 p, .int .i64 c, .int .i64 q]] w fun e w' => e = .returned (.bool true) ∧ Below w.heap.size w w' := by
  have hb1 := below_new w (.cells #[.int .u8 k, .int .i64 i, .int .i64 r, .int .i64 p, .int .i64 c, .int .i64 q] 23)
  have hr1 := heap_alloc_new w (.cells #[.int .u8 k, .int .i64 i, .int .i64 r, .int .i64 p, .int .i64 c, .int .i64 q] 23)
  have hs1 : (w.alloc (.cells #[.int .u8 k, .int .i64 i, .int .i64 r, .int .i64 p, .int .i64 c, .int .i64 q] 23)).heap.size = w.heap.size + 1 := by simp
  have HSW := Lib.hid (shown_any _ (hS.later hb1))
  have HSH := Lib.hid (hS.later hb1)
  have HB1 := Lib.hid hb1
  have HR1 := Lib.hid hr1
  have HS1 := Lib.hid hs1
  clear hS hb1 hr1 hs1
  go_enter Tryd.func8, Tryd.ntmps8
  go_wp2_with fail
  refine HSW.out.mono ?_
  rintro e w1 ⟨rfl, hb⟩
  have hsh := HSH.out.later hb
  have hrow := (hb.block w.heap.size (by rw [HS1.out]; omega)).trans HR1.out
  have HB2 := Lib.hid (HB1.out.trans (hb.mono HB1.out.size))
  have HRR := Lib.hid (right_any k i r p c q w1 hsh)
  have HSH2 := Lib.hid hsh
  have HROW := Lib.hid hrow
  have y0 := cell_of_row _ w.heap.size 0 _ _ _ hrow
  have y1 := cell_of_row _ w.heap.size 1 _ _ _ hrow
  have y2 := cell_of_row _ w.heap.size 2 _ _ _ hrow
  have y3 := cell_of_row _ w.heap.size 3 _ _ _ hrow
  have y4 := cell_of_row _ w.heap.size 4 _ _ _ hrow
  have y5 := cell_of_row _ w.heap.size 5 _ _ _ hrow
  clear hb hsh hrow HSW HSH HR1 HS1 HB1
  unfold RightTold at HRR
  by_cases hok : Rok k (five i r p c q)
  · rw [decide_eq_true hok] at HRR
    have HOK := Lib.hid hok
    have hkk := hok.kind
    have hi := hok.2 0 (by decide)
    have hi0 : 0 ≤ i ∧ i ≤ 1073741824 := hi.1
    obtain ⟨m, rfl⟩ := Int.eq_ofNat_of_zero_le hi0.1
    have HL := Lib.hid (kb_len k m r p c q hok)
    clear hok hi
    go_wp2_with fail
    refine HRR.out.mono ?_
    rintro e w2 ⟨rfl, hb⟩
    have hrow := (hb.block w.heap.size (lt_of_heap HROW.out)).trans HROW.out
    have HLA := Lib.hid (lay_ok k m r p c q w2 HOK.out (HSH2.out.later hb))
    have HB3 := Lib.hid (HB2.out.trans (hb.mono HB2.out.size))
    have HROW2 := Lib.hid hrow
    clear y0 y1 y2 y3 y4 y5
    have y0 := cell_of_row _ w.heap.size 0 _ _ _ hrow
    have y1 := cell_of_row _ w.heap.size 1 _ _ _ hrow
    have y2 := cell_of_row _ w.heap.size 2 _ _ _ hrow
    have y3 := cell_of_row _ w.heap.size 3 _ _ _ hrow
    have y4 := cell_of_row _ w.heap.size 4 _ _ _ hrow
    have y5 := cell_of_row _ w.heap.size 5 _ _ _ hrow
    clear hb hrow HRR HROW HB2 HSH2
    go_wp2_with fail
    refine HLA.out.mono ?_
    rintro e w3 ⟨A, cp, rfl, -, hb⟩
    have hrow := (hb.block w.heap.size (lt_of_heap HROW2.out)).trans HROW2.out
    have HB4 := Lib.hid (HB3.out.trans (hb.mono HB3.out.size))
    clear y0 y1 y2 y3 y4 y5
    have y0 := cell_of_row _ w.heap.size 0 _ _ _ hrow
    have y1 := cell_of_row _ w.heap.size 1 _ _ _ hrow
    clear hb hrow HLA HROW2 HB3
    rw [pack_length, HL.out, Int.toNat_natCast]
    have hcs : k = 1 ∨ k = 2 ∨ k = 3 ∨ k = 4 ∨ k = 5 := by omega
    clear HOK HL hk hkk
    rcases hcs with rfl | rfl | rfl | hcs
    · rw [if_pos rfl]
      go_wp2
      go_ret
      exact ⟨rfl, HB4.out⟩
    · rw [if_neg (by decide), if_pos rfl]
      obtain ⟨L, hL⟩ : ∃ L, nb (4 + 2 * kz m) = L := ⟨_, rfl⟩
      rw [hL]
      have HLN : Hid ((L : Int) == (4 + 2 * (kz m : Int) + 7) / 8) := Lib.hid (by rw [beq_iff_eq, ← hL]; unfold nb; omega)
      have hk30 : kz m ≤ 40 := by
        rcases Nat.lt_or_ge 40 (kz m) with x | x
        · have h1 := kz_le m
          have h2 : (2 : Nat) ^ 41 ≤ 2 ^ kz m := Nat.pow_le_pow_right (by decide) x
          have e : (2 : Nat) ^ 41 = 2199023255552 := by decide
          omega
        · exact x
      clear hL
      go_wp2
      go_loopw [6, 7] (fun bv mv wr => ∃ j : Nat, j ≤ kz m ∧ 2 ^ j ≤ m + 1 ∧ bv = .int .i64 (4 + 2 * (j : Int)) ∧ mv = .int .i64 (((m + 1) / 2 ^ j : Nat) : Int) ∧ w3 = wr) (fun bv _ _ => 100 - (intOf bv).toNat)
      case atStart => exact ⟨0, by omega, by simp, rfl, by simp, rfl⟩
      case round =>
        obtain ⟨j, hj, hp, rfl, rfl, rfl⟩ := hrel
        have hle : (m + 1) / 2 ^ j ≤ m + 1 := Nat.div_le_self _ _
        have HN : Hid ((m + 1) / 2 ^ (j + 1) = (m + 1) / 2 ^ j / 2) := Lib.hid (by rw [Nat.pow_succ, Nat.div_div_eq_div_mul])
        by_cases h1 : 1 < (m + 1) / 2 ^ j
        · have hm := half_more (m + 1) j h1
          have hj1 : j + 1 ≤ kz m := by
            rcases Nat.lt_or_ge (kz m) (j + 1) with y | y
            · have h2 := kz_lt m
              have h3 : (2 : Nat) ^ (kz m + 1) ≤ 2 ^ (j + 1) := Nat.pow_le_pow_right (by decide) y
              omega
            · exact y
          have HM := Lib.hid hm
          clear hm hp
          generalize (m + 1) / 2 ^ j = y at *
          go_wp2
          go_roundw
          case rel => exact ⟨j + 1, hj1, HM.out, by go_num, by rw [HN.out]; go_num, trivial⟩
          case measure => simp [intOf]; omega
        · have hjk := half_end m j hp (by omega)
          subst hjk
          clear hp HN hle hj
          generalize (m + 1) / 2 ^ kz m = y at *
          go_wp2
          go_ret
          exact ⟨by first | rfl | (rw [HLN.out]; rfl), HB4.out⟩
    · rw [if_neg (by decide), if_neg (by decide), if_pos rfl]
      obtain ⟨L, hL⟩ : ∃ L, nb (7 + 2 * kz m) = L := ⟨_, rfl⟩
      rw [hL]
      have HLN : Hid ((L : Int) == (4 + 2 * (kz m : Int) + 3 + 7) / 8) := Lib.hid (by rw [beq_iff_eq, ← hL]; unfold nb; omega)
      have hk30 : kz m ≤ 40 := by
        rcases Nat.lt_or_ge 40 (kz m) with x | x
        · have h1 := kz_le m
          have h2 : (2 : Nat) ^ 41 ≤ 2 ^ kz m := Nat.pow_le_pow_right (by decide) x
          have e : (2 : Nat) ^ 41 = 2199023255552 := by decide
          omega
        · exact x
      clear hL
      go_wp2
      go_loopw [6, 7] (fun bv mv wr => ∃ j : Nat, j ≤ kz m ∧ 2 ^ j ≤ m + 1 ∧ bv = .int .i64 (4 + 2 * (j : Int)) ∧ mv = .int .i64 (((m + 1) / 2 ^ j : Nat) : Int) ∧ w3 = wr) (fun bv _ _ => 100 - (intOf bv).toNat)
      case atStart => exact ⟨0, by omega, by simp, rfl, by simp, rfl⟩
      case round =>
        obtain ⟨j, hj, hp, rfl, rfl, rfl⟩ := hrel
        have hle : (m + 1) / 2 ^ j ≤ m + 1 := Nat.div_le_self _ _
        have HN : Hid ((m + 1) / 2 ^ (j + 1) = (m + 1) / 2 ^ j / 2) := Lib.hid (by rw [Nat.pow_succ, Nat.div_div_eq_div_mul])
        by_cases h1 : 1 < (m + 1) / 2 ^ j
        · have hm := half_more (m + 1) j h1
          have hj1 : j + 1 ≤ kz m := by
            rcases Nat.lt_or_ge (kz m) (j + 1) with y | y
            · have h2 := kz_lt m
              have h3 : (2 : Nat) ^ (kz m + 1) ≤ 2 ^ (j + 1) := Nat.pow_le_pow_right (by decide) y
              omega
            · exact y
          have HM := Lib.hid hm
          clear hm hp
          generalize (m + 1) / 2 ^ j = y at *
          go_wp2
          go_roundw
          case rel => exact ⟨j + 1, hj1, HM.out, by go_num, by rw [HN.out]; go_num, trivial⟩
          case measure => simp [intOf]; omega
        · have hjk := half_end m j hp (by omega)
          subst hjk
          clear hp HN hle hj
          generalize (m + 1) / 2 ^ kz m = y at *
          go_wp2
          go_ret
          exact ⟨by first | rfl | (rw [HLN.out]; rfl), HB4.out⟩
    · rw [if_neg (by omega), if_neg (by omega), if_neg (by omega)]
      rcases hcs with rfl | rfl
      all_goals
        go_wp2
        go_ret
        exact ⟨rfl, HB4.out⟩
  · rw [decide_eq_false hok] at HRR
    clear hok
    go_wp2_with fail
    refine HRR.out.mono ?_
    rintro e w2 ⟨rfl, hb⟩
    have HB3 := Lib.hid (HB2.out.trans (hb.mono HB2.out.size))
    clear hb
    go_wp2
    go_ret
    exact ⟨rfl, HB3.out⟩
end Rc
end Go.Proofs.YtejldeecblppjaaDoor
