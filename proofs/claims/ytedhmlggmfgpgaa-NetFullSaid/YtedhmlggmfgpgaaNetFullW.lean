/-
  NetFull: the walk.
-/
import Derived.Test.YtedhmlggmfgpgaaNwG
import Derived.IntWalk
set_option linter.unusedVariables false
set_option maxRecDepth 100000
namespace Go.Proofs.Ytedhmlggmfgpgaa
namespace Nw
open Go.RowKit Bk

theorem lit_any (w : World) (z : Int) : Yb (w.alloc (.cells #[.int .u8 z] 5)).heap.size (w.alloc (.cells #[.int .u8 z] 5)) (some ⟨w.heap.size, 0, none⟩) 1 1 (strOfNums [z]) := ⟨[z], one_lit w 5 _ _, rfl⟩
set_option maxHeartbeats 4000000 in
theorem netFull_walk (x : Nat) (hx : x ≤ 255) (lost : Bool) (w : World) : Calls Try.prog 7 #[.int .u8 (x : Int), .bool lost] w fun e w' => e = .returned (.bool true) ∧ Below w.heap.size w w' := by
  obtain ⟨m, hm⟩ : ∃ m : Nat, m = x % 201 := ⟨_, rfl⟩
  have hmI : Int.tmod (x : Int) 201 = (m : Int) := by rw [Int.tmod_eq_emod_of_nonneg (by omega)]; omega
  have hm2 : m ≤ 200 := by omega
  obtain ⟨k, hk⟩ : ∃ k : Nat, k = 1024 - m := ⟨_, rfl⟩
  have hkI : (1024 : Int) - (m : Int) = (k : Int) := by omega
  have hk2 : k ≤ 1024 := by omega
  have hkm : (1024 : Int) - (k : Int) = (m : Int) := by omega
  have HK : Hid (k + m = 1024) := Lib.hid (by omega)
  clear hm hk
  go_enter Try.func7, Try.ntmps7
  go_wp2_with fail
  refine (shown13_any w).mono ?_
  rintro e w1 ⟨rfl, hb1⟩
  have HB1 := Lib.hid hb1
  clear hb1
  go_wp2_with fail
  refine (new_st w w1 HB1.out).mono ?_
  rintro e w2 ⟨rfl, hs2⟩
  have HS2 := Lib.hid hs2
  clear hs2
  generalize w1.heap.size = g at *
  go_wp2_with fail
  go_loopw [20] (fun iv wr => ∃ j : Nat, iv = .int .i64 (j : Int) ∧ j ≤ k ∧ Hid (St w g j wr)) (fun iv _ => k - (intOf iv).toNat)
  case atStart => exact ⟨0, rfl, Nat.zero_le _, HS2⟩
  case round =>
    rename World => wr
    obtain ⟨j, rfl, hj, HI⟩ := hrel
    by_cases hlj : j < k
    · have hjI : (j : Int) < (k : Int) := by omega
      have hb := (Below.refl wr.heap.size wr).alloc (Nat.le_refl _) (.cells #[.int .u8 (IntKind.u8.wrap (j : Int))] 5)
      have HC := Lib.hid ((HI.out.later hb).send (by omega) _ 1 1 _ (lit_any wr (IntKind.u8.wrap (j : Int))) (by omega))
      clear hb
      go_wp2_with fail
      refine HC.out.mono ?_
      rintro e w3 ⟨rfl, hs3⟩
      have HS3 := Lib.hid hs3
      clear hs3
      go_wp2_with fail
      go_roundw
      case rel => exact ⟨j + 1, by go_num, by omega, HS3⟩
      case measure => simp [intOf]; omega
    · obtain rfl : j = k := by omega
      clear HS2
      go_wp2_with fail
      go_loopw [32] (fun iv wr => ∃ i : Nat, iv = .int .i64 (i : Int) ∧ i ≤ m ∧ Hid (St w g (j + i) wr)) (fun iv _ => m - (intOf iv).toNat)
      case atStart => exact ⟨0, rfl, Nat.zero_le _, HI⟩
      case round =>
        rename World => wr
        obtain ⟨i, rfl, hi, HI⟩ := hrel
        by_cases hli : i < m
        · have hiI : (i : Int) < (m : Int) := by omega
          have HC := Lib.hid (HI.out.send (by have := HK.out; omega) none 0 0 _ (Yb.nothing _ _) (by omega))
          go_wp2_with fail
          refine HC.out.mono ?_
          rintro e w3 ⟨rfl, hs3⟩
          have HS3 := Lib.hid hs3
          clear hs3
          go_wp2_with fail
          go_roundw
          case rel => exact ⟨i + 1, by go_num, by omega, HS3⟩
          case measure => simp [intOf]; omega
        · obtain rfl : i = m := by omega
          have HS : Hid (St w g 1024 wr) := Lib.hid (by have := HI.out; rwa [HK.out] at this)
          clear HI
          go_wp2_with fail
          refine (HS.out.full none 0 0 _ (Yb.nothing _ _) (by omega)).mono ?_
          rintro e w3 ⟨rfl, hs3⟩
          have HS3 := Lib.hid hs3
          clear hs3
          go_wp2_with fail
          refine HS3.out.len.mono ?_
          rintro e w4 ⟨rfl, rfl⟩
          cases lost with
          | true =>
            go_wp2_with fail
            refine (St.lose (j := 1023) HS3.out).mono ?_
            rintro e w4 ⟨rfl, hs4⟩
            have HS4 := Lib.hid hs4
            clear hs4
            go_wp2_with fail
            refine (St.take (j := 1022) HS4.out).mono ?_
            rintro e w5 ⟨⟨A5, n5, c5, rfl⟩, hs5⟩
            have HS5 := Lib.hid hs5
            clear hs5
            go_wp2_with fail
            refine (HS5.out.send (by omega) none 0 0 _ (Yb.nothing _ _) (by omega)).mono ?_
            rintro e w6 ⟨rfl, hs6⟩
            have HS6 := Lib.hid hs6
            clear hs6
            go_wp2_with fail
            go_ret
            exact ⟨rfl, HS6.out.below⟩
          | false =>
            go_wp2_with fail
            refine (St.take (j := 1023) HS3.out).mono ?_
            rintro e w5 ⟨⟨A5, n5, c5, rfl⟩, hs5⟩
            have HS5 := Lib.hid hs5
            clear hs5
            go_wp2_with fail
            refine (HS5.out.send (by omega) none 0 0 _ (Yb.nothing _ _) (by omega)).mono ?_
            rintro e w6 ⟨rfl, hs6⟩
            have HS6 := Lib.hid hs6
            clear hs6
            go_wp2_with fail
            go_ret
            exact ⟨rfl, HS6.out.below⟩
end Nw
end Go.Proofs.Ytedhmlggmfgpgaa
