/-
  DiskApart: the walk (written by tools/dkapart.py).
-/
import Derived.Test.YtlelmffemlgenaaDkH
set_option linter.unusedVariables false
set_option maxRecDepth 100000
namespace Go.Proofs.Ytlelmffemlgenaa
namespace Dk
open Go.RowKit Bk Nw

set_option maxHeartbeats 4000000 in
theorem diskApart_walk (A : Option Addr) (n cap : Nat) (f : Nat → A15) (A2 : Option Addr) (n2 cap2 : Nat) (f2 : Nat → A15) (w : World) (h : Acts15 w.heap.size w A n cap f) (_ : True) (h2 : Acts15 w.heap.size w A2 n2 cap2 f2) (_ : True) :
    Calls Try.prog 7 #[.slice A n cap, .slice A2 n2 cap2] w fun e w' => e = .returned (.bool true) ∧ Below w.heap.size w w' := by
  have HA := Lib.hid h
  have HA2 := Lib.hid h2
  clear h h2
  go_enter Try.func7, Try.ntmps7
  go_wp2_with fail
  refine (shown15_any w).mono ?_
  rintro e w1 ⟨rfl, hb1⟩
  have HB1 := Lib.hid hb1
  clear hb1
  go_wp2_with fail
  refine (new_any w1).mono ?_
  rintro e w2 ⟨rfl, hn2, hb2⟩
  have HS : Hid (Lo w w.heap.size w1.heap.size w2) := Lib.hid ⟨_, _, hn2.lower HB1.out.size, HB1.out.trans (hb2.mono HB1.out.size)⟩
  clear hn2 hb2 HB1
  generalize w1.heap.size = g at *
  go_wp2_with fail
  have HF := Lib.hid (few_any A n cap f w2 (acts_raise (HA.out.below HS.out.below) HS.out.below.size))
  refine HF.out.mono ?_
  rintro e w3 ⟨rfl, m, hm, hm1, rfl, _⟩
  have hcs : m ≤ cap := Nat.le_trans hm HA.out.le
  have hcs1 : cap ≤ 9223372036854775807 := by have := HA.out.max; unfold maxLen at this; omega
  clear HF
  go_wp2_with fail
  go_loopw [25] (fun iv wr => ∃ j : Nat, iv = .int .i64 (j : Int) ∧ j ≤ m ∧ Hid (Lo w w.heap.size g wr)) (fun iv _ => m - (intOf iv).toNat)
  case atStart => exact ⟨0, rfl, Nat.zero_le _, HS⟩
  case round =>
    rename World => wr
    clear HS
    obtain ⟨j, rfl, hj, HI⟩ := hrel
    by_cases hlj : j < m
    · obtain ⟨ga, off, A1, n1, c1, rfl, hga, k0, k1, k2, hy, hf1, hf2⟩ := act_at (HA.out.below (HI.out.below)) (show j < n by omega)
      have hjI : (j : Int) < (m : Int) := by omega
      have hga2 : ga < wr.heap.size := Nat.lt_of_lt_of_le hga ((HI.out.below).size)
      generalize f j = fj at *
      obtain ⟨qk, s, x⟩ := fj
      have k0 : wr.cell? ⟨ga, off + j * 3, none⟩ = some (.int .u8 (qk : Int)) := k0
      have k1 : wr.cell? ⟨ga, off + j * 3 + 1, none⟩ = some (.slice A1 n1 c1) := k1
      have k2 : wr.cell? ⟨ga, off + j * 3 + 2, none⟩ = some (.int .i64 x) := k2
      obtain ⟨b0, b1, b2⟩ := act_cells wr qk A1 n1 c1 x
      have hbA := (Below.refl wr.heap.size wr).alloc (Nat.le_refl _) (.cells #[.int .u8 (qk : Int), .slice A1 n1 c1, .int .i64 x] 31)
      have HYA := Lib.hid ((hy.raise (HI.out.below).size).later hbA)
      have HLA := Lib.hid (HI.out.later hbA)
      have HX : Hid (IW x) := Lib.hid hf2
      clear hga hf1 hf2 hy hbA HI
      go_wp2_with fail
      generalize wr.alloc (.cells #[.int .u8 (qk : Int), .slice A1 n1 c1, .int .i64 x] 31) = wA at *
      refine (HLA.out.does qk A1 n1 c1 s x HYA.out HX.out).mono ?_
      rintro e w5 ⟨⟨z, rfl⟩, h5⟩
      have H5 := Lib.hid h5
      clear h5 HLA HYA b0 b1 b2 k0 k1 k2
      go_wp2_with fail
      go_roundw
      case rel => exact ⟨j + 1, by go_num, by omega, H5⟩
      case measure => simp [intOf]; omega
    · obtain rfl : j = m := by omega
      obtain ⟨v, d, hd, hbd⟩ := HI.out
      have HD := Lib.hid hd
      have HBD := Lib.hid hbd
      clear hd hbd HI
      go_wp2_with fail
      refine (Read_any HD.out).mono ?_
      rintro e w4 ⟨Aw, cw, rfl, hy4, hb4⟩
      have HD4 := Lib.hid (HD.out.later hb4)
      have HW4 := Lib.hid (hy4.lower HBD.out.size)
      have HB4 := Lib.hid (HBD.out.trans (hb4.mono HBD.out.size))
      clear hy4 hb4 HD HBD
      go_wp2_with fail
      refine (Dead_any HD4.out).mono ?_
      rintro e w5 ⟨rfl, rfl⟩
      go_wp2_with fail
      refine (Safe_any HD4.out).mono ?_
      rintro e w5 ⟨rfl, rfl⟩
      go_wp2_with fail
      refine (Copy_any HD4.out).mono ?_
      rintro e wc ⟨g2, v2, rfl, hn2, hb2⟩
      have HDC := Lib.hid (HD4.out.later hb2)
      have HWC := Lib.hid (HW4.out.later hb2)
      have HBC := Lib.hid (HB4.out.trans (hb2.mono HB4.out.size))
      have HLT : Hid (∀ k, DF g v k → k < w4.heap.size) := Lib.hid (fun k hk => (HD4.out.blocks k hk).2)
      have HLW : Hid (∀ k, (Value.slice Aw (rdS d).size cw).ownBlock = some k → k < w4.heap.size) := Lib.hid (fun k hk => (HW4.out.kind k hk).1)
      have HB2S : Hid (w.heap.size ≤ w4.heap.size) := Lib.hid HB4.out.size
      have HCC : Hid (DAt wc w4.heap.size g2 v2 d) := Lib.hid hn2
      have HSC : Hid (w4.heap.size ≤ wc.heap.size) := Lib.hid hb2.size
      clear hn2 hb2 HD4 HW4 HB4
      generalize w4.heap.size = B2 at *
      go_wp2_with fail
      refine (Read_any HCC.out).mono ?_
      rintro e w6 ⟨A6, c6, rfl, hy6, hb6⟩
      have q6 := hy6.yb.conv
      have q6w := (HWC.out.later hb6).yb.conv
      have HDD := Lib.hid (HDC.out.later hb6)
      have HWD := Lib.hid (HWC.out.later hb6)
      have HBE := Lib.hid (HBC.out.trans (hb6.mono HBC.out.size))
      have HCD := Lib.hid (HCC.out.later hb6)
      clear hy6 hb6 HDC HWC HBC HCC HSC
      go_wp2_with fail
      refine (Dead_any HCD.out).mono ?_
      rintro e w7 ⟨rfl, rfl⟩
      go_wp2_with fail
      refine (Safe_any HCD.out).mono ?_
      rintro e w7 ⟨rfl, rfl⟩
      clear q6 q6w
      go_wp2_with fail
      have HF2 := Lib.hid (few_any A2 n2 cap2 f2 w6 (acts_raise (HA2.out.below HBE.out) HBE.out.size))
      refine HF2.out.mono ?_
      rintro e w7 ⟨rfl, m2, hm2, hm22, rfl, _⟩
      have hcs2 : m2 ≤ cap2 := Nat.le_trans hm2 HA2.out.le
      have hcs22 : cap2 ≤ 9223372036854775807 := by have := HA2.out.max; unfold maxLen at this; omega
      have HS : Hid (Lo w6 B2 g2 w6) := Lib.hid ⟨v2, d, HCD.out, Below.refl _ _⟩
      clear HF2 HCD
      go_wp2_with fail
      go_loopw [76] (fun iv wr => ∃ j : Nat, iv = .int .i64 (j : Int) ∧ j ≤ m2 ∧ Hid (Lo w6 B2 g2 wr)) (fun iv _ => m2 - (intOf iv).toNat)
      case atStart => exact ⟨0, rfl, Nat.zero_le _, HS⟩
      case round =>
        rename World => wr
        clear HS
        obtain ⟨j, rfl, hj, HI⟩ := hrel
        by_cases hlj : j < m2
        · obtain ⟨ga, off, A1, n1, c1, rfl, hga, k0, k1, k2, hy, hf1, hf2⟩ := act_at (HA2.out.below (HBE.out.trans (HI.out.below.mono HB2S.out))) (show j < n2 by omega)
          have hjI : (j : Int) < (m2 : Int) := by omega
          have hga2 : ga < wr.heap.size := Nat.lt_of_lt_of_le hga ((HBE.out.trans (HI.out.below.mono HB2S.out)).size)
          generalize f2 j = fj at *
          obtain ⟨qk, s, x⟩ := fj
          have k0 : wr.cell? ⟨ga, off + j * 3, none⟩ = some (.int .u8 (qk : Int)) := k0
          have k1 : wr.cell? ⟨ga, off + j * 3 + 1, none⟩ = some (.slice A1 n1 c1) := k1
          have k2 : wr.cell? ⟨ga, off + j * 3 + 2, none⟩ = some (.int .i64 x) := k2
          obtain ⟨b0, b1, b2⟩ := act_cells wr qk A1 n1 c1 x
          have hbA := (Below.refl wr.heap.size wr).alloc (Nat.le_refl _) (.cells #[.int .u8 (qk : Int), .slice A1 n1 c1, .int .i64 x] 31)
          have HYA := Lib.hid ((hy.raise (HBE.out.trans (HI.out.below.mono HB2S.out)).size).later hbA)
          have HLA := Lib.hid (HI.out.later hbA)
          have HX : Hid (IW x) := Lib.hid hf2
          clear hga hf1 hf2 hy hbA HI
          go_wp2_with fail
          generalize wr.alloc (.cells #[.int .u8 (qk : Int), .slice A1 n1 c1, .int .i64 x] 31) = wA at *
          refine (HLA.out.does qk A1 n1 c1 s x HYA.out HX.out).mono ?_
          rintro e w5 ⟨⟨z, rfl⟩, h5⟩
          have H5 := Lib.hid h5
          clear h5 HLA HYA b0 b1 b2 k0 k1 k2
          go_wp2_with fail
          go_roundw
          case rel => exact ⟨j + 1, by go_num, by omega, H5⟩
          case measure => simp [intOf]; omega
        · obtain rfl : j = m2 := by omega
          obtain ⟨v2, d2, _, hbe⟩ := HI.out
          have HD3 : Hid (DAt wr w.heap.size g v d) := Lib.hid (HDD.out.same (fun k hk => hbe.block k (HLT.out k hk)))
          have HW3 : Hid (Yw wr w.heap.size (.slice Aw (rdS d).size cw) (rdS d)) := Lib.hid (HWD.out.same (fun k hk => hbe.block k (HLW.out k hk)))
          have HB3 : Hid (Below w.heap.size w wr) := Lib.hid (HBE.out.trans (hbe.mono HB2S.out))
          clear hbe HI HDD HWD
          go_wp2_with fail
          refine (Read_any HD3.out).mono ?_
          rintro e w8 ⟨A8, c8, rfl, hy8, hb8⟩
          have HD8 := Lib.hid (HD3.out.later hb8)
          have q8 := hy8.yb.conv
          have q8w := (HW3.out.later hb8).yb.conv
          have HB8 := Lib.hid (HB3.out.trans (hb8.mono HB3.out.size))
          clear hy8 hb8 HD3 HW3
          go_wp2_with fail
          refine (Dead_any HD8.out).mono ?_
          rintro e w9 ⟨rfl, rfl⟩
          go_wp2_with fail
          refine (Safe_any HD8.out).mono ?_
          rintro e w9 ⟨rfl, rfl⟩
          go_wp2_with fail
          go_ret
          exact ⟨rfl, HB8.out⟩
end Dk
end Go.Proofs.Ytlelmffemlgenaa
