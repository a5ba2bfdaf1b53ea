/-
  TripGoes: the walk.
-/
import Derived.Test.YtokjnmgbgflgnaaGreatDoorTrM
import Derived.Test.YtokjnmgbgflgnaaGreatDoorTrArgs
set_option linter.unusedVariables false
set_option maxRecDepth 100000
namespace Go.Proofs.YtokjnmgbgflgnaaGreatDoor
namespace Tr
open Go.RowKit Fl Pt
open Bk (Gt)

theorem near_take (l : List Nat) (j : Nat) (h : j < l.length) (x : Int) : ((l.take (j + 1)).any fun z => ((z : Nat) : Int) == x) = ((l.take j).any (fun z => ((z : Nat) : Int) == x) || (((l.getD j 0 : Nat) : Int) == x)) := by
  rw [take_snoc l j 0 h, List.any_append]
  simp
/-- An act's box. -/
def Yb (E : Nat) (k c p : Int) (w : World) : Prop := w.heap[E]? = some (.cells #[.int .u8 k, .int .i64 c, .int .i64 p] 44 (0, 0))
theorem Yb.cells {E : Nat} {k c p : Int} {w : World} (h : Yb E k c p w) : w.cell? ⟨E, 0, none⟩ = some (.int .u8 k) ∧ w.cell? ⟨E, 1, none⟩ = some (.int .i64 c) ∧ w.cell? ⟨E, 2, none⟩ = some (.int .i64 p) ∧ E < w.heap.size :=
  ⟨by rw [cell_of_row w E 0 _ _ _ h]; rfl, by rw [cell_of_row w E 1 _ _ _ h]; rfl, by rw [cell_of_row w E 2 _ _ _ h]; rfl, lt_of_heap h⟩
theorem Yb.later {E : Nat} {k c p : Int} {w w' : World} (h : Yb E k c p w) (hb : Below w.heap.size w w') : Yb E k c p w' := (hb.block E (lt_of_heap h)).trans h
set_option maxHeartbeats 16000000 in
theorem tripGoes_walk (W H : Int) (s : ByteArray) (hs : s.size ≤ maxLen) (r pod a b : Int) (A : Option Addr) (n cap : Nat) (f : Nat → Int) (w : World) (h : Il w.heap.size w A n cap f) (_ : ∀ j, j < n → IW (f j)) :
    Calls Tryz.prog 8 #[caseV W H s r pod a b A n cap] w fun e w' => e = .returned (.bool true) ∧ Below w.heap.size w w' := by
  have HI := Lib.hid h
  have HSM := Lib.hid (fun wx => small10_any W H s hs r pod a b A n cap ⟨h.le, by have := h.max; unfold maxLen at this; omega⟩ wx)
  have HMK := Lib.hid (fun wx (hb : Below w.heap.size w wx) => make_any W H s hs r pod a b A n cap f wx (args_il h hb))
  have HDK := Lib.hid (fun wx => dock_any W H s hs r wx)
  have HNE := Lib.hid (fun c wx => near_any W H s hs c wx)
  have HZO := Lib.hid (fun c wx => zone_any W H s hs c wx)
  have HCB := Lib.hid (Cb.new w W H s r pod a b A n cap)
  have HBB := Lib.hid ((Below.refl w.heap.size w).alloc (Nat.le_refl _) (.cells #[.int .i64 W, .int .i64 H, .string s, .int .i64 r, .int .i64 pod, .int .i64 a, .int .i64 b, .slice A n cap] 26))
  clear h
  unfold caseV at HSM ⊢
  go_enter Tryz.func8, Tryz.ntmps8
  go_wp2_with fail
  refine (shown10_any _).mono ?_
  rintro e w1 ⟨rfl, hb1⟩
  obtain ⟨D, hD⟩ : ∃ D, D = w.heap.size := ⟨_, rfl⟩
  have HLD : Hid (w.heap.size ≤ D) := Lib.hid (by omega)
  have HC1 : Hid (Cb D W H s r pod a b A n cap w1) := Lib.hid (by rw [hD]; exact HCB.out.later hb1)
  have HB1 := Lib.hid (HBB.out.trans (hb1.mono HBB.out.size))
  rw [← hD]
  clear hb1 hD HCB HBB
  have c0 := HC1.out.c0
  have c1 := HC1.out.c1
  have c2 := HC1.out.c2
  have c3 := HC1.out.c3
  have c4 := HC1.out.c4
  have c5 := HC1.out.c5
  have c6 := HC1.out.c6
  have c7 := HC1.out.c7
  go_wp2_with fail
  refine (HSM.out _).mono ?_
  rintro e w2 ⟨rfl, hb2⟩
  have HC2 := Lib.hid (HC1.out.later hb2)
  have HB2 := Lib.hid (HB1.out.trans (hb2.mono HB1.out.size))
  clear hb2 c0 c1 c2 c3 c4 c5 c6 c7
  cases hsm : (decide (s.size ≤ 60) && decide (n ≤ 30)) with
  | false =>
    go_wp2_with fail
    go_ret
    exact ⟨rfl, HB2.out⟩
  | true =>
    have c0 := HC2.out.c0
    have c1 := HC2.out.c1
    have c2 := HC2.out.c2
    have c3 := HC2.out.c3
    have c4 := HC2.out.c4
    have c5 := HC2.out.c5
    have c6 := HC2.out.c6
    have c7 := HC2.out.c7
    have hn30 : n ≤ 30 := by simp at hsm; exact hsm.2
    clear hsm
    go_wp2_with fail
    refine (HMK.out _ HB2.out).mono ?_
    rintro e w3 ⟨A3, n3, k3, L, er, rfl, hmi, hl3, hje, hal, hb3⟩
    have HC3 := Lib.hid (HC2.out.later hb3)
    have HB3 := Lib.hid (HB2.out.trans (hb3.mono HB2.out.size))
    have HA3 := Lib.hid hal
    have HL3 := Lib.hid hl3
    have hn3 := hal.len
    obtain ⟨hk3, hk3b⟩ := hal.size
    clear hal hb3 hl3 hje c0 c1 c2 c3 c4 c5 c6 c7 HMK HSM
    rcases hmi with ⟨_, rfl, rfl⟩ | ⟨hmay, d, x, y, z, hd, p1, p2, p3, rfl, rfl⟩ | ⟨_, _, _, _, rfl, rfl⟩
    · go_wp2_with fail
      go_ret
      exact ⟨by first | rfl | simp, HB3.out⟩
    · have HST := Lib.hid (fun i hi => trip_steps hmay hd p1 p2 p3 i hi)
      have HEND := Lib.hid (trip_end hmay hd p1 p2 p3 HL3.out)
      have HN3 : Hid (2 ≤ n3) := Lib.hid (by rw [← hn3, tripL_length]; omega)
      have hn3' : n3 ≤ 770 := by rw [← hn3]; exact HL3.out
      have h03 : ((n3 : Int) == 0) = false := by rw [beq_eq_false_iff_ne]; have := HN3.out; omega
      have HRI : Hid (Right W H s) := Lib.hid hmay.1.1
      have HLN : Hid ((tripL x y z a b pod).length = n3) := Lib.hid hn3
      have HMR := Lib.hid hmay.1
      have HFD := Lib.hid hd
      clear hmay hd p1 p2 p3 hn3 HL3
      generalize tripL x y z a b pod = L at *
      have c0 := HC3.out.c0
      have c1 := HC3.out.c1
      have c2 := HC3.out.c2
      have c3 := HC3.out.c3
      go_wp2_with fail
      refine (HDK.out _).mono ?_
      rintro e w4 ⟨d', q, rfl, h1, _, hb4⟩
      obtain ⟨hfd, rfl⟩ := h1 HMR.out
      obtain rfl := hfd.one HFD.out
      have HC4 := Lib.hid (HC3.out.later hb4)
      have HB4 := Lib.hid (HB3.out.trans (hb4.mono HB3.out.size))
      have HA4 := Lib.hid (HA3.out.later hb4)
      clear h1 hb4 hfd c0 c1 c2 c3 HDK HA3 HC3 HB3 HC2 HB2 HC1 HB1
      go_wp2_with fail
      go_loopw [6, 60] (fun av iv wr => ∃ (i : Nat), i ≤ n3 ∧ av = .int .i64 (plA (L.take i) (d' : Int)) ∧ iv = .int .i64 (i : Int) ∧ Hid (Below w4.heap.size w4 wr)) (fun _ iv _ => n3 - (intOf iv).toNat)
      case atStart => exact ⟨0, Nat.zero_le _, rfl, rfl, Lib.hid (Below.refl _ _)⟩
      case round =>
        rename World => wr
        obtain ⟨i, hi, rfl, rfl, HB⟩ := hrel
        by_cases hlt : i < n3
        · obtain ⟨g, off, rfl, hg, k0, k1, k2⟩ := (HA4.out.later HB.out).cell hlt
          have HS := Lib.hid (HST.out i (by rw [HLN.out]; exact hlt))
          have HPT := Lib.hid (plA_take L (d' : Int) i (by rw [HLN.out]; exact hlt))
          have hiI : (i : Int) < (n3 : Int) := by omega
          have HON := Lib.hid HS.out.on
          have HSTEP := Lib.hid HS.out.step
          rw [HLN.out] at HSTEP
          obtain ⟨at_, hat⟩ : ∃ at_, at_ = plA (L.take i) (d' : Int) := ⟨_, rfl⟩
          rw [← hat] at HON HSTEP HPT ⊢
          clear HS hat
          generalize L.getD i (0, 0, 0) = ac at *
          obtain ⟨k, c, p⟩ := ac
          have k0' : wr.cell? ⟨g, off + i * 3, none⟩ = some (.int .u8 (k : Int)) := k0
          have k1' : wr.cell? ⟨g, off + i * 3 + 1, none⟩ = some (.int .i64 c) := k1
          have k2' : wr.cell? ⟨g, off + i * 3 + 2, none⟩ = some (.int .i64 p) := k2
          clear k0 k1 k2
          have HCR := Lib.hid (HC4.out.later HB.out)
          have hal := (Below.refl wr.heap.size wr).alloc (Nat.le_refl _) (.cells #[.int .u8 (k : Int), .int .i64 c, .int .i64 p] 44)
          have HBA := Lib.hid (HB.out.trans (hal.mono HB.out.size))
          have HCA := Lib.hid (HCR.out.later hal)
          have HYA : Hid (Yb wr.heap.size (k : Int) c p (wr.alloc (.cells #[.int .u8 (k : Int), .int .i64 c, .int .i64 p] 44))) := Lib.hid (heap_alloc_new wr _)
          clear hal
          generalize hkk : (k : Int) = kk at *
          by_cases e1 : k = 1
          · subst e1
            obtain rfl : kk = 1 := by rw [← hkk]; rfl
            clear hkk
            obtain ⟨cn, hcn, hnb, hbl, hln⟩ := HSTEP.out rfl
            obtain rfl : c = (cn : Int) := hcn
            have HP2 : Hid (plA (L.take (i + 1)) (d' : Int) = (cn : Int)) := Lib.hid (by rw [HPT.out]; exact if_pos rfl)
            have HNB := Lib.hid hnb
            have HBL := Lib.hid hbl
            have HLN2 := Lib.hid hln
            have a0 := HCA.out.c0
            have a1 := HCA.out.c1
            have a2 := HCA.out.c2
            clear hnb hbl hln HPT HSTEP
            go_wp2_with fail
            generalize hwA : wr.alloc (.cells #[.int .u8 1, .int .i64 (cn : Int), .int .i64 p] 44) = wA at *
            have HYA : Hid (Yb wr.heap.size 1 (cn : Int) p wA) := HYA
            generalize wr.heap.size = E at *
            clear hwA k0' k1' k2'
            refine (HNE.out at_ _).mono ?_
            rintro e w5 ⟨A5, n5, k5, xs, rfl, hn5, hy5, _, ho5, hb5⟩
            obtain rfl := hy5 HON.out
            have HI5 := Lib.hid (ho5.il hn5)
            have HN5 := Lib.hid hn5
            have hk5 := (ho5.il hn5).le
            have hk5b : k5 ≤ 9223372036854775807 := by have := (ho5.il hn5).max; unfold maxLen at this; omega
            have HC5 := Lib.hid (HCA.out.later hb5)
            have HB5 := Lib.hid (HBA.out.trans (hb5.mono HBA.out.size))
            have HY5 := Lib.hid (HYA.out.later hb5)
            clear hn5 hy5 ho5 hb5 a0 a1 a2
            go_wp2_with fail
            go_loopw [11, 73] (fun nv iv wy => ∃ (j : Nat) (bv : Bool), j ≤ n5 ∧ nv = .bool bv ∧ iv = .int .i64 (j : Int) ∧ Hid (bv = ((nears W H s at_).take j).any fun z => ((z : Nat) : Int) == (cn : Int)) ∧ Hid (Below w5.heap.size w5 wy)) (fun _ iv _ => n5 - (intOf iv).toNat)
            case atStart => exact ⟨0, false, Nat.zero_le _, rfl, rfl, Lib.hid (by simp), Lib.hid (Below.refl _ _)⟩
            case round =>
              rename World => wy
              obtain ⟨j, bv, hj, rfl, rfl, HBV, HBY⟩ := hrel
              by_cases hlt2 : j < n5
              · obtain ⟨g5, o5, rfl, hg5, hc5⟩ := (HI5.out.below HBY.out).cell (by omega)
                have hcj := hc5 j hlt2
                have hjI : (j : Int) < (n5 : Int) := by omega
                have hg5' : g5 < wy.heap.size := Nat.lt_of_lt_of_le hg5 HBY.out.size
                have HNT := Lib.hid (near_take (nears W H s at_) j (by rw [← HN5.out]; exact hlt2) (cn : Int))
                obtain ⟨_, y1, _, yl⟩ := (HY5.out.later HBY.out).cells
                clear hc5
                generalize (nears W H s at_).getD j 0 = zn at *
                cases bv with
                | true =>
                  have HBV2 : Hid (true = ((nears W H s at_).take (j + 1)).any fun z => ((z : Nat) : Int) == (cn : Int)) := Lib.hid (by rw [HNT.out, ← HBV.out]; rfl)
                  go_wp2_with fail
                  go_roundw
                  case rel => exact ⟨j + 1, true, by omega, rfl, by go_num, HBV2, HBY⟩
                  case measure => simp [intOf]; omega
                | false =>
                  have HBV2 : Hid ((((zn : Nat) : Int) == (cn : Int)) = ((nears W H s at_).take (j + 1)).any fun z => ((z : Nat) : Int) == (cn : Int)) := Lib.hid (by rw [HNT.out, ← HBV.out]; rfl)
                  by_cases hzc : zn = cn
                  · have dz : (((zn : Nat) : Int) == (cn : Int)) = true := by rw [beq_iff_eq]; omega
                    rw [dz] at HBV2
                    clear hzc
                    go_wp2_with fail
                    go_roundw
                    case rel => exact ⟨j + 1, true, by omega, rfl, by go_num, HBV2, HBY⟩
                    case measure => simp [intOf]; omega
                  · have dz : (((zn : Nat) : Int) == (cn : Int)) = false := by rw [beq_eq_false_iff_ne]; omega
                    rw [dz] at HBV2
                    clear hzc
                    go_wp2_with fail
                    go_roundw
                    case rel => exact ⟨j + 1, false, by omega, rfl, by go_num, HBV2, HBY⟩
                    case measure => simp [intOf]; omega
              · obtain rfl : j = n5 := by omega
                obtain rfl : bv = true := by
                  rw [HBV.out, List.take_of_length_le (by rw [← HN5.out]; exact Nat.le_refl _), List.any_eq_true]
                  obtain ⟨y, hy, e⟩ := nearB_iff.1 HNB.out
                  exact ⟨y, hy, by rw [beq_iff_eq]; omega⟩
                have HC6 := Lib.hid (HC5.out.later HBY.out)
                have HB6 := Lib.hid (HB5.out.trans (HBY.out.mono HB5.out.size))
                have HY6 := Lib.hid (HY5.out.later HBY.out)
                have c7 := HC6.out.c7
                clear HC5 HB5 HY5 HBV
                go_wp2_with fail
                clear c7
                go_loopw [11, 88] (fun nv iv wz => ∃ (u : Nat), u ≤ n ∧ nv = .bool true ∧ iv = .int .i64 (u : Int) ∧ Hid (Below wy.heap.size wy wz)) (fun _ iv _ => n - (intOf iv).toNat)
                case atStart => exact ⟨0, Nat.zero_le _, rfl, rfl, Lib.hid (Below.refl _ _)⟩
                case round =>
                  rename World => wz
                  obtain ⟨u, hu, rfl, rfl, HBZ⟩ := hrel
                  have HY7 := Lib.hid (HY6.out.later HBZ.out)
                  have HB7 := Lib.hid (HB6.out.trans (HBZ.out.mono HB6.out.size))
                  have HBT := Lib.hid (HB4.out.trans (HB7.out.mono HB4.out.size))
                  obtain ⟨_, y1, _, yl⟩ := HY7.out.cells
                  by_cases hlt3 : u < n
                  · obtain ⟨g7, o7, rfl, hg7, hc7⟩ := (HI.out.below HBT.out).cell (by omega)
                    have hcu := hc7 u hlt3
                    have huI : (u : Int) < (n : Int) := by omega
                    have hne : f u ≠ (cn : Int) := fun e => by
                      have h1 := HBL.out
                      have h2 : mk f n cn = true := mk_iff.2 ⟨u, hlt3, e⟩
                      rw [h2] at h1; cases h1
                    have dne : (f u != (cn : Int)) = true := by rw [bne_iff_ne]; exact hne
                    have hg7' : g7 < wz.heap.size := Nat.lt_of_lt_of_le hg7 HBT.out.size
                    clear hc7 hne
                    generalize f u = fu at *
                    go_wp2_with fail
                    go_roundw
                    case rel => exact ⟨u + 1, by omega, rfl, by go_num, HBZ⟩
                    case measure => simp [intOf]; omega
                  · obtain rfl : u = n := by omega
                    have HC7 := Lib.hid (HC6.out.later HBZ.out)
                    have c0 := HC7.out.c0
                    have c1 := HC7.out.c1
                    have c2 := HC7.out.c2
                    go_wp2_with fail
                    refine (HZO.out (cn : Int) _).mono ?_
                    rintro e w8 ⟨zz, lb, rfl, hz1, hz2, hb8⟩
                    have HLB : Hid (lb = laneB s (cn : Int)) := Lib.hid (by
                      cases hl : laneB s (cn : Int) with
                      | true => exact (hz1 ⟨HRI.out, hl⟩).2
                      | false => exact (hz2 (fun q => by have := q.2; unfold laneB at hl; rw [hl] at this; cases this)).2)
                    have HB8 := Lib.hid (HB7.out.trans (hb8.mono HB7.out.size))
                    have HY8 := Lib.hid (HY7.out.later hb8)
                    clear hz1 hz2 hb8 c0 c1 c2 y1 yl
                    obtain ⟨_, y1, _, yl⟩ := HY8.out.cells
                    by_cases hil : i + 1 = n3
                    · have hln := HLN2.out
                      rw [if_pos hil] at hln
                      obtain ⟨hl0, rfl⟩ := hln
                      obtain rfl : lb = false := by rw [HLB.out]; exact hl0
                      have hle1 : i + 1 ≤ n3 := by omega
                      have hle2 : n3 ≤ i + 1 := by omega
                      have dI : ((i : Int) == (n3 : Int) - 1) = true := by rw [beq_iff_eq]; omega
                      clear hl0 hil
                      go_wp2_with fail
                      go_roundw
                      case rel => exact ⟨i + 1, by omega, by rw [HP2.out], by go_num, HB8⟩
                      case measure => simp [intOf]; omega
                    · have hln := HLN2.out
                      rw [if_neg hil] at hln
                      obtain rfl : lb = true := by rw [HLB.out]; exact hln
                      have hlt4 : i + 1 < n3 := by omega
                      have dI : ((i : Int) == (n3 : Int) - 1) = false := by rw [beq_eq_false_iff_ne]; omega
                      clear hln hil
                      go_wp2_with fail
                      go_roundw
                      case rel => exact ⟨i + 1, by omega, by rw [HP2.out], by go_num, HB8⟩
                      case measure => simp [intOf]; omega
          · have dk : (kk == 1) = false := by rw [beq_eq_false_iff_ne]; omega
            have dk2 : (kk != 1) = true := by rw [bne_iff_ne]; omega
            have HP2 : Hid (plA (L.take (i + 1)) (d' : Int) = at_) := Lib.hid (by rw [HPT.out]; exact if_neg e1)
            go_wp2_with fail
            go_roundw
            case rel => exact ⟨i + 1, by omega, by rw [HP2.out], by go_num, HBA⟩
            case measure => simp [intOf]; omega
        · obtain rfl : i = n3 := by omega
          have HE : Hid (plA (L.take i) (d' : Int) = (d' : Int)) := Lib.hid (by rw [List.take_of_length_le (by rw [HLN.out]; exact Nat.le_refl _)]; exact HEND.out)
          rw [HE.out]
          go_wp2_with fail
          go_ret
          exact ⟨by first | rfl | simp, HB4.out.trans (HB.out.mono HB4.out.size)⟩
    · go_wp2_with fail
      go_ret
      exact ⟨by first | rfl | simp, HB3.out⟩
end Tr
end Go.Proofs.YtokjnmgbgflgnaaGreatDoor
