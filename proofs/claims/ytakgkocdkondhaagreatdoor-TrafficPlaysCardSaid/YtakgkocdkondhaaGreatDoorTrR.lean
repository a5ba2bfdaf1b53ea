/-
  Layer 10: the document's Right: the walk.
-/
import Derived.Test.YtakgkocdkondhaaGreatDoorTrM
import Derived.Test.YtakgkocdkondhaaGreatDoorTrQ
set_option linter.unusedVariables false
set_option maxRecDepth 100000
namespace Go.Proofs.YtakgkocdkondhaaGreatDoor
namespace Tr
open Go.RowKit Fl Pt
open Bk (Gt)

/-- An act's box. -/
def Bx (E : Nat) (k c p : Int) (w : World) : Prop := w.heap[E]? = some (.cells #[.int .u8 k, .int .i64 c, .int .i64 p] 39 (0, 0))
theorem Bx.cells {E : Nat} {k c p : Int} {w : World} (h : Bx E k c p w) : w.cell? ⟨E, 0, none⟩ = some (.int .u8 k) ∧ w.cell? ⟨E, 1, none⟩ = some (.int .i64 c) ∧ w.cell? ⟨E, 2, none⟩ = some (.int .i64 p) ∧ E < w.heap.size :=
  ⟨by rw [cell_of_row w E 0 _ _ _ h]; rfl, by rw [cell_of_row w E 1 _ _ _ h]; rfl, by rw [cell_of_row w E 2 _ _ _ h]; rfl, lt_of_heap h⟩
theorem Bx.later {E : Nat} {k c p : Int} {w w' : World} (h : Bx E k c p w) (hb : Below w.heap.size w w') : Bx E k c p w' := (hb.block E (lt_of_heap h)).trans h
theorem near_sym {W H : Int} {s : ByteArray} {d t : Nat} (h : Right W H s) (hd : OnFloor W H s (d : Int)) (ht : t ∈ nears W H s (d : Int)) : d ∈ nears W H s (t : Int) ∧ t < s.size := by
  obtain ⟨a, b, rfl, rfl, hS, hR⟩ := rightNat h
  obtain ⟨k, e, hk, hb⟩ := bAt_in hd.2
  obtain rfl : d = k := by omega
  rw [nears_nr, mem_nr] at ht ⊢
  have hdl : d < a * b := by rw [← hS.sz]; exact hk
  refine ⟨⟨side_sym hS.w1 hdl ht.1, fun e => hd.2 (by rw [hb]; exact e)⟩, by rw [hS.sz]; exact side_lt hS.w1 hdl ht.1⟩
set_option maxHeartbeats 32000000 in
theorem rright10_any (W H : Int) (s : ByteArray) (hs : s.size ≤ maxLen) (r a : Int) (A : Option Addr) (n cap : Nat) (L : List Ac) (w : World) (h : Al w.heap.size w A n cap L) :
    Calls Tryz.prog 91 #[.agg #[.int .i64 W, .int .i64 H, .string s], .int .i64 r, .int .i64 a, .slice A n cap] w (Says (RightIs W H s r a L) w) := by
  have HL := Lib.hid h
  have hlen := h.len
  obtain ⟨hc1, hc2⟩ := h.size
  have HDK := Lib.hid (fun wx => rdock_of_any W H s hs r wx)
  have HZO := Lib.hid (fun c wx => rzone_any W H s hs c wx)
  have HOF := Lib.hid (fun wx => of_any W H s hs wx)
  clear h
  go_enter Tryz.func91, Tryz.ntmps91
  go_wp2_with fail
  refine (HDK.out _).mono ?_
  rintro e w1 ⟨d, b, rfl, h1, h2, hb1⟩
  have HX1 := Lib.hid ((Box.start w W H s 25).after hb1)
  have c0 := HX1.out.c0
  have c1 := HX1.out.c1
  have c2 := HX1.out.c2
  have H1 := Lib.hid h1
  have H2 := Lib.hid h2
  clear h1 h2 hb1
  go_wp2_with fail
  refine (HZO.out a _).mono ?_
  rintro e w2 ⟨za, la, rfl, ha1, ha2, hb2⟩
  have HX2 := Lib.hid (HX1.out.after hb2)
  have HA1 := Lib.hid ha1
  have HA2 := Lib.hid ha2
  clear ha1 ha2 hb2 c0 c1 c2 HX1
  have c0 := HX2.out.c0
  have c1 := HX2.out.c1
  have c2 := HX2.out.c2
  cases b with
  | false =>
    go_wp2_with fail
    go_ret
    exact ⟨false, rfl, iff_of_false (by decide) (fun ⟨d, q, _⟩ => by have := (H1.out q).2; cases this), HX2.out.below⟩
  | true =>
    have hrob : IsRobot W H s r := Classical.byContradiction (fun k => by have := (H2.out k).2; cases this)
    have HROB := Lib.hid hrob
    have HF := Lib.hid (H1.out hrob).1
    clear hrob H1 H2
    cases la with
    | true =>
      have HAD : Hid (a = (d : Int) ∨ laneB s a = true) := Lib.hid (.inr (Classical.byContradiction (fun k => by have := (HA2.out (fun q => k q.2)).2; cases this)))
      clear HA1 HA2
      by_cases hlong : 1024 < n
      · have hlI : (1024 : Int) < (n : Int) := by omega
        go_wp2_with fail
        go_ret
        exact ⟨false, rfl, iff_of_false (by decide) (fun ⟨d, _, _, _, q, _⟩ => by omega), HX2.out.below⟩
      · have hlI : ¬ (1024 : Int) < (n : Int) := by omega
        have HRB := Lib.hid (right_B HROB.out HF.out HAD.out (show L.length ≤ 1024 by omega))
        go_wp2_with fail
        refine (HOF.out _).mono ?_
        rintro e w4 ⟨AN, nn, cN, AL, cL, AO, cO, rfl, hb4, hmap, _⟩
        have HM4 := Lib.hid (hmap HROB.out.1)
        have HX4 := Lib.hid (HX2.out.after hb4)
        have hal5 := (Below.refl w4.heap.size w4).alloc (Nat.le_refl _) (.cells #[.slice AN nn cN, .slice AL nn cL, .slice AO nn cO] 142)
        obtain ⟨w5, hw5⟩ : ∃ w5, w5 = w4.alloc (.cells #[.slice AN nn cN, .slice AL nn cL, .slice AO nn cO] 142) := ⟨_, rfl⟩
        have hrow : w5.heap[w4.heap.size]? = some (.cells #[.slice AN nn cN, .slice AL nn cL, .slice AO nn cO] 142 (0, 0)) := by rw [hw5]; exact heap_alloc_new w4 _
        rw [← hw5] at hal5
        have HM5 := Lib.hid (HM4.out.later hal5)
        have HB5 := Lib.hid (HX4.out.after hal5).below
        have HMX : Hid (MX w4.heap.size AN AL AO nn cN cL cO w5) := Lib.hid ⟨by rw [cell_of_row w5 _ 0 _ _ _ hrow]; rfl, by rw [cell_of_row w5 _ 1 _ _ _ hrow]; rfl, by rw [cell_of_row w5 _ 2 _ _ _ hrow]; rfl, lt_of_heap hrow⟩
        clear hb4 hmap hal5 hrow c0 c1 c2 HM4
        go_wp2_with fail
        rw [← hw5]
        obtain ⟨MB, hMB⟩ : ∃ MB, MB = w4.heap.size := ⟨_, rfl⟩
        rw [← hMB] at HMX ⊢
        clear hw5 hMB HX4
        obtain ⟨gN, rfl, hgN, hNear⟩ := HM5.out.near
        obtain ⟨gL, rfl, hgL, hLane⟩ := HM5.out.lane
        have hnn : nn = s.size := HM5.out.sz
        have hcN := HM5.out.caps.1
        have hcL := HM5.out.caps.2.1
        have HNEAR := Lib.hid hNear
        have HLANE := Lib.hid hLane
        have HGN := Lib.hid (And.intro hgN hgL)
        obtain ⟨hcN1, hcN2⟩ := hcN
        obtain ⟨hcL1, hcL2⟩ := hcL
        unfold maxLen at hcN2 hcL2
        have HNN := Lib.hid hnn
        clear hNear hLane hnn hgN hgL HM5
        go_loopw [2, 14, 15, 16] (fun av lv fv iv wr => ∃ (i : Nat) (x lf : Int) (fs : Bool), i ≤ n ∧ av = .int .i64 x ∧ lv = .int .i64 lf ∧ fv = .bool fs ∧ iv = .int .i64 (i : Int) ∧ Hid (runB (nearB W H s) (laneB s) (d : Int) (L.take i) (a, -1, true) = some (x, lf, fs)) ∧ Hid (-1 ≤ lf) ∧ Hid (Below w5.heap.size w5 wr)) (fun _ _ _ iv _ => n - (intOf iv).toNat)
        case atStart => exact ⟨0, a, -1, true, Nat.zero_le _, rfl, rfl, rfl, rfl, Lib.hid rfl, Lib.hid (Int.le_refl _), Lib.hid (Below.refl _ _)⟩
        case round =>
          rename World => wr
          obtain ⟨i, x, lf, fs, hi, rfl, rfl, rfl, rfl, HR, HLF, HB⟩ := hrel
          by_cases hlt : i < n
          · have HBW := Lib.hid (HB5.out.trans (HB.out.mono HB5.out.size))
            obtain ⟨g, off, rfl, hg, k0, k1, k2⟩ := (HL.out.below HBW.out).cell hlt
            have hiI : (i : Int) < (n : Int) := by omega
            have hg2 : g < wr.heap.size := Nat.lt_of_lt_of_le hg HBW.out.size
            have HGE := Lib.hid (run_stepB L i (by omega) HR.out)
            have HON := Lib.hid (on_dock HROB.out.1 HF.out (rob_lt HROB.out) (runB_place _ HR.out HAD.out))
            generalize L.getD i (0, 0, 0) = ac at *
            obtain ⟨k, c, p⟩ := ac
            have k0' : wr.cell? ⟨g, off + i * 3, none⟩ = some (.int .u8 (k : Int)) := k0
            have k1' : wr.cell? ⟨g, off + i * 3 + 1, none⟩ = some (.int .i64 c) := k1
            have k2' : wr.cell? ⟨g, off + i * 3 + 2, none⟩ = some (.int .i64 p) := k2
            clear k0 k1 k2
            have HNONE : Hid (doB (nearB W H s) (laneB s) (d : Int) (x, lf, fs) (k, c, p) = none → ¬ RightIs W H s r a L) := Lib.hid (fun hdo hri => by
              have h1 := HGE.out
              rw [hdo] at h1
              obtain ⟨y, f, q, _⟩ := HRB.out.1 hri
              rw [h1] at q; cases q)
            have HSOME : Hid (∀ u, doB (nearB W H s) (laneB s) (d : Int) (x, lf, fs) (k, c, p) = some u → runB (nearB W H s) (laneB s) (d : Int) (L.take (i + 1)) (a, -1, true) = some u) := Lib.hid (fun u hdo => by
              have h1 := HGE.out
              rw [hdo] at h1
              exact h1)
            obtain ⟨kx, hxk, hkx, hnr⟩ := nrw_near HON.out.2
            subst hxk
            have hal := (Below.refl wr.heap.size wr).alloc (Nat.le_refl _) (.cells #[.int .u8 (k : Int), .int .i64 c, .int .i64 p] 39)
            have HBA := Lib.hid (HB.out.trans (hal.mono HB.out.size))
            have HBF := Lib.hid (HBW.out.trans (hal.mono HBW.out.size))
            have HYA : Hid (Bx wr.heap.size (k : Int) c p (wr.alloc (.cells #[.int .u8 (k : Int), .int .i64 c, .int .i64 p] 39))) := Lib.hid (heap_alloc_new wr _)
            have m0 := (HMX.out.later HBA.out).c0
            have m1 := (HMX.out.later HBA.out).c1
            have ml := (HMX.out.later HBA.out).lt
            have lx : (wr.alloc (.cells #[.int .u8 (k : Int), .int .i64 c, .int .i64 p] 39)).cell? ⟨gL, kx, none⟩ = some (.bool (isL (at_ s kx))) := (HBA.out.cell (p := ⟨gL, kx, none⟩) HGN.out.2).trans (HLANE.out kx (by rw [HNN.out]; exact hkx))
            have ll : gL < (wr.alloc (.cells #[.int .u8 (k : Int), .int .i64 c, .int .i64 p] 39)).heap.size := Nat.lt_of_lt_of_le HGN.out.2 HBA.out.size
            have hkn : kx < nn := by rw [HNN.out]; exact hkx
            clear hal HGE
            obtain ⟨y0, y1, y2, yl⟩ := HYA.out.cells
            generalize hkk : (k : Int) = kk at *
            by_cases e1 : k = 1
            · subst e1
              obtain rfl : kk = 1 := by rw [← hkk]; rfl
              clear hkk
              obtain ⟨Ak, ck, hkc, hki⟩ := HNEAR.out kx hkn
              rw [hnr] at hkc hki
              have HKI := Lib.hid hki
              have HKC := Lib.hid hkc
              have hck := hki.le
              have hck2 : ck ≤ 9223372036854775807 := by have := hki.max; unfold maxLen at this; omega
              obtain ⟨nk, hnk⟩ : ∃ nk, nk = (nears W H s (kx : Int)).length := ⟨_, rfl⟩
              have HNK := Lib.hid hnk
              rw [← hnk] at HKI HKC hck
              clear hki hkc hnr hnk
              go_wp2_with fail
              clear k0' k1' k2' y0 y1 y2 yl m0 m1 ml lx ll
              generalize hwA : wr.alloc (.cells #[.int .u8 1, .int .i64 c, .int .i64 p] 39) = wA at *
              have HYA : Hid (Bx wr.heap.size 1 c p wA) := HYA
              generalize wr.heap.size = E at *
              clear hwA
              go_loopw [18, 19] (fun nv iv wy => ∃ (j : Nat) (bv : Bool), j ≤ nk ∧ nv = .bool bv ∧ iv = .int .i64 (j : Int) ∧ Hid (bv = ((nears W H s (kx : Int)).take j).any fun z => ((z : Nat) : Int) == c) ∧ Hid (Below wA.heap.size wA wy)) (fun _ iv _ => nk - (intOf iv).toNat)
              case atStart => exact ⟨0, false, Nat.zero_le _, rfl, rfl, Lib.hid (by simp), Lib.hid (Below.refl _ _)⟩
              case round =>
                rename World => wy
                obtain ⟨j, bv, hj, rfl, rfl, HBV, HBY⟩ := hrel
                have HB5Y := Lib.hid (HBA.out.trans (HBY.out.mono HBA.out.size))
                have m0 := (HMX.out.later HB5Y.out).c0
                have m1 := (HMX.out.later HB5Y.out).c1
                have ml := (HMX.out.later HB5Y.out).lt
                have hkc : wy.cell? ⟨gN, kx, none⟩ = some (.slice Ak nk ck) := (HB5Y.out.cell (p := ⟨gN, kx, none⟩) HGN.out.1).trans HKC.out
                have hgn2 : gN < wy.heap.size := Nat.lt_of_lt_of_le HGN.out.1 HB5Y.out.size
                obtain ⟨_, y1, y2, yl⟩ := (HYA.out.later HBY.out).cells
                by_cases hlt2 : j < nk
                · obtain ⟨g5, o5, rfl, hg5, hc5⟩ := (HKI.out.below HB5Y.out).cell (by omega)
                  have hcj := hc5 j hlt2
                  have hjI : (j : Int) < (nk : Int) := by omega
                  have hg5' : g5 < wy.heap.size := Nat.lt_of_lt_of_le hg5 HB5Y.out.size
                  have HNT := Lib.hid (near_takeB (nears W H s (kx : Int)) j (by rw [← HNK.out]; exact hlt2) c)
                  clear hc5
                  generalize (nears W H s (kx : Int)).getD j 0 = zn at *
                  cases bv with
                  | true =>
                    have HBV2 : Hid (true = ((nears W H s (kx : Int)).take (j + 1)).any fun z => ((z : Nat) : Int) == c) := Lib.hid (by rw [HNT.out, ← HBV.out]; rfl)
                    go_wp2_with fail
                    go_big_quiet (fail)
                    go_wp2_with fail
                    go_roundw
                    case rel => exact ⟨j + 1, true, by omega, rfl, by go_num, HBV2, Lib.hid (HBY.out.trans (below_drewN _ _ _))⟩
                    case measure => simp [intOf]; omega
                  | false =>
                    have HBV2 : Hid ((((zn : Nat) : Int) == c) = ((nears W H s (kx : Int)).take (j + 1)).any fun z => ((z : Nat) : Int) == c) := Lib.hid (by rw [HNT.out, ← HBV.out]; rfl)
                    by_cases hzc : (zn : Int) = c
                    · have dz : (((zn : Nat) : Int) == c) = true := by rw [beq_iff_eq]; exact hzc
                      rw [dz] at HBV2
                      clear hzc
                      go_wp2_with fail
                      go_big_quiet (fail)
                      go_wp2_with fail
                      go_roundw
                      case rel => exact ⟨j + 1, true, by omega, rfl, by go_num, HBV2, Lib.hid (HBY.out.trans (below_drewN _ _ _))⟩
                      case measure => simp [intOf]; omega
                    · have dz : (((zn : Nat) : Int) == c) = false := by rw [beq_eq_false_iff_ne]; exact hzc
                      rw [dz] at HBV2
                      clear hzc
                      go_wp2_with fail
                      go_big_quiet (fail)
                      go_wp2_with fail
                      go_roundw
                      case rel => exact ⟨j + 1, false, by omega, rfl, by go_num, HBV2, Lib.hid (HBY.out.trans (below_drewN _ _ _))⟩
                      case measure => simp [intOf]; omega
                · obtain rfl : j = nk := by omega
                  have HBVN : Hid (bv = nearB W H s (kx : Int) c) := Lib.hid (by
                    have h1 := HBV.out
                    rw [List.take_of_length_le (by rw [← HNK.out]; exact Nat.le_refl _), near_any_take] at h1
                    exact h1)
                  have HBF := Lib.hid (HBF.out.trans (HBY.out.mono HBF.out.size))
                  cases bv with
                  | false =>
                    have HNO := Lib.hid (HNONE.out (by unfold doB; rw [if_pos (show ((1 : Nat) = 1) from rfl), if_neg (fun q => by have h1 := q.1; rw [← HBVN.out] at h1; cases h1)]))
                    go_wp2_with fail
                    go_ret
                    exact ⟨false, rfl, iff_of_false (by decide) HNO.out, HBF.out⟩
                  | true =>
                    by_cases hp : p = 0
                    · have dp : (p != 0) = false := by rw [bne_eq_false_iff_eq]; exact hp
                      have HP0 := Lib.hid hp
                      clear hp
                      obtain ⟨yc, hyc, hce⟩ := nearB_iff.1 HBVN.out.symm
                      have hycs : yc < s.size := (near_sym HROB.out.1 HON.out.2 hyc).2
                      subst hce
                      have hyn : yc < nn := by rw [HNN.out]; exact hycs
                      have ly : wy.cell? ⟨gL, yc, none⟩ = some (.bool (isL (at_ s yc))) := (HB5Y.out.cell (p := ⟨gL, yc, none⟩) HGN.out.2).trans (HLANE.out yc hyn)
                      have hgl2 : gL < wy.heap.size := Nat.lt_of_lt_of_le HGN.out.2 HB5Y.out.size
                      cases hly : isL (at_ s yc) with
                      | true =>
                        rw [hly] at ly
                        have HLY : Hid (laneB s (yc : Int) = true) := Lib.hid (by unfold laneB; rw [bAt_in5 s yc hycs]; exact hly)
                        have HR2 := Lib.hid (HSOME.out ((yc : Int), lf, fs) (by unfold doB; rw [if_pos (show ((1 : Nat) = 1) from rfl), if_pos ⟨HBVN.out.symm, HP0.out, .inl HLY.out⟩]))
                        clear hly hyc
                        go_wp2_with fail
                        go_roundw
                        case rel => exact ⟨i + 1, (yc : Int), lf, fs, by omega, rfl, rfl, rfl, by go_num, HR2, HLF, HB5Y⟩
                        case measure => simp [intOf]; omega
                      | false =>
                        rw [hly] at ly
                        have HLY : Hid (laneB s (yc : Int) = false) := Lib.hid (by unfold laneB; rw [bAt_in5 s yc hycs]; exact hly)
                        clear hly hyc
                        by_cases hyd : (yc : Int) = (d : Int)
                        · have dyd : (((yc : Nat) : Int) != (d : Int)) = false := by rw [bne_eq_false_iff_eq]; exact hyd
                          have HR2 := Lib.hid (HSOME.out ((yc : Int), lf, fs) (by unfold doB; rw [if_pos (show ((1 : Nat) = 1) from rfl), if_pos ⟨HBVN.out.symm, HP0.out, .inr hyd⟩]))
                          clear hyd
                          go_wp2_with fail
                          go_roundw
                          case rel => exact ⟨i + 1, (yc : Int), lf, fs, by omega, rfl, rfl, rfl, by go_num, HR2, HLF, HB5Y⟩
                          case measure => simp [intOf]; omega
                        · have dyd : (((yc : Nat) : Int) != (d : Int)) = true := by rw [bne_iff_ne]; exact hyd
                          have HNO := Lib.hid (HNONE.out (by unfold doB; rw [if_pos (show ((1 : Nat) = 1) from rfl), if_neg (fun q => by rcases q.2.2 with h1 | h1; rw [HLY.out] at h1; cases h1; exact hyd h1)]))
                          clear hyd
                          go_wp2_with fail
                          go_ret
                          exact ⟨false, rfl, iff_of_false (by decide) HNO.out, HBF.out⟩
                    · have dp : (p != 0) = true := by rw [bne_iff_ne]; exact hp
                      have HNO := Lib.hid (HNONE.out (by unfold doB; rw [if_pos (show ((1 : Nat) = 1) from rfl), if_neg (fun q => hp q.2.1)]))
                      clear hp
                      go_wp2_with fail
                      go_ret
                      exact ⟨false, rfl, iff_of_false (by decide) HNO.out, HBF.out⟩
            · by_cases e2 : k = 2
              · subst e2
                obtain rfl : kk = 2 := by rw [← hkk]; rfl
                clear hkk e1
                by_cases hlf : 0 ≤ lf
                · have dlf : decide (0 ≤ lf) = true := decide_eq_true hlf
                  have HNO := Lib.hid (HNONE.out (by unfold doB; rw [if_neg (show ¬ ((2 : Nat) = 1) by decide), if_pos (show ((2 : Nat) = 2) from rfl), if_neg (fun q => by have h1 : lf < 0 := q.1; omega)]))
                  clear hlf
                  go_wp2_with fail
                  go_ret
                  exact ⟨false, rfl, iff_of_false (by decide) HNO.out, HBF.out⟩
                · have dlf : decide (0 ≤ lf) = false := decide_eq_false hlf
                  have HLF0 : Hid (lf < 0) := Lib.hid (by omega)
                  clear hlf
                  by_cases hcx : c = (kx : Int)
                  · have dcx : (c != (kx : Int)) = false := by rw [bne_eq_false_iff_eq]; exact hcx
                    have HCX := Lib.hid hcx
                    clear hcx
                    cases hlx : isL (at_ s kx) with
                    | false =>
                      rw [hlx] at lx
                      have HLX : Hid (laneB s (kx : Int) = false) := Lib.hid (by unfold laneB; rw [bAt_in5 s kx hkx]; exact hlx)
                      clear hlx
                      have HNO := Lib.hid (HNONE.out (by unfold doB; rw [if_neg (show ¬ ((2 : Nat) = 1) by decide), if_pos (show ((2 : Nat) = 2) from rfl), if_neg (fun q => by have h1 := q.2.2.1; rw [HLX.out] at h1; cases h1)]))
                      go_wp2_with fail
                      go_ret
                      exact ⟨false, rfl, iff_of_false (by decide) HNO.out, HBF.out⟩
                    | true =>
                      rw [hlx] at lx
                      have HLX : Hid (laneB s (kx : Int) = true) := Lib.hid (by unfold laneB; rw [bAt_in5 s kx hkx]; exact hlx)
                      clear hlx
                      by_cases hp0 : p < 0
                      · have dp0 : decide (p < 0) = true := decide_eq_true hp0
                        have HNO := Lib.hid (HNONE.out (by unfold doB; rw [if_neg (show ¬ ((2 : Nat) = 1) by decide), if_pos (show ((2 : Nat) = 2) from rfl), if_neg (fun q => by have h1 : isP p = true := q.2.2.2; unfold isP at h1; rw [Bool.and_eq_true, decide_eq_true_eq, decide_eq_true_eq] at h1; omega)]))
                        clear hp0
                        go_wp2_with fail
                        go_ret
                        exact ⟨false, rfl, iff_of_false (by decide) HNO.out, HBF.out⟩
                      · have dp0 : decide (p < 0) = false := decide_eq_false hp0
                        by_cases hp1 : 64 ≤ p
                        · have dp1 : decide (64 ≤ p) = true := decide_eq_true hp1
                          have HNO := Lib.hid (HNONE.out (by unfold doB; rw [if_neg (show ¬ ((2 : Nat) = 1) by decide), if_pos (show ((2 : Nat) = 2) from rfl), if_neg (fun q => by have h1 : isP p = true := q.2.2.2; unfold isP at h1; rw [Bool.and_eq_true, decide_eq_true_eq, decide_eq_true_eq] at h1; omega)]))
                          clear hp0 hp1
                          go_wp2_with fail
                          go_ret
                          exact ⟨false, rfl, iff_of_false (by decide) HNO.out, HBF.out⟩
                        · have dp1 : decide (64 ≤ p) = false := decide_eq_false hp1
                          have hpp : isP p = true := by unfold isP; rw [Bool.and_eq_true, decide_eq_true_eq, decide_eq_true_eq]; omega
                          have HLF2 : Hid (-1 ≤ (p : Int)) := Lib.hid (by omega)
                          have HR2 := Lib.hid (HSOME.out ((kx : Int), p, false) (by unfold doB; rw [if_neg (show ¬ ((2 : Nat) = 1) by decide), if_pos (show ((2 : Nat) = 2) from rfl), if_pos ⟨HLF0.out, HCX.out, HLX.out, hpp⟩]))
                          clear hp0 hp1 hpp
                          go_wp2_with fail
                          go_roundw
                          case rel => exact ⟨i + 1, (kx : Int), p, false, by omega, rfl, rfl, rfl, by go_num, HR2, HLF2, HBA⟩
                          case measure => simp [intOf]; omega
                  · have dcx : (c != (kx : Int)) = true := by rw [bne_iff_ne]; exact hcx
                    have HNO := Lib.hid (HNONE.out (by unfold doB; rw [if_neg (show ¬ ((2 : Nat) = 1) by decide), if_pos (show ((2 : Nat) = 2) from rfl), if_neg (fun q => hcx q.2.1)]))
                    clear hcx
                    go_wp2_with fail
                    go_ret
                    exact ⟨false, rfl, iff_of_false (by decide) HNO.out, HBF.out⟩
              · by_cases e3 : k = 3
                · subst e3
                  obtain rfl : kk = 3 := by rw [← hkk]; rfl
                  clear hkk e1 e2
                  by_cases hlf : 0 ≤ lf
                  · have dlf : decide (0 ≤ lf) = true := decide_eq_true hlf
                    have dlf2 : decide (lf < 0) = false := decide_eq_false (by omega)
                    by_cases hpl : lf = p
                    · have dpl : (lf != p) = false := by rw [bne_eq_false_iff_eq]; exact hpl
                      have HFS : Hid (fs = true ∨ 0 ≤ lf) := Lib.hid (.inr hlf)
                      have HPL : Hid (lf < 0 ∨ lf = p) := Lib.hid (.inr hpl)
                      clear hpl hlf
                      cases fs with
                      | true =>
                        by_cases hcx : c = (kx : Int)
                        · have dcx : (c != (kx : Int)) = false := by rw [bne_eq_false_iff_eq]; exact hcx
                          have HCX := Lib.hid hcx
                          clear hcx
                          cases hlx : isL (at_ s kx) with
                          | false =>
                            rw [hlx] at lx
                            have HLX : Hid (laneB s (kx : Int) = false) := Lib.hid (by unfold laneB; rw [bAt_in5 s kx hkx]; exact hlx)
                            clear hlx
                            have HNO := Lib.hid (HNONE.out (by unfold doB; rw [if_neg (show ¬ ((3 : Nat) = 1) by decide), if_neg (show ¬ ((3 : Nat) = 2) by decide), if_pos (show ((3 : Nat) = 3) from rfl), if_neg (fun q => by have h1 := q.2.2.2.1; rw [HLX.out] at h1; cases h1)]))
                            go_wp2_with fail
                            go_ret
                            exact ⟨false, rfl, iff_of_false (by decide) HNO.out, HBF.out⟩
                          | true =>
                            rw [hlx] at lx
                            have HLX : Hid (laneB s (kx : Int) = true) := Lib.hid (by unfold laneB; rw [bAt_in5 s kx hkx]; exact hlx)
                            clear hlx
                            by_cases hp0 : p < 0
                            · have dp0 : decide (p < 0) = true := decide_eq_true hp0
                              have HNO := Lib.hid (HNONE.out (by unfold doB; rw [if_neg (show ¬ ((3 : Nat) = 1) by decide), if_neg (show ¬ ((3 : Nat) = 2) by decide), if_pos (show ((3 : Nat) = 3) from rfl), if_neg (fun q => by have h1 : isP p = true := q.2.2.2.2; unfold isP at h1; rw [Bool.and_eq_true, decide_eq_true_eq, decide_eq_true_eq] at h1; omega)]))
                              clear hp0
                              go_wp2_with fail
                              go_ret
                              exact ⟨false, rfl, iff_of_false (by decide) HNO.out, HBF.out⟩
                            · have dp0 : decide (p < 0) = false := decide_eq_false hp0
                              by_cases hp1 : 64 ≤ p
                              · have dp1 : decide (64 ≤ p) = true := decide_eq_true hp1
                                have HNO := Lib.hid (HNONE.out (by unfold doB; rw [if_neg (show ¬ ((3 : Nat) = 1) by decide), if_neg (show ¬ ((3 : Nat) = 2) by decide), if_pos (show ((3 : Nat) = 3) from rfl), if_neg (fun q => by have h1 : isP p = true := q.2.2.2.2; unfold isP at h1; rw [Bool.and_eq_true, decide_eq_true_eq, decide_eq_true_eq] at h1; omega)]))
                                clear hp0 hp1
                                go_wp2_with fail
                                go_ret
                                exact ⟨false, rfl, iff_of_false (by decide) HNO.out, HBF.out⟩
                              · have dp1 : decide (64 ≤ p) = false := decide_eq_false hp1
                                have hpp : isP p = true := by unfold isP; rw [Bool.and_eq_true, decide_eq_true_eq, decide_eq_true_eq]; omega
                                have HLF2 : Hid (-1 ≤ (-1 : Int)) := Lib.hid (by omega)
                                have HR2 := Lib.hid (HSOME.out ((kx : Int), -1, false) (by unfold doB; rw [if_neg (show ¬ ((3 : Nat) = 1) by decide), if_neg (show ¬ ((3 : Nat) = 2) by decide), if_pos (show ((3 : Nat) = 3) from rfl), if_pos ⟨HFS.out, HPL.out, HCX.out, HLX.out, hpp⟩]))
                                clear hp0 hp1 hpp
                                go_wp2_with fail
                                go_roundw
                                case rel => exact ⟨i + 1, (kx : Int), -1, false, by omega, rfl, rfl, rfl, by go_num, HR2, HLF2, HBA⟩
                                case measure => simp [intOf]; omega
                        · have dcx : (c != (kx : Int)) = true := by rw [bne_iff_ne]; exact hcx
                          have HNO := Lib.hid (HNONE.out (by unfold doB; rw [if_neg (show ¬ ((3 : Nat) = 1) by decide), if_neg (show ¬ ((3 : Nat) = 2) by decide), if_pos (show ((3 : Nat) = 3) from rfl), if_neg (fun q => hcx q.2.2.1)]))
                          clear hcx
                          go_wp2_with fail
                          go_ret
                          exact ⟨false, rfl, iff_of_false (by decide) HNO.out, HBF.out⟩
                      | false =>
                        by_cases hcx : c = (kx : Int)
                        · have dcx : (c != (kx : Int)) = false := by rw [bne_eq_false_iff_eq]; exact hcx
                          have HCX := Lib.hid hcx
                          clear hcx
                          cases hlx : isL (at_ s kx) with
                          | false =>
                            rw [hlx] at lx
                            have HLX : Hid (laneB s (kx : Int) = false) := Lib.hid (by unfold laneB; rw [bAt_in5 s kx hkx]; exact hlx)
                            clear hlx
                            have HNO := Lib.hid (HNONE.out (by unfold doB; rw [if_neg (show ¬ ((3 : Nat) = 1) by decide), if_neg (show ¬ ((3 : Nat) = 2) by decide), if_pos (show ((3 : Nat) = 3) from rfl), if_neg (fun q => by have h1 := q.2.2.2.1; rw [HLX.out] at h1; cases h1)]))
                            go_wp2_with fail
                            go_ret
                            exact ⟨false, rfl, iff_of_false (by decide) HNO.out, HBF.out⟩
                          | true =>
                            rw [hlx] at lx
                            have HLX : Hid (laneB s (kx : Int) = true) := Lib.hid (by unfold laneB; rw [bAt_in5 s kx hkx]; exact hlx)
                            clear hlx
                            by_cases hp0 : p < 0
                            · have dp0 : decide (p < 0) = true := decide_eq_true hp0
                              have HNO := Lib.hid (HNONE.out (by unfold doB; rw [if_neg (show ¬ ((3 : Nat) = 1) by decide), if_neg (show ¬ ((3 : Nat) = 2) by decide), if_pos (show ((3 : Nat) = 3) from rfl), if_neg (fun q => by have h1 : isP p = true := q.2.2.2.2; unfold isP at h1; rw [Bool.and_eq_true, decide_eq_true_eq, decide_eq_true_eq] at h1; omega)]))
                              clear hp0
                              go_wp2_with fail
                              go_ret
                              exact ⟨false, rfl, iff_of_false (by decide) HNO.out, HBF.out⟩
                            · have dp0 : decide (p < 0) = false := decide_eq_false hp0
                              by_cases hp1 : 64 ≤ p
                              · have dp1 : decide (64 ≤ p) = true := decide_eq_true hp1
                                have HNO := Lib.hid (HNONE.out (by unfold doB; rw [if_neg (show ¬ ((3 : Nat) = 1) by decide), if_neg (show ¬ ((3 : Nat) = 2) by decide), if_pos (show ((3 : Nat) = 3) from rfl), if_neg (fun q => by have h1 : isP p = true := q.2.2.2.2; unfold isP at h1; rw [Bool.and_eq_true, decide_eq_true_eq, decide_eq_true_eq] at h1; omega)]))
                                clear hp0 hp1
                                go_wp2_with fail
                                go_ret
                                exact ⟨false, rfl, iff_of_false (by decide) HNO.out, HBF.out⟩
                              · have dp1 : decide (64 ≤ p) = false := decide_eq_false hp1
                                have hpp : isP p = true := by unfold isP; rw [Bool.and_eq_true, decide_eq_true_eq, decide_eq_true_eq]; omega
                                have HLF2 : Hid (-1 ≤ (-1 : Int)) := Lib.hid (by omega)
                                have HR2 := Lib.hid (HSOME.out ((kx : Int), -1, false) (by unfold doB; rw [if_neg (show ¬ ((3 : Nat) = 1) by decide), if_neg (show ¬ ((3 : Nat) = 2) by decide), if_pos (show ((3 : Nat) = 3) from rfl), if_pos ⟨HFS.out, HPL.out, HCX.out, HLX.out, hpp⟩]))
                                clear hp0 hp1 hpp
                                go_wp2_with fail
                                go_roundw
                                case rel => exact ⟨i + 1, (kx : Int), -1, false, by omega, rfl, rfl, rfl, by go_num, HR2, HLF2, HBA⟩
                                case measure => simp [intOf]; omega
                        · have dcx : (c != (kx : Int)) = true := by rw [bne_iff_ne]; exact hcx
                          have HNO := Lib.hid (HNONE.out (by unfold doB; rw [if_neg (show ¬ ((3 : Nat) = 1) by decide), if_neg (show ¬ ((3 : Nat) = 2) by decide), if_pos (show ((3 : Nat) = 3) from rfl), if_neg (fun q => hcx q.2.2.1)]))
                          clear hcx
                          go_wp2_with fail
                          go_ret
                          exact ⟨false, rfl, iff_of_false (by decide) HNO.out, HBF.out⟩
                    · have dpl : (lf != p) = true := by rw [bne_iff_ne]; exact hpl
                      have HNO := Lib.hid (HNONE.out (by unfold doB; rw [if_neg (show ¬ ((3 : Nat) = 1) by decide), if_neg (show ¬ ((3 : Nat) = 2) by decide), if_pos (show ((3 : Nat) = 3) from rfl), if_neg (fun q => by have h0 : lf < 0 ∨ lf = p := q.2.1; rcases h0 with h1 | h1; omega; exact hpl h1)]))
                      clear hpl hlf
                      cases fs with
                      | true =>
                        go_wp2_with fail
                        go_ret
                        exact ⟨false, rfl, iff_of_false (by decide) HNO.out, HBF.out⟩
                      | false =>
                        go_wp2_with fail
                        go_ret
                        exact ⟨false, rfl, iff_of_false (by decide) HNO.out, HBF.out⟩
                  · have dlf : decide (0 ≤ lf) = false := decide_eq_false hlf
                    have dlf2 : decide (lf < 0) = true := decide_eq_true (by omega)
                    cases fs with
                    | true =>
                      have HFS : Hid (true = true ∨ 0 ≤ lf) := Lib.hid (.inl rfl)
                      have HPL : Hid (lf < 0 ∨ lf = p) := Lib.hid (.inl (by omega))
                      clear hlf
                      by_cases hcx : c = (kx : Int)
                      · have dcx : (c != (kx : Int)) = false := by rw [bne_eq_false_iff_eq]; exact hcx
                        have HCX := Lib.hid hcx
                        clear hcx
                        cases hlx : isL (at_ s kx) with
                        | false =>
                          rw [hlx] at lx
                          have HLX : Hid (laneB s (kx : Int) = false) := Lib.hid (by unfold laneB; rw [bAt_in5 s kx hkx]; exact hlx)
                          clear hlx
                          have HNO := Lib.hid (HNONE.out (by unfold doB; rw [if_neg (show ¬ ((3 : Nat) = 1) by decide), if_neg (show ¬ ((3 : Nat) = 2) by decide), if_pos (show ((3 : Nat) = 3) from rfl), if_neg (fun q => by have h1 := q.2.2.2.1; rw [HLX.out] at h1; cases h1)]))
                          go_wp2_with fail
                          go_ret
                          exact ⟨false, rfl, iff_of_false (by decide) HNO.out, HBF.out⟩
                        | true =>
                          rw [hlx] at lx
                          have HLX : Hid (laneB s (kx : Int) = true) := Lib.hid (by unfold laneB; rw [bAt_in5 s kx hkx]; exact hlx)
                          clear hlx
                          by_cases hp0 : p < 0
                          · have dp0 : decide (p < 0) = true := decide_eq_true hp0
                            have HNO := Lib.hid (HNONE.out (by unfold doB; rw [if_neg (show ¬ ((3 : Nat) = 1) by decide), if_neg (show ¬ ((3 : Nat) = 2) by decide), if_pos (show ((3 : Nat) = 3) from rfl), if_neg (fun q => by have h1 : isP p = true := q.2.2.2.2; unfold isP at h1; rw [Bool.and_eq_true, decide_eq_true_eq, decide_eq_true_eq] at h1; omega)]))
                            clear hp0
                            go_wp2_with fail
                            go_ret
                            exact ⟨false, rfl, iff_of_false (by decide) HNO.out, HBF.out⟩
                          · have dp0 : decide (p < 0) = false := decide_eq_false hp0
                            by_cases hp1 : 64 ≤ p
                            · have dp1 : decide (64 ≤ p) = true := decide_eq_true hp1
                              have HNO := Lib.hid (HNONE.out (by unfold doB; rw [if_neg (show ¬ ((3 : Nat) = 1) by decide), if_neg (show ¬ ((3 : Nat) = 2) by decide), if_pos (show ((3 : Nat) = 3) from rfl), if_neg (fun q => by have h1 : isP p = true := q.2.2.2.2; unfold isP at h1; rw [Bool.and_eq_true, decide_eq_true_eq, decide_eq_true_eq] at h1; omega)]))
                              clear hp0 hp1
                              go_wp2_with fail
                              go_ret
                              exact ⟨false, rfl, iff_of_false (by decide) HNO.out, HBF.out⟩
                            · have dp1 : decide (64 ≤ p) = false := decide_eq_false hp1
                              have hpp : isP p = true := by unfold isP; rw [Bool.and_eq_true, decide_eq_true_eq, decide_eq_true_eq]; omega
                              have HLF2 : Hid (-1 ≤ (-1 : Int)) := Lib.hid (by omega)
                              have HR2 := Lib.hid (HSOME.out ((kx : Int), -1, false) (by unfold doB; rw [if_neg (show ¬ ((3 : Nat) = 1) by decide), if_neg (show ¬ ((3 : Nat) = 2) by decide), if_pos (show ((3 : Nat) = 3) from rfl), if_pos ⟨HFS.out, HPL.out, HCX.out, HLX.out, hpp⟩]))
                              clear hp0 hp1 hpp
                              go_wp2_with fail
                              go_roundw
                              case rel => exact ⟨i + 1, (kx : Int), -1, false, by omega, rfl, rfl, rfl, by go_num, HR2, HLF2, HBA⟩
                              case measure => simp [intOf]; omega
                      · have dcx : (c != (kx : Int)) = true := by rw [bne_iff_ne]; exact hcx
                        have HNO := Lib.hid (HNONE.out (by unfold doB; rw [if_neg (show ¬ ((3 : Nat) = 1) by decide), if_neg (show ¬ ((3 : Nat) = 2) by decide), if_pos (show ((3 : Nat) = 3) from rfl), if_neg (fun q => hcx q.2.2.1)]))
                        clear hcx
                        go_wp2_with fail
                        go_ret
                        exact ⟨false, rfl, iff_of_false (by decide) HNO.out, HBF.out⟩
                    | false =>
                      have HNO := Lib.hid (HNONE.out (by unfold doB; rw [if_neg (show ¬ ((3 : Nat) = 1) by decide), if_neg (show ¬ ((3 : Nat) = 2) by decide), if_pos (show ((3 : Nat) = 3) from rfl), if_neg (fun q => by have h0 : false = true ∨ 0 ≤ lf := q.1; rcases h0 with h1 | h1; cases h1; omega)]))
                      clear hlf
                      go_wp2_with fail
                      go_ret
                      exact ⟨false, rfl, iff_of_false (by decide) HNO.out, HBF.out⟩
                · have d1 : (kk == 1) = false := by rw [beq_eq_false_iff_ne]; omega
                  have d2 : (kk == 2) = false := by rw [beq_eq_false_iff_ne]; omega
                  have d3 : (kk == 3) = false := by rw [beq_eq_false_iff_ne]; omega
                  have HNO := Lib.hid (HNONE.out (by unfold doB; rw [if_neg e1, if_neg e2, if_neg e3]))
                  clear e1 e2 e3 hkk
                  go_wp2_with fail
                  go_ret
                  exact ⟨false, rfl, iff_of_false (by decide) HNO.out, HBF.out⟩
          · obtain rfl : i = n := by omega
            have HRA : Hid (runB (nearB W H s) (laneB s) (d : Int) L (a, -1, true) = some (x, lf, fs)) := Lib.hid (by have h1 := HR.out; rw [List.take_of_length_le (by omega)] at h1; exact h1)
            have HBW := Lib.hid (HB5.out.trans (HB.out.mono HB5.out.size))
            by_cases hxd : x = (d : Int)
            · have dxd : (x == (d : Int)) = true := by rw [beq_iff_eq]; exact hxd
              by_cases hlf : lf < 0
              · have dlf : decide (lf < 0) = true := decide_eq_true hlf
                have HYES := Lib.hid (HRB.out.2 ⟨lf, fs, by rw [HRA.out, hxd], hlf⟩)
                clear hxd hlf
                go_wp2_with fail
                go_ret
                exact ⟨true, by first | rfl | simp, iff_of_true rfl HYES.out, HBW.out⟩
              · have dlf : decide (lf < 0) = false := decide_eq_false hlf
                have HNO : Hid (¬ RightIs W H s r a L) := Lib.hid (fun q => by
                  obtain ⟨y, f, h1, h2⟩ := HRB.out.1 q
                  rw [HRA.out] at h1
                  injection h1 with h1
                  injection h1 with _ h1
                  injection h1 with h1 _
                  omega)
                clear hxd hlf
                go_wp2_with fail
                go_ret
                exact ⟨false, by first | rfl | simp, iff_of_false (by decide) HNO.out, HBW.out⟩
            · have dxd : (x == (d : Int)) = false := by rw [beq_eq_false_iff_ne]; exact hxd
              have HNO : Hid (¬ RightIs W H s r a L) := Lib.hid (fun q => by
                obtain ⟨y, f, h1, h2⟩ := HRB.out.1 q
                rw [HRA.out] at h1
                injection h1 with h1
                injection h1 with h1 _
                exact hxd h1)
              clear hxd
              go_wp2_with fail
              go_ret
              exact ⟨false, by first | rfl | simp, iff_of_false (by decide) HNO.out, HBW.out⟩
    | false =>
      have HNL : Hid (¬ laneB s a = true) := Lib.hid (fun k => by have := (HA1.out ⟨HROB.out.1, k⟩).2; cases this)
      clear HA1 HA2
      by_cases had : a = (d : Int)
      · have dad : (a != (d : Int)) = false := by rw [bne_eq_false_iff_eq]; exact had
        have HAD : Hid (a = (d : Int) ∨ laneB s a = true) := Lib.hid (.inl had)
        clear had HNL
        by_cases hlong : 1024 < n
        · have hlI : (1024 : Int) < (n : Int) := by omega
          go_wp2_with fail
          go_ret
          exact ⟨false, rfl, iff_of_false (by decide) (fun ⟨d, _, _, _, q, _⟩ => by omega), HX2.out.below⟩
        · have hlI : ¬ (1024 : Int) < (n : Int) := by omega
          have HRB := Lib.hid (right_B HROB.out HF.out HAD.out (show L.length ≤ 1024 by omega))
          go_wp2_with fail
          refine (HOF.out _).mono ?_
          rintro e w4 ⟨AN, nn, cN, AL, cL, AO, cO, rfl, hb4, hmap, _⟩
          have HM4 := Lib.hid (hmap HROB.out.1)
          have HX4 := Lib.hid (HX2.out.after hb4)
          have hal5 := (Below.refl w4.heap.size w4).alloc (Nat.le_refl _) (.cells #[.slice AN nn cN, .slice AL nn cL, .slice AO nn cO] 142)
          obtain ⟨w5, hw5⟩ : ∃ w5, w5 = w4.alloc (.cells #[.slice AN nn cN, .slice AL nn cL, .slice AO nn cO] 142) := ⟨_, rfl⟩
          have hrow : w5.heap[w4.heap.size]? = some (.cells #[.slice AN nn cN, .slice AL nn cL, .slice AO nn cO] 142 (0, 0)) := by rw [hw5]; exact heap_alloc_new w4 _
          rw [← hw5] at hal5
          have HM5 := Lib.hid (HM4.out.later hal5)
          have HB5 := Lib.hid (HX4.out.after hal5).below
          have HMX : Hid (MX w4.heap.size AN AL AO nn cN cL cO w5) := Lib.hid ⟨by rw [cell_of_row w5 _ 0 _ _ _ hrow]; rfl, by rw [cell_of_row w5 _ 1 _ _ _ hrow]; rfl, by rw [cell_of_row w5 _ 2 _ _ _ hrow]; rfl, lt_of_heap hrow⟩
          clear hb4 hmap hal5 hrow c0 c1 c2 HM4
          go_wp2_with fail
          rw [← hw5]
          obtain ⟨MB, hMB⟩ : ∃ MB, MB = w4.heap.size := ⟨_, rfl⟩
          rw [← hMB] at HMX ⊢
          clear hw5 hMB HX4
          obtain ⟨gN, rfl, hgN, hNear⟩ := HM5.out.near
          obtain ⟨gL, rfl, hgL, hLane⟩ := HM5.out.lane
          have hnn : nn = s.size := HM5.out.sz
          have hcN := HM5.out.caps.1
          have hcL := HM5.out.caps.2.1
          have HNEAR := Lib.hid hNear
          have HLANE := Lib.hid hLane
          have HGN := Lib.hid (And.intro hgN hgL)
          obtain ⟨hcN1, hcN2⟩ := hcN
          obtain ⟨hcL1, hcL2⟩ := hcL
          unfold maxLen at hcN2 hcL2
          have HNN := Lib.hid hnn
          clear hNear hLane hnn hgN hgL HM5
          go_loopw [2, 14, 15, 16] (fun av lv fv iv wr => ∃ (i : Nat) (x lf : Int) (fs : Bool), i ≤ n ∧ av = .int .i64 x ∧ lv = .int .i64 lf ∧ fv = .bool fs ∧ iv = .int .i64 (i : Int) ∧ Hid (runB (nearB W H s) (laneB s) (d : Int) (L.take i) (a, -1, true) = some (x, lf, fs)) ∧ Hid (-1 ≤ lf) ∧ Hid (Below w5.heap.size w5 wr)) (fun _ _ _ iv _ => n - (intOf iv).toNat)
          case atStart => exact ⟨0, a, -1, true, Nat.zero_le _, rfl, rfl, rfl, rfl, Lib.hid rfl, Lib.hid (Int.le_refl _), Lib.hid (Below.refl _ _)⟩
          case round =>
            rename World => wr
            obtain ⟨i, x, lf, fs, hi, rfl, rfl, rfl, rfl, HR, HLF, HB⟩ := hrel
            by_cases hlt : i < n
            · have HBW := Lib.hid (HB5.out.trans (HB.out.mono HB5.out.size))
              obtain ⟨g, off, rfl, hg, k0, k1, k2⟩ := (HL.out.below HBW.out).cell hlt
              have hiI : (i : Int) < (n : Int) := by omega
              have hg2 : g < wr.heap.size := Nat.lt_of_lt_of_le hg HBW.out.size
              have HGE := Lib.hid (run_stepB L i (by omega) HR.out)
              have HON := Lib.hid (on_dock HROB.out.1 HF.out (rob_lt HROB.out) (runB_place _ HR.out HAD.out))
              generalize L.getD i (0, 0, 0) = ac at *
              obtain ⟨k, c, p⟩ := ac
              have k0' : wr.cell? ⟨g, off + i * 3, none⟩ = some (.int .u8 (k : Int)) := k0
              have k1' : wr.cell? ⟨g, off + i * 3 + 1, none⟩ = some (.int .i64 c) := k1
              have k2' : wr.cell? ⟨g, off + i * 3 + 2, none⟩ = some (.int .i64 p) := k2
              clear k0 k1 k2
              have HNONE : Hid (doB (nearB W H s) (laneB s) (d : Int) (x, lf, fs) (k, c, p) = none → ¬ RightIs W H s r a L) := Lib.hid (fun hdo hri => by
                have h1 := HGE.out
                rw [hdo] at h1
                obtain ⟨y, f, q, _⟩ := HRB.out.1 hri
                rw [h1] at q; cases q)
              have HSOME : Hid (∀ u, doB (nearB W H s) (laneB s) (d : Int) (x, lf, fs) (k, c, p) = some u → runB (nearB W H s) (laneB s) (d : Int) (L.take (i + 1)) (a, -1, true) = some u) := Lib.hid (fun u hdo => by
                have h1 := HGE.out
                rw [hdo] at h1
                exact h1)
              obtain ⟨kx, hxk, hkx, hnr⟩ := nrw_near HON.out.2
              subst hxk
              have hal := (Below.refl wr.heap.size wr).alloc (Nat.le_refl _) (.cells #[.int .u8 (k : Int), .int .i64 c, .int .i64 p] 39)
              have HBA := Lib.hid (HB.out.trans (hal.mono HB.out.size))
              have HBF := Lib.hid (HBW.out.trans (hal.mono HBW.out.size))
              have HYA : Hid (Bx wr.heap.size (k : Int) c p (wr.alloc (.cells #[.int .u8 (k : Int), .int .i64 c, .int .i64 p] 39))) := Lib.hid (heap_alloc_new wr _)
              have m0 := (HMX.out.later HBA.out).c0
              have m1 := (HMX.out.later HBA.out).c1
              have ml := (HMX.out.later HBA.out).lt
              have lx : (wr.alloc (.cells #[.int .u8 (k : Int), .int .i64 c, .int .i64 p] 39)).cell? ⟨gL, kx, none⟩ = some (.bool (isL (at_ s kx))) := (HBA.out.cell (p := ⟨gL, kx, none⟩) HGN.out.2).trans (HLANE.out kx (by rw [HNN.out]; exact hkx))
              have ll : gL < (wr.alloc (.cells #[.int .u8 (k : Int), .int .i64 c, .int .i64 p] 39)).heap.size := Nat.lt_of_lt_of_le HGN.out.2 HBA.out.size
              have hkn : kx < nn := by rw [HNN.out]; exact hkx
              clear hal HGE
              obtain ⟨y0, y1, y2, yl⟩ := HYA.out.cells
              generalize hkk : (k : Int) = kk at *
              by_cases e1 : k = 1
              · subst e1
                obtain rfl : kk = 1 := by rw [← hkk]; rfl
                clear hkk
                obtain ⟨Ak, ck, hkc, hki⟩ := HNEAR.out kx hkn
                rw [hnr] at hkc hki
                have HKI := Lib.hid hki
                have HKC := Lib.hid hkc
                have hck := hki.le
                have hck2 : ck ≤ 9223372036854775807 := by have := hki.max; unfold maxLen at this; omega
                obtain ⟨nk, hnk⟩ : ∃ nk, nk = (nears W H s (kx : Int)).length := ⟨_, rfl⟩
                have HNK := Lib.hid hnk
                rw [← hnk] at HKI HKC hck
                clear hki hkc hnr hnk
                go_wp2_with fail
                clear k0' k1' k2' y0 y1 y2 yl m0 m1 ml lx ll
                generalize hwA : wr.alloc (.cells #[.int .u8 1, .int .i64 c, .int .i64 p] 39) = wA at *
                have HYA : Hid (Bx wr.heap.size 1 c p wA) := HYA
                generalize wr.heap.size = E at *
                clear hwA
                go_loopw [18, 19] (fun nv iv wy => ∃ (j : Nat) (bv : Bool), j ≤ nk ∧ nv = .bool bv ∧ iv = .int .i64 (j : Int) ∧ Hid (bv = ((nears W H s (kx : Int)).take j).any fun z => ((z : Nat) : Int) == c) ∧ Hid (Below wA.heap.size wA wy)) (fun _ iv _ => nk - (intOf iv).toNat)
                case atStart => exact ⟨0, false, Nat.zero_le _, rfl, rfl, Lib.hid (by simp), Lib.hid (Below.refl _ _)⟩
                case round =>
                  rename World => wy
                  obtain ⟨j, bv, hj, rfl, rfl, HBV, HBY⟩ := hrel
                  have HB5Y := Lib.hid (HBA.out.trans (HBY.out.mono HBA.out.size))
                  have m0 := (HMX.out.later HB5Y.out).c0
                  have m1 := (HMX.out.later HB5Y.out).c1
                  have ml := (HMX.out.later HB5Y.out).lt
                  have hkc : wy.cell? ⟨gN, kx, none⟩ = some (.slice Ak nk ck) := (HB5Y.out.cell (p := ⟨gN, kx, none⟩) HGN.out.1).trans HKC.out
                  have hgn2 : gN < wy.heap.size := Nat.lt_of_lt_of_le HGN.out.1 HB5Y.out.size
                  obtain ⟨_, y1, y2, yl⟩ := (HYA.out.later HBY.out).cells
                  by_cases hlt2 : j < nk
                  · obtain ⟨g5, o5, rfl, hg5, hc5⟩ := (HKI.out.below HB5Y.out).cell (by omega)
                    have hcj := hc5 j hlt2
                    have hjI : (j : Int) < (nk : Int) := by omega
                    have hg5' : g5 < wy.heap.size := Nat.lt_of_lt_of_le hg5 HB5Y.out.size
                    have HNT := Lib.hid (near_takeB (nears W H s (kx : Int)) j (by rw [← HNK.out]; exact hlt2) c)
                    clear hc5
                    generalize (nears W H s (kx : Int)).getD j 0 = zn at *
                    cases bv with
                    | true =>
                      have HBV2 : Hid (true = ((nears W H s (kx : Int)).take (j + 1)).any fun z => ((z : Nat) : Int) == c) := Lib.hid (by rw [HNT.out, ← HBV.out]; rfl)
                      go_wp2_with fail
                      go_big_quiet (fail)
                      go_wp2_with fail
                      go_roundw
                      case rel => exact ⟨j + 1, true, by omega, rfl, by go_num, HBV2, Lib.hid (HBY.out.trans (below_drewN _ _ _))⟩
                      case measure => simp [intOf]; omega
                    | false =>
                      have HBV2 : Hid ((((zn : Nat) : Int) == c) = ((nears W H s (kx : Int)).take (j + 1)).any fun z => ((z : Nat) : Int) == c) := Lib.hid (by rw [HNT.out, ← HBV.out]; rfl)
                      by_cases hzc : (zn : Int) = c
                      · have dz : (((zn : Nat) : Int) == c) = true := by rw [beq_iff_eq]; exact hzc
                        rw [dz] at HBV2
                        clear hzc
                        go_wp2_with fail
                        go_big_quiet (fail)
                        go_wp2_with fail
                        go_roundw
                        case rel => exact ⟨j + 1, true, by omega, rfl, by go_num, HBV2, Lib.hid (HBY.out.trans (below_drewN _ _ _))⟩
                        case measure => simp [intOf]; omega
                      · have dz : (((zn : Nat) : Int) == c) = false := by rw [beq_eq_false_iff_ne]; exact hzc
                        rw [dz] at HBV2
                        clear hzc
                        go_wp2_with fail
                        go_big_quiet (fail)
                        go_wp2_with fail
                        go_roundw
                        case rel => exact ⟨j + 1, false, by omega, rfl, by go_num, HBV2, Lib.hid (HBY.out.trans (below_drewN _ _ _))⟩
                        case measure => simp [intOf]; omega
                  · obtain rfl : j = nk := by omega
                    have HBVN : Hid (bv = nearB W H s (kx : Int) c) := Lib.hid (by
                      have h1 := HBV.out
                      rw [List.take_of_length_le (by rw [← HNK.out]; exact Nat.le_refl _), near_any_take] at h1
                      exact h1)
                    have HBF := Lib.hid (HBF.out.trans (HBY.out.mono HBF.out.size))
                    cases bv with
                    | false =>
                      have HNO := Lib.hid (HNONE.out (by unfold doB; rw [if_pos (show ((1 : Nat) = 1) from rfl), if_neg (fun q => by have h1 := q.1; rw [← HBVN.out] at h1; cases h1)]))
                      go_wp2_with fail
                      go_ret
                      exact ⟨false, rfl, iff_of_false (by decide) HNO.out, HBF.out⟩
                    | true =>
                      by_cases hp : p = 0
                      · have dp : (p != 0) = false := by rw [bne_eq_false_iff_eq]; exact hp
                        have HP0 := Lib.hid hp
                        clear hp
                        obtain ⟨yc, hyc, hce⟩ := nearB_iff.1 HBVN.out.symm
                        have hycs : yc < s.size := (near_sym HROB.out.1 HON.out.2 hyc).2
                        subst hce
                        have hyn : yc < nn := by rw [HNN.out]; exact hycs
                        have ly : wy.cell? ⟨gL, yc, none⟩ = some (.bool (isL (at_ s yc))) := (HB5Y.out.cell (p := ⟨gL, yc, none⟩) HGN.out.2).trans (HLANE.out yc hyn)
                        have hgl2 : gL < wy.heap.size := Nat.lt_of_lt_of_le HGN.out.2 HB5Y.out.size
                        cases hly : isL (at_ s yc) with
                        | true =>
                          rw [hly] at ly
                          have HLY : Hid (laneB s (yc : Int) = true) := Lib.hid (by unfold laneB; rw [bAt_in5 s yc hycs]; exact hly)
                          have HR2 := Lib.hid (HSOME.out ((yc : Int), lf, fs) (by unfold doB; rw [if_pos (show ((1 : Nat) = 1) from rfl), if_pos ⟨HBVN.out.symm, HP0.out, .inl HLY.out⟩]))
                          clear hly hyc
                          go_wp2_with fail
                          go_roundw
                          case rel => exact ⟨i + 1, (yc : Int), lf, fs, by omega, rfl, rfl, rfl, by go_num, HR2, HLF, HB5Y⟩
                          case measure => simp [intOf]; omega
                        | false =>
                          rw [hly] at ly
                          have HLY : Hid (laneB s (yc : Int) = false) := Lib.hid (by unfold laneB; rw [bAt_in5 s yc hycs]; exact hly)
                          clear hly hyc
                          by_cases hyd : (yc : Int) = (d : Int)
                          · have dyd : (((yc : Nat) : Int) != (d : Int)) = false := by rw [bne_eq_false_iff_eq]; exact hyd
                            have HR2 := Lib.hid (HSOME.out ((yc : Int), lf, fs) (by unfold doB; rw [if_pos (show ((1 : Nat) = 1) from rfl), if_pos ⟨HBVN.out.symm, HP0.out, .inr hyd⟩]))
                            clear hyd
                            go_wp2_with fail
                            go_roundw
                            case rel => exact ⟨i + 1, (yc : Int), lf, fs, by omega, rfl, rfl, rfl, by go_num, HR2, HLF, HB5Y⟩
                            case measure => simp [intOf]; omega
                          · have dyd : (((yc : Nat) : Int) != (d : Int)) = true := by rw [bne_iff_ne]; exact hyd
                            have HNO := Lib.hid (HNONE.out (by unfold doB; rw [if_pos (show ((1 : Nat) = 1) from rfl), if_neg (fun q => by rcases q.2.2 with h1 | h1; rw [HLY.out] at h1; cases h1; exact hyd h1)]))
                            clear hyd
                            go_wp2_with fail
                            go_ret
                            exact ⟨false, rfl, iff_of_false (by decide) HNO.out, HBF.out⟩
                      · have dp : (p != 0) = true := by rw [bne_iff_ne]; exact hp
                        have HNO := Lib.hid (HNONE.out (by unfold doB; rw [if_pos (show ((1 : Nat) = 1) from rfl), if_neg (fun q => hp q.2.1)]))
                        clear hp
                        go_wp2_with fail
                        go_ret
                        exact ⟨false, rfl, iff_of_false (by decide) HNO.out, HBF.out⟩
              · by_cases e2 : k = 2
                · subst e2
                  obtain rfl : kk = 2 := by rw [← hkk]; rfl
                  clear hkk e1
                  by_cases hlf : 0 ≤ lf
                  · have dlf : decide (0 ≤ lf) = true := decide_eq_true hlf
                    have HNO := Lib.hid (HNONE.out (by unfold doB; rw [if_neg (show ¬ ((2 : Nat) = 1) by decide), if_pos (show ((2 : Nat) = 2) from rfl), if_neg (fun q => by have h1 : lf < 0 := q.1; omega)]))
                    clear hlf
                    go_wp2_with fail
                    go_ret
                    exact ⟨false, rfl, iff_of_false (by decide) HNO.out, HBF.out⟩
                  · have dlf : decide (0 ≤ lf) = false := decide_eq_false hlf
                    have HLF0 : Hid (lf < 0) := Lib.hid (by omega)
                    clear hlf
                    by_cases hcx : c = (kx : Int)
                    · have dcx : (c != (kx : Int)) = false := by rw [bne_eq_false_iff_eq]; exact hcx
                      have HCX := Lib.hid hcx
                      clear hcx
                      cases hlx : isL (at_ s kx) with
                      | false =>
                        rw [hlx] at lx
                        have HLX : Hid (laneB s (kx : Int) = false) := Lib.hid (by unfold laneB; rw [bAt_in5 s kx hkx]; exact hlx)
                        clear hlx
                        have HNO := Lib.hid (HNONE.out (by unfold doB; rw [if_neg (show ¬ ((2 : Nat) = 1) by decide), if_pos (show ((2 : Nat) = 2) from rfl), if_neg (fun q => by have h1 := q.2.2.1; rw [HLX.out] at h1; cases h1)]))
                        go_wp2_with fail
                        go_ret
                        exact ⟨false, rfl, iff_of_false (by decide) HNO.out, HBF.out⟩
                      | true =>
                        rw [hlx] at lx
                        have HLX : Hid (laneB s (kx : Int) = true) := Lib.hid (by unfold laneB; rw [bAt_in5 s kx hkx]; exact hlx)
                        clear hlx
                        by_cases hp0 : p < 0
                        · have dp0 : decide (p < 0) = true := decide_eq_true hp0
                          have HNO := Lib.hid (HNONE.out (by unfold doB; rw [if_neg (show ¬ ((2 : Nat) = 1) by decide), if_pos (show ((2 : Nat) = 2) from rfl), if_neg (fun q => by have h1 : isP p = true := q.2.2.2; unfold isP at h1; rw [Bool.and_eq_true, decide_eq_true_eq, decide_eq_true_eq] at h1; omega)]))
                          clear hp0
                          go_wp2_with fail
                          go_ret
                          exact ⟨false, rfl, iff_of_false (by decide) HNO.out, HBF.out⟩
                        · have dp0 : decide (p < 0) = false := decide_eq_false hp0
                          by_cases hp1 : 64 ≤ p
                          · have dp1 : decide (64 ≤ p) = true := decide_eq_true hp1
                            have HNO := Lib.hid (HNONE.out (by unfold doB; rw [if_neg (show ¬ ((2 : Nat) = 1) by decide), if_pos (show ((2 : Nat) = 2) from rfl), if_neg (fun q => by have h1 : isP p = true := q.2.2.2; unfold isP at h1; rw [Bool.and_eq_true, decide_eq_true_eq, decide_eq_true_eq] at h1; omega)]))
                            clear hp0 hp1
                            go_wp2_with fail
                            go_ret
                            exact ⟨false, rfl, iff_of_false (by decide) HNO.out, HBF.out⟩
                          · have dp1 : decide (64 ≤ p) = false := decide_eq_false hp1
                            have hpp : isP p = true := by unfold isP; rw [Bool.and_eq_true, decide_eq_true_eq, decide_eq_true_eq]; omega
                            have HLF2 : Hid (-1 ≤ (p : Int)) := Lib.hid (by omega)
                            have HR2 := Lib.hid (HSOME.out ((kx : Int), p, false) (by unfold doB; rw [if_neg (show ¬ ((2 : Nat) = 1) by decide), if_pos (show ((2 : Nat) = 2) from rfl), if_pos ⟨HLF0.out, HCX.out, HLX.out, hpp⟩]))
                            clear hp0 hp1 hpp
                            go_wp2_with fail
                            go_roundw
                            case rel => exact ⟨i + 1, (kx : Int), p, false, by omega, rfl, rfl, rfl, by go_num, HR2, HLF2, HBA⟩
                            case measure => simp [intOf]; omega
                    · have dcx : (c != (kx : Int)) = true := by rw [bne_iff_ne]; exact hcx
                      have HNO := Lib.hid (HNONE.out (by unfold doB; rw [if_neg (show ¬ ((2 : Nat) = 1) by decide), if_pos (show ((2 : Nat) = 2) from rfl), if_neg (fun q => hcx q.2.1)]))
                      clear hcx
                      go_wp2_with fail
                      go_ret
                      exact ⟨false, rfl, iff_of_false (by decide) HNO.out, HBF.out⟩
                · by_cases e3 : k = 3
                  · subst e3
                    obtain rfl : kk = 3 := by rw [← hkk]; rfl
                    clear hkk e1 e2
                    by_cases hlf : 0 ≤ lf
                    · have dlf : decide (0 ≤ lf) = true := decide_eq_true hlf
                      have dlf2 : decide (lf < 0) = false := decide_eq_false (by omega)
                      by_cases hpl : lf = p
                      · have dpl : (lf != p) = false := by rw [bne_eq_false_iff_eq]; exact hpl
                        have HFS : Hid (fs = true ∨ 0 ≤ lf) := Lib.hid (.inr hlf)
                        have HPL : Hid (lf < 0 ∨ lf = p) := Lib.hid (.inr hpl)
                        clear hpl hlf
                        cases fs with
                        | true =>
                          by_cases hcx : c = (kx : Int)
                          · have dcx : (c != (kx : Int)) = false := by rw [bne_eq_false_iff_eq]; exact hcx
                            have HCX := Lib.hid hcx
                            clear hcx
                            cases hlx : isL (at_ s kx) with
                            | false =>
                              rw [hlx] at lx
                              have HLX : Hid (laneB s (kx : Int) = false) := Lib.hid (by unfold laneB; rw [bAt_in5 s kx hkx]; exact hlx)
                              clear hlx
                              have HNO := Lib.hid (HNONE.out (by unfold doB; rw [if_neg (show ¬ ((3 : Nat) = 1) by decide), if_neg (show ¬ ((3 : Nat) = 2) by decide), if_pos (show ((3 : Nat) = 3) from rfl), if_neg (fun q => by have h1 := q.2.2.2.1; rw [HLX.out] at h1; cases h1)]))
                              go_wp2_with fail
                              go_ret
                              exact ⟨false, rfl, iff_of_false (by decide) HNO.out, HBF.out⟩
                            | true =>
                              rw [hlx] at lx
                              have HLX : Hid (laneB s (kx : Int) = true) := Lib.hid (by unfold laneB; rw [bAt_in5 s kx hkx]; exact hlx)
                              clear hlx
                              by_cases hp0 : p < 0
                              · have dp0 : decide (p < 0) = true := decide_eq_true hp0
                                have HNO := Lib.hid (HNONE.out (by unfold doB; rw [if_neg (show ¬ ((3 : Nat) = 1) by decide), if_neg (show ¬ ((3 : Nat) = 2) by decide), if_pos (show ((3 : Nat) = 3) from rfl), if_neg (fun q => by have h1 : isP p = true := q.2.2.2.2; unfold isP at h1; rw [Bool.and_eq_true, decide_eq_true_eq, decide_eq_true_eq] at h1; omega)]))
                                clear hp0
                                go_wp2_with fail
                                go_ret
                                exact ⟨false, rfl, iff_of_false (by decide) HNO.out, HBF.out⟩
                              · have dp0 : decide (p < 0) = false := decide_eq_false hp0
                                by_cases hp1 : 64 ≤ p
                                · have dp1 : decide (64 ≤ p) = true := decide_eq_true hp1
                                  have HNO := Lib.hid (HNONE.out (by unfold doB; rw [if_neg (show ¬ ((3 : Nat) = 1) by decide), if_neg (show ¬ ((3 : Nat) = 2) by decide), if_pos (show ((3 : Nat) = 3) from rfl), if_neg (fun q => by have h1 : isP p = true := q.2.2.2.2; unfold isP at h1; rw [Bool.and_eq_true, decide_eq_true_eq, decide_eq_true_eq] at h1; omega)]))
                                  clear hp0 hp1
                                  go_wp2_with fail
                                  go_ret
                                  exact ⟨false, rfl, iff_of_false (by decide) HNO.out, HBF.out⟩
                                · have dp1 : decide (64 ≤ p) = false := decide_eq_false hp1
                                  have hpp : isP p = true := by unfold isP; rw [Bool.and_eq_true, decide_eq_true_eq, decide_eq_true_eq]; omega
                                  have HLF2 : Hid (-1 ≤ (-1 : Int)) := Lib.hid (by omega)
                                  have HR2 := Lib.hid (HSOME.out ((kx : Int), -1, false) (by unfold doB; rw [if_neg (show ¬ ((3 : Nat) = 1) by decide), if_neg (show ¬ ((3 : Nat) = 2) by decide), if_pos (show ((3 : Nat) = 3) from rfl), if_pos ⟨HFS.out, HPL.out, HCX.out, HLX.out, hpp⟩]))
                                  clear hp0 hp1 hpp
                                  go_wp2_with fail
                                  go_roundw
                                  case rel => exact ⟨i + 1, (kx : Int), -1, false, by omega, rfl, rfl, rfl, by go_num, HR2, HLF2, HBA⟩
                                  case measure => simp [intOf]; omega
                          · have dcx : (c != (kx : Int)) = true := by rw [bne_iff_ne]; exact hcx
                            have HNO := Lib.hid (HNONE.out (by unfold doB; rw [if_neg (show ¬ ((3 : Nat) = 1) by decide), if_neg (show ¬ ((3 : Nat) = 2) by decide), if_pos (show ((3 : Nat) = 3) from rfl), if_neg (fun q => hcx q.2.2.1)]))
                            clear hcx
                            go_wp2_with fail
                            go_ret
                            exact ⟨false, rfl, iff_of_false (by decide) HNO.out, HBF.out⟩
                        | false =>
                          by_cases hcx : c = (kx : Int)
                          · have dcx : (c != (kx : Int)) = false := by rw [bne_eq_false_iff_eq]; exact hcx
                            have HCX := Lib.hid hcx
                            clear hcx
                            cases hlx : isL (at_ s kx) with
                            | false =>
                              rw [hlx] at lx
                              have HLX : Hid (laneB s (kx : Int) = false) := Lib.hid (by unfold laneB; rw [bAt_in5 s kx hkx]; exact hlx)
                              clear hlx
                              have HNO := Lib.hid (HNONE.out (by unfold doB; rw [if_neg (show ¬ ((3 : Nat) = 1) by decide), if_neg (show ¬ ((3 : Nat) = 2) by decide), if_pos (show ((3 : Nat) = 3) from rfl), if_neg (fun q => by have h1 := q.2.2.2.1; rw [HLX.out] at h1; cases h1)]))
                              go_wp2_with fail
                              go_ret
                              exact ⟨false, rfl, iff_of_false (by decide) HNO.out, HBF.out⟩
                            | true =>
                              rw [hlx] at lx
                              have HLX : Hid (laneB s (kx : Int) = true) := Lib.hid (by unfold laneB; rw [bAt_in5 s kx hkx]; exact hlx)
                              clear hlx
                              by_cases hp0 : p < 0
                              · have dp0 : decide (p < 0) = true := decide_eq_true hp0
                                have HNO := Lib.hid (HNONE.out (by unfold doB; rw [if_neg (show ¬ ((3 : Nat) = 1) by decide), if_neg (show ¬ ((3 : Nat) = 2) by decide), if_pos (show ((3 : Nat) = 3) from rfl), if_neg (fun q => by have h1 : isP p = true := q.2.2.2.2; unfold isP at h1; rw [Bool.and_eq_true, decide_eq_true_eq, decide_eq_true_eq] at h1; omega)]))
                                clear hp0
                                go_wp2_with fail
                                go_ret
                                exact ⟨false, rfl, iff_of_false (by decide) HNO.out, HBF.out⟩
                              · have dp0 : decide (p < 0) = false := decide_eq_false hp0
                                by_cases hp1 : 64 ≤ p
                                · have dp1 : decide (64 ≤ p) = true := decide_eq_true hp1
                                  have HNO := Lib.hid (HNONE.out (by unfold doB; rw [if_neg (show ¬ ((3 : Nat) = 1) by decide), if_neg (show ¬ ((3 : Nat) = 2) by decide), if_pos (show ((3 : Nat) = 3) from rfl), if_neg (fun q => by have h1 : isP p = true := q.2.2.2.2; unfold isP at h1; rw [Bool.and_eq_true, decide_eq_true_eq, decide_eq_true_eq] at h1; omega)]))
                                  clear hp0 hp1
                                  go_wp2_with fail
                                  go_ret
                                  exact ⟨false, rfl, iff_of_false (by decide) HNO.out, HBF.out⟩
                                · have dp1 : decide (64 ≤ p) = false := decide_eq_false hp1
                                  have hpp : isP p = true := by unfold isP; rw [Bool.and_eq_true, decide_eq_true_eq, decide_eq_true_eq]; omega
                                  have HLF2 : Hid (-1 ≤ (-1 : Int)) := Lib.hid (by omega)
                                  have HR2 := Lib.hid (HSOME.out ((kx : Int), -1, false) (by unfold doB; rw [if_neg (show ¬ ((3 : Nat) = 1) by decide), if_neg (show ¬ ((3 : Nat) = 2) by decide), if_pos (show ((3 : Nat) = 3) from rfl), if_pos ⟨HFS.out, HPL.out, HCX.out, HLX.out, hpp⟩]))
                                  clear hp0 hp1 hpp
                                  go_wp2_with fail
                                  go_roundw
                                  case rel => exact ⟨i + 1, (kx : Int), -1, false, by omega, rfl, rfl, rfl, by go_num, HR2, HLF2, HBA⟩
                                  case measure => simp [intOf]; omega
                          · have dcx : (c != (kx : Int)) = true := by rw [bne_iff_ne]; exact hcx
                            have HNO := Lib.hid (HNONE.out (by unfold doB; rw [if_neg (show ¬ ((3 : Nat) = 1) by decide), if_neg (show ¬ ((3 : Nat) = 2) by decide), if_pos (show ((3 : Nat) = 3) from rfl), if_neg (fun q => hcx q.2.2.1)]))
                            clear hcx
                            go_wp2_with fail
                            go_ret
                            exact ⟨false, rfl, iff_of_false (by decide) HNO.out, HBF.out⟩
                      · have dpl : (lf != p) = true := by rw [bne_iff_ne]; exact hpl
                        have HNO := Lib.hid (HNONE.out (by unfold doB; rw [if_neg (show ¬ ((3 : Nat) = 1) by decide), if_neg (show ¬ ((3 : Nat) = 2) by decide), if_pos (show ((3 : Nat) = 3) from rfl), if_neg (fun q => by have h0 : lf < 0 ∨ lf = p := q.2.1; rcases h0 with h1 | h1; omega; exact hpl h1)]))
                        clear hpl hlf
                        cases fs with
                        | true =>
                          go_wp2_with fail
                          go_ret
                          exact ⟨false, rfl, iff_of_false (by decide) HNO.out, HBF.out⟩
                        | false =>
                          go_wp2_with fail
                          go_ret
                          exact ⟨false, rfl, iff_of_false (by decide) HNO.out, HBF.out⟩
                    · have dlf : decide (0 ≤ lf) = false := decide_eq_false hlf
                      have dlf2 : decide (lf < 0) = true := decide_eq_true (by omega)
                      cases fs with
                      | true =>
                        have HFS : Hid (true = true ∨ 0 ≤ lf) := Lib.hid (.inl rfl)
                        have HPL : Hid (lf < 0 ∨ lf = p) := Lib.hid (.inl (by omega))
                        clear hlf
                        by_cases hcx : c = (kx : Int)
                        · have dcx : (c != (kx : Int)) = false := by rw [bne_eq_false_iff_eq]; exact hcx
                          have HCX := Lib.hid hcx
                          clear hcx
                          cases hlx : isL (at_ s kx) with
                          | false =>
                            rw [hlx] at lx
                            have HLX : Hid (laneB s (kx : Int) = false) := Lib.hid (by unfold laneB; rw [bAt_in5 s kx hkx]; exact hlx)
                            clear hlx
                            have HNO := Lib.hid (HNONE.out (by unfold doB; rw [if_neg (show ¬ ((3 : Nat) = 1) by decide), if_neg (show ¬ ((3 : Nat) = 2) by decide), if_pos (show ((3 : Nat) = 3) from rfl), if_neg (fun q => by have h1 := q.2.2.2.1; rw [HLX.out] at h1; cases h1)]))
                            go_wp2_with fail
                            go_ret
                            exact ⟨false, rfl, iff_of_false (by decide) HNO.out, HBF.out⟩
                          | true =>
                            rw [hlx] at lx
                            have HLX : Hid (laneB s (kx : Int) = true) := Lib.hid (by unfold laneB; rw [bAt_in5 s kx hkx]; exact hlx)
                            clear hlx
                            by_cases hp0 : p < 0
                            · have dp0 : decide (p < 0) = true := decide_eq_true hp0
                              have HNO := Lib.hid (HNONE.out (by unfold doB; rw [if_neg (show ¬ ((3 : Nat) = 1) by decide), if_neg (show ¬ ((3 : Nat) = 2) by decide), if_pos (show ((3 : Nat) = 3) from rfl), if_neg (fun q => by have h1 : isP p = true := q.2.2.2.2; unfold isP at h1; rw [Bool.and_eq_true, decide_eq_true_eq, decide_eq_true_eq] at h1; omega)]))
                              clear hp0
                              go_wp2_with fail
                              go_ret
                              exact ⟨false, rfl, iff_of_false (by decide) HNO.out, HBF.out⟩
                            · have dp0 : decide (p < 0) = false := decide_eq_false hp0
                              by_cases hp1 : 64 ≤ p
                              · have dp1 : decide (64 ≤ p) = true := decide_eq_true hp1
                                have HNO := Lib.hid (HNONE.out (by unfold doB; rw [if_neg (show ¬ ((3 : Nat) = 1) by decide), if_neg (show ¬ ((3 : Nat) = 2) by decide), if_pos (show ((3 : Nat) = 3) from rfl), if_neg (fun q => by have h1 : isP p = true := q.2.2.2.2; unfold isP at h1; rw [Bool.and_eq_true, decide_eq_true_eq, decide_eq_true_eq] at h1; omega)]))
                                clear hp0 hp1
                                go_wp2_with fail
                                go_ret
                                exact ⟨false, rfl, iff_of_false (by decide) HNO.out, HBF.out⟩
                              · have dp1 : decide (64 ≤ p) = false := decide_eq_false hp1
                                have hpp : isP p = true := by unfold isP; rw [Bool.and_eq_true, decide_eq_true_eq, decide_eq_true_eq]; omega
                                have HLF2 : Hid (-1 ≤ (-1 : Int)) := Lib.hid (by omega)
                                have HR2 := Lib.hid (HSOME.out ((kx : Int), -1, false) (by unfold doB; rw [if_neg (show ¬ ((3 : Nat) = 1) by decide), if_neg (show ¬ ((3 : Nat) = 2) by decide), if_pos (show ((3 : Nat) = 3) from rfl), if_pos ⟨HFS.out, HPL.out, HCX.out, HLX.out, hpp⟩]))
                                clear hp0 hp1 hpp
                                go_wp2_with fail
                                go_roundw
                                case rel => exact ⟨i + 1, (kx : Int), -1, false, by omega, rfl, rfl, rfl, by go_num, HR2, HLF2, HBA⟩
                                case measure => simp [intOf]; omega
                        · have dcx : (c != (kx : Int)) = true := by rw [bne_iff_ne]; exact hcx
                          have HNO := Lib.hid (HNONE.out (by unfold doB; rw [if_neg (show ¬ ((3 : Nat) = 1) by decide), if_neg (show ¬ ((3 : Nat) = 2) by decide), if_pos (show ((3 : Nat) = 3) from rfl), if_neg (fun q => hcx q.2.2.1)]))
                          clear hcx
                          go_wp2_with fail
                          go_ret
                          exact ⟨false, rfl, iff_of_false (by decide) HNO.out, HBF.out⟩
                      | false =>
                        have HNO := Lib.hid (HNONE.out (by unfold doB; rw [if_neg (show ¬ ((3 : Nat) = 1) by decide), if_neg (show ¬ ((3 : Nat) = 2) by decide), if_pos (show ((3 : Nat) = 3) from rfl), if_neg (fun q => by have h0 : false = true ∨ 0 ≤ lf := q.1; rcases h0 with h1 | h1; cases h1; omega)]))
                        clear hlf
                        go_wp2_with fail
                        go_ret
                        exact ⟨false, rfl, iff_of_false (by decide) HNO.out, HBF.out⟩
                  · have d1 : (kk == 1) = false := by rw [beq_eq_false_iff_ne]; omega
                    have d2 : (kk == 2) = false := by rw [beq_eq_false_iff_ne]; omega
                    have d3 : (kk == 3) = false := by rw [beq_eq_false_iff_ne]; omega
                    have HNO := Lib.hid (HNONE.out (by unfold doB; rw [if_neg e1, if_neg e2, if_neg e3]))
                    clear e1 e2 e3 hkk
                    go_wp2_with fail
                    go_ret
                    exact ⟨false, rfl, iff_of_false (by decide) HNO.out, HBF.out⟩
            · obtain rfl : i = n := by omega
              have HRA : Hid (runB (nearB W H s) (laneB s) (d : Int) L (a, -1, true) = some (x, lf, fs)) := Lib.hid (by have h1 := HR.out; rw [List.take_of_length_le (by omega)] at h1; exact h1)
              have HBW := Lib.hid (HB5.out.trans (HB.out.mono HB5.out.size))
              by_cases hxd : x = (d : Int)
              · have dxd : (x == (d : Int)) = true := by rw [beq_iff_eq]; exact hxd
                by_cases hlf : lf < 0
                · have dlf : decide (lf < 0) = true := decide_eq_true hlf
                  have HYES := Lib.hid (HRB.out.2 ⟨lf, fs, by rw [HRA.out, hxd], hlf⟩)
                  clear hxd hlf
                  go_wp2_with fail
                  go_ret
                  exact ⟨true, by first | rfl | simp, iff_of_true rfl HYES.out, HBW.out⟩
                · have dlf : decide (lf < 0) = false := decide_eq_false hlf
                  have HNO : Hid (¬ RightIs W H s r a L) := Lib.hid (fun q => by
                    obtain ⟨y, f, h1, h2⟩ := HRB.out.1 q
                    rw [HRA.out] at h1
                    injection h1 with h1
                    injection h1 with _ h1
                    injection h1 with h1 _
                    omega)
                  clear hxd hlf
                  go_wp2_with fail
                  go_ret
                  exact ⟨false, by first | rfl | simp, iff_of_false (by decide) HNO.out, HBW.out⟩
              · have dxd : (x == (d : Int)) = false := by rw [beq_eq_false_iff_ne]; exact hxd
                have HNO : Hid (¬ RightIs W H s r a L) := Lib.hid (fun q => by
                  obtain ⟨y, f, h1, h2⟩ := HRB.out.1 q
                  rw [HRA.out] at h1
                  injection h1 with h1
                  injection h1 with h1 _
                  exact hxd h1)
                clear hxd
                go_wp2_with fail
                go_ret
                exact ⟨false, by first | rfl | simp, iff_of_false (by decide) HNO.out, HBW.out⟩
      · have dad : (a != (d : Int)) = true := by rw [bne_iff_ne]; exact had
        have HNO : Hid (¬ RightIs W H s r a L) := Lib.hid (fun ⟨d', _, q1, q2, _⟩ => by
          obtain rfl := q1.one HF.out
          rcases q2 with q2 | q2
          · exact had q2
          · exact HNL.out q2)
        clear had
        go_wp2_with fail
        go_ret
        exact ⟨false, rfl, iff_of_false (by decide) HNO.out, HX2.out.below⟩
end Tr
end Go.Proofs.YtakgkocdkondhaaGreatDoor
