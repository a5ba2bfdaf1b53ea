/-
  FloorCounts: its walk.
-/
import Derived.Test.YtcbhjopmafhanaaDoorFlCount
import Derived.Deep.DeepCutAuto
set_option linter.unusedVariables false
namespace Go.Proofs.YtcbhjopmafhanaaDoor
open Go.RowKit Fl Go.Maps

set_option maxRecDepth 100000 in
set_option maxHeartbeats 16000000 in
theorem floorCounts_walk (s : ByteArray) (hs : s.size ≤ maxLen) (w : World) :
    Calls Tryd.prog 9 #[.string s] w fun e w' => e = .returned (.bool true) ∧ Below w.heap.size w w' := by
  have hs' := hs
  unfold maxLen at hs'
  go_enter Tryd.func9, Tryd.ntmps9
  go_wp2_with fail
  refine (shown_any _).mono ?_
  rintro e w1 ⟨rfl, hb1⟩
  have HB1 := Lib.hid hb1
  clear hb1
  by_cases hl : 2000 < s.size
  · have hd : decide (2000 < (s.size : Int)) = true := by simp; omega
    go_wp2_with fail
    go_ret
    exact ⟨rfl, HB1.out⟩
  · have hd : decide (2000 < (s.size : Int)) = false := by simp; omega
    go_wp2_with fail
    refine (parse_any s (by omega) _).mono ?_
    rintro e w2 ⟨W, H, c, row, err, rfl, ho, hb2⟩
    have HB2 := Lib.hid (HB1.out.trans (hb2.mono HB1.out.size))
    have HX2 := Lib.hid (Box.start w2 W H c 24)
    have k0 := HX2.out.c0
    have k1 := HX2.out.c1
    have k2 := HX2.out.c2
    have HBA := Lib.hid (HB2.out.alloc HB2.out.size (.cells #[.int .i64 W, .int .i64 H, .string c] 24))
    have hoc := out_cases ho
    clear ho hb2
    rcases hoc with ⟨rfl, rfl, rfl, rfl⟩ | ⟨rfl, rfl, hR⟩
    · go_wp2_with fail
      go_ret
      exact ⟨rfl, HBA.out⟩
    · have HR := Lib.hid hR
      obtain ⟨a, b, rfl, rfl, hS, hRN⟩ := rightNat hR
      have HS := Lib.hid hS
      have HRN := Lib.hid hRN
      have hc256 := hS.le
      have hcs : c.size ≤ maxLen := by unfold maxLen; omega
      have HW2 := Lib.hid HB2.out.size
      clear hS hRN hR
      have HROB := Lib.hid (fun wx => robots_any (a : Int) (b : Int) c hcs wx)
      have HLAN := Lib.hid (fun wx => lanes_any (a : Int) (b : Int) c hcs wx)
      have HNE := Lib.hid (fun (x : Int) wx => near_any (a : Int) (b : Int) c hcs x wx)
      have HZO := Lib.hid (fun (x : Int) wx => zone_any (a : Int) (b : Int) c hcs x wx)
      have HDO := Lib.hid (fun (x : Int) wx => dock_any (a : Int) (b : Int) c hcs x wx)
      have hmk := run_makeMap_none
      have HM0 := Lib.hid (Maps2.start (w := w) (w2 := w2) a b c 24 HB2.out)
      go_wp2_with fail
      clear hmk
      refine (HROB.out _).mono ?_
      rintro e w3 ⟨nr, rfl, p1, _, hb⟩
      have hnr := p1 HR.out
      have hnr8 : nr ≤ 8 ∧ 1 ≤ nr := by
        have h1 := HRN.out.docks.few
        have h2 := HRN.out.docks.one
        unfold Fl.docks at h1 h2
        rw [← HS.out.sz, ← hnr] at h1 h2
        exact ⟨h1, h2⟩
      have HNR := Lib.hid hnr
      have HM3 := Lib.hid (HM0.out.later hb)
      have HDL := Lib.hid (DockL.start c)
      clear p1 hnr hb k0 k1 k2 HM0
      go_wp2_with fail
      go_loopw [41] (fun iv wr => ∃ (k : Nat) (D : List Nat), k ≤ nr ∧ iv = .int .i64 (k : Int) ∧ DockL c k D ∧ Maps2 w w2 a b c D [] wr) (fun iv _ => nr - (intOf iv).toNat)
      case atStart => exact ⟨0, [], Nat.zero_le _, rfl, HDL.out, HM3.out⟩
      case round =>
        rename World => wr
        obtain ⟨k, D, hk, rfl, hDL, hM⟩ := hrel
        have HD := Lib.hid hDL
        have HMr := Lib.hid hM
        have e0 := hM.box.c0
        have e1 := hM.box.c1
        have e2 := hM.box.c2
        clear hM hDL HM3 HDL
        by_cases hlt : k < nr
        · go_wp2_with fail
          refine (HDO.out _ _).mono ?_
          rintro e w4 ⟨d, bd, rfl, p1, _, hb⟩
          obtain ⟨hf, rfl⟩ := p1 ⟨HR.out, by omega, by rw [← HNR.out]; omega⟩
          rw [Int.toNat_natCast] at hf
          have hdk := dock_in HS.out HRN.out (by rw [← HNR.out]; exact hlt) hf
          have HDK := Lib.hid hdk.1
          have HF := Lib.hid hf
          have HOF : Hid (OnFloor (a : Int) (b : Int) c (d : Int)) := Lib.hid ⟨HR.out, by rw [bAt_nat c d hdk.2.1]; exact hdk.2.2⟩
          have hdb : d ≤ 1048576 := by have := hdk.2.1; omega
          have HM4 := Lib.hid (HMr.out.later hb)
          have f0 := HM4.out.box.c0
          have f1 := HM4.out.box.c1
          have f2 := HM4.out.box.c2
          clear p1 hb hf hdk e0 e1 e2
          go_wp2_with fail
          refine (HNE.out _ _).mono ?_
          rintro e w5 ⟨A2, n2, c2, ys, rfl, hn2, p1, _, ho5, hb5⟩
          have HP := Lib.hid (p1 HOF.out)
          have HN2 := Lib.hid hn2
          have HO5 := Lib.hid ho5
          have HM5 := Lib.hid (HM4.out.later hb5)
          have hcap2 := ho5.cap hn2
          have hc2a := hcap2.1
          have hc2b := hcap2.2
          unfold maxLen at hc2b
          have HYS : Hid (∀ y, y ∈ ys ↔ y ∈ side a b d ∧ at_ c y ≠ 35) := Lib.hid (fun y => by rw [HP.out]; exact mem_near)
          have HDB : Hid (d < a * b) := Lib.hid (by rw [← HS.out.sz]; exact HF.out.1)
          clear hn2 p1 ho5 hb5 hcap2 f0 f1 f2
          go_wp2_with fail
          go_loopw [12, 54] (fun tv jv wz => ∃ (j : Nat) (t : Bool), j ≤ n2 ∧ jv = .int .i64 (j : Int) ∧ tv = .bool t ∧ (t = true ↔ ∃ q, q < j ∧ isL (at_ c (ys.getD q 0)) = true) ∧ Below w5.heap.size w5 wz) (fun _ jv _ => n2 - (intOf jv).toNat)
          case atStart => exact ⟨0, false, Nat.zero_le _, rfl, rfl, by simp, Below.refl _ _⟩
          case round =>
            rename World => wz
            obtain ⟨j, t, hj, rfl, rfl, ht, hbz⟩ := hrel
            by_cases hlt3 : j < n2
            · obtain ⟨gn, rfl, hgn, hcn⟩ := (HO5.out.later hbz).at j (by rw [← HN2.out]; exact hlt3)
              obtain ⟨y, hy⟩ : ∃ y, y = ys.getD j 0 := ⟨_, rfl⟩
              rw [← hy] at hcn
              have hyin : y ∈ ys := by
                rw [hy, List.getD_eq_getElem?_getD, List.getElem?_eq_getElem (by rw [← HN2.out]; exact hlt3)]
                exact List.getElem_mem _
              have hyl : y < c.size := by rw [HS.out.sz]; exact side_lt HS.out.w1 HDB.out ((HYS.out y).1 hyin).1
              have hyb : y ≤ 1048576 := by omega
              have HY := Lib.hid hy
              have HYL := Lib.hid hyl
              have HBZ := Lib.hid hbz
              have HT := Lib.hid ht
              have k0 := (HM5.out.later hbz).box.c0
              have k1 := (HM5.out.later hbz).box.c1
              have k2 := (HM5.out.later hbz).box.c2
              have hjI : (j : Int) < (n2 : Int) := by omega
              clear hy hyin hyl hbz ht
              go_wp2_with fail
              refine (HZO.out _ _).mono ?_
              rintro e w6 ⟨zn, lane, rfl, p1, p2, hb6⟩
              have HB6 := Lib.hid (HBZ.out.trans (hb6.mono HBZ.out.size))
              have HLN : Hid (lane = isL (at_ c (ys.getD j 0))) := Lib.hid (by
                rw [← HY.out]
                cases hq : isL (at_ c y)
                · exact (p2 (fun h => by have := h.2; rw [bAt_nat c y HYL.out, hq] at this; cases this)).2
                · exact (p1 ⟨HR.out, by rw [bAt_nat c y HYL.out]; exact hq⟩).2)
              clear p1 p2 hb6 hcn k0 k1 k2
              cases t
              · have HT2 : Hid (lane = true ↔ ∃ q, q < j + 1 ∧ isL (at_ c (ys.getD q 0)) = true) := Lib.hid (by
                  rw [HLN.out]
                  refine ⟨fun h => ⟨j, by omega, h⟩, fun ⟨q, hq, h⟩ => ?_⟩
                  rcases (by omega : q < j ∨ q = j) with i | rfl
                  · exact absurd (HT.out.2 ⟨q, i, h⟩) (by decide)
                  · exact h)
                go_wp2
                go_roundw
                case rel => exact ⟨j + 1, lane, by omega, by go_num, rfl, HT2.out, HB6.out⟩
                case measure => simp [intOf]; omega
              · have HT2 : Hid (∃ q, q < j + 1 ∧ isL (at_ c (ys.getD q 0)) = true) := Lib.hid (by
                  obtain ⟨q, hq, h⟩ := HT.out.1 rfl
                  exact ⟨q, by omega, h⟩)
                go_wp2
                go_roundw
                case rel => exact ⟨j + 1, true, by omega, by go_num, rfl, iff_of_true rfl HT2.out, HB6.out⟩
                case measure => simp [intOf]; omega
            · obtain rfl : n2 = j := by omega
              have htt : t = true := by
                obtain ⟨y, hy1, hy2⟩ := HRN.out.docks.near d HDK.out
                have hin : y ∈ ys := (HYS.out y).2 ⟨hy1, fun e => by rw [e] at hy2; simp [isL] at hy2⟩
                obtain ⟨q, hq, rfl⟩ := List.getElem_of_mem hin
                exact ht.2 ⟨q, by rw [HN2.out]; exact hq, by rw [List.getD_eq_getElem?_getD, List.getElem?_eq_getElem hq]; exact hy2⟩
              subst htt
              have HMz := Lib.hid (HM5.out.later hbz)
              have hdn : d ∉ D := HD.out.fresh HF.out
              have hdm : decide (d ∈ D) = false := by simp [hdn]
              have hD8 : D.length ≤ 8 := by rw [HD.out.len]; omega
              clear hbz ht
              go_wp2_with (first
                | (at_lookup; refine set_is_g _ rfl _ _ 41 rfl 4 Tryd.underlying3 Tryd.underlying41 Tryd.underlying4 (zeroBool _) rfl HMz.out.docks _ d rfl hdb rfl ?_; rw [hdm])
                | (at_mapUpdate; refine set_put _ rfl _ _ _ 41 rfl 4 Tryd.underlying3 Tryd.underlying41 rfl HMz.out.docks (by omega) _ d rfl hdb rfl _ rfl (plainElem_bool Tryd.underlying4 true) hdn ?_; intro w7 hm7 hg7; have HM7 := Lib.hid (HMz.out.dock HW2.out hm7 hg7); clear hm7 hg7))
              go_roundw
              case rel => exact ⟨k + 1, D ++ [d], by omega, by go_num, HD.out.put HF.out, HM7.out⟩
              case measure => simp [intOf]; omega
        · obtain rfl : k = nr := by omega
          go_wp2_with fail
          refine (HLAN.out _).mono ?_
          rintro e w6 ⟨A6, n6, c6, xs, rfl, hn6, p1, _, ho6, hb⟩
          have HXS := Lib.hid (p1 HR.out)
          have HN6 := Lib.hid hn6
          have HO6 := Lib.hid ho6
          have HM6 := Lib.hid (HMr.out.later hb)
          have hcap6 := ho6.cap hn6
          have hc6a := hcap6.1
          have hc6b := hcap6.2
          unfold maxLen at hc6b
          have hx256 : xs.length ≤ 256 := by rw [HXS.out]; exact Nat.le_trans (pick_le _ _ _) hc256
          have HND : Hid xs.Nodup := Lib.hid (by rw [HXS.out]; exact pick_nodup _ _ _)
          have hD8 : D.length ≤ 8 := by rw [HD.out.len]; omega
          have HDD := Lib.hid (HD.out.dock hnr8.1)
          clear p1 hn6 ho6 hb hcap6 e0 e1 e2
          go_wp2_with fail
          go_loopw [86] (fun lv wz => ∃ l : Nat, l ≤ n6 ∧ lv = .int .i64 (l : Int) ∧ Maps2 w w2 a b c D (xs.take l) wz ∧ Own wz wr.heap.size (.slice A6 n6 c6) xs) (fun lv _ => n6 - (intOf lv).toNat)
          case atStart => exact ⟨0, Nat.zero_le _, rfl, HM6.out, HO6.out⟩
          case round =>
            rename World => wz
            obtain ⟨l, hl, rfl, hM, ho⟩ := hrel
            by_cases hlt4 : l < n6
            · obtain ⟨gl, rfl, hgl, hcl⟩ := ho.at l (by rw [← HN6.out]; exact hlt4)
              have hlx : l < xs.length := by rw [← HN6.out]; exact hlt4
              have HT1 := Lib.hid (take_one hlx)
              have hnt := not_taken HND.out hlx
              have hyx : xs.getD l 0 ∈ xs := by
                rw [List.getD_eq_getElem?_getD, List.getElem?_eq_getElem hlx]
                exact List.getElem_mem _
              generalize xs.getD l 0 = y at hcl HT1 hnt hyx
              rw [HXS.out] at hyx
              have hyp := mem_pick.1 hyx
              have hyb : y ≤ 1048576 := by have := hyp.1; omega
              have hlI : (l : Int) < (n6 : Int) := by omega
              have HYL : Hid (OnLane (a : Int) (b : Int) c (y : Int)) := Lib.hid ⟨HR.out, by rw [bAt_nat c y hyp.1]; exact hyp.2⟩
              have hyD : y ∉ D := fun h => by
                have := (HDD.out y h).2
                have h2 := hyp.2
                unfold isD at this
                unfold isL at h2
                simp at this h2
                omega
              have hdm : decide (y ∈ D) = false := by simp [hyD]
              have hlm : decide (y ∈ xs.take l) = false := by simp [hnt]
              have hl256 : (xs.take l).length ≤ 256 := by rw [List.length_take]; omega
              have HMz := Lib.hid hM
              have HOz := Lib.hid ho
              have k0 := hM.box.c0
              have k1 := hM.box.c1
              have k2 := hM.box.c2
              clear hM ho hyx hyp hlx
              go_wp2_with fail
              refine (HZO.out _ _).mono ?_
              rintro e w7 ⟨zn, lane, rfl, p1, _, hb7⟩
              obtain rfl := (p1 HYL.out).2
              have HM7 := Lib.hid (HMz.out.later hb7)
              have HO7 := Lib.hid (HOz.out.later hb7)
              clear p1 hb7 k0 k1 k2 hcl HMz HOz
              go_wp2_with (first
                | (at_lookup; refine set_is_g _ rfl _ _ 41 rfl 4 Tryd.underlying3 Tryd.underlying41 Tryd.underlying4 (zeroBool _) rfl HM7.out.lanes _ y rfl hyb rfl ?_; rw [hlm])
                | (at_lookup; refine set_is_g _ rfl _ _ 41 rfl 4 Tryd.underlying3 Tryd.underlying41 Tryd.underlying4 (zeroBool _) rfl HM7.out.docks _ y rfl hyb rfl ?_; rw [hdm])
                | (at_mapUpdate; refine set_put _ rfl _ _ _ 41 rfl 4 Tryd.underlying3 Tryd.underlying41 rfl HM7.out.lanes (by omega) _ y rfl hyb rfl _ rfl (plainElem_bool Tryd.underlying4 true) hnt ?_; intro w8 hm8 hg8; have HM8 := Lib.hid (HM7.out.lane HW2.out hm8 hg8); have HO8 := Lib.hid (own_lane HM7.out HO7.out hg8); clear hm8 hg8))
              go_roundw
              case rel => exact ⟨l + 1, by omega, by go_num, by rw [HT1.out]; exact HM8.out, HO8.out⟩
              case measure => simp [intOf]; omega
            · obtain rfl : n6 = l := by omega
              rw [List.take_of_length_le (by rw [← HN6.out]; exact Nat.le_refl _)] at hM
              have HMz := Lib.hid hM
              have k0 := hM.box.c0
              have k1 := hM.box.c1
              have k2 := hM.box.c2
              clear hM ho
              go_wp2_with fail
              go_loopw [21, 114] (fun wv iv wy => ∃ i : Nat, i ≤ c.size ∧ iv = .int .i64 (i : Int) ∧ wv = .int .i64 ((pick (fun x => x == 35) (at_ c) i).length : Int) ∧ Maps2 w w2 a b c D xs wy) (fun _ iv _ => c.size - (intOf iv).toNat)
              case atStart => exact ⟨0, Nat.zero_le _, rfl, rfl, HMz.out⟩
              case round =>
                rename World => wy
                obtain ⟨i, hi, rfl, rfl, hM⟩ := hrel
                have hp256 := Nat.le_trans (pick_le (fun x => x == 35) (at_ c) i) hi
                have HMy := Lib.hid hM
                have g0 := hM.box.c0
                have g1 := hM.box.c1
                have g2 := hM.box.c2
                clear hM HMz k0 k1 k2
                by_cases hlt5 : i < c.size
                · have hps := pick_succ (fun x => x == 35) (at_ c) i
                  have HZ := Lib.hid (at_get c i hlt5)
                  cases hq : (((c[i].toNat : Nat) : Int) == 35) with
                  | true =>
                    have hw : at_ c i = 35 := by rw [← HZ.out]; have := beq_iff_eq.1 hq; omega
                    rw [hw] at hps
                    have HT : Hid ((pick (fun x => x == 35) (at_ c) (i + 1)).length = (pick (fun x => x == 35) (at_ c) i).length + 1) := Lib.hid (by rw [hps]; simp)
                    have hiD : i ∉ D := fun h => by
                      have := (HDD.out i h).2
                      rw [hw] at this
                      exact absurd this (by decide)
                    have hiX : i ∉ xs := fun h => by
                      rw [HXS.out] at h
                      have := (mem_pick.1 h).2
                      rw [hw] at this
                      exact absurd this (by decide)
                    have HNF : Hid (¬ OnFloor (a : Int) (b : Int) c (i : Int)) := Lib.hid (fun h => h.2 (by rw [bAt_nat c i hlt5]; exact hw))
                    have hdm : decide (i ∈ D) = false := by simp [hiD]
                    have hlm : decide (i ∈ xs) = false := by simp [hiX]
                    have hib : i ≤ 1048576 := by omega
                    generalize (pick (fun x => x == 35) (at_ c) i).length = n at *
                    clear hps hw hiD hiX
                    go_wp2_with (first
                      | (at_lookup; refine set_is _ rfl _ _ 41 rfl 4 Tryd.underlying3 Tryd.underlying41 Tryd.underlying4 (zeroBool _) rfl HMy.out.docks _ i rfl hib rfl ?_; rw [hdm])
                      | (at_lookup; refine set_is_g _ rfl _ _ 41 rfl 4 Tryd.underlying3 Tryd.underlying41 Tryd.underlying4 (zeroBool _) rfl HMy.out.lanes _ i rfl hib rfl ?_; rw [hlm])
                      | fail)
                    refine (HNE.out _ _).mono ?_
                    rintro e w7 ⟨A2, n2, c2, ys, rfl, hn2, _, p2, _, hb7⟩
                    obtain rfl : n2 = 0 := by rw [hn2, p2 HNF.out]; rfl
                    have HM7 := Lib.hid (HMy.out.later hb7)
                    clear hn2 p2 hb7 g0 g1 g2
                    go_wp2
                    go_roundw
                    case rel => exact ⟨i + 1, by omega, by go_num, by rw [HT.out]; go_num, HM7.out⟩
                    case measure => simp [intOf]; omega
                  | false =>
                    have hw : (at_ c i == 35) = false := by
                      rw [← HZ.out, beq_eq_false_iff_ne]
                      intro e
                      rw [e] at hq
                      simp at hq
                    rw [hw] at hps
                    have HT : Hid ((pick (fun x => x == 35) (at_ c) (i + 1)).length = (pick (fun x => x == 35) (at_ c) i).length) := Lib.hid (by rw [hps]; simp)
                    generalize (pick (fun x => x == 35) (at_ c) i).length = n at *
                    clear hps hw
                    go_wp2_with fail
                    go_roundw
                    case rel => exact ⟨i + 1, by omega, by go_num, by rw [HT.out], HMy.out⟩
                    case measure => simp [intOf]; omega
                · obtain rfl : i = c.size := by omega
                  have hsum := all_three (at_ c) c.size (fun i hi => HRN.out.bytes i (by rw [← HS.out.sz]; exact hi))
                  rw [← HNR.out, ← HXS.out, ← HD.out.len] at hsum
                  generalize (pick (fun x => x == 35) (at_ c) c.size).length = n at *
                  have hab := HS.out.sz
                  have p1 : (a : Int) * (b : Int) ≤ 256 := by rw [← Int.natCast_mul]; omega
                  have p0 : 0 ≤ (a : Int) * (b : Int) := by rw [← Int.natCast_mul]; omega
                  have hq1 : (((n : Int) + (D.length : Int) + (xs.length : Int)) == (a : Int) * (b : Int)) = true := by rw [beq_iff_eq, ← Int.natCast_mul]; omega
                  have hq2 : ((c.size : Int) == (a : Int) * (b : Int)) = true := by rw [beq_iff_eq, ← Int.natCast_mul]; omega
                  clear hsum hab
                  have hl1 := set_len_run wy HMy.out.docks Tryd.underlying41 3
                  have hl2 := set_len_run wy HMy.out.lanes Tryd.underlying41 3
                  go_wp2_with fail
                  go_ret
                  exact ⟨rfl, HMy.out.below⟩

end Go.Proofs.YtcbhjopmafhanaaDoor
