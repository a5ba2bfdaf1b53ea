/-
  The walk of TrafficApart.
-/
import Derived.Test.YtellaeihcignaaaGreatDoorTfY
set_option linter.unusedVariables false
set_option maxRecDepth 100000
namespace Go.Proofs.YtellaeihcignaaaGreatDoor
namespace Tf
open Go.RowKit Fl Tr Pt Go.Maps
open Lk (Ow T0 zns at9)

set_option maxHeartbeats 16000000 in
theorem trafficApart_walk (t : ByteArray) (ht : t.size ≤ maxLen) (A : Option Addr) (n cap0 : Nat) (L : List Sp11) (w : World) (hl : Ls w.heap.size w A n cap0 L) :
    Calls Tryz.prog 5 #[.string t, .slice A n cap0] w fun e w' => e = .returned (.bool true) ∧ Below w.heap.size w w' := by
  have HL := Lib.hid hl
  have hmm := @run_makeMap Tryz.prog
  have HFL := Lib.hid (fun wx => floors11_any t ht wx)
  have hc1 := hl.le
  have hc2 := hl.max
  clear hl
  go_enter Tryz.func5, Tryz.ntmps5
  go_wp2_with fail
  refine (shown11_any _).mono ?_
  rintro e w1 ⟨rfl, hb1⟩
  have HB1 := Lib.hid hb1
  clear hb1
  go_wp2_with fail
  refine (HFL.out _).mono ?_
  rintro e w2 ⟨W, H, s, rfl, hR, hb2⟩
  have HR := Lib.hid hR
  have HB2 := Lib.hid (HB1.out.trans (hb2.mono HB1.out.size))
  have hsz : s.size ≤ maxLen := by have := rightLe hR; unfold maxLen; omega
  have HNW := Lib.hid (fun wx => new_any W H s hsz wx)
  clear hR hb2
  have HF := Lib.hid (Fb.new w2 W H s)
  obtain ⟨f0, f1, f2, fl, _⟩ := HF.out.cells
  go_wp2_with fail
  refine (HNW.out _).mono ?_
  rintro e w3 hnw
  rcases hnw with ⟨hno, _⟩ | ⟨_, S, g, M, cap, top, rfl, hst, hge, hb3⟩
  · exact absurd HR.out hno
  have HLP := Lib.hid (lp_start HB2.out HR.out hst hge hb3)
  clear hst hge hb3 f0 f1 f2 fl HNW
  generalize docked s (pick isD (at_ s) s.size).length = R0 at *
  generalize T0 = TT0 at *
  generalize w2.heap.size = bF at *
  have HFW := Lib.hid (few11_any A n cap0 w.heap.size L w3 (HL.out.below HLP.out.below))
  go_wp2_with fail
  refine HFW.out.mono ?_
  rintro e w4 ⟨m, rfl, hmn, hm100, hm60, rfl⟩
  have HLM := Lib.hid (HL.out.cut hmn)
  have HM60 := Lib.hid hm60
  have hmc : m ≤ cap0 := Nat.le_trans hmn hc1
  clear hm60 hmn HFW
  generalize L.take m = Lm at *
  go_wp2_with fail
  go_loopw [43] (fun iv wr => ∃ (j : Nat) (R : List Mv) (T : List Ow), j ≤ m ∧ iv = .int .i64 (j : Int) ∧ Hid (Lp w bF S g M cap top W H s R T wr)) (fun iv _ => m - (intOf iv).toNat)
  case atStart => exact ⟨0, R0, TT0, by omega, rfl, HLP⟩
  case round =>
    rename World => wr
    obtain ⟨j, R, T, hj, rfl, HI⟩ := hrel
    by_cases hlt : j < m
    · obtain ⟨gl, ol, A2, n2, c2, rfl, hgl, k0, k1, k2, k3, k4, hal, hk255⟩ := (HLM.out.below HI.out.below).cell j hlt
      have hjI : (j : Int) < (m : Int) := by omega
      have hgr := Nat.lt_of_lt_of_le hgl HI.out.below.size
      generalize Lm.getD j (0, 0, 0, 0, []) = p at *
      obtain ⟨k, r, f, tt, LA⟩ := p
      have k0 : wr.cell? ⟨gl, ol + j * 5, none⟩ = some (.int .u8 (k : Int)) := k0
      have k1 : wr.cell? ⟨gl, ol + j * 5 + 1, none⟩ = some (.int .i64 r) := k1
      have k2 : wr.cell? ⟨gl, ol + j * 5 + 2, none⟩ = some (.int .i64 f) := k2
      have k3 : wr.cell? ⟨gl, ol + j * 5 + 3, none⟩ = some (.int .i64 tt) := k3
      have hk255 : k ≤ 255 := hk255
      have HAL := Lib.hid (show Al w.heap.size wr A2 n2 c2 LA from hal)
      have hBa := (Below.refl wr.heap.size wr).alloc (Nat.le_refl _) (.cells #[.int .u8 (k : Int), .int .i64 r, .int .i64 f, .int .i64 tt, .slice A2 n2 c2] 37)
      have HIa := Lib.hid (HI.out.later hBa)
      have HSa := Lib.hid (Sx.new wr k r f tt A2 n2 c2)
      have HBX : Hid (bF ≠ g ∧ wr.heap.size ≠ g ∧ wr.heap.size ≠ M) := Lib.hid (by have h := HI.out.st.tops; exact ⟨HI.out.ge.2.2.1, by omega, by omega⟩)
      have HALa := Lib.hid ((HAL.out.below (hBa.mono HI.out.below.size)).raise HIa.out.below.size)
      clear hal hBa
      go_upto_region 9 with (fail)
      clear k0 k1 k2 k3 k4 hgl hgr
      generalize wr.alloc (.cells #[.int .u8 (k : Int), .int .i64 r, .int .i64 f, .int .i64 tt, .slice A2 n2 c2] 37) = wa at *
      generalize wr.heap.size = bx at *
      obtain ⟨c0, c1, c2', c3, c4, cl⟩ := HSa.out.cells
      obtain ⟨f0, f1, f2, fl, _⟩ := HIa.out.fb.cells
      have HDO := Lib.hid (does11_any HIa.out.st HIa.out.inv hsz k hk255 r f tt A2 n2 c2 LA HALa.out)
      unfold stepV at HDO
      go_wp2_with fail
      refine HDO.out.mono ?_
      rintro e wd ⟨x, er, R', T', rfl, hdr, hsd, hfd⟩
      have hinv' := hdr.inv HIa.out.inv
      have HId := Lib.hid (HIa.out.fr hfd hsd hinv')
      clear hdr hsd hfd hinv' HDO c0 c1 c2' c3 c4 cl f0 f1 f2 fl
      have HAM0 := Lib.hid (Am.start wd s R')
      go_upto_region 11 with (fail)
      obtain ⟨bc, hbc⟩ : ∃ bc, bc = wd.heap.size + 1 := ⟨_, rfl⟩
      obtain ⟨bz, hbz⟩ : ∃ bz, bz = wd.heap.size := ⟨_, rfl⟩
      have HAM : Hid (Am wd bz bc s R' 0 ((wd.alloc (.map #[] 0)).alloc (.map #[] 0))) := Lib.hid (by rw [hbc, hbz]; exact HAM0.out)
      rw [← hbc, ← hbz]
      clear hbc hbz HAM0
      generalize (wd.alloc (.map #[] 0)).alloc (.map #[] 0) = we at *
      have HLP := Lib.hid (fun k wx (ha : Am wd bz bc s R' k wx) => HId.out.later ha.below)
      have HRO := Lib.hid (robots_any W H s hsz we)
      obtain ⟨f0, f1, f2, fl, _⟩ := (HLP.out _ _ HAM.out).fb.cells
      go_wp2_with fail
      refine HRO.out.mono ?_
      rintro e wf ⟨nr, rfl, hnr, _, hbf⟩
      have HNR : Hid (nr = R'.length) := Lib.hid (by rw [hnr HR.out, HId.out.inv.n])
      have hn8 : nr ≤ 8 := by rw [HNR.out]; exact HId.out.inv.few
      have HAMf := Lib.hid (HAM.out.later hbf)
      clear hnr hbf f0 f1 f2 fl HRO
      go_wp2_with fail
      go_loopw [55] (fun qv wq => ∃ q : Nat, q ≤ nr ∧ qv = .int .i64 (q : Int) ∧ Hid (Am wd bz bc s R' (4 * q) wq)) (fun qv _ => nr - (intOf qv).toNat)
      case atStart => exact ⟨0, by omega, rfl, HAMf⟩
      case round =>
        rename World => wq
        obtain ⟨q, hq, rfl, HQ⟩ := hrel
        by_cases hq2 : q < nr
        · have hqI : (q : Int) < (nr : Int) := by omega
          have HQL : Hid (q < R'.length) := Lib.hid (by rw [← HNR.out]; exact hq2)
          have HIM := Lib.hid (Im.start HQ.out q)
          go_upto_region 15 with (fail)
          generalize wq.alloc (.map #[] 0) = wa1 at *
          generalize wq.heap.size = bi at *
          have HCE := Lib.hid (cell_any (HLP.out _ _ HIM.out.am).st (q : Int))
          unfold CellTold at HCE
          rw [cellF_in HQL.out] at HCE
          obtain ⟨cq, hcq⟩ : ∃ cq, cq = (getM R' q).1 := ⟨_, rfl⟩
          have HCQ : Hid (cq ∈ ats (getM R' q)) := Lib.hid (by rw [hcq]; exact List.mem_cons_self)
          rw [← hcq] at HCE
          clear hcq
          go_wp2_with fail
          refine HCE.out.mono ?_
          rintro e wa2 ⟨rfl, hb2⟩
          obtain ⟨wa3, hrun3, him3⟩ := (HIM.out.later hb2).put (by omega) HCQ.out (ats_iw HId.out.inv HQL.out HCQ.out)
          have HIM3 := Lib.hid him3
          clear hb2 him3 HCE
          go_upto_region 17 with (fail)
          have HNW := Lib.hid (now_any (HLP.out _ _ HIM3.out.am).st HId.out.inv.busy (q : Int))
          unfold NowTold at HNW
          clear hrun3
          rcases mv_cases HId.out.inv HQL.out with ⟨g1, g2, _⟩ | ⟨a, l, g1, g2, g3, _⟩
          · rw [g2] at HNW
            clear g1 g2
            go_wp2_with fail
            refine HNW.out.mono ?_
            rintro e wb ⟨rfl, hbb⟩
            dsimp only [actV]
            have hB5 := (Below.refl wb.heap.size wb).alloc (Nat.le_refl _) (.cells #[.int .u8 0, .int .i64 0, .int .i64 0] 39)
            have HIM5 := Lib.hid ((HIM3.out.later hbb).later hB5)
            clear hbb hB5 HNW HIM3
            go_upto_region 20 with (fail)
            generalize wb.alloc (.cells #[.int .u8 0, .int .i64 0, .int .i64 0] 39) = wr5 at *
            have HIMR := Lib.hid HIM5.out
            obtain ⟨mi, ⟨D, hown, hD⟩, hmi⟩ := HIMR.out.set
            have HDM := Lib.hid (And.intro hD hmi)
            have HRI : Hid ((wd.heap.size ≤ wr5.heap.size ∧ bz < wr5.heap.size ∧ bc < wr5.heap.size) ∧ bz ≠ bi ∧ bc ≠ bi) := Lib.hid ⟨⟨HIMR.out.am.below.size, HIMR.out.am.lt.1, HIMR.out.am.lt.2.1⟩, HIMR.out.ne⟩
            have HAMR := Lib.hid HIMR.out.am
            clear hD hmi HIM5 HIMR
            go_wp2_with (first
              | (at_range; refine wpList_range_own _ rfl _ 66 rfl 3 4 (int_keyed Tryz.underlying3) Tryz.underlying66 _ bi 1 D rfl hown ?_; intro w0 hrg0 hg0 hs0)
              | go_in)
            go_frame
            have hsz0 := hown.size_le
            obtain ⟨ri, hri⟩ : ∃ ri, ri = wr5.heap.size := ⟨_, rfl⟩
            rw [← hri] at hrg0 ⊢
            have HRI2 : Hid ((wd.heap.size ≤ ri ∧ bz ≠ ri ∧ bc ≠ ri) ∧ bz ≠ bi ∧ bc ≠ bi) := Lib.hid ⟨by have := HRI.out.1; omega, HRI.out.2⟩
            have HRG0 := Lib.hid hrg0
            have HS0 := Lib.hid hsz0
            have HAM0 := Lib.hid (HAMR.out.later (below_grown hg0 (fun b e => by cases e) (Nat.le_refl _)))
            clear hri hrg0 hg0 hs0 hsz0 hown HRI HAMR
            go_loopw [19] (fun _ wu => ∃ (left : Lit → Bool) (cnt : Nat), Hid (wu.ranges Tryz.prog 3 (plainElem Tryz.prog 4) bi ri 1 D left cnt ∧ cnt ≤ 1 ∧ Am wd bz bc s R' (4 * q + 2 * (1 - cnt)) wu)) (fun _ wu => wu.rangeLeft bi ri)
            case atStart => exact ⟨_, _, Lib.hid ⟨HRG0.out, HS0.out, HAM0.out.mono (by omega)⟩⟩
            case round =>
              rename World => wu
              obtain ⟨left, cnt, HU⟩ := hrel
              have hrg := HU.out.1
              go_wp2_with (first
                | (at_next; refine next_set _ rfl _ rfl bi ri 1 D _ _ rfl hrg ?_ ?_)
                | go_in)
              · intro hc0
                have HAE := Lib.hid (HU.out.2.2.mono (k' := 4 * (q + 1)) (by have := HU.out.2.1; omega))
                clear hrg hc0
                go_wp2_with fail
                go_roundw
                case rel =>
                  first
                  | exact ⟨q + 1, by omega, by go_num, HAE⟩
                  | ((repeat apply Exists.intro); exact ⟨⟨q + 1, by omega, by go_num, HAE⟩, rfl⟩)
                case measure => simp [intOf]; omega
              · intro x vx w1 cnt1 hhas hrg1 hlt hg1 hen
                have HX : Hid (x ∈ ats (getM R' q)) := Lib.hid (HDM.out.2 x (by rw [← (HDM.out.1 x).1]; exact hhas))
                have HXW := Lib.hid (ats_iw HId.out.inv HQL.out HX.out)
                have HA1 := Lib.hid (HU.out.2.2.kept hg1 HRI2.out.1.1 HRI2.out.1.2.1 HRI2.out.1.2.2)
                have HRG1 := Lib.hid hrg1
                have HLT : Hid (cnt1 < cnt ∧ cnt ≤ 1) := Lib.hid ⟨hlt, HU.out.2.1⟩
                have HLE := Lib.hid hrg.left_eq
                obtain ⟨v1, b1, hq1, hv1⟩ := HA1.out.ask_cell HId.out.inv HQL.out HX.out HXW.out
                obtain ⟨w2, hp2, ha2, hg2⟩ := HA1.out.put_cell (by omega) HQL.out (by omega) HX.out HXW.out
                have HA2 := Lib.hid ha2
                have HRG2 := Lib.hid (hrg1.kept hg2 (fun e => by have := Option.some.inj e; have := HRI2.out.2.2; omega) (fun e => by have := Option.some.inj e; have := HRI2.out.1.2.2; omega))
                have HZN := Lib.hid (fun wx => zone_any W H s hsz x wx)
                obtain ⟨f0, f1, f2, fl, _⟩ := (HLP.out _ _ HA2.out).fb.cells
                have ht1 : (b1 && (v1 != (q : Int))) = false := by
                  cases b1 with
                  | false => rfl
                  | true => rw [hv1 rfl]; simp
                clear hhas hrg1 hlt hg1 ha2 hg2 hrg
                cases b1
                all_goals
                  (try (obtain rfl : v1 = (q : Int) := hv1 rfl))
                  clear hv1
                  go_wp2_with fail
                  refine (HZN.out _).mono ?_
                  rintro e w3 ⟨zz, bb, rfl, hz1, hz2, hb3⟩
                  have HA3 := Lib.hid (HA2.out.later hb3)
                  have HRG3 := Lib.hid (HRG2.out.kept (row := none) ⟨hb3.os, hb3.tape, hb3.output, hb3.size, fun i hi _ => hb3.block i hi⟩ (by simp) (by simp))
                  clear hb3 f0 f1 f2 fl hq1 hp2
                  by_cases hl : laneB s x = true
                  · obtain ⟨hzz, rfl⟩ := hz1 ⟨HId.out.inv.right, hl⟩
                    have hZW : IW ((bAt s x - 97 : Nat) : Int) := by
                      have := isL_lt (show isL (bAt s x) = true from hl)
                      exact IW_nat (by omega)
                    have hqz := HA3.out.ask_zone HId.out.inv HQL.out HX.out hl hZW
                    have hpz := HA3.out.put_zone (by omega) HQL.out (by omega) HX.out hl hZW
                    rw [← hzz] at hqz hpz
                    obtain ⟨v2, b2, hq2', hv2⟩ := hqz
                    obtain ⟨w4, hp4, ha4, hg4⟩ := hpz
                    have HA4 := Lib.hid ha4
                    have HRG4 := Lib.hid (HRG3.out.kept hg4 (fun e => by have := Option.some.inj e; have := HRI2.out.2.1; omega) (fun e => by have := Option.some.inj e; have := HRI2.out.1.2.1; omega))
                    clear hz1 hz2 hl hZW ha4 hg4 hzz
                    cases b2
                    all_goals
                      (try (obtain rfl : v2 = (q : Int) := hv2 rfl))
                      clear hv2
                      go_wp2_with fail
                      go_roundw
                      case rel => first | ((repeat apply Exists.intro); exact ⟨⟨_, cnt1, Lib.hid ⟨HRG4.out, by have := HLT.out; omega, HA4.out.mono (by have := HLT.out; omega)⟩⟩, rfl⟩) | exact ⟨_, cnt1, Lib.hid ⟨HRG4.out, by have := HLT.out; omega, HA4.out.mono (by have := HLT.out; omega)⟩⟩
                      case measure => rw [HRG4.out.left_eq, HLE.out]; exact HLT.out.1
                  · obtain ⟨rfl, rfl⟩ := hz2 (fun k => hl k.2)
                    obtain ⟨v2, b2, hq2'⟩ := HA3.out.ask (X := 0) (by unfold IW; omega)
                    clear hz1 hz2 hl
                    go_wp2_with fail
                    go_roundw
                    case rel => first | ((repeat apply Exists.intro); exact ⟨⟨_, cnt1, Lib.hid ⟨HRG3.out, by have := HLT.out; omega, HA3.out.mono (by have := HLT.out; omega)⟩⟩, rfl⟩) | exact ⟨_, cnt1, Lib.hid ⟨HRG3.out, by have := HLT.out; omega, HA3.out.mono (by have := HLT.out; omega)⟩⟩
                    case measure => rw [HRG3.out.left_eq, HLE.out]; exact HLT.out.1
          · rw [g3] at HNW
            obtain ⟨ax, ay, az'⟩ := a
            have HAY : Hid (ay ∈ ats (getM R' q)) := Lib.hid (by unfold ats; rw [g1, g2]; simp)
            clear g1 g2 g3
            go_wp2_with fail
            refine HNW.out.mono ?_
            rintro e wb ⟨rfl, hbb⟩
            dsimp only [actV]
            have hB5 := (Below.refl wb.heap.size wb).alloc (Nat.le_refl _) (.cells #[.int .u8 (ax : Int), .int .i64 ay, .int .i64 az'] 39)
            have HIM4 := Lib.hid ((HIM3.out.later hbb).later hB5)
            have HAB : Hid (Ab wb.heap.size (ax, ay, az') (wb.alloc (.cells #[.int .u8 (ax : Int), .int .i64 ay, .int .i64 az'] 39))) := Lib.hid (heap_alloc_new wb _)
            clear hbb hB5 HNW HIM3
            go_upto_region 18 with (fail)
            generalize wb.alloc (.cells #[.int .u8 (ax : Int), .int .i64 ay, .int .i64 az'] 39) = wb2 at *
            generalize wb.heap.size = ba at *
            obtain ⟨y0, y1, y2, yl, _⟩ := HAB.out.cells
            obtain ⟨wr5, hrun5, him5⟩ := HIM4.out.put (by omega) HAY.out (ats_iw HId.out.inv HQL.out HAY.out)
            have HIM5 : Hid (Im wd bz bc bi s R' (4 * q) q 2 wr5) := Lib.hid him5
            clear him5 HIM4
            go_upto_region 20 with (fail)
            clear y0 y1 y2 yl hrun5 HAB
            have HIMR := Lib.hid HIM5.out
            obtain ⟨mi, ⟨D, hown, hD⟩, hmi⟩ := HIMR.out.set
            have HDM := Lib.hid (And.intro hD hmi)
            have HRI : Hid ((wd.heap.size ≤ wr5.heap.size ∧ bz < wr5.heap.size ∧ bc < wr5.heap.size) ∧ bz ≠ bi ∧ bc ≠ bi) := Lib.hid ⟨⟨HIMR.out.am.below.size, HIMR.out.am.lt.1, HIMR.out.am.lt.2.1⟩, HIMR.out.ne⟩
            have HAMR := Lib.hid HIMR.out.am
            clear hD hmi HIM5 HIMR
            go_wp2_with (first
              | (at_range; refine wpList_range_own _ rfl _ 66 rfl 3 4 (int_keyed Tryz.underlying3) Tryz.underlying66 _ bi 2 D rfl hown ?_; intro w0 hrg0 hg0 hs0)
              | go_in)
            go_frame
            have hsz0 := hown.size_le
            obtain ⟨ri, hri⟩ : ∃ ri, ri = wr5.heap.size := ⟨_, rfl⟩
            rw [← hri] at hrg0 ⊢
            have HRI2 : Hid ((wd.heap.size ≤ ri ∧ bz ≠ ri ∧ bc ≠ ri) ∧ bz ≠ bi ∧ bc ≠ bi) := Lib.hid ⟨by have := HRI.out.1; omega, HRI.out.2⟩
            have HRG0 := Lib.hid hrg0
            have HS0 := Lib.hid hsz0
            have HAM0 := Lib.hid (HAMR.out.later (below_grown hg0 (fun b e => by cases e) (Nat.le_refl _)))
            clear hri hrg0 hg0 hs0 hsz0 hown HRI HAMR
            go_loopw [19] (fun _ wu => ∃ (left : Lit → Bool) (cnt : Nat), Hid (wu.ranges Tryz.prog 3 (plainElem Tryz.prog 4) bi ri 2 D left cnt ∧ cnt ≤ 2 ∧ Am wd bz bc s R' (4 * q + 2 * (2 - cnt)) wu)) (fun _ wu => wu.rangeLeft bi ri)
            case atStart => exact ⟨_, _, Lib.hid ⟨HRG0.out, HS0.out, HAM0.out.mono (by omega)⟩⟩
            case round =>
              rename World => wu
              obtain ⟨left, cnt, HU⟩ := hrel
              have hrg := HU.out.1
              go_wp2_with (first
                | (at_next; refine next_set _ rfl _ rfl bi ri 2 D _ _ rfl hrg ?_ ?_)
                | go_in)
              · intro hc0
                have HAE := Lib.hid (HU.out.2.2.mono (k' := 4 * (q + 1)) (by have := HU.out.2.1; omega))
                clear hrg hc0
                go_wp2_with fail
                go_roundw
                case rel =>
                  first
                  | exact ⟨q + 1, by omega, by go_num, HAE⟩
                  | ((repeat apply Exists.intro); exact ⟨⟨q + 1, by omega, by go_num, HAE⟩, rfl⟩)
                case measure => simp [intOf]; omega
              · intro x vx w1 cnt1 hhas hrg1 hlt hg1 hen
                have HX : Hid (x ∈ ats (getM R' q)) := Lib.hid (HDM.out.2 x (by rw [← (HDM.out.1 x).1]; exact hhas))
                have HXW := Lib.hid (ats_iw HId.out.inv HQL.out HX.out)
                have HA1 := Lib.hid (HU.out.2.2.kept hg1 HRI2.out.1.1 HRI2.out.1.2.1 HRI2.out.1.2.2)
                have HRG1 := Lib.hid hrg1
                have HLT : Hid (cnt1 < cnt ∧ cnt ≤ 2) := Lib.hid ⟨hlt, HU.out.2.1⟩
                have HLE := Lib.hid hrg.left_eq
                obtain ⟨v1, b1, hq1, hv1⟩ := HA1.out.ask_cell HId.out.inv HQL.out HX.out HXW.out
                obtain ⟨w2, hp2, ha2, hg2⟩ := HA1.out.put_cell (by omega) HQL.out (by omega) HX.out HXW.out
                have HA2 := Lib.hid ha2
                have HRG2 := Lib.hid (hrg1.kept hg2 (fun e => by have := Option.some.inj e; have := HRI2.out.2.2; omega) (fun e => by have := Option.some.inj e; have := HRI2.out.1.2.2; omega))
                have HZN := Lib.hid (fun wx => zone_any W H s hsz x wx)
                obtain ⟨f0, f1, f2, fl, _⟩ := (HLP.out _ _ HA2.out).fb.cells
                have ht1 : (b1 && (v1 != (q : Int))) = false := by
                  cases b1 with
                  | false => rfl
                  | true => rw [hv1 rfl]; simp
                clear hhas hrg1 hlt hg1 ha2 hg2 hrg
                cases b1
                all_goals
                  (try (obtain rfl : v1 = (q : Int) := hv1 rfl))
                  clear hv1
                  go_wp2_with fail
                  refine (HZN.out _).mono ?_
                  rintro e w3 ⟨zz, bb, rfl, hz1, hz2, hb3⟩
                  have HA3 := Lib.hid (HA2.out.later hb3)
                  have HRG3 := Lib.hid (HRG2.out.kept (row := none) ⟨hb3.os, hb3.tape, hb3.output, hb3.size, fun i hi _ => hb3.block i hi⟩ (by simp) (by simp))
                  clear hb3 f0 f1 f2 fl hq1 hp2
                  by_cases hl : laneB s x = true
                  · obtain ⟨hzz, rfl⟩ := hz1 ⟨HId.out.inv.right, hl⟩
                    have hZW : IW ((bAt s x - 97 : Nat) : Int) := by
                      have := isL_lt (show isL (bAt s x) = true from hl)
                      exact IW_nat (by omega)
                    have hqz := HA3.out.ask_zone HId.out.inv HQL.out HX.out hl hZW
                    have hpz := HA3.out.put_zone (by omega) HQL.out (by omega) HX.out hl hZW
                    rw [← hzz] at hqz hpz
                    obtain ⟨v2, b2, hq2', hv2⟩ := hqz
                    obtain ⟨w4, hp4, ha4, hg4⟩ := hpz
                    have HA4 := Lib.hid ha4
                    have HRG4 := Lib.hid (HRG3.out.kept hg4 (fun e => by have := Option.some.inj e; have := HRI2.out.2.1; omega) (fun e => by have := Option.some.inj e; have := HRI2.out.1.2.1; omega))
                    clear hz1 hz2 hl hZW ha4 hg4 hzz
                    cases b2
                    all_goals
                      (try (obtain rfl : v2 = (q : Int) := hv2 rfl))
                      clear hv2
                      go_wp2_with fail
                      go_roundw
                      case rel => first | ((repeat apply Exists.intro); exact ⟨⟨_, cnt1, Lib.hid ⟨HRG4.out, by have := HLT.out; omega, HA4.out.mono (by have := HLT.out; omega)⟩⟩, rfl⟩) | exact ⟨_, cnt1, Lib.hid ⟨HRG4.out, by have := HLT.out; omega, HA4.out.mono (by have := HLT.out; omega)⟩⟩
                      case measure => rw [HRG4.out.left_eq, HLE.out]; exact HLT.out.1
                  · obtain ⟨rfl, rfl⟩ := hz2 (fun k => hl k.2)
                    obtain ⟨v2, b2, hq2'⟩ := HA3.out.ask (X := 0) (by unfold IW; omega)
                    clear hz1 hz2 hl
                    go_wp2_with fail
                    go_roundw
                    case rel => first | ((repeat apply Exists.intro); exact ⟨⟨_, cnt1, Lib.hid ⟨HRG3.out, by have := HLT.out; omega, HA3.out.mono (by have := HLT.out; omega)⟩⟩, rfl⟩) | exact ⟨_, cnt1, Lib.hid ⟨HRG3.out, by have := HLT.out; omega, HA3.out.mono (by have := HLT.out; omega)⟩⟩
                    case measure => rw [HRG3.out.left_eq, HLE.out]; exact HLT.out.1
        · obtain rfl : q = nr := by omega
          go_wp2_with fail
          go_roundw
          case rel => exact ⟨j + 1, _, _, by omega, by go_num, Lib.hid (HLP.out _ _ HQ.out)⟩
          case measure => simp [intOf]; omega
    · obtain rfl : j = m := by omega
      go_wp2_with fail
      go_ret
      exact ⟨rfl, HI.out.below⟩
end Tf
end Go.Proofs.YtellaeihcignaaaGreatDoor
