/-
  NetOrder: the walk (written by tools/nworder.py).
-/
import Derived.Test.YtedhmlggmfgpgaaNwH
import Derived.IntWalk
set_option linter.unusedVariables false
set_option maxRecDepth 100000
namespace Go.Proofs.Ytedhmlggmfgpgaa
namespace Nw
open Go.RowKit Bk

set_option maxHeartbeats 2000000 in
theorem netOrder_walk (A : Option Addr) (n cap : Nat) (f : Nat → A13) (pl : Int) (hpl : -9223372036854775808 ≤ pl ∧ pl ≤ 9223372036854775807) (w : World) (h : Acts13 w.heap.size w A n cap f) (_ : True) :
    Calls Try.prog 6 #[.slice A n cap, .int .i64 pl] w fun e w' => e = .returned (.bool true) ∧ Below w.heap.size w w' := by
  have HA := Lib.hid h
  have HPL : Hid (pl ≤ 9223372036854775807) := Lib.hid hpl.2
  clear h
  go_enter Try.func6, Try.ntmps6
  go_wp2_with fail
  refine (shown13_any w).mono ?_
  rintro e w1 ⟨rfl, hb1⟩
  have HB1 := Lib.hid hb1
  clear hb1
  go_wp2_with fail
  refine (new_st w w1 HB1.out).mono ?_
  rintro e w2 ⟨rfl, hs2⟩
  have HS2 : Hid (Sm w w1.heap.size 0 w2) := Lib.hid (by obtain ⟨q1, v, P, L, q2, q3, q4⟩ := hs2; exact ⟨q1, v, P, L, q2, by omega, q4⟩)
  have HF := Lib.hid (few_any A n cap f w2 ⟨HA.out.le, HA.out.max, HA.out.nil, fun hn => by
    obtain ⟨g, off, e, hg, hc⟩ := (HA.out.below HS2.out.below).cell hn
    refine ⟨g, off, e, Nat.lt_of_lt_of_le hg HS2.out.below.size, fun j hj => ?_⟩
    obtain ⟨c0, ⟨A1, n1, c1, k1, k2⟩, c2⟩ := hc j hj
    exact ⟨c0, ⟨A1, n1, c1, k1, k2.raise HS2.out.below.size⟩, c2⟩, HA.out.fits⟩)
  clear hs2
  generalize w1.heap.size = g at *
  go_wp2_with fail
  refine HF.out.mono ?_
  rintro e w3 ⟨rfl, m, hm, hm2, rfl, hsz⟩
  have HSZ := Lib.hid hsz
  have hcs : m ≤ cap := Nat.le_trans hm HA.out.le
  have hcs2 : cap ≤ 9223372036854775807 := by have := HA.out.max; unfold maxLen at this; omega
  clear hsz HF HB1
  go_wp2_with fail
  go_loopw [25] (fun iv wr => ∃ j : Nat, iv = .int .i64 (j : Int) ∧ j ≤ m ∧ Hid (Sm w g j wr)) (fun iv _ => m - (intOf iv).toNat)
  case atStart => exact ⟨0, rfl, Nat.zero_le _, HS2⟩
  case round =>
    rename World => wr
    obtain ⟨j, rfl, hj, HI⟩ := hrel
    by_cases hlj : j < m
    · obtain ⟨ga, off, rfl, hga, hc⟩ := (HA.out.below HI.out.below).cell (by omega)
      obtain ⟨k0, ⟨A1, n1, c1, k1, hy⟩, k2⟩ := hc j (by omega)
      have hfit := HA.out.fits j (by omega)
      have hs := HSZ.out j hlj
      have hjI : (j : Int) < (m : Int) := by omega
      have hga2 : ga < wr.heap.size := Nat.lt_of_lt_of_le hga HI.out.below.size
      generalize f j = fj at *
      obtain ⟨q, s, x⟩ := fj
      have k0 : wr.cell? ⟨ga, off + j * 3, none⟩ = some (.int .u8 (q : Int)) := k0
      have k1 : wr.cell? ⟨ga, off + j * 3 + 1, none⟩ = some (.slice A1 n1 c1) := k1
      have k2 : wr.cell? ⟨ga, off + j * 3 + 2, none⟩ = some (.int .i64 x) := k2
      have hq255 : q ≤ 255 := hfit.1
      have HX : Hid (x ≤ 9223372036854775807) := Lib.hid hfit.2.2
      have hn1 : n1 ≤ 10000 := by rw [← hy.size]; exact hs
      obtain ⟨b0, b1, b2⟩ := act3_cells wr q A1 n1 c1 x
      have hbA := (Below.refl wr.heap.size wr).alloc (Nat.le_refl _) (.cells #[.int .u8 (q : Int), .slice A1 n1 c1, .int .i64 x] 33)
      have HSA := Lib.hid (HI.out.later hbA)
      have HY : Hid (Yb (wr.alloc (.cells #[.int .u8 (q : Int), .slice A1 n1 c1, .int .i64 x] 33)).heap.size (wr.alloc (.cells #[.int .u8 (q : Int), .slice A1 n1 c1, .int .i64 x] 33)) A1 n1 c1 s) := Lib.hid ((hy.raise HI.out.below.size).later hbA)
      clear hc hga hfit hs hy hbA HS2
      rcases (by omega : q % 5 = 0 ∨ q % 5 = 1 ∨ q % 5 = 2 ∨ q % 5 = 3 ∨ q % 5 = 4) with hr | hr | hr | hr | hr
      · have hrI : (q : Int) % 5 = 0 := by omega
        have HT := Lib.hid (HSA.out.send A1 n1 c1 s HY.out (by omega))
        clear hr
        go_wp2_with fail
        refine HT.out.mono ?_
        rintro e w4 ⟨⟨z, rfl⟩, hs4⟩
        have HS4 := Lib.hid hs4
        clear hs4 HT
        go_wp2_with fail
        go_roundw
        case rel => exact ⟨j + 1, by go_num, by omega, HS4⟩
        case measure => simp [intOf]; omega
      · have hrI : (q : Int) % 5 = 1 := by omega
        have HT := Lib.hid (HSA.out.take x HX.out)
        clear hr
        go_wp2_with fail
        refine HT.out.mono ?_
        rintro e w4 ⟨⟨A4, n4, c4, z, rfl⟩, hs4⟩
        have HS4 := Lib.hid hs4
        clear hs4 HT
        go_wp2_with fail
        go_roundw
        case rel => exact ⟨j + 1, by go_num, by omega, HS4⟩
        case measure => simp [intOf]; omega
      · have hrI : (q : Int) % 5 = 2 := by omega
        clear hr
        go_wp2_with fail
        go_roundw
        case rel => exact ⟨j + 1, by go_num, by omega, Lib.hid HSA.out.more⟩
        case measure => simp [intOf]; omega
      · have hrI : (q : Int) % 5 = 3 := by omega
        have HT := Lib.hid (HSA.out.lose x HX.out)
        clear hr
        go_wp2_with fail
        refine HT.out.mono ?_
        rintro e w4 ⟨⟨z, rfl⟩, hs4⟩
        have HS4 := Lib.hid hs4
        clear hs4 HT
        go_wp2_with fail
        go_roundw
        case rel => exact ⟨j + 1, by go_num, by omega, HS4⟩
        case measure => simp [intOf]; omega
      · have hrI : (q : Int) % 5 = 4 := by omega
        clear hr
        go_wp2_with fail
        go_roundw
        case rel => exact ⟨j + 1, by go_num, by omega, Lib.hid HSA.out.more⟩
        case measure => simp [intOf]; omega
    · obtain rfl : j = m := by omega
      obtain ⟨hwg, v, P, L, hn, hl, hb⟩ := HI.out
      have HN := Lib.hid hn
      have HB := Lib.hid hb
      have HWG := Lib.hid hwg
      have hl100 : L.length ≤ 100 := by omega
      clear hn hb hwg HI HS2 HA HSZ
      go_wp2_with fail
      refine (Len_any HN.out).mono ?_
      rintro e w3 ⟨rfl, rfl⟩
      generalize hk : L.length = k at *
      have HK := Lib.hid hk
      clear hk
      go_wp2_with fail
      have hmin : min (k : Int) 100 = (k : Int) := by omega
      (try simp only [hmin])
      have HW0 : Hid (Sw wr w.heap.size (.slice none 0 0) (L.take 0)) := Lib.hid (Sw.nil _ _)
      go_loopw [9, 54] (fun wv iv w3 => ∃ (i : Nat), iv = .int .i64 (i : Int) ∧ i ≤ k ∧ Hid (NAt w3 g g v P L) ∧ Hid (Sw w3 w.heap.size wv (L.take i)) ∧ Hid (Below w.heap.size w w3)) (fun _ iv _ => k - (intOf iv).toNat)
      case atStart => exact ⟨0, rfl, Nat.zero_le _, HN, HW0, HB⟩
      case round =>
        rename World => w3
        clear HN HW0 HB
        obtain ⟨i, rfl, hi, HN, HW, HB⟩ := hrel
        obtain ⟨Aw, cw, hwv⟩ := HW.out.form
        have hlen : (L.take i).length = i := by rw [List.length_take, HK.out]; omega
        rw [hlen] at hwv
        subst hwv
        by_cases hli : i < k
        · have hiI : (i : Int) < (k : Int) := by omega
          have hisA : isA L.length (i : Int) = true := decide_eq_true ⟨by omega, by rw [HK.out]; exact hiI⟩
          have hgt : gtA L (i : Int) = bat L i := by unfold gtA; rw [hisA, if_pos rfl]; rfl
          have HC := Lib.hid (Peek_any HN.out (i : Int))
          unfold PeekTold at HC
          rw [hisA, hgt] at HC
          have HTk : Hid (L.take i ++ [bat L i] = L.take (i + 1)) := Lib.hid (by
            have hlt : i < L.length := by rw [HK.out]; exact hli
            rw [List.take_succ_eq_append_getElem hlt]
            unfold bat
            simp [List.getD, List.getElem?_eq_getElem hlt])
          have HLl := Lib.hid hlen
          clear hisA hgt hlen
          go_wp2_with fail
          refine HC.out.mono ?_
          rintro e w4 ⟨A4, c4, rfl, hy4, hb4⟩
          have q4 := hy4.yb.conv
          have hbo := (Below.refl w4.heap.size w4).alloc (Nat.le_refl _) (.cells #[.string (bat L i)] 9)
          have HN4 := Lib.hid ((HN.out.later hb4).later hbo)
          have HW4 := Lib.hid ((HW.out.later hb4).later hbo)
          have HB4 := Lib.hid ((HB.out.trans (hb4.mono HB.out.size)).trans (hbo.mono (Nat.le_trans HB.out.size hb4.size)))
          have HO := Lib.hid (Sg.one w4 (bat L i))
          clear hy4 hb4 hbo HC HN HW HB
          generalize hs : bat L i = s at *
          generalize hw5 : w4.alloc (.cells #[.string s] 9) = w5 at *
          go_wp2_with (at_builtin; (try rw [hw5]); refine app_strs rfl _ _ rfl w.heap.size _ (L.take i) rfl HW4.out (some ⟨w4.heap.size, 0, none⟩) 1 1 [s] rfl HO.out (by have := HLl.out; omega) HB4.out.size ?_; intro A' n' c' w6 hn6 ho6 hb6 hg6 hx6; have HO6 := Lib.hid ho6; have HN6 := Lib.hid (HN4.out.keepS HW4.out hg6); have HB6 := Lib.hid (HB4.out.trans hb6); clear hn6 ho6 hb6 hg6 hx6)
          go_roundw
          case rel => exact ⟨i + 1, by go_num, by omega, HN6, Lib.hid (by have := HO6.out; rwa [HTk.out] at this), HB6⟩
          case measure => simp [intOf]; omega
        · obtain rfl : i = k := by omega
          have HWL : Hid (Sw w3 w.heap.size (.slice Aw i cw) L) := Lib.hid (by have := HW.out; rwa [List.take_of_length_le (by rw [HK.out]; exact Nat.le_refl _)] at this)
          have HC := Lib.hid (Take_any HN.out pl HPL.out)
          unfold TakeTold at HC
          rw [HK.out] at HC
          have HNF : Hid (∀ k, NF g v P k → k < w3.heap.size) := Lib.hid (fun k hk => (HN.out.blocks k hk).2)
          clear hlen HW
          cases hiA : isA i pl with
          | false =>
            have HOU : Hid (ouA pl L = L) := Lib.hid (by unfold ouA; rw [HK.out, hiA]; rfl)
            rw [hiA] at HC
            have hiA2 : ¬ (0 ≤ pl ∧ pl < (i : Int)) := of_decide_eq_false hiA
            clear hiA
            go_wp2_with fail
            refine HC.out.mono ?_
            rintro e w5 ⟨A5, c5, v5, P5, rfl, hy5, hn5, ht5, hs5⟩
            rw [HOU.out] at hn5
            have HN5 := Lib.hid hn5
            have HW5 := Lib.hid (HWL.out.keepN HN.out ht5)
            have HB5 := Lib.hid (HN.out.belowT ht5 HB.out (Nat.le_refl _) HWG.out)
            clear hy5 hn5 ht5 hs5 HC HN HB HWL HNF
            by_cases h0 : 0 ≤ pl
            · have d0 : decide (0 ≤ pl) = true := decide_eq_true h0
              have d1 : decide (pl < (i : Int)) = false := decide_eq_false (fun h => hiA2 ⟨h0, h⟩)
              go_wp2_with fail
              go_big_quiet (fail)
              have HN6 := Lib.hid (HN5.out.later (Bk.below_drewN _ _ nq))
              have HW6 := Lib.hid (HW5.out.later (Bk.below_drewN _ _ nq))
              have HB6 := Lib.hid (HB5.out.trans (Bk.below_drewN _ _ nq))
              clear HN5 HW5 HB5
              go_wp2_with fail
              refine (Len_any HN6.out).mono ?_
              rintro e w8 ⟨rfl, rfl⟩
              (try rw [HK.out])
              go_wp2_with fail
              go_loopw [117] (fun iv wr => ∃ (t : Nat), iv = .int .i64 (t : Int) ∧ t ≤ i ∧ Hid (NAt wr g g v5 P5 L) ∧ Hid (Sw wr w.heap.size (.slice Aw i cw) L) ∧ Hid (Below w.heap.size w wr)) (fun iv _ => i - (intOf iv).toNat)
              case atStart => exact ⟨0, rfl, Nat.zero_le _, HN6, HW6, HB6⟩
              case round =>
                rename World => wr
                clear HN6 HW6 HB6
                obtain ⟨t, rfl, ht, HN, HW, HB⟩ := hrel
                by_cases hlt : t < i
                · have htI : (t : Int) < (i : Int) := by omega
                  have hisA : isA L.length (t : Int) = true := decide_eq_true ⟨by omega, by rw [HK.out]; exact htI⟩
                  have hgt : gtA L (t : Int) = bat L t := by unfold gtA; rw [hisA, if_pos rfl]; rfl
                  have HC := Lib.hid (Peek_any HN.out (t : Int))
                  unfold PeekTold at HC
                  rw [hisA, hgt] at HC
                  clear hisA hgt
                  go_wp2_with fail
                  refine HC.out.mono ?_
                  rintro e wp ⟨Ap, cp, rfl, hyp, hbp⟩
                  have qp := hyp.yb.conv
                  obtain ⟨gw, ow, eA, _, kw⟩ := ((HW.out.later hbp).sg.2).cell hlt
                  subst eA
                  have HNp := Lib.hid (HN.out.later hbp)
                  have HWp := Lib.hid (HW.out.later hbp)
                  have HBp := Lib.hid (HB.out.trans (hbp.mono HB.out.size))
                  have hs1 := Gt.size (HW.out.sg.2)
                  have hs2 := hs1.1
                  have hs3 := hs1.2
                  have qpd : (convert 31 9 (.slice Ap (bat L t).size cp)).run Try.prog wp.drew = .ok (.string (bat L t)) wp.drew := (hyp.yb.later (Below.refl _ _).drew).conv
                  clear hyp hbp HC HN HW HB hs1
                  generalize hs : bat L t = s at *
                  go_wp2_with fail
                  go_region
                  all_goals go_wp2_with fail
                  go_roundw
                  case rel => exact ⟨t + 1, by go_num, by omega, Lib.hid (HNp.out.later (Below.refl _ _).drew), Lib.hid (HWp.out.later (Below.refl _ _).drew), Lib.hid HBp.out.drew⟩
                  case measure => simp [intOf]; omega
                · obtain rfl : t = i := by omega
                  go_wp2_with fail
                  go_ret
                  exact ⟨rfl, HB.out⟩

            · have d0 : decide (0 ≤ pl) = false := decide_eq_false h0
              go_wp2_with fail
              go_big_quiet (fail)
              have HN6 := Lib.hid (HN5.out.later (Bk.below_drewN _ _ nq))
              have HW6 := Lib.hid (HW5.out.later (Bk.below_drewN _ _ nq))
              have HB6 := Lib.hid (HB5.out.trans (Bk.below_drewN _ _ nq))
              clear HN5 HW5 HB5
              go_wp2_with fail
              refine (Len_any HN6.out).mono ?_
              rintro e w8 ⟨rfl, rfl⟩
              (try rw [HK.out])
              go_wp2_with fail
              go_loopw [117] (fun iv wr => ∃ (t : Nat), iv = .int .i64 (t : Int) ∧ t ≤ i ∧ Hid (NAt wr g g v5 P5 L) ∧ Hid (Sw wr w.heap.size (.slice Aw i cw) L) ∧ Hid (Below w.heap.size w wr)) (fun iv _ => i - (intOf iv).toNat)
              case atStart => exact ⟨0, rfl, Nat.zero_le _, HN6, HW6, HB6⟩
              case round =>
                rename World => wr
                clear HN6 HW6 HB6
                obtain ⟨t, rfl, ht, HN, HW, HB⟩ := hrel
                by_cases hlt : t < i
                · have htI : (t : Int) < (i : Int) := by omega
                  have hisA : isA L.length (t : Int) = true := decide_eq_true ⟨by omega, by rw [HK.out]; exact htI⟩
                  have hgt : gtA L (t : Int) = bat L t := by unfold gtA; rw [hisA, if_pos rfl]; rfl
                  have HC := Lib.hid (Peek_any HN.out (t : Int))
                  unfold PeekTold at HC
                  rw [hisA, hgt] at HC
                  clear hisA hgt
                  go_wp2_with fail
                  refine HC.out.mono ?_
                  rintro e wp ⟨Ap, cp, rfl, hyp, hbp⟩
                  have qp := hyp.yb.conv
                  obtain ⟨gw, ow, eA, _, kw⟩ := ((HW.out.later hbp).sg.2).cell hlt
                  subst eA
                  have HNp := Lib.hid (HN.out.later hbp)
                  have HWp := Lib.hid (HW.out.later hbp)
                  have HBp := Lib.hid (HB.out.trans (hbp.mono HB.out.size))
                  have hs1 := Gt.size (HW.out.sg.2)
                  have hs2 := hs1.1
                  have hs3 := hs1.2
                  have qpd : (convert 31 9 (.slice Ap (bat L t).size cp)).run Try.prog wp.drew = .ok (.string (bat L t)) wp.drew := (hyp.yb.later (Below.refl _ _).drew).conv
                  clear hyp hbp HC HN HW HB hs1
                  generalize hs : bat L t = s at *
                  go_wp2_with fail
                  go_region
                  all_goals go_wp2_with fail
                  go_roundw
                  case rel => exact ⟨t + 1, by go_num, by omega, Lib.hid (HNp.out.later (Below.refl _ _).drew), Lib.hid (HWp.out.later (Below.refl _ _).drew), Lib.hid HBp.out.drew⟩
                  case measure => simp [intOf]; omega
                · obtain rfl : t = i := by omega
                  go_wp2_with fail
                  go_ret
                  exact ⟨rfl, HB.out⟩

          | true =>
            have hiA2 : 0 ≤ pl ∧ pl < (i : Int) := of_decide_eq_true hiA
            obtain ⟨x, rfl⟩ := Int.eq_ofNat_of_zero_le hiA2.1
            have hxi : x < i := by omega
            have HOU : Hid (ouA (x : Int) L = ou x L) := Lib.hid (by unfold ouA; rw [HK.out, hiA, if_pos rfl]; rfl)
            have hgt : gtA L (x : Int) = bat L x := by unfold gtA; rw [HK.out, hiA, if_pos rfl]; rfl
            rw [hiA, hgt, HOU.out] at HC
            clear hiA hgt
            go_wp2_with fail
            refine HC.out.mono ?_
            rintro e w5 ⟨A5, c5, v5, P5, rfl, hy5, hn5, ht5, hs5⟩
            have HN5 := Lib.hid hn5
            have HW5 := Lib.hid (HWL.out.keepN HN.out ht5)
            have HB5 := Lib.hid (HN.out.belowT ht5 HB.out (Nat.le_refl _) HWG.out)
            have q5 : (convert 31 9 (.slice A5 (bat L x).size c5)).run Try.prog w5.drew = .ok (.string (bat L x)) w5.drew := (hy5.yb.later (Below.refl _ _).drew).conv
            obtain ⟨gw, ow, eA, _, kw⟩ := (HW5.out.sg.2).cell hxi
            subst eA
            have hz := Gt.size (HW5.out.sg.2)
            have hz1 := hz.1
            have hz2 := hz.2
            have d0 : decide (0 ≤ (x : Int)) = true := decide_eq_true (by omega)
            have d1 : decide ((x : Int) < (i : Int)) = true := decide_eq_true (by omega)
            have hxI : (x : Int) < (i : Int) := by omega
            clear hy5 hn5 ht5 hs5 HC HN HB HWL HNF hiA2 hz
            generalize hs : bat L x = s at *
            go_wp2_with fail
            go_region
            all_goals go_wp2_with fail
            have HN6 := Lib.hid (HN5.out.later (Below.refl _ _).drew)
            have HW6 := Lib.hid (HW5.out.later (Below.refl _ _).drew)
            have HB6 := Lib.hid HB5.out.drew
            clear HN5 HW5 HB5 q5 kw
            generalize w5.drew = w6 at *
            have HG0 := Lib.hid HW6.out.sg.2
            have HG1 := Lib.hid (HG0.out.cut (m := x) (Nat.le_of_lt hxi))
            have hil : (x : Int) ≤ (cw : Int) := by omega
            have hil2 : (x : Int) + 1 ≤ (i : Int) := by omega
            have hnc : (i : Int) ≤ (cw : Int) := by omega
            have hi0 : (0 : Int) ≤ (x : Int) := by omega
            have hi1 : (0 : Int) ≤ (x : Int) + 1 := by omega
            have hi2 : (x : Int) + 1 ≤ (cw : Int) := by omega
            have hiw : IntKind.i64.wrap ((x : Int) + 1) = (x : Int) + 1 := IntWalk.i64_in _ (by omega)
            have HB0 := Lib.hid (((Below.refl w6.heap.size w6).alloc (Nat.le_refl _) (.cells #[] 9)).drew)
            have HSA : Hid (w6.heap.size ≤ (w6.alloc (.cells #[] 9)).drew.heap.size) := Lib.hid (by rw [show (w6.alloc (.cells #[] 9)).drew.heap.size = w6.heap.size + 1 by simp [World.drew]]; exact Nat.le_succ _)
            have HL1 : Hid (([] : List ByteArray).length + x ≤ 1000000) := Lib.hid (by simp; omega)
            by_cases hcap : cw = x + 1
            · have HG2 : Hid (Sg w6.heap.size w6 (some ⟨gw, ow, none⟩) 0 0 (L.drop (x + 1))) := Lib.hid (by
                have := HG0.out.tail (m := x + 1) (by omega) (some ⟨gw, ow, none⟩) (by simp) (fun h => by omega)
                rwa [show i - (x + 1) = 0 by omega, show cw - (x + 1) = 0 by omega] at this)
              have HL2 : Hid (([] ++ L.take x).length + 0 ≤ 1000000) := Lib.hid (by simp; omega)
              obtain rfl : cw = i := by omega
              have hcap' : x + 1 = cw := hcap.symm
              clear hcap
              go_region_held3 (fun _ => True) (trivial) ((first
                | ((fail_if_success have _k := HO7); refine step_app_strs (by rfl) _ _ (by rfl) w6.heap.size (.slice (some ⟨w6.heap.size, 0, none⟩) 0 0) [] (by rfl) (Sw.empty w6.drew w6.heap.size (Nat.le_refl _)) _ x cw (L.take x) (by rfl) (Gt.raise (Gt.below HG1.out HB0.out) HSA.out) HL1.out HSA.out ?_; intro A7 n7 c7 w7 hn7 ho7 hb7; have HO7 := Lib.hid ho7; have HB7 := Lib.hid (HB0.out.trans hb7); clear ho7 hb7 hn7)
                | (have _k := HO7; refine step_app_strs (by rfl) _ _ (by rfl) w6.heap.size _ ([] ++ L.take x) (by rfl) HO7.out _ _ _ (L.drop (x + 1)) (by rfl) (Gt.raise (Gt.below HG2.out HB7.out) HB7.out.size) HL2.out HB7.out.size ?_; intro A9 n9 c9 w9 hn9 ho9 hb9; have HO9 := Lib.hid ho9; have HN9 := Lib.hid hn9; have HB9 := Lib.hid (HB7.out.trans hb9); clear ho9 hb9 hn9)
                | fail))
              obtain ⟨M, hM⟩ : ∃ M, M = ou x L := ⟨_, rfl⟩
              have HNn : Hid (NAt w9 g g v5 P5 M) := Lib.hid (by rw [hM]; exact HN6.out.later HB9.out)
              have HBn : Hid (Below w.heap.size w w9) := Lib.hid (HB6.out.trans (HB9.out.mono HB6.out.size))
              have hnM : n9 = M.length := by rw [hM]; exact HN9.out
              have HWn : Hid (Sw w9 w.heap.size (.slice A9 n9 c9) M) := Lib.hid (by rw [hM]; exact (HO9.out.lower HB6.out.size))
              have hM100 : M.length ≤ 100 := by
                have := ou_len (i := x) (L := L) (by rw [HK.out]; omega)
                have e := HK.out
                rw [← hM] at this
                omega
              subst hnM
              generalize hk2 : M.length = k2 at *
              have HK2 := Lib.hid hk2
              clear HO7 HO9 HN9 HB9 HB7 HN6 HW6 HB6 HG0 HG1 HG2 HB0 HSA HL1 HL2 hk2 hM
              go_wp2_with fail
              refine (Len_any HNn.out).mono ?_
              rintro e w8 ⟨rfl, rfl⟩
              (try rw [HK2.out])
              go_wp2_with fail
              go_loopw [117] (fun iv wr => ∃ (t : Nat), iv = .int .i64 (t : Int) ∧ t ≤ k2 ∧ Hid (NAt wr g g v5 P5 M) ∧ Hid (Sw wr w.heap.size (.slice A9 k2 c9) M) ∧ Hid (Below w.heap.size w wr)) (fun iv _ => k2 - (intOf iv).toNat)
              case atStart => exact ⟨0, rfl, Nat.zero_le _, HNn, HWn, HBn⟩
              case round =>
                rename World => wr
                clear HNn HWn HBn
                obtain ⟨t, rfl, ht, HN, HW, HB⟩ := hrel
                by_cases hlt : t < k2
                · have htI : (t : Int) < (k2 : Int) := by omega
                  have hisA : isA M.length (t : Int) = true := decide_eq_true ⟨by omega, by rw [HK2.out]; exact htI⟩
                  have hgt : gtA M (t : Int) = bat M t := by unfold gtA; rw [hisA, if_pos rfl]; rfl
                  have HC := Lib.hid (Peek_any HN.out (t : Int))
                  unfold PeekTold at HC
                  rw [hisA, hgt] at HC
                  clear hisA hgt
                  go_wp2_with fail
                  refine HC.out.mono ?_
                  rintro e wp ⟨Ap, cp, rfl, hyp, hbp⟩
                  have qp := hyp.yb.conv
                  obtain ⟨gw, ow, eA, _, kw⟩ := ((HW.out.later hbp).sg.2).cell hlt
                  subst eA
                  have HNp := Lib.hid (HN.out.later hbp)
                  have HWp := Lib.hid (HW.out.later hbp)
                  have HBp := Lib.hid (HB.out.trans (hbp.mono HB.out.size))
                  have hs1 := Gt.size (HW.out.sg.2)
                  have hs2 := hs1.1
                  have hs3 := hs1.2
                  have qpd : (convert 31 9 (.slice Ap (bat M t).size cp)).run Try.prog wp.drew = .ok (.string (bat M t)) wp.drew := (hyp.yb.later (Below.refl _ _).drew).conv
                  clear hyp hbp HC HN HW HB hs1
                  generalize hs : bat M t = s at *
                  go_wp2_with fail
                  go_region
                  all_goals go_wp2_with fail
                  go_roundw
                  case rel => exact ⟨t + 1, by go_num, by omega, Lib.hid (HNp.out.later (Below.refl _ _).drew), Lib.hid (HWp.out.later (Below.refl _ _).drew), Lib.hid HBp.out.drew⟩
                  case measure => simp [intOf]; omega
                · obtain rfl : t = k2 := by omega
                  go_wp2_with fail
                  go_ret
                  exact ⟨rfl, HB.out⟩


            · have HG2 : Hid (Sg w6.heap.size w6 (some ⟨gw, ow + (x + 1), none⟩) (i - (x + 1)) (cw - (x + 1)) (L.drop (x + 1))) := Lib.hid (HG0.out.tail (by omega) _ (by simp) (fun h => rfl))
              have HL2 : Hid (([] ++ L.take x).length + (i - (x + 1)) ≤ 1000000) := Lib.hid (by simp; omega)
              go_region_held3 (fun _ => True) (trivial) ((first
                | ((fail_if_success have _k := HO7); refine step_app_strs (by rfl) _ _ (by rfl) w6.heap.size (.slice (some ⟨w6.heap.size, 0, none⟩) 0 0) [] (by rfl) (Sw.empty w6.drew w6.heap.size (Nat.le_refl _)) _ x cw (L.take x) (by rfl) (Gt.raise (Gt.below HG1.out HB0.out) HSA.out) HL1.out HSA.out ?_; intro A7 n7 c7 w7 hn7 ho7 hb7; have HO7 := Lib.hid ho7; have HB7 := Lib.hid (HB0.out.trans hb7); clear ho7 hb7 hn7)
                | (have _k := HO7; refine step_app_strs (by rfl) _ _ (by rfl) w6.heap.size _ ([] ++ L.take x) (by rfl) HO7.out _ _ _ (L.drop (x + 1)) (by rfl) (Gt.raise (Gt.below HG2.out HB7.out) HB7.out.size) HL2.out HB7.out.size ?_; intro A9 n9 c9 w9 hn9 ho9 hb9; have HO9 := Lib.hid ho9; have HN9 := Lib.hid hn9; have HB9 := Lib.hid (HB7.out.trans hb9); clear ho9 hb9 hn9)
                | fail))
              obtain ⟨M, hM⟩ : ∃ M, M = ou x L := ⟨_, rfl⟩
              have HNn : Hid (NAt w9 g g v5 P5 M) := Lib.hid (by rw [hM]; exact HN6.out.later HB9.out)
              have HBn : Hid (Below w.heap.size w w9) := Lib.hid (HB6.out.trans (HB9.out.mono HB6.out.size))
              have hnM : n9 = M.length := by rw [hM]; exact HN9.out
              have HWn : Hid (Sw w9 w.heap.size (.slice A9 n9 c9) M) := Lib.hid (by rw [hM]; exact (HO9.out.lower HB6.out.size))
              have hM100 : M.length ≤ 100 := by
                have := ou_len (i := x) (L := L) (by rw [HK.out]; omega)
                have e := HK.out
                rw [← hM] at this
                omega
              subst hnM
              generalize hk2 : M.length = k2 at *
              have HK2 := Lib.hid hk2
              clear HO7 HO9 HN9 HB9 HB7 HN6 HW6 HB6 HG0 HG1 HG2 HB0 HSA HL1 HL2 hk2 hM
              go_wp2_with fail
              refine (Len_any HNn.out).mono ?_
              rintro e w8 ⟨rfl, rfl⟩
              (try rw [HK2.out])
              go_wp2_with fail
              go_loopw [117] (fun iv wr => ∃ (t : Nat), iv = .int .i64 (t : Int) ∧ t ≤ k2 ∧ Hid (NAt wr g g v5 P5 M) ∧ Hid (Sw wr w.heap.size (.slice A9 k2 c9) M) ∧ Hid (Below w.heap.size w wr)) (fun iv _ => k2 - (intOf iv).toNat)
              case atStart => exact ⟨0, rfl, Nat.zero_le _, HNn, HWn, HBn⟩
              case round =>
                rename World => wr
                clear HNn HWn HBn
                obtain ⟨t, rfl, ht, HN, HW, HB⟩ := hrel
                by_cases hlt : t < k2
                · have htI : (t : Int) < (k2 : Int) := by omega
                  have hisA : isA M.length (t : Int) = true := decide_eq_true ⟨by omega, by rw [HK2.out]; exact htI⟩
                  have hgt : gtA M (t : Int) = bat M t := by unfold gtA; rw [hisA, if_pos rfl]; rfl
                  have HC := Lib.hid (Peek_any HN.out (t : Int))
                  unfold PeekTold at HC
                  rw [hisA, hgt] at HC
                  clear hisA hgt
                  go_wp2_with fail
                  refine HC.out.mono ?_
                  rintro e wp ⟨Ap, cp, rfl, hyp, hbp⟩
                  have qp := hyp.yb.conv
                  obtain ⟨gw, ow, eA, _, kw⟩ := ((HW.out.later hbp).sg.2).cell hlt
                  subst eA
                  have HNp := Lib.hid (HN.out.later hbp)
                  have HWp := Lib.hid (HW.out.later hbp)
                  have HBp := Lib.hid (HB.out.trans (hbp.mono HB.out.size))
                  have hs1 := Gt.size (HW.out.sg.2)
                  have hs2 := hs1.1
                  have hs3 := hs1.2
                  have qpd : (convert 31 9 (.slice Ap (bat M t).size cp)).run Try.prog wp.drew = .ok (.string (bat M t)) wp.drew := (hyp.yb.later (Below.refl _ _).drew).conv
                  clear hyp hbp HC HN HW HB hs1
                  generalize hs : bat M t = s at *
                  go_wp2_with fail
                  go_region
                  all_goals go_wp2_with fail
                  go_roundw
                  case rel => exact ⟨t + 1, by go_num, by omega, Lib.hid (HNp.out.later (Below.refl _ _).drew), Lib.hid (HWp.out.later (Below.refl _ _).drew), Lib.hid HBp.out.drew⟩
                  case measure => simp [intOf]; omega
                · obtain rfl : t = k2 := by omega
                  go_wp2_with fail
                  go_ret
                  exact ⟨rfl, HB.out⟩


end Nw
end Go.Proofs.Ytedhmlggmfgpgaa
