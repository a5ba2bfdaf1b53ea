/-
  The walk of TrafficSafe (written by tools/tfsafe.py).
-/
import Derived.Test.YtellaeihcignaaaGreatDoorTfT
set_option linter.unusedVariables false
set_option maxRecDepth 100000
namespace Go.Proofs.YtellaeihcignaaaGreatDoor
namespace Tf
open Go.RowKit Fl Tr Pt
open Bk (Cm hold need Cl Lt MayP safe_any Iw app_ints ivs Rg SafC)
open Lk (Ow T0 zns at9)

set_option maxHeartbeats 32000000 in
theorem trafficSafe_walk (t : ByteArray) (ht : t.size ≤ maxLen) (A : Option Addr) (n cap0 : Nat) (L : List Sp11) (w : World) (hl : Ls w.heap.size w A n cap0 L) :
    Calls Tryz.prog 4 #[.string t, .slice A n cap0] w fun e w' => e = .returned (.bool true) ∧ Below w.heap.size w w' := by
  have HL := Lib.hid hl
  have HFL := Lib.hid (fun wx => floors11_any t ht wx)
  have hc1 := hl.le
  have hc2 := hl.max
  clear hl
  go_enter Tryz.func4, Tryz.ntmps4
  go_wp2_with fail
  refine (shown11_any _).mono ?_
  rintro e w1 ⟨rfl, hb1⟩
  have HB1 := Lib.hid hb1
  clear hb1
  go_wp2_with fail
  refine (HFL.out _).mono ?_
  rintro e w2 ⟨W, H, s, rfl, hR, hb2⟩
  have HR := Lib.hid hR
  have HB2 := Lib.hid (HB1.out.trans (hb2.mono HB1.out.size))
  have hsz : s.size ≤ maxLen := by have := rightLe hR; unfold maxLen; omega
  have HNW := Lib.hid (fun wx => new_any W H s hsz wx)
  clear hR hb2
  have HF := Lib.hid (Fb.new w2 W H s)
  obtain ⟨f0, f1, f2, fl, _⟩ := HF.out.cells
  go_wp2_with fail
  refine (HNW.out _).mono ?_
  rintro e w3 hnw
  rcases hnw with ⟨hno, _⟩ | ⟨_, S, g, M, cap, top, rfl, hst, hge, hb3⟩
  · exact absurd HR.out hno
  have HLP := Lib.hid (lp_start HB2.out HR.out hst hge hb3)
  clear hst hge hb3 f0 f1 f2 fl HNW
  generalize docked s (pick isD (at_ s) s.size).length = R0 at *
  generalize T0 = TT0 at *
  generalize w2.heap.size = bF at *
  have HFW := Lib.hid (few11_any A n cap0 w.heap.size L w3 (HL.out.below HLP.out.below))
  go_wp2_with fail
  refine HFW.out.mono ?_
  rintro e w4 ⟨m, rfl, hmn, hm100, hm60, rfl⟩
  have HLM := Lib.hid (HL.out.cut hmn)
  have HM60 := Lib.hid hm60
  have hmc : m ≤ cap0 := Nat.le_trans hmn hc1
  clear hm60 hmn HFW
  generalize L.take m = Lm at *
  go_wp2_with fail
  go_loopw [41] (fun iv wr => ∃ (j : Nat) (R : List Mv) (T : List Ow), j ≤ m ∧ iv = .int .i64 (j : Int) ∧ Hid (Lp w bF S g M cap top W H s R T wr)) (fun iv _ => m - (intOf iv).toNat)
  case atStart => exact ⟨0, R0, TT0, by omega, rfl, HLP⟩
  case round =>
    rename World => wr
    obtain ⟨j, R, T, hj, rfl, HI⟩ := hrel
    by_cases hlt : j < m
    · obtain ⟨gl, ol, A2, n2, c2, rfl, hgl, k0, k1, k2, k3, k4, hal, hk255⟩ := (HLM.out.below HI.out.below).cell j hlt
      have hjI : (j : Int) < (m : Int) := by omega
      have hgr := Nat.lt_of_lt_of_le hgl HI.out.below.size
      generalize Lm.getD j (0, 0, 0, 0, []) = p at *
      obtain ⟨k, r, f, tt, LA⟩ := p
      have k0 : wr.cell? ⟨gl, ol + j * 5, none⟩ = some (.int .u8 (k : Int)) := k0
      have k1 : wr.cell? ⟨gl, ol + j * 5 + 1, none⟩ = some (.int .i64 r) := k1
      have k2 : wr.cell? ⟨gl, ol + j * 5 + 2, none⟩ = some (.int .i64 f) := k2
      have k3 : wr.cell? ⟨gl, ol + j * 5 + 3, none⟩ = some (.int .i64 tt) := k3
      have hk255 : k ≤ 255 := hk255
      have HAL := Lib.hid (show Al w.heap.size wr A2 n2 c2 LA from hal)
      have hBa := (Below.refl wr.heap.size wr).alloc (Nat.le_refl _) (.cells #[.int .u8 (k : Int), .int .i64 r, .int .i64 f, .int .i64 tt, .slice A2 n2 c2] 37)
      have HIa := Lib.hid (HI.out.later hBa)
      have HSa := Lib.hid (Sx.new wr k r f tt A2 n2 c2)
      have HBX : Hid (bF ≠ g ∧ wr.heap.size ≠ g ∧ wr.heap.size ≠ M) := Lib.hid (by have h := HI.out.st.tops; exact ⟨HI.out.ge.2.2.1, by omega, by omega⟩)
      have HALa := Lib.hid ((HAL.out.below (hBa.mono HI.out.below.size)).raise HIa.out.below.size)
      clear hal hBa
      go_upto_region 9 with (fail)
      clear k0 k1 k2 k3 k4 hgl hgr
      generalize wr.alloc (.cells #[.int .u8 (k : Int), .int .i64 r, .int .i64 f, .int .i64 tt, .slice A2 n2 c2] 37) = wa at *
      generalize wr.heap.size = bx at *
      obtain ⟨c0, c1, c2', c3, c4, cl⟩ := HSa.out.cells
      obtain ⟨f0, f1, f2, fl, _⟩ := HIa.out.fb.cells
      have HDO := Lib.hid (does11_any HIa.out.st HIa.out.inv hsz k hk255 r f tt A2 n2 c2 LA HALa.out)
      unfold stepV at HDO
      go_wp2_with fail
      refine HDO.out.mono ?_
      rintro e wd ⟨x, er, R', T', rfl, hdr, hsd, hfd⟩
      have hinv' := hdr.inv HIa.out.inv
      have HId := Lib.hid (HIa.out.fr hfd hsd hinv')
      clear hdr hsd hfd hinv' c0 c1 c2' c3 c4 cl f0 f1 f2 fl HDO
      have HCL := Lib.hid (claims_any HId.out.st HId.out.inv.few HId.out.inv.lens)
      dsimp only [actV]
      go_wp2_with fail
      refine HCL.out.mono ?_
      rintro e wb ⟨Ac, nc, cc, rfl, hch, hbb⟩
      have HCB := Lib.hid hch
      have HIb := Lib.hid (HId.out.later hbb)
      have hnc := hch.len
      rw [clm_len] at hnc
      have HNC := Lib.hid hnc
      obtain ⟨sc1, sc2⟩ := hch.cl.size
      obtain ⟨f0, f1, f2, fl, _⟩ := HIb.out.fb.cells
      have HRO := Lib.hid (fun wx => robots_any W H s hsz wx)
      have HRN : Hid (R'.length = (pick isD (at_ s) s.size).length) := Lib.hid HIb.out.inv.n
      clear hch hbb HCL hnc
      go_wp2_with fail
      refine (HRO.out _).mono ?_
      rintro e wc ⟨nr, rfl, hnr, _, hbc⟩
      have hnr2 : nr = nc := by rw [hnr HIb.out.inv.right, ← HRN.out, HNC.out]
      subst hnr2
      have HIc := Lib.hid (HIb.out.later hbc)
      have HCc := Lib.hid (HCB.out.keep (KeepT.of hbc))
      have HSF := Lib.hid (safe_any Ac nr cc _ wc HCc.out.cl)
      clear hnr hbc f0 f1 f2 fl
      go_wp2_with fail
      refine HSF.out.mono ?_
      rintro e wf ⟨bs, rfl, hbs, hbf⟩
      obtain rfl : bs = true := hbs.2 ⟨HIc.out.inv.rg, HIc.out.inv.safe⟩
      have HIf := Lib.hid (HIc.out.later hbf)
      have HCf := Lib.hid (HCc.out.keep (KeepT.of hbf))
      clear hbs hbf HSF
      go_wp2_with fail
      go_loopw [63] (fun iv wq => ∃ q : Nat, q ≤ nr ∧ iv = .int .i64 (q : Int) ∧ Hid (Lp w bF S g M cap top W H s R' T' wq ∧ Below wf.heap.size wf wq)) (fun iv _ => nr - (intOf iv).toNat)
      case atStart => exact ⟨0, by omega, rfl, Lib.hid ⟨HIf.out, Below.refl _ _⟩⟩
      case round =>
        rename World => wq
        obtain ⟨q, hq, rfl, HQ⟩ := hrel
        by_cases hq2 : q < nr
        · have hqI : (q : Int) < (nr : Int) := by omega
          have HQR : Hid (q < R'.length) := Lib.hid (by rw [HNC.out]; exact hq2)
          have HCE := Lib.hid (cell_any HQ.out.1.st (q : Int))
          go_wp2_with fail
          refine HCE.out.mono ?_
          unfold CellTold
          rw [cellF_in HQR.out]
          rintro e w1' ⟨rfl, hb1'⟩
          have HQ1 := Lib.hid (And.intro (HQ.out.1.later hb1') (HQ.out.2.trans (hb1'.mono HQ.out.2.size)))
          clear hb1' HCE
          have HZN := Lib.hid (fun c wx => zone_any W H s hsz c wx)
          have HMV := Lib.hid (mv_cases HQ.out.1.inv HQR.out)
          have HML := Lib.hid (fun ML hnd hmem => may_len HQ.out.1.inv HQR.out (ML := ML) hnd hmem)
          have HME := Lib.hid (fun ML hmem h2 j hj => may_ends HQ.out.1.inv HQR.out (ML := ML) hmem h2 j hj)
          obtain ⟨f0, f1, f2, fl, _⟩ := HQ1.out.1.fb.cells
          generalize hmm : getM R' q = mm at *
          have HHS : Hid (hs s mm = zc s mm.1 ++ goP s mm) := Lib.hid (hs_parts s mm)
          obtain ⟨cc1, ll, bz⟩ := mm
          have HMM := Lib.hid hmm
          clear hmm
          dsimp only at *
          go_wp2_with fail
          refine (HZN.out cc1 _).mono ?_
          rintro e w2' ⟨z1, ln1, rfl, hz1, hz2, hb2'⟩
          have HQ2 := Lib.hid (And.intro (HQ1.out.1.later hb2') (HQ1.out.2.trans (hb2'.mono HQ1.out.2.size)))
          clear hb2' f0 f1 f2 fl
          have hright := HQ2.out.1.inv.right
          by_cases hl1 : OnLane W H s cc1
          · obtain ⟨rfl, rfl⟩ := hz1 hl1
            have HP1' : Hid (zc s cc1 = [((bAt s cc1 - 97 : Nat) : Int)]) := Lib.hid (zc_lane hl1.2)
            clear hz1 hz2 hl1
            generalize ((bAt s cc1 - 97 : Nat) : Int) = z1 at *
            have HP1 : Hid (zc s cc1 = [z1]) := HP1'
            have hB3 := (Below.refl w2'.heap.size w2').alloc (Nat.le_refl _) (.cells #[.int .i64 z1] 3)
            have HLO1 := Lib.hid (Lt.one w2' z1)
            have HBZ1 : Hid (wf.heap.size ≤ (w2'.alloc (.cells #[.int .i64 z1] 3)).heap.size) := Lib.hid (Nat.le_trans HQ2.out.2.size hB3.size)
            have HQ3 := Lib.hid (And.intro (HQ2.out.1.later hB3) (HQ2.out.2.trans (hB3.mono HQ2.out.2.size)))
            clear hB3
            go_wp2_with (at_builtin; refine app_ints rfl _ _ rfl wf.heap.size _ [] rfl (Iw.nil _ _) (some ⟨w2'.heap.size, 0, none⟩) 1 1 [z1] rfl HLO1.out (by simp) HBZ1.out ?_; intro A4 n4 c4 w4 hn4 ho4 hb4 hg4 _; have HMW := Lib.hid ho4; have HQ4 : Hid (Lp w bF S g M cap top W H s R' T' w4 ∧ Below wf.heap.size wf w4) := Lib.hid ⟨HIf.out.later (HQ3.out.2.trans hb4), HQ3.out.2.trans hb4⟩; clear ho4 hb4 hg4; obtain rfl : n4 = 1 := hn4)
            have HNW := Lib.hid (now_any HQ4.out.1.st HQ4.out.1.inv.busy (q : Int))
            rcases HMV.out with ⟨g1, g2, g3⟩ | ⟨a, l, g1, g2, g3, g4⟩
            · have HP2 : Hid (goP s (cc1, ll, bz) = []) := Lib.hid g3
              unfold NowTold at HNW
              rw [g2] at HNW
              clear g1 g2 g3
              go_wp2_with fail
              refine HNW.out.mono ?_
              rintro e w4' ⟨rfl, hb4'⟩
              dsimp only [actV]
              have hB5 := (Below.refl w4'.heap.size w4').alloc (Nat.le_refl _) (.cells #[.int .u8 0, .int .i64 0, .int .i64 0] 39)
              have HQ5 := Lib.hid (And.intro ((HQ4.out.1.later hb4').later hB5) ((HQ4.out.2.trans (hb4'.mono HQ4.out.2.size)).trans (hB5.mono (Nat.le_trans HQ4.out.2.size hb4'.size))))
              have HM5 := Lib.hid ((Iw.later HMW.out hb4').later hB5)
              clear hb4' hB5
              go_upto_region 22 with (fail)
              generalize w4'.alloc (.cells #[.int .u8 0, .int .i64 0, .int .i64 0] 39) = w5' at *
              generalize w4'.heap.size = b5' at *
              have HK := Lib.hid (HCf.out.keep (KeepT.of HQ5.out.2))
              obtain ⟨gc, oc, ah, nh, ch, an, nn, cn, rfl, hgc, x0, x1, kh, kn⟩ := HK.out.cl.cell (j := q) hq2
              rw [(clm_get s R' T' HQR.out).1] at kh
              have hlh := Bk.Lt.len kh
              have HEND := Lib.hid (HME.out [z1] (fun z => by rw [HHS.out, HP1.out, HP2.out]; simp) (by simp))
              have hnh : nh = 1 := by rw [← hlh, HML.out [z1] (by simp) (fun z => by rw [HHS.out, HP1.out, HP2.out]; simp)]; rfl
              subst hnh
              have HKH := Lib.hid kh
              have HLH := Lib.hid hlh
              obtain ⟨sh1, sh2⟩ := Bk.Gt.size kh
              clear kn hlh x1 kh
              obtain ⟨gm, om, e0, hgm, m0⟩ := Bk.Lt.cell (j := 0) HM5.out.lt.2 (by simp)
              obtain ⟨gm', om', e1, hgm', m1⟩ := Bk.Lt.cell (j := 0) HM5.out.lt.2 (by simp)
              first | subst e0 | (injection e0 with e0; injection e0 with e0 e3; subst e0 e3)
              injection e1 with e1
              injection e1 with e1 e2
              subst e1 e2
              dsimp only [List.getD, List.getElem?_cons_zero, List.getElem?_cons_succ, Option.getD_some] at m0 m1
              try rw [Nat.add_zero] at m0 m1
              obtain ⟨sm1, sm2⟩ := Bk.Gt.size HM5.out.lt.2
              go_wp2_with fail
              go_loop [138] (fun iv => ∃ u : Nat, u ≤ 1 ∧ iv = .int .i64 (u : Int)) (fun iv => 1 - (intOf iv).toNat)
              case atStart => exact ⟨0, by omega, rfl⟩
              case round =>
                obtain ⟨u, hu, rfl⟩ := hrel
                by_cases hu2 : u < 1
                · obtain ⟨gh, oh, rfl, hgh, h0⟩ := Bk.Lt.cell (j := u) HKH.out hu2
                  have huI : (u : Int) < (1 : Int) := by omega
                  have hend := HEND.out u (by rw [HLH.out]; exact hu2)
                  generalize (zns T' ((q : Int), true) 26).getD u 0 = zz at *
                  by_cases he : zz = z1
                  · have d1 : (zz != z1) = false := by rw [bne_eq_false_iff_eq]; exact he
                    clear he hend
                    go_wp2_with fail
                    go_round
                    case rel => exact ⟨u + 1, by omega, by go_num⟩
                    case measure => simp [intOf]; omega
                  · exact absurd (hend.elim id id) he
                · obtain rfl : u = 1 := by omega
                  go_wp2_with fail
                  go_roundw
                  case rel =>
                    first
                    | exact ⟨q + 1, by omega, by go_num, HQ5⟩
                    | ((repeat apply Exists.intro); exact ⟨⟨q + 1, by omega, by go_num, HQ5⟩, rfl⟩)
                  case measure => simp [intOf]; omega
            · unfold NowTold at HNW
              rw [g3] at HNW
              have HP0 : Hid (goP s (cc1, ll, bz) = az s a) := Lib.hid g4
              clear g1 g2 g3 g4
              obtain ⟨ax, ay, az'⟩ := a
              go_wp2_with fail
              refine HNW.out.mono ?_
              rintro e w4' ⟨rfl, hb4'⟩
              dsimp only [actV]
              have hB5 := (Below.refl w4'.heap.size w4').alloc (Nat.le_refl _) (.cells #[.int .u8 (ax : Int), .int .i64 ay, .int .i64 az'] 39)
              have HQ5 := Lib.hid (And.intro ((HQ4.out.1.later hb4').later hB5) ((HQ4.out.2.trans (hb4'.mono HQ4.out.2.size)).trans (hB5.mono (Nat.le_trans HQ4.out.2.size hb4'.size))))
              have HAB : Hid (Ab w4'.heap.size (ax, ay, az') (w4'.alloc (.cells #[.int .u8 (ax : Int), .int .i64 ay, .int .i64 az'] 39))) := Lib.hid (heap_alloc_new w4' _)
              have HM5 := Lib.hid ((Iw.later HMW.out hb4').later hB5)
              clear hb4' hB5
              go_upto_region 22 with (fail)
              generalize w4'.alloc (.cells #[.int .u8 (ax : Int), .int .i64 ay, .int .i64 az'] 39) = w5' at *
              generalize w4'.heap.size = b5' at *
              obtain ⟨y0, y1, y2, yl, _⟩ := HAB.out.cells
              obtain ⟨f0, f1, f2, fl, _⟩ := HQ5.out.1.fb.cells
              by_cases hx : ax = 1
              · subst hx
                have HZA : Hid (goP s (cc1, ll, bz) = zc s ay) := Lib.hid HP0.out
                go_wp2_with fail
                refine (HZN.out ay _).mono ?_
                rintro e w6' ⟨z2, ln2, rfl, hy1, hy2, hb6'⟩
                have HQ6 := Lib.hid (And.intro (HQ5.out.1.later hb6') (HQ5.out.2.trans (hb6'.mono HQ5.out.2.size)))
                have HM6 := Lib.hid (Iw.later HM5.out hb6')
                clear hb6' y0 y1 y2 yl f0 f1 f2 fl
                by_cases hl2 : OnLane W H s ay
                · obtain ⟨rfl, rfl⟩ := hy1 hl2
                  have HP2' : Hid (goP s (cc1, ll, bz) = [((bAt s ay - 97 : Nat) : Int)]) := Lib.hid (by rw [HZA.out]; exact zc_lane hl2.2)
                  clear hy1 hy2 hl2
                  generalize ((bAt s ay - 97 : Nat) : Int) = z2 at *
                  have HP2 : Hid (goP s (cc1, ll, bz) = [z2]) := HP2'
                  by_cases hsame : z1 = z2
                  · subst hsame
                    obtain ⟨gm0, om0, eA, hgm0, m00⟩ := Bk.Lt.cell (j := 0) HM6.out.lt.2 (by simp)
                    subst eA
                    dsimp only [List.getD, List.getElem?_cons_zero, Option.getD_some] at m00
                    rw [Nat.add_zero] at m00
                    obtain ⟨sq1, sq2⟩ := Bk.Gt.size HM6.out.lt.2
                    have dd : (z1 != z1) = false := by simp
                    have HK := Lib.hid (HCf.out.keep (KeepT.of HQ6.out.2))
                    obtain ⟨gc, oc, ah, nh, ch, an, nn, cn, rfl, hgc, x0, x1, kh, kn⟩ := HK.out.cl.cell (j := q) hq2
                    rw [(clm_get s R' T' HQR.out).1] at kh
                    have hlh := Bk.Lt.len kh
                    have HEND := Lib.hid (HME.out [z1] (fun z => by rw [HHS.out, HP1.out, HP2.out]; simp) (by simp))
                    have hnh : nh = 1 := by rw [← hlh, HML.out [z1] (by simp) (fun z => by rw [HHS.out, HP1.out, HP2.out]; simp)]; rfl
                    subst hnh
                    have HKH := Lib.hid kh
                    have HLH := Lib.hid hlh
                    obtain ⟨sh1, sh2⟩ := Bk.Gt.size kh
                    clear kn hlh x1 kh
                    obtain ⟨gm, om, e0, hgm, m0⟩ := Bk.Lt.cell (j := 0) HM6.out.lt.2 (by simp)
                    obtain ⟨gm', om', e1, hgm', m1⟩ := Bk.Lt.cell (j := 0) HM6.out.lt.2 (by simp)
                    first | subst e0 | (injection e0 with e0; injection e0 with e0 e3; subst e0 e3)
                    injection e1 with e1
                    injection e1 with e1 e2
                    subst e1 e2
                    dsimp only [List.getD, List.getElem?_cons_zero, List.getElem?_cons_succ, Option.getD_some] at m0 m1
                    try rw [Nat.add_zero] at m0 m1
                    obtain ⟨sm1, sm2⟩ := Bk.Gt.size HM6.out.lt.2
                    go_wp2_with fail
                    go_loop [138] (fun iv => ∃ u : Nat, u ≤ 1 ∧ iv = .int .i64 (u : Int)) (fun iv => 1 - (intOf iv).toNat)
                    case atStart => exact ⟨0, by omega, rfl⟩
                    case round =>
                      obtain ⟨u, hu, rfl⟩ := hrel
                      by_cases hu2 : u < 1
                      · obtain ⟨gh, oh, rfl, hgh, h0⟩ := Bk.Lt.cell (j := u) HKH.out hu2
                        have huI : (u : Int) < (1 : Int) := by omega
                        have hend := HEND.out u (by rw [HLH.out]; exact hu2)
                        generalize (zns T' ((q : Int), true) 26).getD u 0 = zz at *
                        by_cases he : zz = z1
                        · have d1 : (zz != z1) = false := by rw [bne_eq_false_iff_eq]; exact he
                          clear he hend
                          go_wp2_with fail
                          go_round
                          case rel => exact ⟨u + 1, by omega, by go_num⟩
                          case measure => simp [intOf]; omega
                        · exact absurd (hend.elim id id) he
                      · obtain rfl : u = 1 := by omega
                        go_wp2_with fail
                        go_roundw
                        case rel =>
                          first
                          | exact ⟨q + 1, by omega, by go_num, HQ6⟩
                          | ((repeat apply Exists.intro); exact ⟨⟨q + 1, by omega, by go_num, HQ6⟩, rfl⟩)
                        case measure => simp [intOf]; omega
                  · obtain ⟨gm0, om0, eA, hgm0, m00⟩ := Bk.Lt.cell (j := 0) HM6.out.lt.2 (by simp)
                    subst eA
                    dsimp only [List.getD, List.getElem?_cons_zero, Option.getD_some] at m00
                    rw [Nat.add_zero] at m00
                    obtain ⟨sq1, sq2⟩ := Bk.Gt.size HM6.out.lt.2
                    have dd : (z1 != z2) = true := by rw [bne_iff_ne]; exact hsame
                    have HNE : Hid (z1 ≠ z2) := Lib.hid hsame
                    clear hsame
                    have hB7 := (Below.refl w6'.heap.size w6').alloc (Nat.le_refl _) (.cells #[.int .i64 z2] 3)
                    have HO7 := Lib.hid (Iw.later HM6.out hB7)
                    have HLO := Lib.hid (Lt.one w6' z2)
                    have HBZ : Hid (wf.heap.size ≤ (w6'.alloc (.cells #[.int .i64 z2] 3)).heap.size) := Lib.hid (Nat.le_trans HQ6.out.2.size hB7.size)
                    have HQ7 := Lib.hid (And.intro (HQ6.out.1.later hB7) (HQ6.out.2.trans (hB7.mono HQ6.out.2.size)))
                    clear hB7
                    go_upto_region 25 with (fail)
                    clear m00
                    go_wp2_with (at_builtin; refine app_ints rfl _ _ rfl wf.heap.size _ _ rfl HO7.out (some ⟨w6'.heap.size, 0, none⟩) 1 1 [z2] rfl HLO.out (by simp) HBZ.out ?_; intro A8 n8 c8 w8' hn8 ho8 hb8 hg8 _; have HN8 := Lib.hid hn8; have HM8 := Lib.hid ho8; have HQ8 : Hid (Lp w bF S g M cap top W H s R' T' w8' ∧ Below wf.heap.size wf w8') := Lib.hid ⟨HIf.out.later (HQ7.out.2.trans hb8), HQ7.out.2.trans hb8⟩; clear ho8 hb8 hg8; obtain rfl : n8 = 2 := hn8)
                    have HK := Lib.hid (HCf.out.keep (KeepT.of HQ8.out.2))
                    obtain ⟨gc, oc, ah, nh, ch, an, nn, cn, rfl, hgc, x0, x1, kh, kn⟩ := HK.out.cl.cell (j := q) hq2
                    rw [(clm_get s R' T' HQR.out).1] at kh
                    have hlh := Bk.Lt.len kh
                    have HEND := Lib.hid (HME.out [z1, z2] (fun z => by rw [HHS.out, HP1.out, HP2.out]; simp) (by simp))
                    have hnh : nh = 2 := by rw [← hlh, HML.out [z1, z2] (by simp; exact HNE.out) (fun z => by rw [HHS.out, HP1.out, HP2.out]; simp)]; rfl
                    subst hnh
                    have HKH := Lib.hid kh
                    have HLH := Lib.hid hlh
                    obtain ⟨sh1, sh2⟩ := Bk.Gt.size kh
                    clear kn hlh x1 kh
                    obtain ⟨gm, om, e0, hgm, m0⟩ := Bk.Lt.cell (j := 0) HM8.out.lt.2 (by simp)
                    obtain ⟨gm', om', e1, hgm', m1⟩ := Bk.Lt.cell (j := 1) HM8.out.lt.2 (by simp)
                    first | subst e0 | (injection e0 with e0; injection e0 with e0 e3; subst e0 e3)
                    injection e1 with e1
                    injection e1 with e1 e2
                    subst e1 e2
                    dsimp only [List.getD, List.getElem?_cons_zero, List.getElem?_cons_succ, Option.getD_some] at m0 m1
                    try rw [Nat.add_zero] at m0 m1
                    obtain ⟨sm1, sm2⟩ := Bk.Gt.size HM8.out.lt.2
                    go_wp2_with fail
                    go_loop [138] (fun iv => ∃ u : Nat, u ≤ 2 ∧ iv = .int .i64 (u : Int)) (fun iv => 2 - (intOf iv).toNat)
                    case atStart => exact ⟨0, by omega, rfl⟩
                    case round =>
                      obtain ⟨u, hu, rfl⟩ := hrel
                      by_cases hu2 : u < 2
                      · obtain ⟨gh, oh, rfl, hgh, h0⟩ := Bk.Lt.cell (j := u) HKH.out hu2
                        have huI : (u : Int) < (2 : Int) := by omega
                        have hend := HEND.out u (by rw [HLH.out]; exact hu2)
                        generalize (zns T' ((q : Int), true) 26).getD u 0 = zz at *
                        by_cases he : zz = z1
                        · have d1 : (zz != z1) = false := by rw [bne_eq_false_iff_eq]; exact he
                          clear he hend
                          go_wp2_with fail
                          go_round
                          case rel => exact ⟨u + 1, by omega, by go_num⟩
                          case measure => simp [intOf]; omega
                        · have he2 : zz = z2 := hend.resolve_left he
                          have d1 : (zz != z1) = true := by rw [bne_iff_ne]; exact he
                          have d2 : (zz != z2) = false := by rw [bne_eq_false_iff_eq]; exact he2
                          clear he he2 hend
                          go_wp2_with fail
                          go_round
                          case rel => exact ⟨u + 1, by omega, by go_num⟩
                          case measure => simp [intOf]; omega
                      · obtain rfl : u = 2 := by omega
                        go_wp2_with fail
                        go_roundw
                        case rel =>
                          first
                          | exact ⟨q + 1, by omega, by go_num, HQ8⟩
                          | ((repeat apply Exists.intro); exact ⟨⟨q + 1, by omega, by go_num, HQ8⟩, rfl⟩)
                        case measure => simp [intOf]; omega
                · obtain ⟨rfl, rfl⟩ := hy2 hl2
                  have HP2 : Hid (goP s (cc1, ll, bz) = []) := Lib.hid (by rw [HZA.out]; exact zc_wall (by
                    cases e : laneB s ay with
                    | false => rfl
                    | true => exact absurd ⟨hright, e⟩ hl2))
                  clear hy1 hy2 hl2
                  have HK := Lib.hid (HCf.out.keep (KeepT.of HQ6.out.2))
                  obtain ⟨gc, oc, ah, nh, ch, an, nn, cn, rfl, hgc, x0, x1, kh, kn⟩ := HK.out.cl.cell (j := q) hq2
                  rw [(clm_get s R' T' HQR.out).1] at kh
                  have hlh := Bk.Lt.len kh
                  have HEND := Lib.hid (HME.out [z1] (fun z => by rw [HHS.out, HP1.out, HP2.out]; simp) (by simp))
                  have hnh : nh = 1 := by rw [← hlh, HML.out [z1] (by simp) (fun z => by rw [HHS.out, HP1.out, HP2.out]; simp)]; rfl
                  subst hnh
                  have HKH := Lib.hid kh
                  have HLH := Lib.hid hlh
                  obtain ⟨sh1, sh2⟩ := Bk.Gt.size kh
                  clear kn hlh x1 kh
                  obtain ⟨gm, om, e0, hgm, m0⟩ := Bk.Lt.cell (j := 0) HM6.out.lt.2 (by simp)
                  obtain ⟨gm', om', e1, hgm', m1⟩ := Bk.Lt.cell (j := 0) HM6.out.lt.2 (by simp)
                  first | subst e0 | (injection e0 with e0; injection e0 with e0 e3; subst e0 e3)
                  injection e1 with e1
                  injection e1 with e1 e2
                  subst e1 e2
                  dsimp only [List.getD, List.getElem?_cons_zero, List.getElem?_cons_succ, Option.getD_some] at m0 m1
                  try rw [Nat.add_zero] at m0 m1
                  obtain ⟨sm1, sm2⟩ := Bk.Gt.size HM6.out.lt.2
                  go_wp2_with fail
                  go_loop [138] (fun iv => ∃ u : Nat, u ≤ 1 ∧ iv = .int .i64 (u : Int)) (fun iv => 1 - (intOf iv).toNat)
                  case atStart => exact ⟨0, by omega, rfl⟩
                  case round =>
                    obtain ⟨u, hu, rfl⟩ := hrel
                    by_cases hu2 : u < 1
                    · obtain ⟨gh, oh, rfl, hgh, h0⟩ := Bk.Lt.cell (j := u) HKH.out hu2
                      have huI : (u : Int) < (1 : Int) := by omega
                      have hend := HEND.out u (by rw [HLH.out]; exact hu2)
                      generalize (zns T' ((q : Int), true) 26).getD u 0 = zz at *
                      by_cases he : zz = z1
                      · have d1 : (zz != z1) = false := by rw [bne_eq_false_iff_eq]; exact he
                        clear he hend
                        go_wp2_with fail
                        go_round
                        case rel => exact ⟨u + 1, by omega, by go_num⟩
                        case measure => simp [intOf]; omega
                      · exact absurd (hend.elim id id) he
                    · obtain rfl : u = 1 := by omega
                      go_wp2_with fail
                      go_roundw
                      case rel =>
                        first
                        | exact ⟨q + 1, by omega, by go_num, HQ6⟩
                        | ((repeat apply Exists.intro); exact ⟨⟨q + 1, by omega, by go_num, HQ6⟩, rfl⟩)
                      case measure => simp [intOf]; omega
              · have dx : ((ax : Int) == 1) = false := by rw [beq_eq_false_iff_ne]; omega
                have HP2 : Hid (goP s (cc1, ll, bz) = []) := Lib.hid (by rw [HP0.out]; unfold az; rw [if_neg hx])
                clear hx
                have HK := Lib.hid (HCf.out.keep (KeepT.of HQ5.out.2))
                obtain ⟨gc, oc, ah, nh, ch, an, nn, cn, rfl, hgc, x0, x1, kh, kn⟩ := HK.out.cl.cell (j := q) hq2
                rw [(clm_get s R' T' HQR.out).1] at kh
                have hlh := Bk.Lt.len kh
                have HEND := Lib.hid (HME.out [z1] (fun z => by rw [HHS.out, HP1.out, HP2.out]; simp) (by simp))
                have hnh : nh = 1 := by rw [← hlh, HML.out [z1] (by simp) (fun z => by rw [HHS.out, HP1.out, HP2.out]; simp)]; rfl
                subst hnh
                have HKH := Lib.hid kh
                have HLH := Lib.hid hlh
                obtain ⟨sh1, sh2⟩ := Bk.Gt.size kh
                clear kn hlh x1 kh
                obtain ⟨gm, om, e0, hgm, m0⟩ := Bk.Lt.cell (j := 0) HM5.out.lt.2 (by simp)
                obtain ⟨gm', om', e1, hgm', m1⟩ := Bk.Lt.cell (j := 0) HM5.out.lt.2 (by simp)
                first | subst e0 | (injection e0 with e0; injection e0 with e0 e3; subst e0 e3)
                injection e1 with e1
                injection e1 with e1 e2
                subst e1 e2
                dsimp only [List.getD, List.getElem?_cons_zero, List.getElem?_cons_succ, Option.getD_some] at m0 m1
                try rw [Nat.add_zero] at m0 m1
                obtain ⟨sm1, sm2⟩ := Bk.Gt.size HM5.out.lt.2
                go_wp2_with fail
                go_loop [138] (fun iv => ∃ u : Nat, u ≤ 1 ∧ iv = .int .i64 (u : Int)) (fun iv => 1 - (intOf iv).toNat)
                case atStart => exact ⟨0, by omega, rfl⟩
                case round =>
                  obtain ⟨u, hu, rfl⟩ := hrel
                  by_cases hu2 : u < 1
                  · obtain ⟨gh, oh, rfl, hgh, h0⟩ := Bk.Lt.cell (j := u) HKH.out hu2
                    have huI : (u : Int) < (1 : Int) := by omega
                    have hend := HEND.out u (by rw [HLH.out]; exact hu2)
                    generalize (zns T' ((q : Int), true) 26).getD u 0 = zz at *
                    by_cases he : zz = z1
                    · have d1 : (zz != z1) = false := by rw [bne_eq_false_iff_eq]; exact he
                      clear he hend
                      go_wp2_with fail
                      go_round
                      case rel => exact ⟨u + 1, by omega, by go_num⟩
                      case measure => simp [intOf]; omega
                    · exact absurd (hend.elim id id) he
                  · obtain rfl : u = 1 := by omega
                    go_wp2_with fail
                    go_roundw
                    case rel =>
                      first
                      | exact ⟨q + 1, by omega, by go_num, HQ5⟩
                      | ((repeat apply Exists.intro); exact ⟨⟨q + 1, by omega, by go_num, HQ5⟩, rfl⟩)
                    case measure => simp [intOf]; omega
          · obtain ⟨rfl, rfl⟩ := hz2 hl1
            have HP1 : Hid (zc s cc1 = []) := Lib.hid (zc_wall (by
              cases e : laneB s cc1 with
              | false => rfl
              | true => exact absurd ⟨hright, e⟩ hl1))
            clear hz1 hz2 hl1
            have HNW := Lib.hid (now_any HQ2.out.1.st HQ2.out.1.inv.busy (q : Int))
            rcases HMV.out with ⟨g1, g2, g3⟩ | ⟨a, l, g1, g2, g3, g4⟩
            · have HP2 : Hid (goP s (cc1, ll, bz) = []) := Lib.hid g3
              unfold NowTold at HNW
              rw [g2] at HNW
              clear g1 g2 g3
              go_wp2_with fail
              refine HNW.out.mono ?_
              rintro e w4' ⟨rfl, hb4'⟩
              dsimp only [actV]
              have hB5 := (Below.refl w4'.heap.size w4').alloc (Nat.le_refl _) (.cells #[.int .u8 0, .int .i64 0, .int .i64 0] 39)
              have HQ5 := Lib.hid (And.intro ((HQ2.out.1.later hb4').later hB5) ((HQ2.out.2.trans (hb4'.mono HQ2.out.2.size)).trans (hB5.mono (Nat.le_trans HQ2.out.2.size hb4'.size))))
              clear hb4' hB5
              go_upto_region 22 with (fail)
              generalize w4'.alloc (.cells #[.int .u8 0, .int .i64 0, .int .i64 0] 39) = w5' at *
              generalize w4'.heap.size = b5' at *
              have HK := Lib.hid (HCf.out.keep (KeepT.of HQ5.out.2))
              obtain ⟨gc, oc, ah, nh, ch, an, nn, cn, rfl, hgc, x0, x1, kh, kn⟩ := HK.out.cl.cell (j := q) hq2
              rw [(clm_get s R' T' HQR.out).1] at kh
              have hlh := Bk.Lt.len kh
              have HEND := Lib.hid (HME.out [] (fun z => by rw [HHS.out, HP1.out, HP2.out]; simp) (by simp))
              have hnh : nh = 0 := by rw [← hlh, HML.out [] (by simp) (fun z => by rw [HHS.out, HP1.out, HP2.out]; simp)]; rfl
              subst hnh
              have HKH := Lib.hid kh
              have HLH := Lib.hid hlh
              obtain ⟨sh1, sh2⟩ := Bk.Gt.size kh
              clear kn hlh x1 kh
              go_wp2_with fail
              go_loop [138] (fun iv => ∃ u : Nat, u ≤ 0 ∧ iv = .int .i64 (u : Int)) (fun iv => 0 - (intOf iv).toNat)
              case atStart => exact ⟨0, by omega, rfl⟩
              case round =>
                obtain ⟨u, hu, rfl⟩ := hrel
                by_cases hu2 : u < 0
                · omega
                · obtain rfl : u = 0 := by omega
                  go_wp2_with fail
                  go_roundw
                  case rel =>
                    first
                    | exact ⟨q + 1, by omega, by go_num, HQ5⟩
                    | ((repeat apply Exists.intro); exact ⟨⟨q + 1, by omega, by go_num, HQ5⟩, rfl⟩)
                  case measure => simp [intOf]; omega
            · unfold NowTold at HNW
              rw [g3] at HNW
              have HP0 : Hid (goP s (cc1, ll, bz) = az s a) := Lib.hid g4
              clear g1 g2 g3 g4
              obtain ⟨ax, ay, az'⟩ := a
              go_wp2_with fail
              refine HNW.out.mono ?_
              rintro e w4' ⟨rfl, hb4'⟩
              dsimp only [actV]
              have hB5 := (Below.refl w4'.heap.size w4').alloc (Nat.le_refl _) (.cells #[.int .u8 (ax : Int), .int .i64 ay, .int .i64 az'] 39)
              have HQ5 := Lib.hid (And.intro ((HQ2.out.1.later hb4').later hB5) ((HQ2.out.2.trans (hb4'.mono HQ2.out.2.size)).trans (hB5.mono (Nat.le_trans HQ2.out.2.size hb4'.size))))
              have HAB : Hid (Ab w4'.heap.size (ax, ay, az') (w4'.alloc (.cells #[.int .u8 (ax : Int), .int .i64 ay, .int .i64 az'] 39))) := Lib.hid (heap_alloc_new w4' _)
              clear hb4' hB5
              go_upto_region 22 with (fail)
              generalize w4'.alloc (.cells #[.int .u8 (ax : Int), .int .i64 ay, .int .i64 az'] 39) = w5' at *
              generalize w4'.heap.size = b5' at *
              obtain ⟨y0, y1, y2, yl, _⟩ := HAB.out.cells
              obtain ⟨f0, f1, f2, fl, _⟩ := HQ5.out.1.fb.cells
              by_cases hx : ax = 1
              · subst hx
                have HZA : Hid (goP s (cc1, ll, bz) = zc s ay) := Lib.hid HP0.out
                go_wp2_with fail
                refine (HZN.out ay _).mono ?_
                rintro e w6' ⟨z2, ln2, rfl, hy1, hy2, hb6'⟩
                have HQ6 := Lib.hid (And.intro (HQ5.out.1.later hb6') (HQ5.out.2.trans (hb6'.mono HQ5.out.2.size)))
                clear hb6' y0 y1 y2 yl f0 f1 f2 fl
                by_cases hl2 : OnLane W H s ay
                · obtain ⟨rfl, rfl⟩ := hy1 hl2
                  have HP2' : Hid (goP s (cc1, ll, bz) = [((bAt s ay - 97 : Nat) : Int)]) := Lib.hid (by rw [HZA.out]; exact zc_lane hl2.2)
                  clear hy1 hy2 hl2
                  generalize ((bAt s ay - 97 : Nat) : Int) = z2 at *
                  have HP2 : Hid (goP s (cc1, ll, bz) = [z2]) := HP2'
                  have hB7 := (Below.refl w6'.heap.size w6').alloc (Nat.le_refl _) (.cells #[.int .i64 z2] 3)
                  have HLO := Lib.hid (Lt.one w6' z2)
                  have HBZ : Hid (wf.heap.size ≤ (w6'.alloc (.cells #[.int .i64 z2] 3)).heap.size) := Lib.hid (Nat.le_trans HQ6.out.2.size hB7.size)
                  have HQ7 := Lib.hid (And.intro (HQ6.out.1.later hB7) (HQ6.out.2.trans (hB7.mono HQ6.out.2.size)))
                  clear hB7
                  go_wp2_with (at_builtin; refine app_ints rfl _ _ rfl wf.heap.size _ [] rfl (Iw.nil _ _) (some ⟨w6'.heap.size, 0, none⟩) 1 1 [z2] rfl HLO.out (by simp) HBZ.out ?_; intro A8 n8 c8 w8' hn8 ho8 hb8 hg8 _; have HM8 := Lib.hid ho8; have HQ8 : Hid (Lp w bF S g M cap top W H s R' T' w8' ∧ Below wf.heap.size wf w8') := Lib.hid ⟨HIf.out.later (HQ7.out.2.trans hb8), HQ7.out.2.trans hb8⟩; clear ho8 hb8 hg8; obtain rfl : n8 = 1 := hn8)
                  have HK := Lib.hid (HCf.out.keep (KeepT.of HQ8.out.2))
                  obtain ⟨gc, oc, ah, nh, ch, an, nn, cn, rfl, hgc, x0, x1, kh, kn⟩ := HK.out.cl.cell (j := q) hq2
                  rw [(clm_get s R' T' HQR.out).1] at kh
                  have hlh := Bk.Lt.len kh
                  have HEND := Lib.hid (HME.out [z2] (fun z => by rw [HHS.out, HP1.out, HP2.out]; simp) (by simp))
                  have hnh : nh = 1 := by rw [← hlh, HML.out [z2] (by simp) (fun z => by rw [HHS.out, HP1.out, HP2.out]; simp)]; rfl
                  subst hnh
                  have HKH := Lib.hid kh
                  have HLH := Lib.hid hlh
                  obtain ⟨sh1, sh2⟩ := Bk.Gt.size kh
                  clear kn hlh x1 kh
                  obtain ⟨gm, om, e0, hgm, m0⟩ := Bk.Lt.cell (j := 0) HM8.out.lt.2 (by simp)
                  obtain ⟨gm', om', e1, hgm', m1⟩ := Bk.Lt.cell (j := 0) HM8.out.lt.2 (by simp)
                  first | subst e0 | (injection e0 with e0; injection e0 with e0 e3; subst e0 e3)
                  injection e1 with e1
                  injection e1 with e1 e2
                  subst e1 e2
                  dsimp only [List.getD, List.getElem?_cons_zero, List.getElem?_cons_succ, Option.getD_some] at m0 m1
                  try rw [Nat.add_zero] at m0 m1
                  obtain ⟨sm1, sm2⟩ := Bk.Gt.size HM8.out.lt.2
                  go_wp2_with fail
                  go_loop [138] (fun iv => ∃ u : Nat, u ≤ 1 ∧ iv = .int .i64 (u : Int)) (fun iv => 1 - (intOf iv).toNat)
                  case atStart => exact ⟨0, by omega, rfl⟩
                  case round =>
                    obtain ⟨u, hu, rfl⟩ := hrel
                    by_cases hu2 : u < 1
                    · obtain ⟨gh, oh, rfl, hgh, h0⟩ := Bk.Lt.cell (j := u) HKH.out hu2
                      have huI : (u : Int) < (1 : Int) := by omega
                      have hend := HEND.out u (by rw [HLH.out]; exact hu2)
                      generalize (zns T' ((q : Int), true) 26).getD u 0 = zz at *
                      by_cases he : zz = z2
                      · have d1 : (zz != z2) = false := by rw [bne_eq_false_iff_eq]; exact he
                        clear he hend
                        go_wp2_with fail
                        go_round
                        case rel => exact ⟨u + 1, by omega, by go_num⟩
                        case measure => simp [intOf]; omega
                      · exact absurd (hend.elim id id) he
                    · obtain rfl : u = 1 := by omega
                      go_wp2_with fail
                      go_roundw
                      case rel =>
                        first
                        | exact ⟨q + 1, by omega, by go_num, HQ8⟩
                        | ((repeat apply Exists.intro); exact ⟨⟨q + 1, by omega, by go_num, HQ8⟩, rfl⟩)
                      case measure => simp [intOf]; omega
                · obtain ⟨rfl, rfl⟩ := hy2 hl2
                  have HP2 : Hid (goP s (cc1, ll, bz) = []) := Lib.hid (by rw [HZA.out]; exact zc_wall (by
                    cases e : laneB s ay with
                    | false => rfl
                    | true => exact absurd ⟨hright, e⟩ hl2))
                  clear hy1 hy2 hl2
                  have HK := Lib.hid (HCf.out.keep (KeepT.of HQ6.out.2))
                  obtain ⟨gc, oc, ah, nh, ch, an, nn, cn, rfl, hgc, x0, x1, kh, kn⟩ := HK.out.cl.cell (j := q) hq2
                  rw [(clm_get s R' T' HQR.out).1] at kh
                  have hlh := Bk.Lt.len kh
                  have HEND := Lib.hid (HME.out [] (fun z => by rw [HHS.out, HP1.out, HP2.out]; simp) (by simp))
                  have hnh : nh = 0 := by rw [← hlh, HML.out [] (by simp) (fun z => by rw [HHS.out, HP1.out, HP2.out]; simp)]; rfl
                  subst hnh
                  have HKH := Lib.hid kh
                  have HLH := Lib.hid hlh
                  obtain ⟨sh1, sh2⟩ := Bk.Gt.size kh
                  clear kn hlh x1 kh
                  go_wp2_with fail
                  go_loop [138] (fun iv => ∃ u : Nat, u ≤ 0 ∧ iv = .int .i64 (u : Int)) (fun iv => 0 - (intOf iv).toNat)
                  case atStart => exact ⟨0, by omega, rfl⟩
                  case round =>
                    obtain ⟨u, hu, rfl⟩ := hrel
                    by_cases hu2 : u < 0
                    · omega
                    · obtain rfl : u = 0 := by omega
                      go_wp2_with fail
                      go_roundw
                      case rel =>
                        first
                        | exact ⟨q + 1, by omega, by go_num, HQ6⟩
                        | ((repeat apply Exists.intro); exact ⟨⟨q + 1, by omega, by go_num, HQ6⟩, rfl⟩)
                      case measure => simp [intOf]; omega
              · have dx : ((ax : Int) == 1) = false := by rw [beq_eq_false_iff_ne]; omega
                have HP2 : Hid (goP s (cc1, ll, bz) = []) := Lib.hid (by rw [HP0.out]; unfold az; rw [if_neg hx])
                clear hx
                have HK := Lib.hid (HCf.out.keep (KeepT.of HQ5.out.2))
                obtain ⟨gc, oc, ah, nh, ch, an, nn, cn, rfl, hgc, x0, x1, kh, kn⟩ := HK.out.cl.cell (j := q) hq2
                rw [(clm_get s R' T' HQR.out).1] at kh
                have hlh := Bk.Lt.len kh
                have HEND := Lib.hid (HME.out [] (fun z => by rw [HHS.out, HP1.out, HP2.out]; simp) (by simp))
                have hnh : nh = 0 := by rw [← hlh, HML.out [] (by simp) (fun z => by rw [HHS.out, HP1.out, HP2.out]; simp)]; rfl
                subst hnh
                have HKH := Lib.hid kh
                have HLH := Lib.hid hlh
                obtain ⟨sh1, sh2⟩ := Bk.Gt.size kh
                clear kn hlh x1 kh
                go_wp2_with fail
                go_loop [138] (fun iv => ∃ u : Nat, u ≤ 0 ∧ iv = .int .i64 (u : Int)) (fun iv => 0 - (intOf iv).toNat)
                case atStart => exact ⟨0, by omega, rfl⟩
                case round =>
                  obtain ⟨u, hu, rfl⟩ := hrel
                  by_cases hu2 : u < 0
                  · omega
                  · obtain rfl : u = 0 := by omega
                    go_wp2_with fail
                    go_roundw
                    case rel =>
                      first
                      | exact ⟨q + 1, by omega, by go_num, HQ5⟩
                      | ((repeat apply Exists.intro); exact ⟨⟨q + 1, by omega, by go_num, HQ5⟩, rfl⟩)
                    case measure => simp [intOf]; omega
        · obtain rfl : q = nr := by omega
          go_wp2_with fail
          go_roundw
          case rel => exact ⟨j + 1, _, _, by omega, by go_num, Lib.hid HQ.out.1⟩
          case measure => simp [intOf]; omega
    · obtain rfl : j = m := by omega
      go_wp2_with fail
      go_ret
      exact ⟨rfl, HI.out.below⟩
end Tf
end Go.Proofs.YtellaeihcignaaaGreatDoor
