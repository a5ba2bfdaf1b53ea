/-
  The walk of TrafficWaits.
-/
import Derived.Test.YtellaeihcignaaaGreatDoorTfS
set_option linter.unusedVariables false
set_option maxRecDepth 100000
namespace Go.Proofs.YtellaeihcignaaaGreatDoor
namespace Tf
open Go.RowKit Fl Tr Pt
open Bk (Cm hold need Cl Lt MayP may_any)
open Lk (Ow T0 zns at9)

/-- A loop's start: a new state, behind the example. -/
theorem lp_start {w0 w1 w2 : World} {W H : Int} {s : ByteArray} {S g M cap top : Nat} (hb1 : Below w0.heap.size w0 w1) (hR : Right W H s)
    (hst : St w2 S g M cap top W H s (docked s (pick isD (at_ s) s.size).length) T0) (hge : (w1.alloc (.cells #[.int .i64 W, .int .i64 H, .string s] 25)).heap.size ≤ g ∧ (w1.alloc (.cells #[.int .i64 W, .int .i64 H, .string s] 25)).heap.size ≤ M ∧ (w1.alloc (.cells #[.int .i64 W, .int .i64 H, .string s] 25)).heap.size ≤ S) (hb2 : Below (w1.alloc (.cells #[.int .i64 W, .int .i64 H, .string s] 25)).heap.size (w1.alloc (.cells #[.int .i64 W, .int .i64 H, .string s] 25)) w2) :
    Lp w0 w1.heap.size S g M cap top W H s (docked s (pick isD (at_ s) s.size).length) T0 w2 := by
  have hs : (w1.alloc (.cells #[.int .i64 W, .int .i64 H, .string s] 25)).heap.size = w1.heap.size + 1 := by simp
  have hba : Below w1.heap.size w1 (w1.alloc (.cells #[.int .i64 W, .int .i64 H, .string s] 25)) := (Below.refl _ _).alloc (Nat.le_refl _) _
  have h1 := hb1.size
  have hx := hge.1
  have hy := hge.2.1
  rw [hs] at hx hy
  exact ⟨hb1.trans ((hba.trans (hb2.mono hba.size)).mono h1), hst, docked_inv hR, (Fb.new w1 W H s).later hb2, ⟨by omega, by omega, by omega, by omega⟩⟩
theorem sx_now {wr : World} (x : Sp11) (A2 : Option Addr) (n2 c2 : Nat) : (wr.alloc (.cells #[.int .u8 (x.1 : Int), .int .i64 x.2.1, .int .i64 x.2.2.1, .int .i64 x.2.2.2.1, .slice A2 n2 c2] 37)).heap[wr.heap.size]? = some (.cells #[.int .u8 (x.1 : Int), .int .i64 x.2.1, .int .i64 x.2.2.1, .int .i64 x.2.2.2.1, .slice A2 n2 c2] 37 (0, 0)) := heap_alloc_new wr _
set_option maxHeartbeats 16000000 in
theorem trafficWaits_walk (t : ByteArray) (ht : t.size ≤ maxLen) (A : Option Addr) (n cap0 : Nat) (L : List Sp11) (w : World) (hl : Ls w.heap.size w A n cap0 L) :
    Calls Tryz.prog 9 #[.string t, .slice A n cap0] w fun e w' => e = .returned (.bool true) ∧ Below w.heap.size w w' := by
  have HL := Lib.hid hl
  have HFL := Lib.hid (fun wx => floors11_any t ht wx)
  have hc1 := hl.le
  have hc2 := hl.max
  clear hl
  go_enter Tryz.func9, Tryz.ntmps9
  go_wp2_with fail
  refine (shown11_any _).mono ?_
  rintro e w1 ⟨rfl, hb1⟩
  have HB1 := Lib.hid hb1
  clear hb1
  go_wp2_with fail
  refine (HFL.out _).mono ?_
  rintro e w2 ⟨W, H, s, rfl, hR, hb2⟩
  have HR := Lib.hid hR
  have HB2 := Lib.hid (HB1.out.trans (hb2.mono HB1.out.size))
  have hsz : s.size ≤ maxLen := by have := rightLe hR; unfold maxLen; omega
  have HNW := Lib.hid (fun wx => new_any W H s hsz wx)
  clear hR hb2
  have HF := Lib.hid (Fb.new w2 W H s)
  obtain ⟨f0, f1, f2, fl, _⟩ := HF.out.cells
  go_wp2_with fail
  refine (HNW.out _).mono ?_
  rintro e w3 hnw
  rcases hnw with ⟨hno, _⟩ | ⟨_, S, g, M, cap, top, rfl, hst, hge, hb3⟩
  · exact absurd HR.out hno
  have HLP := Lib.hid (lp_start HB2.out HR.out hst hge hb3)
  clear hst hge hb3 f0 f1 f2 fl HNW
  generalize docked s (pick isD (at_ s) s.size).length = R0 at *
  generalize T0 = TT0 at *
  generalize w2.heap.size = bF at *
  have HFW := Lib.hid (few11_any A n cap0 w.heap.size L w3 (HL.out.below HLP.out.below))
  go_wp2_with fail
  refine HFW.out.mono ?_
  rintro e w4 ⟨m, rfl, hmn, hm100, hm60, rfl⟩
  have HLM := Lib.hid (HL.out.cut hmn)
  have HM60 := Lib.hid hm60
  have hmc : m ≤ cap0 := Nat.le_trans hmn hc1
  clear hm60 hmn HFW
  generalize L.take m = Lm at *
  go_wp2_with fail
  go_loopw [34] (fun iv wr => ∃ (j : Nat) (R : List Mv) (T : List Ow), j ≤ m ∧ iv = .int .i64 (j : Int) ∧ Hid (Lp w bF S g M cap top W H s R T wr)) (fun iv _ => m - (intOf iv).toNat)
  case atStart => exact ⟨0, R0, TT0, by omega, rfl, HLP⟩
  case round =>
    rename World => wr
    obtain ⟨j, R, T, hj, rfl, HI⟩ := hrel
    by_cases hlt : j < m
    · obtain ⟨gl, ol, A2, n2, c2, rfl, hgl, k0, k1, k2, k3, k4, hal, hk255⟩ := (HLM.out.below HI.out.below).cell j hlt
      have hjI : (j : Int) < (m : Int) := by omega
      have hgr := Nat.lt_of_lt_of_le hgl HI.out.below.size
      generalize Lm.getD j (0, 0, 0, 0, []) = p at *
      obtain ⟨k, r, f, tt, LA⟩ := p
      have k0 : wr.cell? ⟨gl, ol + j * 5, none⟩ = some (.int .u8 (k : Int)) := k0
      have k1 : wr.cell? ⟨gl, ol + j * 5 + 1, none⟩ = some (.int .i64 r) := k1
      have k2 : wr.cell? ⟨gl, ol + j * 5 + 2, none⟩ = some (.int .i64 f) := k2
      have k3 : wr.cell? ⟨gl, ol + j * 5 + 3, none⟩ = some (.int .i64 tt) := k3
      have hk255 : k ≤ 255 := hk255
      have HAL := Lib.hid (show Al w.heap.size wr A2 n2 c2 LA from hal)
      have hBa := (Below.refl wr.heap.size wr).alloc (Nat.le_refl _) (.cells #[.int .u8 (k : Int), .int .i64 r, .int .i64 f, .int .i64 tt, .slice A2 n2 c2] 37)
      have HIa := Lib.hid (HI.out.later hBa)
      have HSa := Lib.hid (Sx.new wr k r f tt A2 n2 c2)
      have HBX : Hid (bF ≠ g ∧ wr.heap.size ≠ g ∧ wr.heap.size ≠ M) := Lib.hid (by have h := HI.out.st.tops; exact ⟨HI.out.ge.2.2.1, by omega, by omega⟩)
      have HALa := Lib.hid ((HAL.out.below (hBa.mono HI.out.below.size)).raise HIa.out.below.size)
      clear hal hBa
      go_upto_region 9 with (fail)
      clear k0 k1 k2 k3 k4 hgl hgr
      generalize wr.alloc (.cells #[.int .u8 (k : Int), .int .i64 r, .int .i64 f, .int .i64 tt, .slice A2 n2 c2] 37) = wa at *
      generalize wr.heap.size = bx at *
      have HCL := Lib.hid (claims_any HIa.out.st HIa.out.inv.few HIa.out.inv.lens)
      go_wp2_with fail
      refine HCL.out.mono ?_
      rintro e wb ⟨Ac, nc, cc, rfl, hch, hbb⟩
      have HCB := Lib.hid hch
      have HIb := Lib.hid (HIa.out.later hbb)
      have HSb := Lib.hid (HSa.out.later hbb)
      have HALb := Lib.hid (HALa.out.later hbb)
      have HWA : Hid (top ≤ wa.heap.size) := Lib.hid HIa.out.st.tops.2.2.2
      obtain ⟨c0, c1, c2', c3, c4, cl⟩ := HSb.out.cells
      have HWB : Hid (top ≤ wb.heap.size) := Lib.hid HIb.out.st.tops.2.2.2
      have HLF := Lib.hid (left_any HIb.out.st HIb.out.inv.lens r)
      clear hch hbb HCL
      go_wp2_with fail
      refine HLF.out.mono ?_
      rintro e wc ⟨A5, n5, c5, rfl, hn5, how, hbc⟩
      have HN5 := Lib.hid hn5
      have HO5 := Lib.hid how
      have HIc := Lib.hid (HIb.out.later hbc)
      have HSc := Lib.hid (HSb.out.later hbc)
      have HALc := Lib.hid (HALb.out.later hbc)
      have HCc := Lib.hid (HCB.out.keep (KeepT.of hbc))
      clear c0 c1 c2' c3 c4 cl hn5 how hbc HLF
      obtain ⟨c0, c1, c2', c3, c4, cl⟩ := HSc.out.cells
      obtain ⟨f0, f1, f2, fl, _⟩ := HIc.out.fb.cells
      have HDO := Lib.hid (does11_any HIc.out.st HIc.out.inv hsz k hk255 r f tt A2 n2 c2 LA HALc.out)
      unfold stepV at HDO
      go_wp2_with fail
      refine HDO.out.mono ?_
      rintro e wd ⟨x, er, R', T', rfl, hdr, hsd, hfd⟩
      have hinv' := hdr.inv HIc.out.inv
      have HId := Lib.hid (HIc.out.fr hfd hsd hinv')
      have HSd : Hid (Sx bx k r f tt A2 n2 c2 wd) := Lib.hid ((hfd.block bx (lt_of_heap HSc.out) (fun q => by rcases q with q | q; exact HBX.out.2.1 q; exact HBX.out.2.2 q)).trans HSc.out)
      have HCd := Lib.hid (HCc.out.keep (HIc.out.keep hfd HWA.out))
      have HO5d : Hid (Aw wd wb.heap.size (.slice A5 n5 c5) (leftF R r)) := Lib.hid (ownsRow_same HO5.out (fun q hq => hfd.block q (HO5.out.lt q hq).2 (fun e => by
        have h1 := (HO5.out.lt q hq).1
        have h2 := HWB.out
        have h3 := HIc.out.st.tops
        rcases e with e | e <;> omega)))
      have HDR := Lib.hid hdr
      clear hdr hsd hfd hinv' c0 c1 c2' c3 c4 cl f0 f1 f2 fl
      have hBe := (Below.refl wd.heap.size wd).alloc (Nat.le_refl _) (.cells #[.int .u8 (x.1 : Int), .int .i64 x.2.1, .int .i64 x.2.2] 39)
      have HIe := Lib.hid (HId.out.later hBe)
      have HSe := Lib.hid (HSd.out.later hBe)
      have HCe := Lib.hid (HCd.out.keep (KeepT.of hBe))
      have HO5e := Lib.hid (HO5d.out.later hBe)
      clear hBe
      dsimp only [actV]
      go_upto_region 12 with (fail)
      generalize wd.alloc (.cells #[.int .u8 (x.1 : Int), .int .i64 x.2.1, .int .i64 x.2.2] 39) = we at *
      generalize wd.heap.size = bd at *
      obtain ⟨c0, c1, c2', c3, c4, cl⟩ := HSe.out.cells
      obtain ⟨f0, f1, f2, fl, _⟩ := HIe.out.fb.cells
      have hr4 := rem4 k hk255
      by_cases h2 : k % 4 = 2
      · have d2 : ((k : Int) % 4 != 2) = false := by rw [hr4, h2]; rfl
        have HGR : Hid (grantF s R T r = ((x, er), R', T')) := Lib.hid (by
          rcases HDR.out with ⟨_, h⟩ | ⟨h, _⟩ | ⟨h, _⟩
          · exact h
          · exact absurd h2 (by have h : k % 4 = 3 := h; omega)
          · exact absurd h2 h)
        clear hr4 h2
        rcases grantF_cases HIc.out.inv r with ⟨er2, g1, g2, g3⟩ | ⟨kk, cc2, a, l, rfl, hkk, hm, hmay, g3⟩ | ⟨kk, cc2, a, l, rfl, hkk, hm, hmay, g3⟩
        · have e := HGR.out.symm.trans g3
          injection e with e1 e2
          injection e1 with e1 e3
          injection e2 with e2 e4
          subst e3 e2 e4
          have d3 : (er != 0) = true := by rw [bne_iff_ne]; exact g1
          have d4 : (er == 110) = false := by rw [beq_eq_false_iff_ne]; exact g2
          have HCN := Lib.hid (claims_any HIe.out.st HIe.out.inv.few HIe.out.inv.lens)
          clear g1 g2 g3
          go_wp2_with fail
          refine HCN.out.mono ?_
          rintro e wf ⟨Af, nf, cf, rfl, hcf, hbf⟩
          have HIf := Lib.hid (HIe.out.later hbf)
          have HSM := Lib.hid (same11_any Af Ac nf cf nc cc _ wf hcf.cl ((HCe.out.keep (KeepT.of hbf)).cl))
          clear hcf hbf HCN
          go_wp2_with fail
          refine HSM.out.mono ?_
          rintro e wg ⟨rfl, hbg⟩
          have HIg := Lib.hid (HIf.out.later hbg)
          clear hbg HSM
          go_wp2_with fail
          go_roundw
          case rel => exact ⟨j + 1, _, _, by omega, by go_num, HIg⟩
          case measure => simp [intOf]; omega
        · have e := HGR.out.symm.trans g3
          injection e with e1 e2
          injection e1 with e1 e3
          injection e2 with e2 e4
          subst e3 e2 e4
          have HCN := Lib.hid (claims_any HIe.out.st HIe.out.inv.few HIe.out.inv.lens)
          obtain ⟨ax, ay, az'⟩ := a
          have hwz := wait_zone hmay
          obtain rfl : ax = 1 := hwz.1
          have HZ : Hid (laneB s ay = true ∧ ¬ MayP (clm s R' T') (kk : Int) ((bAt s ay - 97 : Nat) : Int)) := Lib.hid hwz.2
          have HLE : Hid (leftF R' (kk : Int) = (1, ay, az') :: l) := Lib.hid (by unfold leftF; rw [if_pos ⟨by omega, by omega⟩, Int.toNat_natCast, hm])
          clear g3 hm hmay hwz
          go_wp2_with fail
          refine HCN.out.mono ?_
          rintro e wf ⟨Af, nf, cf, rfl, hcf, hbf⟩
          have HIf := Lib.hid (HIe.out.later hbf)
          have HSf := Lib.hid (HSe.out.later hbf)
          have HCf := Lib.hid (HCe.out.keep (KeepT.of hbf))
          have HO5f := Lib.hid (HO5e.out.later hbf)
          have HSM := Lib.hid (same11_any Af Ac nf cf nc cc _ wf hcf.cl HCf.out.cl)
          clear hcf hbf HCN
          go_wp2_with fail
          refine HSM.out.mono ?_
          rintro e wg ⟨rfl, hbg⟩
          have HIg := Lib.hid (HIf.out.later hbg)
          have HSg := Lib.hid (HSf.out.later hbg)
          have HCg := Lib.hid (HCf.out.keep (KeepT.of hbg))
          have HO5g := Lib.hid (HO5f.out.later hbg)
          clear hbg HSM c0 c1 c2' c3 c4 cl f0 f1 f2 fl
          obtain ⟨c0, c1, c2', c3, c4, cl⟩ := HSg.out.cells
          obtain ⟨f0, f1, f2, fl, _⟩ := HIg.out.fb.cells
          have hal5 := HO5g.out.al
          rw [HLE.out] at hal5
          obtain ⟨hn5, hal5⟩ := hal5
          have hnp : 0 < n5 := by rw [hn5]; simp
          obtain ⟨g5, o5, rfl, hg5, q0, q1, q2⟩ := hal5.cell hnp
          have q0 : wg.cell? ⟨g5, o5 + 0 * 3, none⟩ = some (.int .u8 1) := q0
          have q1 : wg.cell? ⟨g5, o5 + 0 * 3 + 1, none⟩ = some (.int .i64 ay) := q1
          rw [Nat.zero_mul, Nat.add_zero] at q0 q1
          obtain ⟨s51, s52⟩ := hal5.size
          have dn : ((n5 : Int) == 0) = false := by rw [beq_eq_false_iff_ne]; omega
          have dnI : (0 : Int) < (n5 : Int) := by omega
          have HZN := Lib.hid (fun wx => zone_any W H s hsz ay wx)
          have HOL : Hid (OnLane W H s ay) := Lib.hid ⟨HIg.out.inv.right, HZ.out.1⟩
          clear hn5 hal5 q2
          go_upto_region 18 with (fail)
          go_region_held3 (fun w' => (w'.cell? ⟨bF, 0, none⟩ = some (.int .i64 W) ∧ w'.cell? ⟨bF, 1, none⟩ = some (.int .i64 H) ∧ w'.cell? ⟨bF, 2, none⟩ = some (.string s)) ∧ w'.cell? ⟨g5, o5 + 1, none⟩ = some (.int .i64 ay)) (go_keep)
            ((go_at_call 27; refine (HZN.out _).mono ?_; rintro e wh ⟨zz, bb, rfl, hz1, _, hbh⟩; obtain ⟨rfl, rfl⟩ := hz1 HOL.out; have HBh : Hid (Below wg.heap.size wg wh) := Lib.hid (by first | exact (Below.refl _ wg).drew.trans hbh | exact hbh); have HIh := Lib.hid (HIg.out.later HBh.out); obtain ⟨y0, y1, y2, yl, _⟩ := HIh.out.fb.cells; have y3 := (HBh.out.cell (p := ⟨g5, o5 + 1, none⟩) hg5).trans q1; clear hz1 hbh))
          all_goals
            have HSh := Lib.hid (HSg.out.later HBh.out)
            have HMY := Lib.hid (may_any Ac nc cc _ (kk : Int) ((bAt s ay - 97 : Nat) : Int) wh ((HCg.out.keep (KeepT.of HBh.out)).cl))
            clear c0 c1 c2' c3 c4 cl
            obtain ⟨c0, c1, c2', c3, c4, cl⟩ := HSh.out.cells
            go_wp2_with fail
            refine HMY.out.mono ?_
            rintro e wi ⟨bm, rfl, hbm, hbi⟩
            obtain rfl : bm = false := by
              cases bm with
              | false => rfl
              | true => exact absurd (hbm.1 rfl) HZ.out.2
            have HIi := Lib.hid (HIh.out.later hbi)
            clear hbm hbi HMY
            go_wp2_with fail
            go_roundw
            case rel => exact ⟨j + 1, _, _, by omega, by go_num, HIi⟩
            case measure => simp [intOf]; omega
        · have e := HGR.out.symm.trans g3
          injection e with e1 e2
          injection e1 with e1 e3
          subst e3
          clear g3
          go_wp2_with fail
          go_roundw
          case rel => exact ⟨j + 1, _, _, by omega, by go_num, HIe⟩
          case measure => simp [intOf]; omega
      · have d2 : ((k : Int) % 4 != 2) = true := by rw [hr4, bne_iff_ne]; omega
        clear hr4 h2
        go_wp2_with fail
        go_roundw
        case rel => exact ⟨j + 1, _, _, by omega, by go_num, HIe⟩
        case measure => simp [intOf]; omega
    · obtain rfl : j = m := by omega
      go_wp2_with fail
      go_ret
      exact ⟨rfl, HI.out.below⟩
end Tf
end Go.Proofs.YtellaeihcignaaaGreatDoor
