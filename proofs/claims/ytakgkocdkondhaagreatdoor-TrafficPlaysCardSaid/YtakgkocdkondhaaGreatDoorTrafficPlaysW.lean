/-
  The walk of TrafficPlays.
-/
import Derived.Test.YtakgkocdkondhaaGreatDoorTfSev
set_option linter.unusedVariables false
set_option maxRecDepth 100000
namespace Go.Proofs.YtakgkocdkondhaaGreatDoor
namespace Tf
open Go.RowKit Fl Tr Pt
open Bk (Cl)
open Lk (Ow T0 zns at9)

theorem pl_start {w0 w2 w3 w4 : World} {W H : Int} {s : ByteArray} {S g q z m cz cp c1 : Nat} {A1 : Option Addr} (hR : Right W H s) (hB2 : Below w0.heap.size w0 w2)
    (hnw : Nw (w2.alloc (.cells #[.int .i64 W, .int .i64 H, .string s] 25)) S g W H s (pick isD (at_ s) s.size).length A1 c1 w3) (hpos : 0 < (pick isD (at_ s) s.size).length) (hb4 : Below w3.heap.size w3 w4)
    (hrs : RS w4 q z m cz cp w4.heap.size W H s (docked s (pick isD (at_ s) s.size).length) T0) (hge : w3.heap.size ≤ q ∧ w3.heap.size ≤ z ∧ w3.heap.size ≤ m) :
    ∃ M, Pl w0 w2.heap.size S g M c1 w4.heap.size q z m cz cp w4.heap.size W H s (docked s (pick isD (at_ s) s.size).length) T0 w4 := by
  have hs : (w2.alloc (.cells #[.int .i64 W, .int .i64 H, .string s] 25)).heap.size = w2.heap.size + 1 := by simp
  have hbf := (Below.refl w2.heap.size w2).alloc (Nat.le_refl _) (.cells #[.int .i64 W, .int .i64 H, .string s] 25)
  have hf := Fb.new w2 W H s
  generalize w2.alloc (.cells #[.int .i64 W, .int .i64 H, .string s] 25) = wF at *
  have hn4 := hnw.later hb4
  obtain ⟨M, rfl, hst, hM⟩ := hn4.done hpos
  have h1 := hnw.below.size
  have h2 := hn4.ge
  have h3 := hB2.size
  have h4 := hb4.size
  have hff := (hf.later hnw.below).later hb4
  have t := hst.tops
  have t2 := hrs.tops
  exact ⟨M, ⟨hB2.trans ((hbf.trans ((hnw.below.trans (hb4.mono h1)).mono (by omega))).mono h3), hst, docked_inv hR, hff, ⟨by omega, by omega, by omega, by omega⟩⟩, hrs, ⟨by omega, by omega, t2.2.2.1, t.2.1, t.2.2.1⟩⟩
theorem same_yes (A A' : Option Addr) (n n' c c' : Nat) (L M : List Ac) (w : World) (h1 : Al w.heap.size w A n c L) (h2 : Al w.heap.size w A' n' c' M) (e : L = M) :
    Calls Tryz.prog 24 #[.slice A n c, .slice A' n' c'] w fun e w' => e = .returned (.bool true) ∧ Below w.heap.size w w' := by
  subst e
  refine (same_any A A' n n' c c' L L w h1 h2).mono ?_
  rintro e w' ⟨rfl, hb⟩
  exact ⟨by rw [decide_eq_true (Eq.refl L)], hb⟩
set_option maxHeartbeats 32000000 in
theorem trafficPlays_walk (t : ByteArray) (ht : t.size ≤ maxLen) (A : Option Addr) (n cap0 : Nat) (L : List Sp11) (w : World) (hl : Ls w.heap.size w A n cap0 L) :
    Calls Tryz.prog 3 #[.string t, .slice A n cap0] w fun e w' => e = .returned (.bool true) ∧ Below w.heap.size w w' := by
  have HL := Lib.hid hl
  have HFL := Lib.hid (fun wx => floors11_any t ht wx)
  have hc1 := hl.le
  have hc2 := hl.max
  clear hl
  go_enter Tryz.func3, Tryz.ntmps3
  go_wp2_with fail
  refine (shown11_any _).mono ?_
  rintro e w1 ⟨rfl, hb1⟩
  have HB1 := Lib.hid hb1
  clear hb1
  go_wp2_with fail
  refine (HFL.out _).mono ?_
  rintro e w2 ⟨W, H, s, rfl, hR, hb2⟩
  have HR := Lib.hid hR
  have HB2 := Lib.hid (HB1.out.trans (hb2.mono HB1.out.size))
  have hsz : s.size ≤ maxLen := by have := rightLe hR; unfold maxLen; omega
  have HF := Lib.hid (Fb.new w2 W H s)
  have HNW := Lib.hid (fun wx => new_raw W H s hsz wx)
  have HRN := Lib.hid (fun wx => rnew_any W H s hsz wx)
  clear hR hb2 HFL HB1
  obtain ⟨f0, f1, f2, fl, _⟩ := HF.out.cells
  go_wp2_with fail
  refine (HNW.out _).mono ?_
  rintro e w3 hnw
  rcases hnw with ⟨hno, _⟩ | ⟨_, S, g, A1, c1, rfl, hnw, hpos⟩
  · exact absurd HR.out hno
  have HN3 := Lib.hid (And.intro hnw hpos)
  have HF3 := Lib.hid (HF.out.later hnw.below)
  clear f0 f1 f2 fl hnw hpos HNW
  obtain ⟨f0, f1, f2, fl, _⟩ := HF3.out.cells
  go_wp2_with fail
  refine (HRN.out _).mono ?_
  rintro e w4 hrn
  rcases hrn with ⟨hno, _⟩ | ⟨_, q, z, m, cz, cp, rfl, hrs, hge, hb4⟩
  · exact absurd HR.out hno
  obtain ⟨M, hpl⟩ := pl_start HR.out HB2.out HN3.out.1 HN3.out.2 hb4 hrs hge
  have HPL := Lib.hid hpl
  clear f0 f1 f2 fl hpl hrs hge hb4 HRN HN3 HF3 HF
  generalize w4.heap.size = top at *
  obtain ⟨tp, htp⟩ : ∃ tp, tp = top := ⟨_, rfl⟩
  have HPL : Hid (Pl w w2.heap.size S g M c1 top q z m cz cp tp W H s (docked s (pick isD (at_ s) s.size).length) T0 w4) := Lib.hid (by rw [htp]; exact HPL.out)
  clear htp
  generalize docked s (pick isD (at_ s) s.size).length = R0 at *
  generalize T0 = TT0 at *
  obtain ⟨bF, hbF⟩ : ∃ bF, bF = w2.heap.size := ⟨_, rfl⟩
  have HBF := Lib.hid hbF
  clear hbF
  have HFW := Lib.hid (few11_any A n cap0 w.heap.size L w4 (HL.out.below HPL.out.lp.below))
  rw [← HBF.out] at HPL
  go_wp2_with fail
  refine HFW.out.mono ?_
  rintro e w5 ⟨mm, rfl, hmn, hm100, hm60, rfl⟩
  have HLM := Lib.hid (HL.out.cut hmn)
  have hmc : mm ≤ cap0 := Nat.le_trans hmn hc1
  clear hm60 hmn HFW
  generalize L.take mm = Lm at *
  go_wp2_with fail
  go_loopw [49] (fun iv wr => ∃ (j : Nat) (R : List Mv) (T : List Ow), j ≤ mm ∧ iv = .int .i64 (j : Int) ∧ Hid (Pl w bF S g M c1 top q z m cz cp tp W H s R T wr)) (fun iv _ => mm - (intOf iv).toNat)
  case atStart => exact ⟨0, R0, TT0, by omega, rfl, HPL⟩
  case round =>
    rename World => wr
    obtain ⟨j, R, T, hj, rfl, HI⟩ := hrel
    by_cases hlt : j < mm
    · obtain ⟨gl, ol, A2, n2, c2, rfl, hgl, k0, k1, k2, k3, k4, hal, hk255⟩ := (HLM.out.below HI.out.lp.below).cell j hlt
      have hjI : (j : Int) < (mm : Int) := by omega
      have hgr := Nat.lt_of_lt_of_le hgl HI.out.lp.below.size
      generalize Lm.getD j (0, 0, 0, 0, []) = p at *
      obtain ⟨k, r, f, tt, LA⟩ := p
      have k0 : wr.cell? ⟨gl, ol + j * 5, none⟩ = some (.int .u8 (k : Int)) := k0
      have k1 : wr.cell? ⟨gl, ol + j * 5 + 1, none⟩ = some (.int .i64 r) := k1
      have k2 : wr.cell? ⟨gl, ol + j * 5 + 2, none⟩ = some (.int .i64 f) := k2
      have k3 : wr.cell? ⟨gl, ol + j * 5 + 3, none⟩ = some (.int .i64 tt) := k3
      have hk255 : k ≤ 255 := hk255
      have HALw := Lib.hid (show Al w.heap.size wr A2 n2 c2 LA from hal)
      have hBa := (Below.refl wr.heap.size wr).alloc (Nat.le_refl _) (.cells #[.int .u8 (k : Int), .int .i64 r, .int .i64 f, .int .i64 tt, .slice A2 n2 c2] 37)
      have HSX := Lib.hid (Sx.new wr k r f tt A2 n2 c2)
      obtain ⟨wa, hwa⟩ : ∃ wa, wa = wr.alloc (.cells #[.int .u8 (k : Int), .int .i64 r, .int .i64 f, .int .i64 tt, .slice A2 n2 c2] 37) := ⟨_, rfl⟩
      have HWA := Lib.hid hwa
      rw [← hwa] at hBa HSX
      have HBA := Lib.hid hBa
      have HIa := Lib.hid (HI.out.later hBa)
      have HDO := Lib.hid (does11_any HIa.out.lp.st HIa.out.lp.inv hsz k hk255 r f tt A2 n2 c2 LA ((HALw.out.raise HI.out.lp.below.size).later hBa))
      clear hBa hwa
      unfold stepV at HDO
      obtain ⟨f0, f1, f2, fl, _⟩ := HIa.out.lp.fb.cells
      obtain ⟨x0, x1, x2, x3, x4, xl⟩ := HSX.out.cells
      rw [← HBF.out]
      clear hal
      go_upto_region 10 with (fail)
      rw [← HWA.out]
      go_wp2_with fail
      refine HDO.out.mono ?_
      rintro e wd ⟨x, er, R', T', rfl, hdr, hsd, hfd⟩
      have hinv' := hdr.inv HIa.out.lp.inv
      have HDR := Lib.hid hdr
      have HLd := Lib.hid (HIa.out.lp.fr hfd hsd hinv')
      have HRd := Lib.hid (HIa.out.rs.turn HIa.out.lp.st HIa.out.ge.2.2.2.1 HIa.out.ge.2.2.2.2 hfd)
      have HFD := Lib.hid hfd
      have HTP := Lib.hid (And.intro HI.out.lp.st.tops HI.out.ge)
      have hsxd : Sx wr.heap.size k r f tt A2 n2 c2 wd := (hfd.block wr.heap.size xl (fun e => by have := HTP.out; rcases e with e | e <;> omega)).trans HSX.out
      have HBD : Hid (Below w.heap.size wr wd) := Lib.hid ((HBA.out.mono HI.out.lp.below.size).trans (hfd.below HIa.out.lp.below.size HIa.out.lp.ge.1 HIa.out.lp.ge.2.1))
      have HSZ : Hid (wr.heap.size ≤ wd.heap.size) := Lib.hid (Nat.le_trans HBA.out.size hfd.size)
      clear hdr hsd hfd hinv' HDO f0 f1 f2 fl k0 k1 k2 k3 k4 hgl hgr x0 x1 x2 x3 x4 xl
      obtain ⟨ax, ay, aw⟩ := x
      have hBe := (Below.refl wd.heap.size wd).alloc (Nat.le_refl _) (.cells #[.int .u8 (ax : Int), .int .i64 ay, .int .i64 aw] 39)
      have habe : Ab wd.heap.size (ax, ay, aw) (wd.alloc (.cells #[.int .u8 (ax : Int), .int .i64 ay, .int .i64 aw] 39)) := heap_alloc_new wd _
      obtain ⟨we, hwe⟩ : ∃ we, we = wd.alloc (.cells #[.int .u8 (ax : Int), .int .i64 ay, .int .i64 aw] 39) := ⟨_, rfl⟩
      have HWE := Lib.hid hwe
      rw [← hwe] at hBe habe
      have HLe := Lib.hid (HLd.out.later hBe)
      have HRe := Lib.hid (HRd.out.later hBe)
      have HSXe := Lib.hid (Sx.later hsxd hBe)
      have HABe := Lib.hid habe
      have HALe := Lib.hid ((HALw.out.below (HBD.out.trans (hBe.mono (Nat.le_trans HI.out.lp.below.size HSZ.out)))).raise (Nat.le_trans (Nat.le_trans HI.out.lp.below.size HSZ.out) hBe.size))
      have HMD := Lib.hid (model11_any HRe.out HIa.out.lp.inv hsz k hk255 r f tt A2 n2 c2 LA HALe.out)
      unfold stepV at HMD
      clear hwe hBe habe hsxd
      obtain ⟨f0, f1, f2, fl, _⟩ := HLe.out.fb.cells
      obtain ⟨x0, x1, x2, x3, x4, xl⟩ := HSXe.out.cells
      dsimp only [actV]
      go_upto_region 11 with (fail)
      rw [← HWE.out]
      go_wp2_with fail
      refine HMD.out.mono ?_
      rintro e wm ⟨y, er2, R2, T2, rfl, hdr2, hrs2, hfm⟩
      obtain ⟨hx, he, hR2, hT2⟩ := HDR.out.uniq hdr2
      subst hx he hR2 hT2
      have hpm : Pl w bF S g M c1 top q z m cz cp tp W H s R' T' wm := ⟨HLe.out.fm HRe.out ⟨HTP.out.2.1, HTP.out.2.2.1, HTP.out.2.2.2.1⟩ hfm, hrs2, HTP.out.2⟩
      have habm : Ab wd.heap.size (ax, ay, aw) wm := (hfm.block wd.heap.size (lt_of_heap HABe.out) (fun e => by have := HTP.out; have := HSZ.out; omega)).trans HABe.out
      clear hdr2 hrs2 hfm HMD f0 f1 f2 fl x0 x1 x2 x3 x4 xl HDR HSX HSXe HALe HALw HLd HRd HLe HRe HFD HBD
      have hBn := (Below.refl wm.heap.size wm).alloc (Nat.le_refl _) (.cells #[.int .u8 (ax : Int), .int .i64 ay, .int .i64 aw] 39)
      have habn : Ab wm.heap.size (ax, ay, aw) (wm.alloc (.cells #[.int .u8 (ax : Int), .int .i64 ay, .int .i64 aw] 39)) := heap_alloc_new wm _
      obtain ⟨wn, hwn⟩ : ∃ wn, wn = wm.alloc (.cells #[.int .u8 (ax : Int), .int .i64 ay, .int .i64 aw] 39) := ⟨_, rfl⟩
      have HWN := Lib.hid hwn
      rw [← hwn] at hBn habn
      have HPn := Lib.hid (hpm.later hBn)
      obtain ⟨g0, g1, g2, g3, -⟩ := (habm.later hBn).cells
      obtain ⟨h0, h1, h2, h3, -⟩ := habn.cells
      have HCL := Lib.hid (claims_any HPn.out.lp.st HPn.out.lp.inv.few HPn.out.lp.inv.lens)
      clear hwn hBn habn habm hpm
      dsimp only [actV]
      go_upto_region 12 with (fail)
      rw [← HWN.out]
      go_wp2_with fail
      refine HCL.out.mono ?_
      rintro e wc ⟨A3, n3, c3, rfl, hch, hbc⟩
      have HPc := Lib.hid (HPn.out.later hbc)
      have HC1 := Lib.hid hch.cl
      have HRC := Lib.hid (rclaims_any HPc.out.rs HPc.out.lp.inv.few HPc.out.lp.inv.lens (fun r hr a ha => on_lt (right_cells (HPc.out.lp.inv.each r hr) a ha).2))
      clear hch hbc HCL g0 g1 g2 g3 h0 h1 h2 h3
      go_wp2_with fail
      refine HRC.out.mono ?_
      rintro e wv ⟨A4, n4, c4, rfl, hcl4, hbv⟩
      have HPv := Lib.hid (HPc.out.later hbv)
      have HSM := Lib.hid (same11_any A3 A4 n3 c3 n4 c4 (clm s R' T') wv (Bk.Cl.later HC1.out hbv) hcl4)
      clear hcl4 hbv HRC HC1
      go_wp2_with fail
      refine HSM.out.mono ?_
      rintro e wu ⟨rfl, hbu⟩
      have HPu := Lib.hid (HPv.out.later hbu)
      have HI' := HPu.out.lp.inv
      have hn8 := HI'.few
      obtain ⟨N, hN⟩ : ∃ N, N = R'.length := ⟨_, rfl⟩
      have HN := Lib.hid hN
      rw [← hN] at hn8
      clear hbu HSM HI' hN
      go_wp2_with fail
      go_loopw [17] (fun rv wx => ∃ ρ : Int, -1 ≤ ρ ∧ ρ ≤ N + 1 ∧ rv = .int .i64 ρ ∧ Hid (Pl w bF S g M c1 top q z m cz cp tp W H s R' T' wx)) (fun rv _ => ((N : Int) + 1 - intOf rv).toNat)
      case atStart => exact ⟨-1, by omega, by omega, rfl, HPu⟩
      case round =>
        rename World => wx
        obtain ⟨ρ, hr1, hr2, rfl, HX⟩ := hrel
        obtain ⟨-, -, -, -, e4, hq⟩ := HX.out.rs.cells
        rw [← HN.out] at e4
        by_cases hle : ρ ≤ N
        · have dl : decide (ρ ≤ (N : Int)) = true := decide_eq_true hle
          have HCE := Lib.hid (cell_any HX.out.lp.st ρ)
          unfold CellTold at HCE
          by_cases hin : 0 ≤ ρ ∧ ρ < N
          · obtain ⟨u, rfl⟩ := Int.eq_ofNat_of_zero_le hin.1
            have HUL : Hid (u < R'.length) := Lib.hid (by rw [← HN.out]; omega)
            have hin' : 0 ≤ (u : Int) ∧ (u : Int) < R'.length := ⟨by omega, by rw [← HN.out]; omega⟩
            have HUR := Lib.hid hin'
            rw [cellF_in HUL.out] at HCE
            have HLE : Hid (leftF R' (u : Int) = (getM R' u).2.1) := Lib.hid (by unfold leftF; rw [if_pos HUR.out, Int.toNat_natCast])
            have hs1 : N ≤ cp := by have := HX.out.rs.size.1.1; rw [← HN.out] at this; exact this
            have hs2 : cp ≤ 9223372036854775807 := HX.out.rs.size.1.2
            have huN : (u : Int) < (N : Int) := hin.2
            have huN' : u < N := by omega
            obtain ⟨c0, hc0⟩ : ∃ c0, c0 = (getM R' u).1 := ⟨_, rfl⟩
            have HC0 := Lib.hid hc0
            rw [← hc0] at HCE
            clear hin hin' hc0
            go_wp2_with fail
            refine HCE.out.mono ?_
            rintro e wa ⟨rfl, hba⟩
            have HXa := Lib.hid (HX.out.later hba)
            have HNO := Lib.hid (now_any HXa.out.lp.st HXa.out.lp.inv.busy (u : Int))
            unfold NowTold at HNO
            clear hba HCE e4 hq
            go_wp2_with fail
            refine HNO.out.mono ?_
            rintro e wb ⟨rfl, hbb⟩
            have HXb := Lib.hid (HXa.out.later hbb)
            clear hbb HNO
            rcases mv_cases HXb.out.lp.inv HUL.out with ⟨hbz, hnw, _⟩ | ⟨a, l, hla0, hbz, hnw, _⟩
            · rw [hnw]
              dsimp only [actV]
              have hBc := (Below.refl wb.heap.size wb).alloc (Nat.le_refl _) (.cells #[.int .u8 0, .int .i64 0, .int .i64 0] 39)
              have habc : Ab wb.heap.size (0, 0, 0) (wb.alloc (.cells #[.int .u8 0, .int .i64 0, .int .i64 0] 39)) := heap_alloc_new wb _
              obtain ⟨wc, hwc⟩ : ∃ wc, wc = wb.alloc (.cells #[.int .u8 0, .int .i64 0, .int .i64 0] 39) := ⟨_, rfl⟩
              have HWC := Lib.hid hwc
              rw [← hwc] at hBc habc
              have HXc := Lib.hid (HXb.out.later hBc)
              obtain ⟨A5, n5, c5, A6, n6, c6, r0, r1, r2, r3, hla, -, -, hmlt⟩ := HXc.out.rs.robot HUL.out
              obtain ⟨-, -, -, -, e4, hq⟩ := HXc.out.rs.cells
              rw [← HN.out] at e4
              rw [← HC0.out] at r0
              rw [hbz] at r2
              have HHS := Lib.hid (rhas_any HXc.out.rs (u : Int))
              rw [decide_eq_true HUR.out] at HHS
              clear hwc hnw hbz
              have hBd := (Below.refl wc.heap.size wc).alloc (Nat.le_refl _) (.cells #[.int .i64 c0, .slice A5 n5 c5, .bool false, .slice A6 n6 c6] 57)
              have hrb : Rb4 wc.heap.size c0 (.slice A5 n5 c5) false (.slice A6 n6 c6) (wc.alloc (.cells #[.int .i64 c0, .slice A5 n5 c5, .bool false, .slice A6 n6 c6] 57)) := heap_alloc_new wc _
              obtain ⟨wd, hwd⟩ : ∃ wd, wd = wc.alloc (.cells #[.int .i64 c0, .slice A5 n5 c5, .bool false, .slice A6 n6 c6] 57) := ⟨_, rfl⟩
              have HWD := Lib.hid hwd
              rw [← hwd] at hBd hrb
              have HXd := Lib.hid (HXc.out.later hBd)
              have HRB := Lib.hid hrb
              have HAB := Lib.hid (habc.later hBd)
              have HAL := Lib.hid (hla.al.later hBd)
              have HLF := Lib.hid (fun wx (hb : Below wd.heap.size wd wx) => left_any (HXd.out.later hb).lp.st HXd.out.lp.inv.lens (u : Int))
              have HB0 := Lib.hid (Below.refl wd.heap.size wd)
              clear hwd hBd hrb hBc habc hla
              go_upto_region 19 with (fail)
              rw [← HWC.out]
              go_wp2_with fail
              refine HHS.out.mono ?_
              rintro e wz ⟨rfl, rfl⟩
              go_upto_region 23 with (fail)
              rw [← HWD.out]
              clear r0 r1 r2 r3 e4 hq hmlt
              obtain ⟨⟨oa0, oa1, oa2, -⟩, -, -⟩ := (HRB.out.later HB0.out).cells
              obtain ⟨ob0, ob1, ob2, -⟩ := (HAB.out.later HB0.out).cells
              refine wp_region_held_drew (S := fun w' => (w'.cell? ⟨wc.heap.size, 0, none⟩ = some (.int .i64 c0) ∧ w'.cell? ⟨wc.heap.size, 1, none⟩ = some (.slice A5 n5 c5) ∧ w'.cell? ⟨wc.heap.size, 2, none⟩ = some (.bool false)) ∧ w'.cell? ⟨wb.heap.size, 0, none⟩ = some (.int .u8 0) ∧ w'.cell? ⟨wb.heap.size, 1, none⟩ = some (.int .i64 0) ∧ w'.cell? ⟨wb.heap.size, 2, none⟩ = some (.int .i64 0)) (by kernel_rfl) (by simp; exact ⟨⟨oa0, oa1, oa2⟩, ob0, ob1, ob2⟩) (fun hS0 => ?_)
              (refine wpAnyH_take (i := 0) (oi := ⟨some 126, _, _, _, _, _⟩) (v := .bool true) rfl (by kernel_rfl) (by kernel_rfl) (by kernel_rfl) (fun _ _ _ h => h) (Or.inl ⟨by rfl, ?_⟩) (by assumption) ?_; (intro w hSw; (try dsimp only at hSw); go_simp); (try simp only [Act.put, List.setIfInBounds_toArray, List.set_cons_zero, List.set_cons_succ]))
              (refine wpAnyH_take (i := 1) (oi := ⟨some 127, _, _, _, _, _⟩) (v := .bool false) rfl (by kernel_rfl) (by kernel_rfl) (by kernel_rfl) (fun _ _ _ h => h) (Or.inl ⟨by rfl, ?_⟩) (by assumption) ?_; (intro w hSw; (try dsimp only at hSw); go_simp); (try simp only [Act.put, List.setIfInBounds_toArray, List.set_cons_zero, List.set_cons_succ]))
              (refine wpAnyH_take (i := 2) (oi := ⟨some 128, _, _, _, _, _⟩) (v := .bool false) rfl (by kernel_rfl) (by kernel_rfl) (by kernel_rfl) (fun _ _ _ h => h) (Or.inl ⟨by rfl, ?_⟩) (by assumption) ?_; (intro w hSw; (try dsimp only at hSw); go_simp); (try simp only [Act.put, List.setIfInBounds_toArray, List.set_cons_zero, List.set_cons_succ]))
              (refine wpAnyH_take (i := 3) (oi := ⟨some 129, _, _, _, _, _⟩) (v := .int .i64 c0) rfl (by kernel_rfl) (by kernel_rfl) (by kernel_rfl) (fun _ _ _ h => h) (Or.inl ⟨by rfl, ?_⟩) (by assumption) ?_; (intro w hSw; (try dsimp only at hSw); go_simp); (try simp only [Act.put, List.setIfInBounds_toArray, List.set_cons_zero, List.set_cons_succ]))
              (refine wpAnyH_take (i := 4) (oi := ⟨some 130, _, _, _, _, _⟩) (v := .pointer (some ⟨wc.heap.size, 0, none⟩)) rfl (by kernel_rfl) (by kernel_rfl) (by kernel_rfl) (fun _ _ _ h => h) (Or.inl ⟨by rfl, ?_⟩) (by assumption) ?_; (intro w hSw; (try dsimp only at hSw); go_simp); (try simp only [Act.put, List.setIfInBounds_toArray, List.set_cons_zero, List.set_cons_succ]))
              (refine wpAnyH_take (i := 5) (oi := ⟨some 131, _, _, _, _, _⟩) (v := .int .i64 c0) rfl (by kernel_rfl) (by kernel_rfl) (by kernel_rfl) (fun _ _ _ h => h) (Or.inl ⟨by rfl, ?_⟩) (by assumption) ?_; (intro w hSw; (try dsimp only at hSw); go_simp); (try simp only [Act.put, List.setIfInBounds_toArray, List.set_cons_zero, List.set_cons_succ]))
              (refine wpAnyH_take (i := 6) (oi := ⟨some 132, _, _, _, _, _⟩) (v := .bool false) rfl (by kernel_rfl) (by kernel_rfl) (by kernel_rfl) (fun _ _ _ h => h) (Or.inl ⟨by rfl, ?_⟩) (by assumption) ?_; (intro w hSw; (try dsimp only at hSw); go_simp); (try simp only [Act.put, List.setIfInBounds_toArray, List.set_cons_zero, List.set_cons_succ]))
              (refine wpAnyH_take (i := 7) (oi := ⟨some 133, _, _, _, _, _⟩) (v := .bool false) rfl (by kernel_rfl) (by kernel_rfl) (by kernel_rfl) (fun _ _ _ h => h) (Or.inl ⟨by rfl, ?_⟩) (by assumption) ?_; (intro w hSw; (try dsimp only at hSw); go_simp); (try simp only [Act.put, List.setIfInBounds_toArray, List.set_cons_zero, List.set_cons_succ]))
              (refine wpAnyH_take (i := 8) (oi := ⟨some 134, _, _, _, _, _⟩) (v := .bool false) rfl (by kernel_rfl) (by kernel_rfl) (by kernel_rfl) (fun _ _ _ h => h) (Or.inl ⟨by rfl, ?_⟩) (by assumption) ?_; (intro w hSw; (try dsimp only at hSw); go_simp); (try simp only [Act.put, List.setIfInBounds_toArray, List.set_cons_zero, List.set_cons_succ]))
              (refine wpAnyH_take (i := 9) (oi := ⟨some 135, _, _, _, _, _⟩) (v := .bool false) rfl (by kernel_rfl) (by kernel_rfl) (by kernel_rfl) (fun _ _ _ h => h) (Or.inl ⟨by rfl, ?_⟩) (by assumption) ?_; (intro w hSw; (try dsimp only at hSw); go_simp); (try simp only [Act.put, List.setIfInBounds_toArray, List.set_cons_zero, List.set_cons_succ]))
              (refine wpAnyH_take (i := 10) (oi := ⟨some 136, _, _, _, _, _⟩) (v := .pointer (some ⟨wc.heap.size, 2, none⟩)) rfl (by kernel_rfl) (by kernel_rfl) (by kernel_rfl) (fun _ _ _ h => h) (Or.inl ⟨by rfl, ?_⟩) (by assumption) ?_; (intro w hSw; (try dsimp only at hSw); go_simp); (try simp only [Act.put, List.setIfInBounds_toArray, List.set_cons_zero, List.set_cons_succ]))
              (refine wpAnyH_take (i := 11) (oi := ⟨some 137, _, _, _, _, _⟩) (v := .bool false) rfl (by kernel_rfl) (by kernel_rfl) (by kernel_rfl) (fun _ _ _ h => h) (Or.inl ⟨by rfl, ?_⟩) (by assumption) ?_; (intro w hSw; (try dsimp only at hSw); go_simp); (try simp only [Act.put, List.setIfInBounds_toArray, List.set_cons_zero, List.set_cons_succ]))
              (refine wpAnyH_take (i := 12) (oi := ⟨some 138, _, _, _, _, _⟩) (v := .bool false) rfl (by kernel_rfl) (by kernel_rfl) (by kernel_rfl) (fun _ _ _ h => h) (Or.inl ⟨by rfl, ?_⟩) (by assumption) ?_; (intro w hSw; (try dsimp only at hSw); go_simp); (try simp only [Act.put, List.setIfInBounds_toArray, List.set_cons_zero, List.set_cons_succ]))
              (refine wpAnyH_take (i := 13) (oi := ⟨some 139, _, _, _, _, _⟩) (v := .bool false) rfl (by kernel_rfl) (by kernel_rfl) (by kernel_rfl) (fun _ _ _ h => h) (Or.inl ⟨by rfl, ?_⟩) (by assumption) ?_; (intro w hSw; (try dsimp only at hSw); go_simp); (try simp only [Act.put, List.setIfInBounds_toArray, List.set_cons_zero, List.set_cons_succ]))
              (refine wpAnyH_take (i := 14) (oi := ⟨some 140, _, _, _, _, _⟩) (v := .bool false) rfl (by kernel_rfl) (by kernel_rfl) (by kernel_rfl) (fun _ _ _ h => h) (Or.inl ⟨by rfl, ?_⟩) (by assumption) ?_; (intro w hSw; (try dsimp only at hSw); go_simp); (try simp only [Act.put, List.setIfInBounds_toArray, List.set_cons_zero, List.set_cons_succ]))
              (refine wpAnyH_take (i := 15) (oi := ⟨some 141, _, _, _, _, _⟩) (v := .bool false) rfl (by kernel_rfl) (by kernel_rfl) (by kernel_rfl) (fun _ _ _ h => h) (Or.inl ⟨by rfl, ?_⟩) (by assumption) ?_; (intro w hSw; (try dsimp only at hSw); go_simp); (try simp only [Act.put, List.setIfInBounds_toArray, List.set_cons_zero, List.set_cons_succ]))
              (refine wpAnyH_take (i := 16) (oi := ⟨some 142, _, _, _, _, _⟩) (v := .bool false) rfl (by kernel_rfl) (by kernel_rfl) (by kernel_rfl) (fun _ _ _ h => h) (Or.inl ⟨by rfl, ?_⟩) (by assumption) ?_; (intro w hSw; (try dsimp only at hSw); go_simp); (try simp only [Act.put, List.setIfInBounds_toArray, List.set_cons_zero, List.set_cons_succ]))
              (refine wpAnyH_take (i := 17) (oi := ⟨some 143, _, _, _, _, _⟩) (v := undef) rfl (by kernel_rfl) (by kernel_rfl) (by kernel_rfl) (fun _ _ _ h => h) (Or.inr ⟨by rfl, rfl⟩) (by assumption) ?_; (try simp only [Act.put, List.setIfInBounds_toArray, List.set_cons_zero, List.set_cons_succ]))
              (refine wpAnyH_take (i := 18) (oi := ⟨some 144, _, _, _, _, _⟩) (v := undef) rfl (by kernel_rfl) (by kernel_rfl) (by kernel_rfl) (fun _ _ _ h => h) (Or.inr ⟨by rfl, rfl⟩) (by assumption) ?_; (try simp only [Act.put, List.setIfInBounds_toArray, List.set_cons_zero, List.set_cons_succ]))
              (refine wpAnyH_take (i := 19) (oi := ⟨some 145, _, _, _, _, _⟩) (v := undef) rfl (by kernel_rfl) (by kernel_rfl) (by kernel_rfl) (fun _ _ _ h => h) (Or.inr ⟨by rfl, rfl⟩) (by assumption) ?_; (try simp only [Act.put, List.setIfInBounds_toArray, List.set_cons_zero, List.set_cons_succ]))
              (refine wpAnyH_take (i := 20) (oi := ⟨some 146, _, _, _, _, _⟩) (v := undef) rfl (by kernel_rfl) (by kernel_rfl) (by kernel_rfl) (fun _ _ _ h => h) (Or.inr ⟨by rfl, rfl⟩) (by assumption) ?_; (try simp only [Act.put, List.setIfInBounds_toArray, List.set_cons_zero, List.set_cons_succ]))
              (refine wpAnyH_take (i := 21) (oi := ⟨some 147, _, _, _, _, _⟩) (v := undef) rfl (by kernel_rfl) (by kernel_rfl) (by kernel_rfl) (fun _ _ _ h => h) (Or.inr ⟨by rfl, rfl⟩) (by assumption) ?_; (try simp only [Act.put, List.setIfInBounds_toArray, List.set_cons_zero, List.set_cons_succ]))
              (refine wpAnyH_take (i := 22) (oi := ⟨some 148, _, _, _, _, _⟩) (v := undef) rfl (by kernel_rfl) (by kernel_rfl) (by kernel_rfl) (fun _ _ _ h => h) (Or.inr ⟨by rfl, rfl⟩) (by assumption) ?_; (try simp only [Act.put, List.setIfInBounds_toArray, List.set_cons_zero, List.set_cons_succ]))
              (refine wpAnyH_take (i := 23) (oi := ⟨some 149, _, _, _, _, _⟩) (v := .bool false) rfl (by kernel_rfl) (by kernel_rfl) (by kernel_rfl) (fun _ _ _ h => h) (Or.inl ⟨by rfl, ?_⟩) (by assumption) ?_; (intro w hSw; (try dsimp only at hSw); go_simp); (try simp only [Act.put, List.setIfInBounds_toArray, List.set_cons_zero, List.set_cons_succ]))
              (refine wpAnyH_take (i := 24) (oi := ⟨some 150, _, _, _, _, _⟩) (v := .bool false) rfl (by kernel_rfl) (by kernel_rfl) (by kernel_rfl) (fun _ _ _ h => h) (Or.inl ⟨by rfl, ?_⟩) (by assumption) ?_; (intro w hSw; (try dsimp only at hSw); go_simp); (try simp only [Act.put, List.setIfInBounds_toArray, List.set_cons_zero, List.set_cons_succ]))
              (refine wpAnyH_take (i := 25) (oi := ⟨some 151, _, _, _, _, _⟩) (v := .bool false) rfl (by kernel_rfl) (by kernel_rfl) (by kernel_rfl) (fun _ _ _ h => h) (Or.inl ⟨by rfl, ?_⟩) (by assumption) ?_; (intro w hSw; (try dsimp only at hSw); go_simp); (try simp only [Act.put, List.setIfInBounds_toArray, List.set_cons_zero, List.set_cons_succ]))
              (refine wpAnyH_take (i := 26) (oi := ⟨some 152, _, _, _, _, _⟩) (v := .bool false) rfl (by kernel_rfl) (by kernel_rfl) (by kernel_rfl) (fun _ _ _ h => h) (Or.inl ⟨by rfl, ?_⟩) (by assumption) ?_; (intro w hSw; (try dsimp only at hSw); go_simp); (try simp only [Act.put, List.setIfInBounds_toArray, List.set_cons_zero, List.set_cons_succ]))
              (refine wpAnyH_take (i := 27) (oi := ⟨some 153, _, _, _, _, _⟩) (v := .bool true) rfl (by kernel_rfl) (by kernel_rfl) (by kernel_rfl) (fun _ _ _ h => h) (Or.inl ⟨by rfl, ?_⟩) (by assumption) ?_; (intro w hSw; (try dsimp only at hSw); go_simp); (try simp only [Act.put, List.setIfInBounds_toArray, List.set_cons_zero, List.set_cons_succ]))
              (refine wpAnyH_take (i := 28) (oi := ⟨some 154, _, _, _, _, _⟩) (v := .bool true) rfl (by kernel_rfl) (by kernel_rfl) (by kernel_rfl) (fun _ _ _ h => h) (Or.inl ⟨by rfl, ?_⟩) (by assumption) ?_; (intro w hSw; (try dsimp only at hSw); go_simp); (try simp only [Act.put, List.setIfInBounds_toArray, List.set_cons_zero, List.set_cons_succ]))
              (refine wpAnyH_take (i := 29) (oi := ⟨some 155, _, _, _, _, _⟩) (v := .agg #[.int .u8 0, .int .i64 0, .int .i64 0]) rfl (by kernel_rfl) (by kernel_rfl) (by kernel_rfl) (fun _ _ _ h => h) (Or.inl ⟨by rfl, ?_⟩) (by assumption) ?_; (intro w hSw; (try dsimp only at hSw); go_simp); (try simp only [Act.put, List.setIfInBounds_toArray, List.set_cons_zero, List.set_cons_succ]))
              (refine wpAnyH_take (i := 30) (oi := ⟨some 156, _, _, _, _, _⟩) (v := .agg #[.int .u8 0, .int .i64 0, .int .i64 0]) rfl (by kernel_rfl) (by kernel_rfl) (by kernel_rfl) (fun _ _ _ h => h) (Or.inl ⟨by rfl, ?_⟩) (by assumption) ?_; (intro w hSw; (try dsimp only at hSw); go_simp); (try simp only [Act.put, List.setIfInBounds_toArray, List.set_cons_zero, List.set_cons_succ]))
              (refine wpAnyH_take (i := 31) (oi := ⟨some 157, _, _, _, _, _⟩) (v := .bool false) rfl (by kernel_rfl) (by kernel_rfl) (by kernel_rfl) (fun _ _ _ h => h) (Or.inl ⟨by rfl, ?_⟩) (by assumption) ?_; (intro w hSw; (try dsimp only at hSw); go_simp); (try simp only [Act.put, List.setIfInBounds_toArray, List.set_cons_zero, List.set_cons_succ]))
              (refine wpAnyH_take (i := 32) (oi := ⟨some 158, _, _, _, _, _⟩) (v := .bool false) rfl (by kernel_rfl) (by kernel_rfl) (by kernel_rfl) (fun _ _ _ h => h) (Or.inl ⟨by rfl, ?_⟩) (by assumption) ?_; (intro w hSw; (try dsimp only at hSw); go_simp); (try simp only [Act.put, List.setIfInBounds_toArray, List.set_cons_zero, List.set_cons_succ]))
              (refine wpAnyH_take (i := 33) (oi := ⟨some 159, _, _, _, _, _⟩) (v := .bool false) rfl (by kernel_rfl) (by kernel_rfl) (by kernel_rfl) (fun _ _ _ h => h) (Or.inl ⟨by rfl, ?_⟩) (by assumption) ?_; (intro w hSw; (try dsimp only at hSw); go_simp); (try simp only [Act.put, List.setIfInBounds_toArray, List.set_cons_zero, List.set_cons_succ]))
              (refine wpAnyH_take (i := 34) (oi := ⟨some 160, _, _, _, _, _⟩) (v := .bool false) rfl (by kernel_rfl) (by kernel_rfl) (by kernel_rfl) (fun _ _ _ h => h) (Or.inl ⟨by rfl, ?_⟩) (by assumption) ?_; (intro w hSw; (try dsimp only at hSw); go_simp); (try simp only [Act.put, List.setIfInBounds_toArray, List.set_cons_zero, List.set_cons_succ]))
              (refine wpAnyH_take (i := 35) (oi := ⟨some 161, _, _, _, _, _⟩) (v := .pointer (some ⟨S, 0, none⟩)) rfl (by kernel_rfl) (by kernel_rfl) (by kernel_rfl) (fun _ _ _ h => h) (Or.inl ⟨by rfl, ?_⟩) (by assumption) ?_; (intro w hSw; (try dsimp only at hSw); go_simp); (try simp only [Act.put, List.setIfInBounds_toArray, List.set_cons_zero, List.set_cons_succ]))
              (refine wpAnyH_take (i := 36) (oi := ⟨some 162, _, _, _, _, _⟩) (v := .int .i64 (u : Int)) rfl (by kernel_rfl) (by kernel_rfl) (by kernel_rfl) (fun _ _ _ h => h) (Or.inl ⟨by rfl, ?_⟩) (by assumption) ?_; (intro w hSw; (try dsimp only at hSw); go_simp); (try simp only [Act.put, List.setIfInBounds_toArray, List.set_cons_zero, List.set_cons_succ]))
              (refine wpAnyH_take (i := 38) (oi := ⟨some 164, _, _, _, _, _⟩) (v := .pointer (some ⟨wc.heap.size, 1, none⟩)) rfl (by kernel_rfl) (by kernel_rfl) (by kernel_rfl) (fun _ _ _ h => h) (Or.inl ⟨by rfl, ?_⟩) (by assumption) ?_; (intro w hSw; (try dsimp only at hSw); go_simp); (try simp only [Act.put, List.setIfInBounds_toArray, List.set_cons_zero, List.set_cons_succ]))
              (refine wpAnyH_take (i := 39) (oi := ⟨some 165, _, _, _, _, _⟩) (v := .slice A5 n5 c5) rfl (by kernel_rfl) (by kernel_rfl) (by kernel_rfl) (fun _ _ _ h => h) (Or.inl ⟨by rfl, ?_⟩) (by assumption) ?_; (intro w hSw; (try dsimp only at hSw); go_simp); (try simp only [Act.put, List.setIfInBounds_toArray, List.set_cons_zero, List.set_cons_succ]))
              refine wpAnyH_ready (rs := [37]) (by kernel_rfl) (by simp) ?_
              refine AllReadyH.cons (o := ⟨some 163, _, _, _, _, _⟩) rfl (fun K hK => ?_) AllReadyH.nil
              go_simp
              refine (HLF.out _ (Below.refl _ _).drew).mono ?_
              rintro e w12 ⟨A7, n7, c7, rfl, -, how7, hb12⟩
              have HB12 : Hid (Below wd.heap.size wd w12) := Lib.hid ((Below.refl _ wd).drew.trans hb12)
              have HOW7 := Lib.hid how7
              clear how7 hb12
              obtain ⟨⟨pa0, pa1, pa2, -⟩, -, -⟩ := (HRB.out.later HB12.out).cells
              obtain ⟨pb0, pb1, pb2, -⟩ := (HAB.out.later HB12.out).cells
              refine hK.out _ _ ⟨⟨pa0, pa1, pa2⟩, pb0, pb1, pb2⟩ (fun hS163 => ?_)
              clear hK
              (try simp only [Act.put, List.setIfInBounds_toArray, List.set_cons_zero, List.set_cons_succ])
              refine wpAnyH_ready (rs := [40]) (by kernel_rfl) (by simp) ?_
              refine AllReadyH.cons (o := ⟨some 166, _, _, _, _, _⟩) rfl (fun K hK => ?_) AllReadyH.nil
              go_simp
              refine (same_yes A7 A5 n7 n5 c7 c5 (leftF R' (u : Int)) (getM R' u).2.1 w12 HOW7.out.al.2 (HAL.out.later HB12.out) HLE.out).mono ?_
              rintro e w13 ⟨rfl, hb13⟩
              have HB13 : Hid (Below wd.heap.size wd w13) := Lib.hid (HB12.out.trans (hb13.mono HB12.out.size))
              clear hb13
              obtain ⟨⟨qa0, qa1, qa2, -⟩, -, -⟩ := (HRB.out.later HB13.out).cells
              obtain ⟨qb0, qb1, qb2, -⟩ := (HAB.out.later HB13.out).cells
              refine hK.out _ _ ⟨⟨qa0, qa1, qa2⟩, qb0, qb1, qb2⟩ (fun hS166 => ?_)
              clear hK
              (try simp only [Act.put, List.setIfInBounds_toArray, List.set_cons_zero, List.set_cons_succ])
              (refine wpAnyH_take (i := 41) (oi := ⟨some 167, _, _, _, _, _⟩) (v := .bool false) rfl (by kernel_rfl) (by kernel_rfl) (by kernel_rfl) (fun _ _ _ h => h) (Or.inl ⟨by rfl, ?_⟩) (by assumption) ?_; (intro w hSw; (try dsimp only at hSw); go_simp); (try simp only [Act.put, List.setIfInBounds_toArray, List.set_cons_zero, List.set_cons_succ]))
              (refine wpAnyH_take (i := 42) (oi := ⟨some 168, _, _, _, _, _⟩) (v := .bool false) rfl (by kernel_rfl) (by kernel_rfl) (by kernel_rfl) (fun _ _ _ h => h) (Or.inl ⟨by rfl, ?_⟩) (by assumption) ?_; (intro w hSw; (try dsimp only at hSw); go_simp); (try simp only [Act.put, List.setIfInBounds_toArray, List.set_cons_zero, List.set_cons_succ]))
              refine wpAnyH_done (by kernel_rfl) ?_ _
              have HXe := Lib.hid (HXd.out.later HB13.out)
              go_wp2_with fail
              go_roundw
              case rel => first | exact ⟨(u : Int) + 1, by omega, by omega, by go_num, HXe⟩ | ((repeat apply Exists.intro); exact ⟨⟨(u : Int) + 1, by omega, by omega, by go_num, HXe⟩, rfl⟩)
              case measure => simp [intOf]; omega
            · rw [hnw]
              obtain ⟨ax2, ay2, aw2⟩ := a
              dsimp only [actV]
              have hBc := (Below.refl wb.heap.size wb).alloc (Nat.le_refl _) (.cells #[.int .u8 (ax2 : Int), .int .i64 ay2, .int .i64 aw2] 39)
              have habc : Ab wb.heap.size (ax2, ay2, aw2) (wb.alloc (.cells #[.int .u8 (ax2 : Int), .int .i64 ay2, .int .i64 aw2] 39)) := heap_alloc_new wb _
              obtain ⟨wc, hwc⟩ : ∃ wc, wc = wb.alloc (.cells #[.int .u8 (ax2 : Int), .int .i64 ay2, .int .i64 aw2] 39) := ⟨_, rfl⟩
              have HWC := Lib.hid hwc
              rw [← hwc] at hBc habc
              have HXc := Lib.hid (HXb.out.later hBc)
              obtain ⟨A5, n5, c5, A6, n6, c6, r0, r1, r2, r3, hla, -, -, hmlt⟩ := HXc.out.rs.robot HUL.out
              obtain ⟨-, -, -, -, e4, hq⟩ := HXc.out.rs.cells
              rw [← HN.out] at e4
              rw [← HC0.out] at r0
              rw [hbz] at r2
              have HHS := Lib.hid (rhas_any HXc.out.rs (u : Int))
              rw [decide_eq_true HUR.out] at HHS
              clear hwc hnw hbz
              have hn5 : 0 < n5 := by rw [← hla.al.len, hla0]; simp
              obtain ⟨ga, oa, rfl, hgc, m0, m1, m2⟩ := hla.al.cell hn5
              rw [hla0] at m0 m1 m2
              simp only [List.getD_cons_zero, Nat.zero_mul, Nat.add_zero] at m0 m1 m2
              obtain ⟨hq1, hq2⟩ := hla.al.size
              have hBd := (Below.refl wc.heap.size wc).alloc (Nat.le_refl _) (.cells #[.int .i64 c0, .slice (some ⟨ga, oa, none⟩) n5 c5, .bool true, .slice A6 n6 c6] 57)
              have hrb : Rb4 wc.heap.size c0 (.slice (some ⟨ga, oa, none⟩) n5 c5) true (.slice A6 n6 c6) (wc.alloc (.cells #[.int .i64 c0, .slice (some ⟨ga, oa, none⟩) n5 c5, .bool true, .slice A6 n6 c6] 57)) := heap_alloc_new wc _
              obtain ⟨wd, hwd⟩ : ∃ wd, wd = wc.alloc (.cells #[.int .i64 c0, .slice (some ⟨ga, oa, none⟩) n5 c5, .bool true, .slice A6 n6 c6] 57) := ⟨_, rfl⟩
              have HWD := Lib.hid hwd
              rw [← hwd] at hBd hrb
              have HXd := Lib.hid (HXc.out.later hBd)
              have HRB := Lib.hid hrb
              have HAB := Lib.hid (habc.later hBd)
              have HAL := Lib.hid (hla.al.later hBd)
              have HLF := Lib.hid (fun wx (hb : Below wd.heap.size wd wx) => left_any (HXd.out.later hb).lp.st HXd.out.lp.inv.lens (u : Int))
              have HB0 := Lib.hid (Below.refl wd.heap.size wd)
              have m0 := (hBd.cell (p := ⟨ga, oa, none⟩) hgc).trans m0
              have m1 := (hBd.cell (p := ⟨ga, oa + 1, none⟩) hgc).trans m1
              have m2 := (hBd.cell (p := ⟨ga, oa + 2, none⟩) hgc).trans m2
              have hga := Nat.lt_of_lt_of_le hgc hBd.size
              have HM := Lib.hid (And.intro m0 (And.intro m1 (And.intro m2 hga)))
              clear m0 m1 m2 hga hla0
              clear hwd hBd hrb hBc habc hla
              go_upto_region 19 with (fail)
              rw [← HWC.out]
              go_wp2_with fail
              refine HHS.out.mono ?_
              rintro e wz ⟨rfl, rfl⟩
              go_upto_region 23 with (fail)
              rw [← HWD.out]
              obtain ⟨m0, m1, m2, hga⟩ := HM.out
              clear r0 r1 r2 r3 e4 hq hmlt
              obtain ⟨⟨oa0, oa1, oa2, -⟩, -, -⟩ := (HRB.out.later HB0.out).cells
              obtain ⟨ob0, ob1, ob2, -⟩ := (HAB.out.later HB0.out).cells
              have oc0 := (HB0.out.cell (p := ⟨ga, oa, none⟩) hga).trans m0
              have oc1 := (HB0.out.cell (p := ⟨ga, oa + 1, none⟩) hga).trans m1
              have oc2 := (HB0.out.cell (p := ⟨ga, oa + 2, none⟩) hga).trans m2
              refine wp_region_held_drew (S := fun w' => ((w'.cell? ⟨wc.heap.size, 0, none⟩ = some (.int .i64 c0) ∧ w'.cell? ⟨wc.heap.size, 1, none⟩ = some (.slice (some ⟨ga, oa, none⟩) n5 c5) ∧ w'.cell? ⟨wc.heap.size, 2, none⟩ = some (.bool true)) ∧ w'.cell? ⟨wb.heap.size, 0, none⟩ = some (.int .u8 (ax2 : Int)) ∧ w'.cell? ⟨wb.heap.size, 1, none⟩ = some (.int .i64 ay2) ∧ w'.cell? ⟨wb.heap.size, 2, none⟩ = some (.int .i64 aw2)) ∧ w'.cell? ⟨ga, oa, none⟩ = some (.int .u8 (ax2 : Int)) ∧ w'.cell? ⟨ga, oa + 1, none⟩ = some (.int .i64 ay2) ∧ w'.cell? ⟨ga, oa + 2, none⟩ = some (.int .i64 aw2)) (by kernel_rfl) (by simp; exact ⟨⟨⟨oa0, oa1, oa2⟩, ob0, ob1, ob2⟩, oc0, oc1, oc2⟩) (fun hS0 => ?_)
              (refine wpAnyH_take (i := 0) (oi := ⟨some 126, _, _, _, _, _⟩) (v := .bool true) rfl (by kernel_rfl) (by kernel_rfl) (by kernel_rfl) (fun _ _ _ h => h) (Or.inl ⟨by rfl, ?_⟩) (by assumption) ?_; (intro w hSw; (try dsimp only at hSw); go_simp); (try simp only [Act.put, List.setIfInBounds_toArray, List.set_cons_zero, List.set_cons_succ]))
              (refine wpAnyH_take (i := 1) (oi := ⟨some 127, _, _, _, _, _⟩) (v := .bool false) rfl (by kernel_rfl) (by kernel_rfl) (by kernel_rfl) (fun _ _ _ h => h) (Or.inl ⟨by rfl, ?_⟩) (by assumption) ?_; (intro w hSw; (try dsimp only at hSw); go_simp); (try simp only [Act.put, List.setIfInBounds_toArray, List.set_cons_zero, List.set_cons_succ]))
              (refine wpAnyH_take (i := 2) (oi := ⟨some 128, _, _, _, _, _⟩) (v := .bool false) rfl (by kernel_rfl) (by kernel_rfl) (by kernel_rfl) (fun _ _ _ h => h) (Or.inl ⟨by rfl, ?_⟩) (by assumption) ?_; (intro w hSw; (try dsimp only at hSw); go_simp); (try simp only [Act.put, List.setIfInBounds_toArray, List.set_cons_zero, List.set_cons_succ]))
              (refine wpAnyH_take (i := 3) (oi := ⟨some 129, _, _, _, _, _⟩) (v := .int .i64 c0) rfl (by kernel_rfl) (by kernel_rfl) (by kernel_rfl) (fun _ _ _ h => h) (Or.inl ⟨by rfl, ?_⟩) (by assumption) ?_; (intro w hSw; (try dsimp only at hSw); go_simp); (try simp only [Act.put, List.setIfInBounds_toArray, List.set_cons_zero, List.set_cons_succ]))
              (refine wpAnyH_take (i := 4) (oi := ⟨some 130, _, _, _, _, _⟩) (v := .pointer (some ⟨wc.heap.size, 0, none⟩)) rfl (by kernel_rfl) (by kernel_rfl) (by kernel_rfl) (fun _ _ _ h => h) (Or.inl ⟨by rfl, ?_⟩) (by assumption) ?_; (intro w hSw; (try dsimp only at hSw); go_simp); (try simp only [Act.put, List.setIfInBounds_toArray, List.set_cons_zero, List.set_cons_succ]))
              (refine wpAnyH_take (i := 5) (oi := ⟨some 131, _, _, _, _, _⟩) (v := .int .i64 c0) rfl (by kernel_rfl) (by kernel_rfl) (by kernel_rfl) (fun _ _ _ h => h) (Or.inl ⟨by rfl, ?_⟩) (by assumption) ?_; (intro w hSw; (try dsimp only at hSw); go_simp); (try simp only [Act.put, List.setIfInBounds_toArray, List.set_cons_zero, List.set_cons_succ]))
              (refine wpAnyH_take (i := 6) (oi := ⟨some 132, _, _, _, _, _⟩) (v := .bool false) rfl (by kernel_rfl) (by kernel_rfl) (by kernel_rfl) (fun _ _ _ h => h) (Or.inl ⟨by rfl, ?_⟩) (by assumption) ?_; (intro w hSw; (try dsimp only at hSw); go_simp); (try simp only [Act.put, List.setIfInBounds_toArray, List.set_cons_zero, List.set_cons_succ]))
              (refine wpAnyH_take (i := 7) (oi := ⟨some 133, _, _, _, _, _⟩) (v := .bool false) rfl (by kernel_rfl) (by kernel_rfl) (by kernel_rfl) (fun _ _ _ h => h) (Or.inl ⟨by rfl, ?_⟩) (by assumption) ?_; (intro w hSw; (try dsimp only at hSw); go_simp); (try simp only [Act.put, List.setIfInBounds_toArray, List.set_cons_zero, List.set_cons_succ]))
              (refine wpAnyH_take (i := 8) (oi := ⟨some 134, _, _, _, _, _⟩) (v := .bool false) rfl (by kernel_rfl) (by kernel_rfl) (by kernel_rfl) (fun _ _ _ h => h) (Or.inl ⟨by rfl, ?_⟩) (by assumption) ?_; (intro w hSw; (try dsimp only at hSw); go_simp); (try simp only [Act.put, List.setIfInBounds_toArray, List.set_cons_zero, List.set_cons_succ]))
              (refine wpAnyH_take (i := 9) (oi := ⟨some 135, _, _, _, _, _⟩) (v := .bool true) rfl (by kernel_rfl) (by kernel_rfl) (by kernel_rfl) (fun _ _ _ h => h) (Or.inl ⟨by rfl, ?_⟩) (by assumption) ?_; (intro w hSw; (try dsimp only at hSw); go_simp); (try simp only [Act.put, List.setIfInBounds_toArray, List.set_cons_zero, List.set_cons_succ]))
              (refine wpAnyH_take (i := 10) (oi := ⟨some 136, _, _, _, _, _⟩) (v := .pointer (some ⟨wc.heap.size, 2, none⟩)) rfl (by kernel_rfl) (by kernel_rfl) (by kernel_rfl) (fun _ _ _ h => h) (Or.inl ⟨by rfl, ?_⟩) (by assumption) ?_; (intro w hSw; (try dsimp only at hSw); go_simp); (try simp only [Act.put, List.setIfInBounds_toArray, List.set_cons_zero, List.set_cons_succ]))
              (refine wpAnyH_take (i := 11) (oi := ⟨some 137, _, _, _, _, _⟩) (v := .bool true) rfl (by kernel_rfl) (by kernel_rfl) (by kernel_rfl) (fun _ _ _ h => h) (Or.inl ⟨by rfl, ?_⟩) (by assumption) ?_; (intro w hSw; (try dsimp only at hSw); go_simp); (try simp only [Act.put, List.setIfInBounds_toArray, List.set_cons_zero, List.set_cons_succ]))
              (refine wpAnyH_take (i := 12) (oi := ⟨some 138, _, _, _, _, _⟩) (v := .bool false) rfl (by kernel_rfl) (by kernel_rfl) (by kernel_rfl) (fun _ _ _ h => h) (Or.inl ⟨by rfl, ?_⟩) (by assumption) ?_; (intro w hSw; (try dsimp only at hSw); go_simp); (try simp only [Act.put, List.setIfInBounds_toArray, List.set_cons_zero, List.set_cons_succ]))
              (refine wpAnyH_take (i := 13) (oi := ⟨some 139, _, _, _, _, _⟩) (v := .bool false) rfl (by kernel_rfl) (by kernel_rfl) (by kernel_rfl) (fun _ _ _ h => h) (Or.inl ⟨by rfl, ?_⟩) (by assumption) ?_; (intro w hSw; (try dsimp only at hSw); go_simp); (try simp only [Act.put, List.setIfInBounds_toArray, List.set_cons_zero, List.set_cons_succ]))
              (refine wpAnyH_take (i := 14) (oi := ⟨some 140, _, _, _, _, _⟩) (v := .bool false) rfl (by kernel_rfl) (by kernel_rfl) (by kernel_rfl) (fun _ _ _ h => h) (Or.inl ⟨by rfl, ?_⟩) (by assumption) ?_; (intro w hSw; (try dsimp only at hSw); go_simp); (try simp only [Act.put, List.setIfInBounds_toArray, List.set_cons_zero, List.set_cons_succ]))
              (refine wpAnyH_take (i := 15) (oi := ⟨some 141, _, _, _, _, _⟩) (v := .bool true) rfl (by kernel_rfl) (by kernel_rfl) (by kernel_rfl) (fun _ _ _ h => h) (Or.inl ⟨by rfl, ?_⟩) (by assumption) ?_; (intro w hSw; (try dsimp only at hSw); go_simp); (try simp only [Act.put, List.setIfInBounds_toArray, List.set_cons_zero, List.set_cons_succ]))
              (refine wpAnyH_take (i := 16) (oi := ⟨some 142, _, _, _, _, _⟩) (v := .bool true) rfl (by kernel_rfl) (by kernel_rfl) (by kernel_rfl) (fun _ _ _ h => h) (Or.inl ⟨by rfl, ?_⟩) (by assumption) ?_; (intro w hSw; (try dsimp only at hSw); go_simp); (try simp only [Act.put, List.setIfInBounds_toArray, List.set_cons_zero, List.set_cons_succ]))
              (refine wpAnyH_take (i := 17) (oi := ⟨some 143, _, _, _, _, _⟩) (v := .agg #[.int .u8 (ax2 : Int), .int .i64 ay2, .int .i64 aw2]) rfl (by kernel_rfl) (by kernel_rfl) (by kernel_rfl) (fun _ _ _ h => h) (Or.inl ⟨by rfl, ?_⟩) (by assumption) ?_; (intro w hSw; (try dsimp only at hSw); go_simp); (try simp only [Act.put, List.setIfInBounds_toArray, List.set_cons_zero, List.set_cons_succ]))
              (refine wpAnyH_take (i := 18) (oi := ⟨some 144, _, _, _, _, _⟩) (v := .pointer (some ⟨wc.heap.size, 1, none⟩)) rfl (by kernel_rfl) (by kernel_rfl) (by kernel_rfl) (fun _ _ _ h => h) (Or.inl ⟨by rfl, ?_⟩) (by assumption) ?_; (intro w hSw; (try dsimp only at hSw); go_simp); (try simp only [Act.put, List.setIfInBounds_toArray, List.set_cons_zero, List.set_cons_succ]))
              (refine wpAnyH_take (i := 19) (oi := ⟨some 145, _, _, _, _, _⟩) (v := .slice (some ⟨ga, oa, none⟩) n5 c5) rfl (by kernel_rfl) (by kernel_rfl) (by kernel_rfl) (fun _ _ _ h => h) (Or.inl ⟨by rfl, ?_⟩) (by assumption) ?_; (intro w hSw; (try dsimp only at hSw); go_simp); (try simp only [Act.put, List.setIfInBounds_toArray, List.set_cons_zero, List.set_cons_succ]))
              (refine wpAnyH_take (i := 20) (oi := ⟨some 146, _, _, _, _, _⟩) (v := .pointer (some ⟨ga, oa, none⟩)) rfl (by kernel_rfl) (by kernel_rfl) (by kernel_rfl) (fun _ _ _ h => h) (Or.inl ⟨by rfl, ?_⟩) (by assumption) ?_; (intro w hSw; (try dsimp only at hSw); go_simp); (try simp only [Act.put, List.setIfInBounds_toArray, List.set_cons_zero, List.set_cons_succ]))
              (refine wpAnyH_take (i := 21) (oi := ⟨some 147, _, _, _, _, _⟩) (v := .agg #[.int .u8 (ax2 : Int), .int .i64 ay2, .int .i64 aw2]) rfl (by kernel_rfl) (by kernel_rfl) (by kernel_rfl) (fun _ _ _ h => h) (Or.inl ⟨by rfl, ?_⟩) (by assumption) ?_; (intro w hSw; (try dsimp only at hSw); go_simp); (try simp only [Act.put, List.setIfInBounds_toArray, List.set_cons_zero, List.set_cons_succ]))
              (refine wpAnyH_take (i := 22) (oi := ⟨some 148, _, _, _, _, _⟩) (v := .bool false) rfl (by kernel_rfl) (by kernel_rfl) (by kernel_rfl) (fun _ _ _ h => h) (Or.inl ⟨by rfl, ?_⟩) (by assumption) ?_; (intro w hSw; (try dsimp only at hSw); go_simp); (try simp only [Act.put, List.setIfInBounds_toArray, List.set_cons_zero, List.set_cons_succ]))
              (refine wpAnyH_take (i := 23) (oi := ⟨some 149, _, _, _, _, _⟩) (v := .bool false) rfl (by kernel_rfl) (by kernel_rfl) (by kernel_rfl) (fun _ _ _ h => h) (Or.inl ⟨by rfl, ?_⟩) (by assumption) ?_; (intro w hSw; (try dsimp only at hSw); go_simp); (try simp only [Act.put, List.setIfInBounds_toArray, List.set_cons_zero, List.set_cons_succ]))
              (refine wpAnyH_take (i := 24) (oi := ⟨some 150, _, _, _, _, _⟩) (v := .bool false) rfl (by kernel_rfl) (by kernel_rfl) (by kernel_rfl) (fun _ _ _ h => h) (Or.inl ⟨by rfl, ?_⟩) (by assumption) ?_; (intro w hSw; (try dsimp only at hSw); go_simp); (try simp only [Act.put, List.setIfInBounds_toArray, List.set_cons_zero, List.set_cons_succ]))
              (refine wpAnyH_take (i := 25) (oi := ⟨some 151, _, _, _, _, _⟩) (v := .bool false) rfl (by kernel_rfl) (by kernel_rfl) (by kernel_rfl) (fun _ _ _ h => h) (Or.inl ⟨by rfl, ?_⟩) (by assumption) ?_; (intro w hSw; (try dsimp only at hSw); go_simp); (try simp only [Act.put, List.setIfInBounds_toArray, List.set_cons_zero, List.set_cons_succ]))
              (refine wpAnyH_take (i := 26) (oi := ⟨some 152, _, _, _, _, _⟩) (v := .bool true) rfl (by kernel_rfl) (by kernel_rfl) (by kernel_rfl) (fun _ _ _ h => h) (Or.inl ⟨by rfl, ?_⟩) (by assumption) ?_; (intro w hSw; (try dsimp only at hSw); go_simp); (try simp only [Act.put, List.setIfInBounds_toArray, List.set_cons_zero, List.set_cons_succ]))
              (refine wpAnyH_take (i := 27) (oi := ⟨some 153, _, _, _, _, _⟩) (v := .bool false) rfl (by kernel_rfl) (by kernel_rfl) (by kernel_rfl) (fun _ _ _ h => h) (Or.inl ⟨by rfl, ?_⟩) (by assumption) ?_; (intro w hSw; (try dsimp only at hSw); go_simp); (try simp only [Act.put, List.setIfInBounds_toArray, List.set_cons_zero, List.set_cons_succ]))
              (refine wpAnyH_take (i := 28) (oi := ⟨some 154, _, _, _, _, _⟩) (v := .bool false) rfl (by kernel_rfl) (by kernel_rfl) (by kernel_rfl) (fun _ _ _ h => h) (Or.inl ⟨by rfl, ?_⟩) (by assumption) ?_; (intro w hSw; (try dsimp only at hSw); go_simp); (try simp only [Act.put, List.setIfInBounds_toArray, List.set_cons_zero, List.set_cons_succ]))
              (refine wpAnyH_take (i := 29) (oi := ⟨some 155, _, _, _, _, _⟩) (v := undef) rfl (by kernel_rfl) (by kernel_rfl) (by kernel_rfl) (fun _ _ _ h => h) (Or.inr ⟨by rfl, rfl⟩) (by assumption) ?_; (try simp only [Act.put, List.setIfInBounds_toArray, List.set_cons_zero, List.set_cons_succ]))
              (refine wpAnyH_take (i := 30) (oi := ⟨some 156, _, _, _, _, _⟩) (v := undef) rfl (by kernel_rfl) (by kernel_rfl) (by kernel_rfl) (fun _ _ _ h => h) (Or.inr ⟨by rfl, rfl⟩) (by assumption) ?_; (try simp only [Act.put, List.setIfInBounds_toArray, List.set_cons_zero, List.set_cons_succ]))
              (refine wpAnyH_take (i := 31) (oi := ⟨some 157, _, _, _, _, _⟩) (v := undef) rfl (by kernel_rfl) (by kernel_rfl) (by kernel_rfl) (fun _ _ _ h => h) (Or.inr ⟨by rfl, rfl⟩) (by assumption) ?_; (try simp only [Act.put, List.setIfInBounds_toArray, List.set_cons_zero, List.set_cons_succ]))
              (refine wpAnyH_take (i := 32) (oi := ⟨some 158, _, _, _, _, _⟩) (v := .bool false) rfl (by kernel_rfl) (by kernel_rfl) (by kernel_rfl) (fun _ _ _ h => h) (Or.inl ⟨by rfl, ?_⟩) (by assumption) ?_; (intro w hSw; (try dsimp only at hSw); go_simp); (try simp only [Act.put, List.setIfInBounds_toArray, List.set_cons_zero, List.set_cons_succ]))
              (refine wpAnyH_take (i := 33) (oi := ⟨some 159, _, _, _, _, _⟩) (v := .bool false) rfl (by kernel_rfl) (by kernel_rfl) (by kernel_rfl) (fun _ _ _ h => h) (Or.inl ⟨by rfl, ?_⟩) (by assumption) ?_; (intro w hSw; (try dsimp only at hSw); go_simp); (try simp only [Act.put, List.setIfInBounds_toArray, List.set_cons_zero, List.set_cons_succ]))
              (refine wpAnyH_take (i := 34) (oi := ⟨some 160, _, _, _, _, _⟩) (v := .bool false) rfl (by kernel_rfl) (by kernel_rfl) (by kernel_rfl) (fun _ _ _ h => h) (Or.inl ⟨by rfl, ?_⟩) (by assumption) ?_; (intro w hSw; (try dsimp only at hSw); go_simp); (try simp only [Act.put, List.setIfInBounds_toArray, List.set_cons_zero, List.set_cons_succ]))
              (refine wpAnyH_take (i := 35) (oi := ⟨some 161, _, _, _, _, _⟩) (v := .pointer (some ⟨S, 0, none⟩)) rfl (by kernel_rfl) (by kernel_rfl) (by kernel_rfl) (fun _ _ _ h => h) (Or.inl ⟨by rfl, ?_⟩) (by assumption) ?_; (intro w hSw; (try dsimp only at hSw); go_simp); (try simp only [Act.put, List.setIfInBounds_toArray, List.set_cons_zero, List.set_cons_succ]))
              (refine wpAnyH_take (i := 36) (oi := ⟨some 162, _, _, _, _, _⟩) (v := .int .i64 (u : Int)) rfl (by kernel_rfl) (by kernel_rfl) (by kernel_rfl) (fun _ _ _ h => h) (Or.inl ⟨by rfl, ?_⟩) (by assumption) ?_; (intro w hSw; (try dsimp only at hSw); go_simp); (try simp only [Act.put, List.setIfInBounds_toArray, List.set_cons_zero, List.set_cons_succ]))
              (refine wpAnyH_take (i := 38) (oi := ⟨some 164, _, _, _, _, _⟩) (v := .pointer (some ⟨wc.heap.size, 1, none⟩)) rfl (by kernel_rfl) (by kernel_rfl) (by kernel_rfl) (fun _ _ _ h => h) (Or.inl ⟨by rfl, ?_⟩) (by assumption) ?_; (intro w hSw; (try dsimp only at hSw); go_simp); (try simp only [Act.put, List.setIfInBounds_toArray, List.set_cons_zero, List.set_cons_succ]))
              (refine wpAnyH_take (i := 39) (oi := ⟨some 165, _, _, _, _, _⟩) (v := .slice (some ⟨ga, oa, none⟩) n5 c5) rfl (by kernel_rfl) (by kernel_rfl) (by kernel_rfl) (fun _ _ _ h => h) (Or.inl ⟨by rfl, ?_⟩) (by assumption) ?_; (intro w hSw; (try dsimp only at hSw); go_simp); (try simp only [Act.put, List.setIfInBounds_toArray, List.set_cons_zero, List.set_cons_succ]))
              refine wpAnyH_ready (rs := [37]) (by kernel_rfl) (by simp) ?_
              refine AllReadyH.cons (o := ⟨some 163, _, _, _, _, _⟩) rfl (fun K hK => ?_) AllReadyH.nil
              go_simp
              refine (HLF.out _ (Below.refl _ _).drew).mono ?_
              rintro e w12 ⟨A7, n7, c7, rfl, -, how7, hb12⟩
              have HB12 : Hid (Below wd.heap.size wd w12) := Lib.hid ((Below.refl _ wd).drew.trans hb12)
              have HOW7 := Lib.hid how7
              clear how7 hb12
              obtain ⟨⟨pa0, pa1, pa2, -⟩, -, -⟩ := (HRB.out.later HB12.out).cells
              obtain ⟨pb0, pb1, pb2, -⟩ := (HAB.out.later HB12.out).cells
              have pc0 := (HB12.out.cell (p := ⟨ga, oa, none⟩) hga).trans m0
              have pc1 := (HB12.out.cell (p := ⟨ga, oa + 1, none⟩) hga).trans m1
              have pc2 := (HB12.out.cell (p := ⟨ga, oa + 2, none⟩) hga).trans m2
              refine hK.out _ _ ⟨⟨⟨pa0, pa1, pa2⟩, pb0, pb1, pb2⟩, pc0, pc1, pc2⟩ (fun hS163 => ?_)
              clear hK
              (try simp only [Act.put, List.setIfInBounds_toArray, List.set_cons_zero, List.set_cons_succ])
              refine wpAnyH_ready (rs := [40]) (by kernel_rfl) (by simp) ?_
              refine AllReadyH.cons (o := ⟨some 166, _, _, _, _, _⟩) rfl (fun K hK => ?_) AllReadyH.nil
              go_simp
              refine (same_yes A7 (some ⟨ga, oa, none⟩) n7 n5 c7 c5 (leftF R' (u : Int)) (getM R' u).2.1 w12 HOW7.out.al.2 (HAL.out.later HB12.out) HLE.out).mono ?_
              rintro e w13 ⟨rfl, hb13⟩
              have HB13 : Hid (Below wd.heap.size wd w13) := Lib.hid (HB12.out.trans (hb13.mono HB12.out.size))
              clear hb13
              obtain ⟨⟨qa0, qa1, qa2, -⟩, -, -⟩ := (HRB.out.later HB13.out).cells
              obtain ⟨qb0, qb1, qb2, -⟩ := (HAB.out.later HB13.out).cells
              have qc0 := (HB13.out.cell (p := ⟨ga, oa, none⟩) hga).trans m0
              have qc1 := (HB13.out.cell (p := ⟨ga, oa + 1, none⟩) hga).trans m1
              have qc2 := (HB13.out.cell (p := ⟨ga, oa + 2, none⟩) hga).trans m2
              refine hK.out _ _ ⟨⟨⟨qa0, qa1, qa2⟩, qb0, qb1, qb2⟩, qc0, qc1, qc2⟩ (fun hS166 => ?_)
              clear hK
              (try simp only [Act.put, List.setIfInBounds_toArray, List.set_cons_zero, List.set_cons_succ])
              (refine wpAnyH_take (i := 41) (oi := ⟨some 167, _, _, _, _, _⟩) (v := .bool false) rfl (by kernel_rfl) (by kernel_rfl) (by kernel_rfl) (fun _ _ _ h => h) (Or.inl ⟨by rfl, ?_⟩) (by assumption) ?_; (intro w hSw; (try dsimp only at hSw); go_simp); (try simp only [Act.put, List.setIfInBounds_toArray, List.set_cons_zero, List.set_cons_succ]))
              (refine wpAnyH_take (i := 42) (oi := ⟨some 168, _, _, _, _, _⟩) (v := .bool false) rfl (by kernel_rfl) (by kernel_rfl) (by kernel_rfl) (fun _ _ _ h => h) (Or.inl ⟨by rfl, ?_⟩) (by assumption) ?_; (intro w hSw; (try dsimp only at hSw); go_simp); (try simp only [Act.put, List.setIfInBounds_toArray, List.set_cons_zero, List.set_cons_succ]))
              refine wpAnyH_done (by kernel_rfl) ?_ _
              have HXe := Lib.hid (HXd.out.later HB13.out)
              go_wp2_with fail
              go_roundw
              case rel => first | exact ⟨(u : Int) + 1, by omega, by omega, by go_num, HXe⟩ | ((repeat apply Exists.intro); exact ⟨⟨(u : Int) + 1, by omega, by omega, by go_num, HXe⟩, rfl⟩)
              case measure => simp [intOf]; omega
          · have HNI : Hid (¬ (0 ≤ ρ ∧ ρ < R'.length)) := Lib.hid (by rw [← HN.out]; exact hin)
            have e1 : cellF R' ρ = (0, false) := by unfold cellF; rw [if_neg HNI.out]
            have e2 : nowF R' ρ = ((0, 0, 0), false) := by unfold nowF; rw [if_neg HNI.out]
            have e3 : leftF R' ρ = [] := by unfold leftF; rw [if_neg HNI.out]
            rw [e1] at HCE
            have HE2 := Lib.hid e2
            have HE3 := Lib.hid e3
            clear e1 e2 e3 hin
            go_wp2_with fail
            refine HCE.out.mono ?_
            rintro e wa ⟨rfl, hba⟩
            have HXa := Lib.hid (HX.out.later hba)
            have HNO := Lib.hid (now_any HXa.out.lp.st HXa.out.lp.inv.busy ρ)
            unfold NowTold at HNO
            rw [HE2.out] at HNO
            dsimp only [actV] at HNO
            clear hba HCE e4 hq
            go_wp2_with fail
            refine HNO.out.mono ?_
            rintro e wb ⟨rfl, hbb⟩
            have hB5 := (Below.refl wb.heap.size wb).alloc (Nat.le_refl _) (.cells #[.int .u8 0, .int .i64 0, .int .i64 0] 39)
            have HXb := Lib.hid ((HXa.out.later hbb).later hB5)
            have HHS := Lib.hid (rhas_any HXb.out.rs ρ)
            rw [decide_eq_false HNI.out] at HHS
            have HLF := Lib.hid (left_any HXb.out.lp.st HXb.out.lp.inv.lens ρ)
            clear hbb hB5 HNO
            go_wp2_with fail
            refine HHS.out.mono ?_
            rintro e wc ⟨rfl, rfl⟩
            go_wp2_with fail
            refine HLF.out.mono ?_
            rintro e wd2 ⟨A5, n5, c5, rfl, hn5, _, hbd⟩
            obtain rfl : n5 = 0 := by rw [hn5, HE3.out]; rfl
            have HXd := Lib.hid (HXb.out.later hbd)
            clear hn5 hbd HLF
            go_wp2_with fail
            go_roundw
            case rel => first | exact ⟨ρ + 1, by omega, by omega, by go_num, HXd⟩ | ((repeat apply Exists.intro); exact ⟨⟨ρ + 1, by omega, by omega, by go_num, HXd⟩, rfl⟩)
            case measure => simp [intOf]; omega
        · have dl : decide (ρ ≤ (N : Int)) = false := decide_eq_false hle
          go_wp2_with fail
          exact ⟨⟨j + 1, R', T', by omega, by go_num, HX⟩, by simp [intOf]; omega⟩
    · obtain rfl : j = mm := by omega
      go_wp2_with fail
      go_ret
      exact ⟨rfl, HI.out.lp.below⟩
end Tf
end Go.Proofs.YtakgkocdkondhaaGreatDoor
