/-
  JournalPlays: the walk (written by tools/jrplays.py).
-/
import Derived.Test.YtnamnikelgcepaaJrS
import Derived.Deep.CutBlock
import Derived.Deep.DeepCutAuto
import Derived.Deep.RegionHeld3
set_option linter.unusedVariables false
set_option maxRecDepth 100000
namespace Go.Proofs.Ytnamnikelgcepaa
namespace Jr
open Go.RowKit Go.Maps Bp Ck
open Dk (D DAt DF op kp pwE apE apD syD cuE cuD IW crN crD ctD RD One)

set_option maxHeartbeats 8000000 in
theorem journalPlays_walk (bo : Option Addr) (lb cb : Nat) (f0 : Nat → Nat) (A : Option Addr) (n cap : Nat) (f : Nat → A16) (w : World)
    (hQ : ArgIn (fun z : Nat => Value.int .u8 (z : Int)) w bo lb cb f0) (hf0 : ∀ i, i < lb → f0 i ≤ 255) (h : Acts16 w.heap.size w A n cap f) (_ : True) :
    Calls Try.prog 3 #[.slice bo lb cb, .slice A n cap] w fun e w' => e = .returned (.bool true) ∧ Below w.heap.size w w' := by
  have HA := Lib.hid h
  have hleb := hQ.le
  have hmxb := hQ.max
  unfold maxLen at hmxb
  have HQ := Lib.hid (By.arg hQ hf0 lb (Nat.le_refl _))
  generalize listOf f0 lb = fs0 at *
  clear h hQ hf0
  go_enter Try.func3, Try.ntmps3
  go_wp2_with fail
  refine (shown16_any w).mono ?_
  rintro e w1 ⟨rfl, hb1⟩
  have HB1 := Lib.hid hb1
  clear hb1
  go_wp2_with fail
  refine (Dk.new_any w1).mono ?_
  rintro e w2 ⟨rfl, hn2, hb2⟩
  have HN2 := Lib.hid (hn2.lower HB1.out.size)
  have HB2 := Lib.hid (HB1.out.trans (hb2.mono HB1.out.size))
  clear hn2 hb2 HB1
  generalize w1.heap.size = g at *
  go_wp2_with fail
  refine (Dk.rnew_any w2 w.heap.size HB2.out.size).mono ?_
  rintro e w3 ⟨rfl, hr3, hb3⟩
  have HN3 := Lib.hid (HN2.out.later hb3)
  have HR3 := Lib.hid hr3
  have HB3 := Lib.hid (HB2.out.trans (hb3.mono HB2.out.size))
  clear hr3 hb3 HN2 HB2
  generalize w2.heap.size = q at *
  by_cases h5 : 5000 < lb
  · go_wp2_with fail
    go_ret
    exact ⟨rfl, HB3.out⟩
  have d5 : decide ((5000 : Int) < (lb : Int)) = false := decide_eq_false (by omega)
  have hap : apE Dk.d0 (strOf fs0) = 0 := by
    unfold apE
    rw [live_op live_new, if_neg (by rw [live_new.1]; simp), if_neg (by rw [strOf_size, HQ.out.len]; show ¬ 1048576 < ByteArray.empty.size + lb; simp; omega)]
  have HY3 := Lib.hid ((HQ.out.below HB3.out).mono HB3.out.size)
  have HAp := Lib.hid (Dk.Append_any HN3.out bo lb cb (strOf fs0) (by_yb HY3.out))
  have HRp : Hid (∀ W, RD W w.heap.size q Dk.d0 → Calls Try.prog 12 #[.pointer (some ⟨q, 0, none⟩), .string (strOf fs0)] W (Dk.RTold w.heap.size q (.int .i64 (apE Dk.d0 (strOf fs0))) (apD Dk.d0 (strOf fs0)) W)) := Lib.hid (fun W hr => Dk.rAppend_any hr (strOf fs0) (by rw [strOf_size, HQ.out.len]; omega))
  rw [hap] at HAp HRp
  have HLA : Hid (Live (apD Dk.d0 (strOf fs0))) := Lib.hid (live_ap live_new _)
  clear hap
  generalize apD Dk.d0 (strOf fs0) = dA at *
  go_wp2_with fail
  refine HAp.out.mono ?_
  rintro e w4 ⟨v4, rfl, hn4, ht4⟩
  have hr4 := rd_turnD HR3.out HN3.out ht4
  have hb4 := belowD HN3.out ht4 HB3.out (Nat.le_refl _) (Nat.le_refl _)
  have q4 : (convert 22 9 (.slice bo lb cb)).run Try.prog w4 = .ok (.string (strOf fs0)) w4 := (HQ.out.below hb4).conv
  have HN4 := Lib.hid hn4
  have HR4 := Lib.hid hr4
  have HB4 := Lib.hid hb4
  clear hn4 ht4 hr4 hb4 HAp HN3 HR3 HB3 HY3
  go_wp2_with fail
  refine (HRp.out w4 HR4.out).mono ?_
  rintro e w5 ⟨rfl, hr5, ht5⟩
  have HO := Lib.hid (both_open (da_turnR HN4.out HR4.out ht5) hr5 (HB4.out.trans (ht5.below _ HB4.out.size (fun k hk => by have e : k = q := hk; rw [e]; exact HR4.out.lo))) HLA.out)
  clear hr5 ht5 HRp HN4 HR4 HB4 q4
  go_wp2_with fail
  refine HO.out.mono ?_
  rintro e w6 ⟨j0, A6, c6, rfl, hb6, hO6⟩
  have HO6 := Lib.hid hO6
  clear hO6 hb6 HO
  go_wp2_with fail
  refine HO6.out.mono ?_
  rintro e w7 ⟨jr0, A7, c7, v7, rfl, hp7, hl7, hl7'⟩
  have HSm := Lib.hid (refSame_eq hl7 hl7' (Nat.le_refl _))
  have hfew : (fr dA.s).length ≤ 262144 := by
    have h1 := fr_le dA.s
    have h2 := wl_le dA.s
    have h3 : wl dA.s ≤ 1048576 := by
      have := hp7.ja.disk.le
      have h4 := hp7.ja.disk.few
      exact Nat.le_trans this h4
    omega
  have HP7 := Lib.hid hp7
  clear hp7 hl7 hl7' HO6
  generalize (fr dA.s).length = N0 at *
  generalize kp dA (wl dA.s) = d7 at *
  go_wp2_with fail
  refine HSm.out.mono ?_
  rintro e w8 ⟨rfl, hb8⟩
  have HP8 := Lib.hid (HP7.out.later hb8)
  have HF := Lib.hid (few_any A n cap f w8 (acts_raise (HA.out.below HP8.out.below) HP8.out.below.size))
  clear hb8 HSm HP7
  go_wp2_with fail
  refine HF.out.mono ?_
  rintro e w9 ⟨rfl, m, hm, hm60, rfl, _⟩
  have hcs : m ≤ cap := Nat.le_trans hm HA.out.le
  have hcs1 : cap ≤ 9223372036854775807 := by have := HA.out.max; unfold maxLen at this; omega
  clear HF
  go_wp2_with fail
  go_loopw [8, 11, 72] (fun jv rv iv wr => ∃ (k j jr N : Nat), jv = .pointer (some ⟨j, 0, none⟩) ∧ rv = .pointer (some ⟨jr, 0, none⟩) ∧ iv = .int .i64 (k : Int) ∧ k ≤ m ∧ N ≤ 300000 + k ∧ Hid (∃ v d, Pj w wr j g jr q v d N)) (fun _ _ iv _ => m - (intOf iv).toNat)
  case atStart => exact ⟨0, j0, jr0, N0, rfl, rfl, rfl, Nat.zero_le _, by omega, Lib.hid ⟨_, _, HP8.out⟩⟩
  case round =>
    rename World => wr
    clear HP8
    obtain ⟨k, j, jr, N, rfl, rfl, rfl, hk, hN, HI⟩ := hrel
    by_cases hlk : k < m
    · obtain ⟨v, d, hpl⟩ := HI.out
      obtain ⟨ga, off, rfl, hga, hc⟩ := (HA.out.below hpl.below).cell (by omega)
      obtain ⟨k0, ⟨A1, n1, c1, k1, hy⟩, k2⟩ := hc k (by omega)
      have hfit := HA.out.fits k (by omega)
      have hkI : (k : Int) < (m : Int) := by omega
      generalize f k = fj at *
      obtain ⟨qk, s, x⟩ := fj
      have k0 : wr.cell? ⟨ga, off + k * 3, none⟩ = some (.int .u8 (qk : Int)) := k0
      have k1 : wr.cell? ⟨ga, off + k * 3 + 1, none⟩ = some (.slice A1 n1 c1) := k1
      have k2 : wr.cell? ⟨ga, off + k * 3 + 2, none⟩ = some (.int .i64 x) := k2
      have HX : Hid (IW x) := Lib.hid hfit.2
      have hbA := (Below.refl wr.heap.size wr).alloc (Nat.le_refl _) (.cells #[.int .u8 (qk : Int), .slice A1 n1 c1, .int .i64 x] 42)
      have HPA := Lib.hid (hpl.later hbA)
      have HYA : Hid (By w.heap.size (wr.alloc (.cells #[.int .u8 (qk : Int), .slice A1 n1 c1, .int .i64 x] 42)) A1 n1 c1 (nums s)) := Lib.hid ((yb_nums hy).below (hbA.mono hpl.below.size))
      have HXA : Hid ((wr.alloc (.cells #[.int .u8 (qk : Int), .slice A1 n1 c1, .int .i64 x] 42)).heap[wr.heap.size]? = some (.cells #[.int .u8 (qk : Int), .slice A1 n1 c1, .int .i64 x] 42 (0, 0))) := Lib.hid (heap_alloc_new wr _)
      obtain ⟨b0, b1, b2⟩ := box_cells HXA.out
      obtain ⟨r5, hrT, hrI, hrC⟩ : ∃ r5 : Int, (qk : Int).tmod 5 = r5 ∧ (qk : Int) % 5 = r5 ∧ (r5 = 0 ∨ r5 = 1 ∨ r5 = 2 ∨ r5 = 3 ∨ r5 = 4) := ⟨(qk : Int) % 5, Int.tmod_eq_emod_of_nonneg (by omega), rfl, by omega⟩
      have hga2 : ga < wr.heap.size := Nat.lt_of_lt_of_le hga hpl.below.size
      clear hc hy hfit hbA hpl HI hga
      generalize nums s = zs at *
      go_upto_block 2 with fail
      generalize wr.alloc (.cells #[.int .u8 (qk : Int), .slice A1 n1 c1, .int .i64 x] 42) = wA at *
      generalize wr.heap.size = bx at *
      go_cut [8, 11] (fun jv rv wz => ∃ (j' jr' N' : Nat), jv = .pointer (some ⟨j', 0, none⟩) ∧ rv = .pointer (some ⟨jr', 0, none⟩) ∧ N' ≤ 300000 + (k + 1) ∧ Hid (∃ v d, Pj w wz j' g jr' q v d N'))
      case first =>
        rcases hrC with rfl | rfl | rfl | rfl | rfl
        · clear HX
          have hbd : Below wA.heap.size wA wA.drew := (Below.refl _ _).drew
          have HPD := Lib.hid (HPA.out.later hbd)
          have HYD := Lib.hid ((HYA.out.below (hbd.mono HPA.out.below.size)))
          have HXD : Hid (wA.drew.heap[bx]? = some (.cells #[.int .u8 (qk : Int), .slice A1 n1 c1, .int .i64 x] 42 (0, 0))) := Lib.hid HXA.out
          have HD := Lib.hid (Note_any HPD.out.ja (by omega) A1 n1 c1 zs (HYD.out.mono HPD.out.below.size))
          have HRn : Hid (∀ W, RJ W w.heap.size jr q d N → By W.heap.size W A1 n1 c1 zs → Calls Try.prog 18 #[.pointer (some ⟨jr, 0, none⟩), .slice A1 n1 c1] W (RJTold w.heap.size jr q (.int .i64 (noE d zs)) (noD d zs) (if noE d zs = 0 then N + 1 else N) W)) := Lib.hid (fun W hr hy => rNote_any hr (by omega) A1 n1 c1 zs hy)
          have hN1 : (if noE d zs = 0 then N + 1 else N) ≤ N + 1 := by split <;> omega
          clear hbd HPA HYA HXA
          generalize (if noE d zs = 0 then N + 1 else N) = N1 at *
          generalize noE d zs = z at *
          generalize noD d zs = dN at *
          go_wp2_with fail
          go_region_held3 (fun w' => w'.cell? ⟨bx, 1, none⟩ = some (.slice A1 n1 c1)) (first | assumption | go_keep)
            ((first
              | (go_at_call 17; refine HD.out.mono ?_; rintro e w10 ⟨v10, rfl, hj10, ht10⟩; have hm10 := HPD.out.left hj10 ht10; have hx10 := box_turn HXD.out HPD.out.ja ht10; have u10 := (box_cells hx10).2.1; have hy10 := HYD.out.below (ht10.below _ HPD.out.below.size (fun k hk => (HPD.out.ja.blocks k hk).1)); have HM10 := Lib.hid hm10; have HX10 := Lib.hid hx10; have HN := Lib.hid (HRn.out w10 hm10.rj (hy10.mono hm10.below.size)); clear hj10 ht10 hm10 hx10 hy10)
              | (go_at_call 18; refine HN.out.mono ?_; rintro e w11 ⟨rfl, hr11, ht11⟩; have u11 := (box_cells (box_turnR HX10.out HM10.out.rj ht11)).2.1; have HP11 := Lib.hid (HM10.out.right hr11 ht11); clear hr11 ht11)
              | fail))
          clear HD HN HM10 HX10 HPD HYD HXD HRn u10 u11 b0 b1 b2 k0 k1 k2
          go_wp2_with fail
          go_meet
          exact ⟨j, jr, N1, rfl, rfl, by omega, Lib.hid ⟨_, _, HP11.out⟩⟩
        · clear HX
          have HD := Lib.hid (Sync_any HPA.out.ja)
          go_wp2_with fail
          refine HD.out.mono ?_
          rintro e w10 ⟨v10, rfl, hj10, ht10⟩
          have HM := Lib.hid (HPA.out.left hj10 ht10)
          have HS := Lib.hid (Dk.rSync_any HM.out.rj.rd)
          clear hj10 ht10 HD HPA HYA HXA b0 b1 b2 k0 k1 k2
          obtain ⟨z, hz⟩ : ∃ z, z = pwE (op d) := ⟨_, rfl⟩
          rw [← hz] at HS ⊢
          clear hz
          go_wp2_with fail
          refine HS.out.mono ?_
          rintro e w11 ⟨rfl, hr11, ht11⟩
          have HP := Lib.hid (HM.out.rightD hr11 ht11)
          clear hr11 ht11 HS HM
          go_wp2_with fail
          go_meet
          exact ⟨j, jr, N, rfl, rfl, by omega, Lib.hid ⟨_, _, HP.out⟩⟩
        · have HD := Lib.hid (Dk.Cut_any HPA.out.ja.disk x HX.out)
          go_wp2_with fail
          refine HD.out.mono ?_
          rintro e w10 ⟨v10, rfl, hn10, ht10⟩
          have HM := Lib.hid (HPA.out.leftD hn10 ht10)
          have HS := Lib.hid (Dk.rCut_any HM.out.rj.rd x HX.out)
          have e2 := (box_cells (box_turn HXA.out HPA.out.ja (widen ht10))).2.2
          clear hn10 ht10 HD HPA HYA HXA b0 b1 b2 k0 k1 k2
          go_wp2_with fail
          refine HS.out.mono ?_
          rintro e w11 ⟨rfl, hr11, ht11⟩
          have HP := Lib.hid (HM.out.rightD hr11 ht11)
          clear hr11 ht11 HS HM e2
          go_wp2_with fail
          go_meet
          exact ⟨j, jr, N, rfl, rfl, by omega, Lib.hid ⟨_, _, HP.out⟩⟩
        · have HD := Lib.hid (Dk.Crash_any HPA.out.ja.disk x)
          clear HX
          go_wp2_with fail
          refine HD.out.mono ?_
          rintro e w10 ⟨v10, rfl, hn10, ht10⟩
          have HM := Lib.hid (HPA.out.leftD hn10 ht10)
          have HS := Lib.hid (Dk.rCrash_any HM.out.rj.rd x)
          have e2 := (box_cells (box_turn HXA.out HPA.out.ja (widen ht10))).2.2
          clear hn10 ht10 HD HPA HYA HXA b0 b1 b2 k0 k1 k2
          go_wp2_with fail
          refine HS.out.mono ?_
          rintro e w11 ⟨rfl, hr11, ht11⟩
          have hp11 := HM.out.rightD hr11 ht11
          have hfew : (fr (crD d x).s).length ≤ 262144 := fr_few _ hp11.ja.disk.few
          have HO := Lib.hid (both_open hp11.ja.disk hp11.rj.rd hp11.below (live_cr d x))
          clear hr11 ht11 HS HM e2 hp11
          generalize crD d x = dc at *
          go_wp2_with fail
          refine HO.out.mono ?_
          rintro e w12 ⟨j12, A12, c12, rfl, hb12, hO12⟩
          have HO2 := Lib.hid hO12
          clear hO12 hb12 HO
          go_wp2_with fail
          refine HO2.out.mono ?_
          rintro e w13 ⟨jr13, A13, c13, v13, rfl, hp13, hl13, hl13'⟩
          have HSm := Lib.hid (refSame_eq hl13 hl13' (Nat.le_refl _))
          have HP13 := Lib.hid hp13
          clear hp13 hl13 hl13' HO2
          generalize (fr dc.s).length = N2 at *
          generalize kp dc (wl dc.s) = d13 at *
          go_wp2_with fail
          refine HSm.out.mono ?_
          rintro e w14 ⟨rfl, hb14⟩
          have HP := Lib.hid (HP13.out.later hb14)
          clear hb14 HSm HP13
          go_wp2_with fail
          go_meet
          exact ⟨j12, jr13, N2, rfl, rfl, by omega, Lib.hid ⟨_, _, HP.out⟩⟩
        · have HD := Lib.hid (Dk.Append_any HPA.out.ja.disk A1 n1 c1 (strOf zs) (by_yb (HYA.out.mono HPA.out.below.size)))
          clear HX
          go_wp2_with fail
          refine HD.out.mono ?_
          rintro e w10 ⟨v10, rfl, hn10, ht10⟩
          have HM := Lib.hid (HPA.out.leftD hn10 ht10)
          have hB := belowD HPA.out.ja.disk ht10 HPA.out.below (Nat.le_refl _) (Nat.le_refl _)
          have hzs := HYA.out.len
          have hzl := HYA.out.le
          have hzm := HYA.out.max
          unfold maxLen at hzm
          have hy10 : By w.heap.size w10 A1 n1 c1 zs := HYA.out.below (ht10.below _ HPA.out.below.size (fun k hk => (HPA.out.ja.disk.blocks k hk).1))
          have q10 := hy10.conv
          have HS := Lib.hid (Dk.rAppend_any HM.out.rj.rd (strOf zs) (by rw [strOf_size]; omega))
          have e2 := (box_cells (box_turn HXA.out HPA.out.ja (widen ht10))).2.1
          clear hn10 ht10 HD HPA HYA HXA hB hzs hzl hzm hy10 b0 b1 b2 k0 k1 k2
          generalize apE d (strOf zs) = z at *
          generalize apD d (strOf zs) = d10 at *
          go_wp2_with fail
          refine HS.out.mono ?_
          rintro e w11 ⟨rfl, hr11, ht11⟩
          have HP := Lib.hid (HM.out.rightD hr11 ht11)
          clear hr11 ht11 HS HM e2 q10
          go_wp2_with fail
          go_meet
          exact ⟨j, jr, N, rfl, rfl, by omega, Lib.hid ⟨_, _, HP.out⟩⟩
      case rest =>
        obtain ⟨j2, jr2, N2, rfl, rfl, hN2, HC⟩ := hcut
        rename World => wz
        obtain ⟨v2, d2, hp2⟩ := HC.out
        have HR := Lib.hid (Dk.Read_any hp2.ja.disk)
        have HP2 := Lib.hid hp2
        clear hp2 HC HPA HYA HXA HX b0 b1 b2 k0 k1 k2 hrC
        go_wp2_with fail
        refine HR.out.mono ?_
        rintro e w7 ⟨A7, c7, rfl, hy7, hb7⟩
        have hp7 := HP2.out.later hb7
        have q7 := hy7.yb.conv
        have hbd : Below w7.heap.size w7 w7.drew := (Below.refl _ _).drew
        have HP8 := Lib.hid (hp7.later hbd)
        have q8 := (hy7.later hbd).yb.conv
        have y1 := hp7.rj.rd.cells.2.1
        have y2 := hp7.rj.cells.2
        have HLn := Lib.hid (Len_any HP8.out.ja)
        have HSf := Lib.hid (Dk.Safe_any HP8.out.ja.disk)
        have HRr := Lib.hid (Dk.rRead_any hp7.rj.rd)
        clear hy7 hb7 hbd hp7 HP2 HR
        generalize hsn : (Dk.rdS d2).size = sn at *
        generalize Dk.rdS d2 = s7 at *
        generalize pwE d2 = p7 at *
        obtain ⟨sf, hsf⟩ : ∃ sf, sf = d2.safe := ⟨_, rfl⟩
        rw [← hsf] at y1 HSf
        clear hsn hsf
        go_wp2_with fail
        refine HRr.out.mono ?_
        rintro e w8 ⟨rfl, rfl⟩
        clear HRr
        go_wp2_with fail
        go_region_held3 (fun w' => w'.cell? ⟨jr2, 1, none⟩ = some (.int .i64 (N2 : Int)) ∧ w'.cell? ⟨q, 1, none⟩ = some (.int .i64 (sf : Int)) ∧ (convert 22 9 (.slice A7 sn c7)).run Try.prog w' = .ok (.string s7) w') (first | exact ⟨by assumption, by assumption, by assumption⟩ | go_keep)
          ((first
            | (go_at_call 27; refine HLn.out.mono ?_; rintro e w9 ⟨rfl, rfl⟩)
            | (go_at_call 28; refine HSf.out.mono ?_; rintro e w9 ⟨rfl, rfl⟩)
            | fail))
        clear HLn HSf y1 y2 q7 q8
        go_wp2_with fail
        go_roundw
        case rel => exact ⟨k + 1, j2, jr2, N2, rfl, rfl, by go_num, by omega, by omega, Lib.hid ⟨_, _, HP8.out⟩⟩
        case measure => simp [intOf]; omega
    · obtain rfl : k = m := by omega
      obtain ⟨v, d, hpl⟩ := HI.out
      have HBE := Lib.hid hpl.below
      clear hpl HI
      go_wp2_with fail
      go_ret
      exact ⟨rfl, HBE.out⟩
end Jr
end Go.Proofs.Ytnamnikelgcepaa
