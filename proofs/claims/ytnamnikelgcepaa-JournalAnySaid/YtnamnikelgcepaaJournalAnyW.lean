/-
  JournalAny: the walk (written by tools/jrany.py).
-/
import Derived.Test.YtnamnikelgcepaaJrM
import Derived.Test.YtnamnikelgcepaaChkQ
set_option linter.unusedVariables false
set_option maxRecDepth 100000
namespace Go.Proofs.Ytnamnikelgcepaa
namespace Jr
open Go.RowKit Go.Maps Bp Ck
open Dk (D DAt DF op kp pwE apE apD syD cuE cuD IW crN crD)

set_option maxHeartbeats 4000000 in
theorem journalAny_walk (bo : Option Addr) (lb cb : Nat) (f : Nat → Nat) (ao : Option Addr) (len cap : Nat) (ls : List (List Nat)) (w : World)
    (hQ : ArgIn (fun z : Nat => Value.int .u8 (z : Int)) w bo lb cb f) (hf : ∀ i, i < lb → f i ≤ 255) (hA : Bss w.heap.size w ao len cap ls) (hl : ls.length = len) :
    Calls Try.prog 5 #[.slice bo lb cb, .slice ao len cap] w fun e w' => e = .returned (.bool true) ∧ Below w.heap.size w w' := by
  have hle := hA.le
  have hmx := hA.max
  unfold maxLen at hmx
  have hleb := hQ.le
  have hmxb := hQ.max
  unfold maxLen at hmxb
  have HA := Lib.hid hA
  have HL := Lib.hid hl
  have HQ := Lib.hid (By.arg hQ hf lb (Nat.le_refl _))
  generalize listOf f lb = fs0 at *
  clear hA hl hQ hf
  go_enter Try.func5, Try.ntmps5
  go_wp2_with fail
  refine (shown16_any w).mono ?_
  rintro e w1 ⟨rfl, hb1⟩
  have HB1 := Lib.hid hb1
  clear hb1
  by_cases h5 : 5000 < lb
  · go_wp2_with fail
    go_ret
    exact ⟨rfl, HB1.out⟩
  have h5I : ¬ (5000 : Int) < (lb : Int) := by omega
  go_wp2_with fail
  refine (Dk.new_any w1).mono ?_
  rintro e w2 ⟨rfl, hn2, hb2⟩
  have hb2' := HB1.out.trans (hb2.mono HB1.out.size)
  have HN2 := Lib.hid (hn2.lower HB1.out.size)
  have hap : apE Dk.d0 (strOf fs0) = 0 := by
    unfold apE
    rw [live_op live_new, if_neg (by rw [live_new.1]; simp), if_neg (by rw [strOf_size, HQ.out.len]; show ¬ 1048576 < ByteArray.empty.size + lb; simp; omega)]
  have HAp := Lib.hid (Dk.Append_any (hn2.lower HB1.out.size) bo lb cb (strOf fs0) (by_yb ((HQ.out.below hb2').mono hb2'.size)))
  rw [hap] at HAp
  have HLA : Hid (Live (apD Dk.d0 (strOf fs0))) := Lib.hid (live_ap live_new _)
  have HSA : Hid ((apD Dk.d0 (strOf fs0)).s.size = lb) := Lib.hid (by
    unfold apD
    rw [if_pos hap]
    show (ByteArray.empty ++ strOf fs0).size = lb
    rw [ByteArray.size_append, strOf_size, HQ.out.len]
    simp)
  have HB2 := Lib.hid hb2'
  clear hn2 hb2 hb2' HB1 hap
  generalize w1.heap.size = g at *
  generalize apD Dk.d0 (strOf fs0) = dA at *
  go_wp2_with fail
  refine HAp.out.mono ?_
  rintro e w3 ⟨v3, rfl, hn3, ht3⟩
  have hb3 := belowD HN2.out ht3 HB2.out (Nat.le_refl _) (Nat.le_refl _)
  have HO := Lib.hid (Open_any hn3 HLA.out.1 HLA.out.2)
  have HN3 := Lib.hid hn3
  have HB3 := Lib.hid hb3
  clear hn3 ht3 hb3 HAp HN2 HB2
  go_wp2_with fail
  refine HO.out.mono ?_
  rintro e w4 ⟨j, A4, c4, v4, rfl, hj4, hl4, ht4, _, ws, hbs4, hts4, hls4, hi4, hjs4⟩
  have hbx := open_bsx hbs4 hts4 hls4 hi4 (fun k hk => (HN3.out.blocks k hk).2) hjs4
  have hs4 := hs_any dA
  obtain ⟨m0, hm0⟩ : ∃ m0, m0 = (fr dA.s).length := ⟨_, rfl⟩
  obtain ⟨ms0, hms0⟩ : ∃ ms0, ms0 = (fr dA.s).map inn := ⟨_, rfl⟩
  have hml : ms0.length = m0 := by rw [hms0, hm0]; simp
  have hwl : fln ms0 m0 = wl dA.s := by
    have := hs4.safe
    rw [← hms0, ← hm0] at this
    rw [← this]
    rfl
  have hw5 : wl dA.s ≤ 5000 := by have := wl_le dA.s; rw [HSA.out] at this; omega
  have hm5 : 4 * m0 ≤ 5000 := by have := fr_le dA.s; rw [← hm0] at this; omega
  rw [← hms0, ← hm0] at hs4 hbx hl4
  rw [← hm0] at hj4 hi4 ⊢
  have hj4' : Jo w w4 j g v4 (kp dA (wl dA.s)) ms0 m0 := ⟨by rw [hml]; exact hj4, hs4, belowD HN3.out ht4 HB3.out (Nat.le_refl _) (Nat.le_refl _)⟩
  have HL4 : Hid (Live (kp dA (wl dA.s))) := Lib.hid (live_kp HLA.out _)
  have HBX := Lib.hid hbx
  have HML := Lib.hid hml
  have HFl : Hid (fln ms0 ms0.length ≤ 5000) := Lib.hid (by rw [hml, hwl]; exact hw5)
  have HNil : Hid (A4 = none → c4 = 0) := Lib.hid hi4.1
  clear hbx hs4 hm0 hms0 hml hwl hw5 hls4 hi4 hts4 hbs4 ht4 hjs4 hj4 HO HN3 HB3 HLA HSA
  generalize kp dA (wl dA.s) = d4 at *
  have hal := (Below.refl w4.heap.size w4).alloc (Nat.le_refl _) (.cells #[] 22)
  have HJ5 := Lib.hid (hj4'.later hal)
  have HBl := Lib.hid (hl4.below hal)
  have HRow : Hid (Bss (w4.alloc (.cells #[] 22)).heap.size (w4.alloc (.cells #[] 22)) A4 m0 c4 ms0) := Lib.hid ((hl4.below hal).mono hal.size)
  have HE : Hid (Ls (PX (JF j g v4) w4) (w4.alloc (.cells #[] 22)) w4.heap.size (.slice (some ⟨w4.heap.size, 0, none⟩) 0 0) []) := Lib.hid (Ls.empty _ w4 _ (Nat.le_refl _))
  have HPP : Hid (∀ g0 off, A4 = some ⟨g0, off, none⟩ → ∀ t, t < m0 → ∃ A' n' c', (w4.alloc (.cells #[] 22)).cell? ⟨g0, off + t, none⟩ = some (.slice A' n' c') ∧ PX (JF j g v4) w4 A' n' c' (ms0.getD t [])) := Lib.hid (fun g0 off hA t ht => by
    obtain ⟨A', n', c', e1, e2, e3⟩ := HBX.out g0 off hA t ht
    obtain ⟨g1, o1, hA1, hg1, _⟩ := hl4.cell (by omega)
    rw [hA] at hA1
    simp only [Option.some.injEq, Addr.mk.injEq, and_true] at hA1
    obtain ⟨rfl, rfl⟩ := hA1
    exact ⟨A', n', c', (hal.cell (p := ⟨g0, off + t, none⟩) hg1).trans e1, e2, e3⟩)
  have HSz : Hid (w4.heap.size ≤ (w4.alloc (.cells #[] 22)).heap.size) := Lib.hid hal.size
  have HT0 : Hid (Turn (JF j g v4) (JF j g v4) w4 (w4.alloc (.cells #[] 22))) := Lib.hid (Turn.ofBelow hal _)
  have HBW : Hid (Below w.heap.size w w4) := Lib.hid hj4'.below
  have HLo : Hid (∀ k, JF j g v4 k → w.heap.size ≤ k) := Lib.hid (fun k hk => (hj4'.at_.blocks k hk).1)
  clear hal hj4' hl4 HBl HBX
  go_upto_region 9 with fail
  generalize hwe : w4.alloc (.cells #[] 22) = we at *
  go_wp2_with (at_builtin; (try rw [hwe]); refine app_lss rfl _ _ rfl w4.heap.size _ rfl HE.out A4 m0 c4 ms0 rfl HRow.out HNil.out HPP.out (by omega) HSz.out ?_)
  intro A5 c5 w5 hl5 hg5
  have hj5 := HJ5.out.grown HE.out hg5 HBW.out.size
  have ht5 := turn_row HT0.out hg5 (fun k hk => (HE.out.kind k hk).2.1)
  have HS : Hid (ms0.length = m0 + 0 ∧ fln ms0 ms0.length ≤ 5000 + 1004 * 0 ∧ Ls (PX (JF j g v4) w4) w5 w4.heap.size (.slice A5 m0 c5) ms0 ∧ ∃ v d, Jo w w5 j g v d ms0 m0 ∧ Live d ∧ Turn (JF j g v4) (JF j g v) w4 w5) := Lib.hid ⟨HML.out, HFl.out, hl5, v4, d4, hj5, HL4.out, ht5⟩
  clear hl5 hg5 hj5 ht5 HE HRow HPP HSz HT0 HJ5 hwe
  go_wp2_with fail
  go_loopw [10, 41] (fun av iv wr => ∃ (k : Nat) (ms : List (List Nat)), iv = .int .i64 (k : Int) ∧ k ≤ len ∧ k ≤ 20 ∧ Hid (ms.length = m0 + k ∧ fln ms ms.length ≤ 5000 + 1004 * k ∧ Ls (PX (JF j g v4) w4) wr w4.heap.size av ms ∧ ∃ v d, Jo w wr j g v d ms m0 ∧ Live d ∧ Turn (JF j g v4) (JF j g v) w4 wr)) (fun _ iv _ => len - (intOf iv).toNat)
  case atStart => exact ⟨0, ms0, rfl, Nat.zero_le _, Nat.zero_le _, HS⟩
  case round =>
    rename World => wr
    clear HS
    obtain ⟨k, ms, rfl, hk, hk2, HI⟩ := hrel
    obtain ⟨hn, hfl, hls, v, d, hj, hL, htn⟩ := HI.out
    have HN := Lib.hid hn
    have HFL := Lib.hid hfl
    have HLs := Lib.hid hls
    have HJ := Lib.hid hj
    have HLv := Lib.hid hL
    have HTn := Lib.hid htn
    have k1 := trivial
    clear hn hfl hls hj hL htn HI HML HFl
    by_cases hlk : k < len
    · obtain ⟨ga, off, rfl, hga, hc⟩ := (HA.out.below HJ.out.below).cell (by omega)
      obtain ⟨A1, n1, c1, k1, hy⟩ := hc k hlk
      obtain ⟨_, _, e0, _, hc0⟩ := HA.out.cell (by omega)
      simp only [Option.some.injEq, Addr.mk.injEq, and_true] at e0
      obtain ⟨rfl, rfl⟩ := e0
      obtain ⟨A0, n0, c0, k0, hy0⟩ := hc0 k hlk
      have e1 := k1.symm.trans ((HJ.out.below.cell (p := ⟨ga, off + k, none⟩) hga).trans k0)
      simp only [Option.some.injEq, Value.slice.injEq] at e1
      obtain ⟨rfl, rfl, rfl⟩ := e1
      have HP : Hid (PX (JF j g v4) w4 A1 n1 c1 (ls.getD k [])) := Lib.hid ⟨(hy0.below HBW.out).mono HBW.out.size, fun h0 x hx hf => by
        obtain ⟨g2, o2, q, q2, _⟩ := hy0.cell h0
        rw [hx] at q
        simp only [Option.some.injEq] at q
        have hxb : x.block = g2 := by rw [q]
        have := HLo.out _ hf
        omega⟩
      have hy2 := hy.mono HJ.out.below.size
      have hys := hy.len
      have hkI : (k : Int) < (len : Int) := by omega
      have HGA := Lib.hid hga
      have HYS := Lib.hid hys
      generalize ls.getD k [] = zs at *
      clear hc hc0 k0 hy hy0 hga hys
      by_cases h40 : k = 20
      · subst h40
        clear hy2
        obtain ⟨vA, vc, rfl⟩ := HLs.out.form
        have HY := Lib.hid (HJ.out.sync HLv.out)
        go_wp2_with fail
        clear k1
        refine HY.out.mono ?_
        rintro e w5 ⟨v5, d5, rfl, hj5, hL5, ht5⟩
        have HLs5 := Lib.hid (HLs.out.turn HJ.out.at_ ht5)
        have HT5 := Lib.hid (HTn.out.trans ht5)
        have HJ5 := Lib.hid hj5
        have HLn := Lib.hid hj5.len
        have HCr := Lib.hid (Dk.Crash_any hj5.at_.disk 0)
        clear hj5 hL5 ht5 HY HLs HJ HTn HLv
        obtain ⟨mn, hmn⟩ : ∃ mn, mn = ms.length := ⟨_, rfl⟩
        rw [← hmn] at HLn
        rw [← hmn]
        have HMN := Lib.hid hmn
        clear hmn
        go_wp2_with fail
        refine HLn.out.mono ?_
        rintro e w6 ⟨rfl, rfl⟩
        clear HLn
        go_wp2_with fail
        refine HCr.out.mono ?_
        rintro e w6 ⟨v6, rfl, hn6, ht6⟩
        have HO := Lib.hid (HJ5.out.crash0 w6 v6 hn6 (belowD HJ5.out.at_.disk ht6 HJ5.out.below (Nat.le_refl _) (Nat.le_refl _)))
        have HLs6 := Lib.hid (HLs5.out.turnD HJ5.out.at_.disk ht6)
        have HT6 := Lib.hid (HT5.out.trans (widen ht6))
        have HN6 := Lib.hid hn6
        clear hn6 ht6 HCr HLs5 HT5 HJ5
        go_wp2_with fail
        refine HO.out.mono ?_
        rintro e w7 ⟨j7, A7, c7, v7, d7, rfl, hj7, hL7, hl7, ht7⟩
        have hls7 := HLs6.out.turnD HN6.out ht7
        have ht8 := HT6.out.trans (widen ht7)
        have hbs := hls7.bss (fun A n c zs h => px_by h ht8)
        rw [List.take_length] at hl7
        have hl8 := hl7
        rw [← HMN.out] at hl8
        have hb8 := hbs.2
        rw [← HMN.out] at hb8
        have HSm := Lib.hid (refSame_eq hl8 hb8 (Nat.le_refl _))
        have HB7 := Lib.hid hj7.below
        rw [← HMN.out]
        clear hj7 hL7 hl7 ht7 hls7 hbs ht8 hl8 hb8 HLs6 HT6 HN6 HO HMN
        go_wp2_with fail
        refine HSm.out.mono ?_
        rintro e w8 ⟨rfl, hb8⟩
        have HB8 := Lib.hid (HB7.out.trans (hb8.mono HB7.out.size))
        clear hb8 HSm
        go_wp2_with fail
        go_ret
        exact ⟨rfl, HB8.out⟩
      · have d40 : decide ((20 : Int) ≤ (k : Int)) = false := decide_eq_false (by omega)
        by_cases h10 : 1000 < n1
        · have d10 : decide ((1000 : Int) < (n1 : Int)) = true := decide_eq_true (by omega)
          clear hy2
          obtain ⟨vA, vc, rfl⟩ := HLs.out.form
          have HY := Lib.hid (HJ.out.sync HLv.out)
          go_wp2_with fail
          clear k1
          refine HY.out.mono ?_
          rintro e w5 ⟨v5, d5, rfl, hj5, hL5, ht5⟩
          have HLs5 := Lib.hid (HLs.out.turn HJ.out.at_ ht5)
          have HT5 := Lib.hid (HTn.out.trans ht5)
          have HJ5 := Lib.hid hj5
          have HLn := Lib.hid hj5.len
          have HCr := Lib.hid (Dk.Crash_any hj5.at_.disk 0)
          clear hj5 hL5 ht5 HY HLs HJ HTn HLv
          obtain ⟨mn, hmn⟩ : ∃ mn, mn = ms.length := ⟨_, rfl⟩
          rw [← hmn] at HLn
          rw [← hmn]
          have HMN := Lib.hid hmn
          clear hmn
          go_wp2_with fail
          refine HLn.out.mono ?_
          rintro e w6 ⟨rfl, rfl⟩
          clear HLn
          go_wp2_with fail
          refine HCr.out.mono ?_
          rintro e w6 ⟨v6, rfl, hn6, ht6⟩
          have HO := Lib.hid (HJ5.out.crash0 w6 v6 hn6 (belowD HJ5.out.at_.disk ht6 HJ5.out.below (Nat.le_refl _) (Nat.le_refl _)))
          have HLs6 := Lib.hid (HLs5.out.turnD HJ5.out.at_.disk ht6)
          have HT6 := Lib.hid (HT5.out.trans (widen ht6))
          have HN6 := Lib.hid hn6
          clear hn6 ht6 HCr HLs5 HT5 HJ5
          go_wp2_with fail
          refine HO.out.mono ?_
          rintro e w7 ⟨j7, A7, c7, v7, d7, rfl, hj7, hL7, hl7, ht7⟩
          have hls7 := HLs6.out.turnD HN6.out ht7
          have ht8 := HT6.out.trans (widen ht7)
          have hbs := hls7.bss (fun A n c zs h => px_by h ht8)
          rw [List.take_length] at hl7
          have hl8 := hl7
          rw [← HMN.out] at hl8
          have hb8 := hbs.2
          rw [← HMN.out] at hb8
          have HSm := Lib.hid (refSame_eq hl8 hb8 (Nat.le_refl _))
          have HB7 := Lib.hid hj7.below
          rw [← HMN.out]
          clear hj7 hL7 hl7 ht7 hls7 hbs ht8 hl8 hb8 HLs6 HT6 HN6 HO HMN
          go_wp2_with fail
          refine HSm.out.mono ?_
          rintro e w8 ⟨rfl, hb8⟩
          have HB8 := Lib.hid (HB7.out.trans (hb8.mono HB7.out.size))
          clear hb8 HSm
          go_wp2_with fail
          go_ret
          exact ⟨rfl, HB8.out⟩
        · have d10 : decide ((1000 : Int) < (n1 : Int)) = false := decide_eq_false (by omega)
          have HT := Lib.hid (HJ.out.note_room HLv.out (by have := HFL.out; omega) (by rw [HN.out]; omega) A1 n1 c1 zs hy2)
          rw [if_neg h10, if_neg h10] at HT
          clear hy2
          obtain ⟨vA, vc, rfl⟩ := HLs.out.form
          go_wp2_with fail
          refine HT.out.mono ?_
          rintro e w6 ⟨v6, d6, rfl, hj6, hL6, ht6⟩
          have k1' : w6.cell? ⟨ga, off + k, none⟩ = some (.slice A1 n1 c1) := ((hj6.below.cell (p := ⟨ga, off + k, none⟩) HGA.out).trans ((HJ.out.below.cell (p := ⟨ga, off + k, none⟩) HGA.out).symm.trans k1))
          have HJ6 := Lib.hid hj6
          have HL6 := Lib.hid hL6
          have HLs6 := Lib.hid (HLs.out.turn HJ.out.at_ ht6)
          have HT6 := Lib.hid (HTn.out.trans ht6)
          clear hj6 hL6 ht6 HT k1 HLs HJ HLv HTn
          go_wp2_with (at_builtin; refine app_ls rfl _ _ rfl w4.heap.size _ ms rfl A1 n1 c1 zs w6 rfl HLs6.out rfl HP.out (by rw [HN.out]; omega) HT6.out.size ?_)
          intro A7 c7 w7 hl7 hg7
          have hal := (Below.refl w6.heap.size w6).alloc (Nat.le_refl _) (.cells #[.slice A1 n1 c1] 22)
          have hj7 := (HJ6.out.later hal).grown (HLs6.out.later hal) hg7 HBW.out.size
          have ht7 := turn_row (turn_later HT6.out hal) hg7 (fun k hk => (HLs6.out.kind k hk).2.1)
          have HX : Hid ((ms ++ [zs]).length = m0 + (k + 1) ∧ fln (ms ++ [zs]) (ms ++ [zs]).length ≤ 5000 + 1004 * (k + 1) ∧ Ls (PX (JF j g v4) w4) w7 w4.heap.size (.slice A7 (ms.length + 1) c7) (ms ++ [zs]) ∧ ∃ v d, Jo w w7 j g v d (ms ++ [zs]) m0 ∧ Live d ∧ Turn (JF j g v4) (JF j g v) w4 w7) := Lib.hid (by
            refine ⟨by rw [List.length_append, List.length_singleton, HN.out]; omega, ?_, hl7, v6, d6, hj7, HL6.out, ht7⟩
            have e1 : (ms ++ [zs]).length = ms.length + 1 := by simp
            have := fln_succ (ms ++ [zs]) ms.length (by omega)
            rw [e1, this, fln_app ms [zs] ms.length (Nat.le_refl _), getD_snoc_eq, HYS.out]
            have := HFL.out
            omega)
          clear hl7 hg7 hal hj7 ht7 HLs6 HJ6 HL6 HT6 k1' HP
          go_wp2_with fail
          go_roundw
          case rel => exact ⟨k + 1, ms ++ [zs], by go_num, by omega, by omega, HX⟩
          case measure => simp [intOf]; omega
    · obtain rfl : k = len := by omega
      obtain ⟨vA, vc, rfl⟩ := HLs.out.form
      have HY := Lib.hid (HJ.out.sync HLv.out)
      go_wp2_with fail
      clear k1
      refine HY.out.mono ?_
      rintro e w5 ⟨v5, d5, rfl, hj5, hL5, ht5⟩
      have HLs5 := Lib.hid (HLs.out.turn HJ.out.at_ ht5)
      have HT5 := Lib.hid (HTn.out.trans ht5)
      have HJ5 := Lib.hid hj5
      have HLn := Lib.hid hj5.len
      have HCr := Lib.hid (Dk.Crash_any hj5.at_.disk 0)
      clear hj5 hL5 ht5 HY HLs HJ HTn HLv
      obtain ⟨mn, hmn⟩ : ∃ mn, mn = ms.length := ⟨_, rfl⟩
      rw [← hmn] at HLn
      rw [← hmn]
      have HMN := Lib.hid hmn
      clear hmn
      go_wp2_with fail
      refine HLn.out.mono ?_
      rintro e w6 ⟨rfl, rfl⟩
      clear HLn
      go_wp2_with fail
      refine HCr.out.mono ?_
      rintro e w6 ⟨v6, rfl, hn6, ht6⟩
      have HO := Lib.hid (HJ5.out.crash0 w6 v6 hn6 (belowD HJ5.out.at_.disk ht6 HJ5.out.below (Nat.le_refl _) (Nat.le_refl _)))
      have HLs6 := Lib.hid (HLs5.out.turnD HJ5.out.at_.disk ht6)
      have HT6 := Lib.hid (HT5.out.trans (widen ht6))
      have HN6 := Lib.hid hn6
      clear hn6 ht6 HCr HLs5 HT5 HJ5
      go_wp2_with fail
      refine HO.out.mono ?_
      rintro e w7 ⟨j7, A7, c7, v7, d7, rfl, hj7, hL7, hl7, ht7⟩
      have hls7 := HLs6.out.turnD HN6.out ht7
      have ht8 := HT6.out.trans (widen ht7)
      have hbs := hls7.bss (fun A n c zs h => px_by h ht8)
      rw [List.take_length] at hl7
      have hl8 := hl7
      rw [← HMN.out] at hl8
      have hb8 := hbs.2
      rw [← HMN.out] at hb8
      have HSm := Lib.hid (refSame_eq hl8 hb8 (Nat.le_refl _))
      have HB7 := Lib.hid hj7.below
      rw [← HMN.out]
      clear hj7 hL7 hl7 ht7 hls7 hbs ht8 hl8 hb8 HLs6 HT6 HN6 HO HMN
      go_wp2_with fail
      refine HSm.out.mono ?_
      rintro e w8 ⟨rfl, hb8⟩
      have HB8 := Lib.hid (HB7.out.trans (hb8.mono HB7.out.size))
      clear hb8 HSm
      go_wp2_with fail
      go_ret
      exact ⟨rfl, HB8.out⟩
end Jr
end Go.Proofs.Ytnamnikelgcepaa
