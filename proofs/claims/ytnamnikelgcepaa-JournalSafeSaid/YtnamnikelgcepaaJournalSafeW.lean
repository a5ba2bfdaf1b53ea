/-
  JournalSafe: the walk (written by tools/jrsafe.py).
-/
import Derived.Test.YtnamnikelgcepaaJrL
import Derived.Test.YtnamnikelgcepaaChkQ
set_option linter.unusedVariables false
set_option maxRecDepth 100000
namespace Go.Proofs.Ytnamnikelgcepaa
namespace Jr
open Go.RowKit Go.Maps Bp Ck
open Dk (D DAt DF op kp pwE apE apD syD cuE cuD IW crN crD)

set_option maxHeartbeats 4000000 in
theorem journalSafe_walk (ao : Option Addr) (len cap : Nat) (ls : List (List Nat)) (q : Nat) (hq255 : q ≤ 255) (w : World) (hA : Bss w.heap.size w ao len cap ls) (hl : ls.length = len) :
    Calls Try.prog 7 #[.slice ao len cap, .int .u8 (q : Int)] w fun e w' => e = .returned (.bool true) ∧ Below w.heap.size w w' := by
  have hle := hA.le
  have hmx := hA.max
  unfold maxLen at hmx
  have HA := Lib.hid hA
  have HL := Lib.hid hl
  clear hA hl
  go_enter Try.func7, Try.ntmps7
  go_wp2_with fail
  refine (shown16_any w).mono ?_
  rintro e w1 ⟨rfl, hb1⟩
  have HB1 := Lib.hid hb1
  clear hb1
  go_wp2_with fail
  refine (Dk.new_any w1).mono ?_
  rintro e w2 ⟨rfl, hn2, hb2⟩
  have HO := Lib.hid (open_new (HB1.out.trans (hb2.mono HB1.out.size)) (hn2.lower HB1.out.size))
  clear hn2 hb2 HB1
  generalize w1.heap.size = g at *
  go_wp2_with fail
  refine HO.out.mono ?_
  rintro e w3 ⟨j, c3, v3, d3, A3, rfl, hj3, hL3⟩
  have HS : Hid (∃ v d, Jo w w3 j g v d [] 0 ∧ Live d) := Lib.hid ⟨v3, d3, hj3, hL3⟩
  clear hj3 hL3 HO
  go_wp2_with fail
  go_loopw [10, 11, 32] (fun av sv iv wr => ∃ (k s : Nat) (ms : List (List Nat)), sv = .int .i64 (s : Int) ∧ iv = .int .i64 (k : Int) ∧ k ≤ len ∧ k ≤ 40 ∧ Hid (ms.length = k ∧ Ls (By w.heap.size w) wr w.heap.size av ms ∧ ∃ v d, Jo w wr j g v d ms s ∧ Live d)) (fun _ _ iv _ => len - (intOf iv).toNat)
  case atStart => exact ⟨0, 0, [], rfl, rfl, Nat.zero_le _, Nat.zero_le _, Lib.hid ⟨rfl, Ls.nil _ _ _, HS.out⟩⟩
  case round =>
    rename World => wr
    clear HS
    obtain ⟨k, s, ms, rfl, rfl, hk, hk2, HI⟩ := hrel
    obtain ⟨hn, hls, v, d, hj, hL⟩ := HI.out
    have HN := Lib.hid hn
    have HLs := Lib.hid hls
    have HJ := Lib.hid hj
    have HLv := Lib.hid hL
    have k1 := trivial
    clear hn hls hj hL HI
    by_cases hlk : k < len
    · obtain ⟨ga, off, rfl, hga, hc⟩ := (HA.out.below HJ.out.below).cell (by omega)
      obtain ⟨A1, n1, c1, k1, hy⟩ := hc k hlk
      obtain ⟨_, _, e0, _, hc0⟩ := HA.out.cell (by omega)
      simp only [Option.some.injEq, Addr.mk.injEq, and_true] at e0
      obtain ⟨rfl, rfl⟩ := e0
      obtain ⟨A0, n0, c0, k0, hy0⟩ := hc0 k hlk
      have e1 := k1.symm.trans ((HJ.out.below.cell (p := ⟨ga, off + k, none⟩) hga).trans k0)
      simp only [Option.some.injEq, Value.slice.injEq] at e1
      obtain ⟨rfl, rfl, rfl⟩ := e1
      have HP := Lib.hid hy0
      have hy2 := hy.mono HJ.out.below.size
      have hkI : (k : Int) < (len : Int) := by omega
      have HGA := Lib.hid hga
      generalize ls.getD k [] = zs at *
      clear hc hc0 k0 hy hy0 hga
      by_cases h40 : k = 40
      · subst h40
        clear hy2
        obtain ⟨vA, vc, rfl⟩ := HLs.out.form
        have HCr := Lib.hid (Dk.Crash_any HJ.out.at_.disk 0)
        go_wp2_with fail
        clear k1
        refine HCr.out.mono ?_
        rintro e w5 ⟨v5, rfl, hn5, ht5⟩
        have HO := Lib.hid (HJ.out.crash0 w5 v5 hn5 (belowD HJ.out.at_.disk ht5 HJ.out.below (Nat.le_refl _) (Nat.le_refl _)))
        have HLs5 := Lib.hid (HLs.out.turnD HJ.out.at_.disk ht5)
        have HN5 := Lib.hid hn5
        have hsl := HJ.out.hs.le
        clear hn5 ht5 HCr HLs HJ
        go_wp2_with fail
        refine HO.out.mono ?_
        rintro e w6 ⟨j6, A6, c6, v6, d6, rfl, hj6, hL6, hl6, ht6⟩
        have hls6 := HLs5.out.turnD HN5.out ht6
        have hbs := hls6.bss (fun A n c zs h => (h.below hj6.below).mono hj6.below.size)
        have hcap := hbs.2.le
        have hsc : s ≤ vc := by omega
        have q6 := fun W => slice_h2 vA ms.length vc s W hsc
        have HSm := Lib.hid (refSame_eq hl6 (hbs.2.take s hsl) (Nat.le_refl _))
        have HB6 := Lib.hid hj6.below
        have hq1 : (s : Int) ≤ (vc : Int) := by omega
        clear hj6 hL6 hl6 ht6 hls6 hbs HLs5 HN5 HO
        generalize ms.length = mn at *
        go_wp2_with fail
        refine HSm.out.mono ?_
        rintro e w7 ⟨rfl, hb7⟩
        have HB7 := Lib.hid (HB6.out.trans (hb7.mono HB6.out.size))
        clear hb7 HSm
        go_wp2_with fail
        go_ret
        exact ⟨rfl, HB7.out⟩
      · have d40 : decide ((40 : Int) ≤ (k : Int)) = false := decide_eq_false (by omega)
        by_cases h10 : 1000 < n1
        · have d10 : decide ((1000 : Int) < (n1 : Int)) = true := decide_eq_true (by omega)
          clear hy2
          obtain ⟨vA, vc, rfl⟩ := HLs.out.form
          have HCr := Lib.hid (Dk.Crash_any HJ.out.at_.disk 0)
          go_wp2_with fail
          clear k1
          refine HCr.out.mono ?_
          rintro e w5 ⟨v5, rfl, hn5, ht5⟩
          have HO := Lib.hid (HJ.out.crash0 w5 v5 hn5 (belowD HJ.out.at_.disk ht5 HJ.out.below (Nat.le_refl _) (Nat.le_refl _)))
          have HLs5 := Lib.hid (HLs.out.turnD HJ.out.at_.disk ht5)
          have HN5 := Lib.hid hn5
          have hsl := HJ.out.hs.le
          clear hn5 ht5 HCr HLs HJ
          go_wp2_with fail
          refine HO.out.mono ?_
          rintro e w6 ⟨j6, A6, c6, v6, d6, rfl, hj6, hL6, hl6, ht6⟩
          have hls6 := HLs5.out.turnD HN5.out ht6
          have hbs := hls6.bss (fun A n c zs h => (h.below hj6.below).mono hj6.below.size)
          have hcap := hbs.2.le
          have hsc : s ≤ vc := by omega
          have q6 := fun W => slice_h2 vA ms.length vc s W hsc
          have HSm := Lib.hid (refSame_eq hl6 (hbs.2.take s hsl) (Nat.le_refl _))
          have HB6 := Lib.hid hj6.below
          have hq1 : (s : Int) ≤ (vc : Int) := by omega
          clear hj6 hL6 hl6 ht6 hls6 hbs HLs5 HN5 HO
          generalize ms.length = mn at *
          go_wp2_with fail
          refine HSm.out.mono ?_
          rintro e w7 ⟨rfl, hb7⟩
          have HB7 := Lib.hid (HB6.out.trans (hb7.mono HB6.out.size))
          clear hb7 HSm
          go_wp2_with fail
          go_ret
          exact ⟨rfl, HB7.out⟩
        · have d10 : decide ((1000 : Int) < (n1 : Int)) = false := decide_eq_false (by omega)
          have HT := Lib.hid (HJ.out.note HLv.out (by rw [HN.out]; omega) A1 n1 c1 zs hy2)
          rw [if_neg h10, if_neg h10] at HT
          clear hy2
          obtain ⟨vA, vc, rfl⟩ := HLs.out.form
          go_wp2_with fail
          refine HT.out.mono ?_
          rintro e w4 ⟨v4, d4, rfl, hj4, hL4, ht4⟩
          have k1' : w4.cell? ⟨ga, off + k, none⟩ = some (.slice A1 n1 c1) := ((hj4.below.cell (p := ⟨ga, off + k, none⟩) HGA.out).trans ((HJ.out.below.cell (p := ⟨ga, off + k, none⟩) HGA.out).symm.trans k1))
          have HJ4 := Lib.hid hj4
          have HL4 := Lib.hid hL4
          have HLs4 := Lib.hid (HLs.out.turn HJ.out.at_ ht4)
          clear hj4 hL4 ht4 HT k1 HLs HJ HLv
          go_wp2_with (at_builtin; refine app_ls rfl _ _ rfl w.heap.size _ ms rfl A1 n1 c1 zs w4 rfl HLs4.out rfl HP.out (by rw [HN.out]; omega) HJ4.out.below.size ?_)
          intro A5 c5 w5 hl5 hg5
          have hal := (Below.refl w4.heap.size w4).alloc (Nat.le_refl _) (.cells #[.slice A1 n1 c1] 22)
          have hj5 := (HJ4.out.later hal).grown (HLs4.out.later hal) hg5 (Nat.le_refl _)
          have HLs5 : Hid (Ls (By w.heap.size w) w5 w.heap.size (.slice A5 (k + 1) c5) (ms ++ [zs])) := Lib.hid (by rw [HN.out] at hl5; exact hl5)
          have HN5 : Hid ((ms ++ [zs]).length = k + 1) := Lib.hid (by rw [List.length_append, List.length_singleton, HN.out])
          have HJ5 := Lib.hid hj5
          rw [HN.out]
          clear hl5 hg5 hal hj5 HLs4 HJ4 k1' HP HN
          generalize ms ++ [zs] = ms' at *
          by_cases hqk : k + 1 = q % 41
          · have d1 : (((k + 1 : Nat) : Int) == (q : Int) % 41) = true := by rw [beq_iff_eq]; omega
            have d2 : ((k : Int) + 1 == (q : Int) % 41) = true := by rw [beq_iff_eq]; omega
            clear hqk
            have HY := Lib.hid (HJ5.out.sync HL4.out)
            go_wp2_with fail
            refine HY.out.mono ?_
            rintro e w6 ⟨v6, d6, rfl, hj6, hL6, ht6⟩
            have HLs6 := Lib.hid (HLs5.out.turn HJ5.out.at_ ht6)
            have HJ6 := Lib.hid hj6
            have HL6 := Lib.hid hL6
            clear hj6 hL6 ht6 HY HLs5 HJ5 HL4
            go_wp2_with fail
            go_roundw
            case rel => exact ⟨k + 1, k + 1, ms', by go_num, by go_num, by omega, by omega, Lib.hid ⟨HN5.out, HLs6.out, _, _, by rw [HN5.out] at HJ6; exact HJ6.out, HL6.out⟩⟩
            case measure => simp [intOf]; omega
          · have d1 : (((k + 1 : Nat) : Int) == (q : Int) % 41) = false := by rw [beq_eq_false_iff_ne]; omega
            have d2 : ((k : Int) + 1 == (q : Int) % 41) = false := by rw [beq_eq_false_iff_ne]; omega
            go_wp2_with fail
            go_roundw
            case rel => exact ⟨k + 1, s, ms', rfl, by go_num, by omega, by omega, Lib.hid ⟨HN5.out, HLs5.out, _, _, HJ5.out, HL4.out⟩⟩
            case measure => simp [intOf]; omega
    · obtain rfl : k = len := by omega
      obtain ⟨vA, vc, rfl⟩ := HLs.out.form
      have HCr := Lib.hid (Dk.Crash_any HJ.out.at_.disk 0)
      go_wp2_with fail
      clear k1
      refine HCr.out.mono ?_
      rintro e w5 ⟨v5, rfl, hn5, ht5⟩
      have HO := Lib.hid (HJ.out.crash0 w5 v5 hn5 (belowD HJ.out.at_.disk ht5 HJ.out.below (Nat.le_refl _) (Nat.le_refl _)))
      have HLs5 := Lib.hid (HLs.out.turnD HJ.out.at_.disk ht5)
      have HN5 := Lib.hid hn5
      have hsl := HJ.out.hs.le
      clear hn5 ht5 HCr HLs HJ
      go_wp2_with fail
      refine HO.out.mono ?_
      rintro e w6 ⟨j6, A6, c6, v6, d6, rfl, hj6, hL6, hl6, ht6⟩
      have hls6 := HLs5.out.turnD HN5.out ht6
      have hbs := hls6.bss (fun A n c zs h => (h.below hj6.below).mono hj6.below.size)
      have hcap := hbs.2.le
      have hsc : s ≤ vc := by omega
      have q6 := fun W => slice_h2 vA ms.length vc s W hsc
      have HSm := Lib.hid (refSame_eq hl6 (hbs.2.take s hsl) (Nat.le_refl _))
      have HB6 := Lib.hid hj6.below
      have hq1 : (s : Int) ≤ (vc : Int) := by omega
      clear hj6 hL6 hl6 ht6 hls6 hbs HLs5 HN5 HO
      generalize ms.length = mn at *
      go_wp2_with fail
      refine HSm.out.mono ?_
      rintro e w7 ⟨rfl, hb7⟩
      have HB7 := Lib.hid (HB6.out.trans (hb7.mono HB6.out.size))
      clear hb7 HSm
      go_wp2_with fail
      go_ret
      exact ⟨rfl, HB7.out⟩
end Jr
end Go.Proofs.Ytnamnikelgcepaa
