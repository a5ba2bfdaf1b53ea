/-
  JournalLong: the walk.
-/
import Derived.Test.YtnamnikelgcepaaJrF
import Derived.Test.YtnamnikelgcepaaChkQ
import Derived.Deep.CutBlock
set_option linter.unusedVariables false
set_option maxRecDepth 100000
namespace Go.Proofs.Ytnamnikelgcepaa
namespace Jr
open Go.RowKit Go.Maps Bp Ck
open Dk (D DAt DF op kp pwE apE apD syD cuE cuD IW crN crD)

set_option maxHeartbeats 4000000 in
theorem journalLong_walk (ao : Option Addr) (len cap : Nat) (ls : List (List Nat)) (w : World) (hA : Bss w.heap.size w ao len cap ls) (hl : ls.length = len) :
    Calls Try.prog 6 #[.slice ao len cap] w fun e w' => e = .returned (.bool true) ∧ Below w.heap.size w w' := by
  have hle := hA.le
  have hmx := hA.max
  unfold maxLen at hmx
  have HA := Lib.hid hA
  have HL := Lib.hid hl
  clear hA hl
  go_enter Try.func6, Try.ntmps6
  go_wp2_with fail
  refine (shown16_any w).mono ?_
  rintro e w1 ⟨rfl, hb1⟩
  have HB1 := Lib.hid hb1
  clear hb1
  go_wp2_with fail
  refine (Dk.new_any w1).mono ?_
  rintro e w2 ⟨rfl, hn2, hb2⟩
  have HO := Lib.hid (open_new (HB1.out.trans (hb2.mono HB1.out.size)) (hn2.lower HB1.out.size))
  clear hn2 hb2 HB1
  generalize w1.heap.size = g at *
  go_wp2_with fail
  refine HO.out.mono ?_
  rintro e w3 ⟨j, c3, v3, d3, A3, rfl, hj3, hL3⟩
  have HS : Hid (∃ v d, Jo w w3 j g v d [] 0 ∧ Live d) := Lib.hid ⟨v3, d3, hj3, hL3⟩
  clear hj3 hL3 HO
  go_wp2_with fail
  go_wp2_with fail
  go_loopw [8, 9, 33] (fun nv sv iv wr => ∃ (k n : Nat) (ms : List (List Nat)), nv = .int .i64 (n : Int) ∧ sv = .int .i64 ((fln ms n : Nat) : Int) ∧ iv = .int .i64 (k : Int) ∧ k ≤ len ∧ k ≤ 40 ∧ n ≤ k ∧ Hid (n = ms.length ∧ ∃ v d, Jo w wr j g v d ms 0 ∧ Live d)) (fun _ _ iv _ => len - (intOf iv).toNat)
  case atStart => exact ⟨0, 0, [], rfl, rfl, rfl, Nat.zero_le _, Nat.zero_le _, Nat.le_refl _, Lib.hid ⟨rfl, HS.out⟩⟩
  case round =>
    rename World => wr
    clear HS
    obtain ⟨k, n, ms, rfl, rfl, rfl, hk, hk2, hnk, HI⟩ := hrel
    obtain ⟨hn, v, d, hj, hL⟩ := HI.out
    have hfl : fln ms n ≤ 1004 * n := by rw [hn]; exact hj.hs.few
    have HSZ : Hid (∀ z : List Nat, fln (ms ++ [z]) (n + 1) = fln ms n + (z.length + 4)) := Lib.hid (fun z => by
      have := fln_succ (ms ++ [z]) n (by simp; omega)
      rw [this, fln_app ms [z] n (by omega), hn, getD_snoc_eq])
    have HRo := Lib.hid (hj.reopen hL)
    rw [← hn] at HRo
    have HN := Lib.hid hn
    by_cases hlk : k < len
    · obtain ⟨ga, off, rfl, hga, hc⟩ := (HA.out.below hj.below).cell (by omega)
      obtain ⟨A1, n1, c1, k1, hy⟩ := hc k hlk
      have hys := hy.len
      have hy2 := hy.mono hj.below.size
      have hkI : (k : Int) < (len : Int) := by omega
      have HGA := Lib.hid hga
      generalize ls.getD k [] = zs at *
      have HT := Lib.hid (hj.note hL (by omega) A1 n1 c1 zs hy2)
      have HYS := Lib.hid hys
      have HBL := Lib.hid hj.below
      clear hc hy hy2 hj hL hys hn hga
      by_cases h40 : k = 40
      · subst h40
        go_wp2_with fail
        refine HRo.out.mono ?_
        rintro e w7 ⟨j7, A7, c7, v7, d7, rfl, hj7, hL7, -, -⟩
        have HLn := Lib.hid hj7.len
        have HSf := Lib.hid hj7.safe
        rw [← HN.out] at HLn
        have HB7 := Lib.hid hj7.below
        clear hj7 hL7 HRo
        generalize fln ms n = sz at *
        go_wp2_with fail
        refine HLn.out.mono ?_
        rintro e w8 ⟨rfl, rfl⟩
        go_wp2_with fail
        refine HSf.out.mono ?_
        rintro e w8 ⟨rfl, rfl⟩
        go_wp2_with fail
        go_ret
        exact ⟨rfl, HB7.out⟩
      · have d40 : decide ((40 : Int) ≤ (k : Int)) = false := decide_eq_false (by omega)
        by_cases h11 : 1100 < n1
        · have d11 : decide ((1100 : Int) < (n1 : Int)) = true := decide_eq_true (by omega)
          go_wp2_with fail
          refine HRo.out.mono ?_
          rintro e w7 ⟨j7, A7, c7, v7, d7, rfl, hj7, hL7, -, -⟩
          have HLn := Lib.hid hj7.len
          have HSf := Lib.hid hj7.safe
          rw [← HN.out] at HLn
          have HB7 := Lib.hid hj7.below
          clear hj7 hL7 HRo
          generalize fln ms n = sz at *
          go_wp2_with fail
          refine HLn.out.mono ?_
          rintro e w8 ⟨rfl, rfl⟩
          go_wp2_with fail
          refine HSf.out.mono ?_
          rintro e w8 ⟨rfl, rfl⟩
          go_wp2_with fail
          go_ret
          exact ⟨rfl, HB7.out⟩
        · have d11 : decide ((1100 : Int) < (n1 : Int)) = false := decide_eq_false (by omega)
          clear HRo
          by_cases h10 : 1000 < n1
          · rw [if_pos h10, if_pos h10] at HT
            have d10 : decide ((n1 : Int) ≤ 1000) = false := decide_eq_false (by omega)
            go_wp2_with fail
            refine HT.out.mono ?_
            rintro e w4 ⟨v4, d4, rfl, hj4, hL4, ht4⟩
            have HJ4 := Lib.hid hj4
            have HL4 := Lib.hid hL4
            have k1' : w4.cell? ⟨ga, off + k, none⟩ = some (.slice A1 n1 c1) := ((hj4.below.cell (p := ⟨ga, off + k, none⟩) HGA.out).trans ((HBL.out.cell (p := ⟨ga, off + k, none⟩) HGA.out).symm.trans k1))
            have HR4 := Lib.hid (hj4.read hL4)
            rw [← HN.out] at HR4
            clear hj4 hL4 ht4 HT HI k1
            generalize hsz : fln ms n = sz at *
            have HZ := Lib.hid hsz
            clear hsz
            go_wp2_with fail
            refine HR4.out.mono ?_
            rintro e w5 ⟨A5, c5, rfl, hb5⟩
            have k1 := (hb5.cell (p := ⟨ga, off + k, none⟩) (World.block_lt_of_cell? _ _ k1')).trans k1'
            have HJ5 := Lib.hid (HJ4.out.later hb5)
            have HLn := Lib.hid HJ5.out.len
            rw [← HN.out] at HLn
            clear hb5 HR4 HJ4 k1'
            go_wp2_with fail
            refine HLn.out.mono ?_
            rintro e w6 ⟨rfl, rfl⟩
            clear HLn
            go_wp2_with fail
            go_roundw
            case rel => exact ⟨k + 1, n, ms, rfl, by rw [HZ.out], by go_num, by omega, by omega, by omega, Lib.hid ⟨HN.out, _, _, HJ5.out, HL4.out⟩⟩
            case measure => simp [intOf]; omega
          · rw [if_neg h10, if_neg h10] at HT
            have d10 : decide ((n1 : Int) ≤ 1000) = true := decide_eq_true (by omega)
            go_wp2_with fail
            refine HT.out.mono ?_
            rintro e w4 ⟨v4, d4, rfl, hj4, hL4, ht4⟩
            have HJ4 := Lib.hid hj4
            have HL4 := Lib.hid hL4
            have k1' : w4.cell? ⟨ga, off + k, none⟩ = some (.slice A1 n1 c1) := ((hj4.below.cell (p := ⟨ga, off + k, none⟩) HGA.out).trans ((HBL.out.cell (p := ⟨ga, off + k, none⟩) HGA.out).symm.trans k1))
            have HN2 : Hid (n + 1 = (ms ++ [zs]).length) := Lib.hid (by rw [List.length_append, List.length_singleton, ← HN.out])
            have HR4 := Lib.hid (hj4.read hL4)
            rw [← HN2.out, HSZ.out zs, HYS.out] at HR4
            clear hj4 hL4 ht4 HT HI k1
            have HZ2 : Hid (fln (ms ++ [zs]) (n + 1) = fln ms n + (n1 + 4)) := Lib.hid (by rw [HSZ.out zs, HYS.out])
            generalize fln ms n = sz at *
            have hw1 : wrap64 ((n : Int) + 1) = ((n + 1 : Nat) : Int) := by unfold wrap64; omega
            have hw2 : wrap64 ((sz : Int) + ((n1 : Int) + 4)) = ((sz + (n1 + 4) : Nat) : Int) := by unfold wrap64; omega
            have hw3 : wrap64 ((n1 : Int) + 4) = (n1 : Int) + 4 := by unfold wrap64; omega
            go_wp2_with fail
            refine HR4.out.mono ?_
            rintro e w5 ⟨A5, c5, rfl, hb5⟩
            have k1 := (hb5.cell (p := ⟨ga, off + k, none⟩) (World.block_lt_of_cell? _ _ k1')).trans k1'
            have HJ5 := Lib.hid (HJ4.out.later hb5)
            have HLn := Lib.hid HJ5.out.len
            rw [← HN2.out] at HLn
            clear hb5 HR4 HJ4 k1'
            go_wp2_with fail
            refine HLn.out.mono ?_
            rintro e w6 ⟨rfl, rfl⟩
            clear HLn
            go_wp2_with fail
            go_roundw
            case rel => exact ⟨k + 1, n + 1, ms ++ [zs], by go_num, by rw [HZ2.out]; go_num, by go_num, by omega, by omega, by omega, Lib.hid ⟨HN2.out, _, _, HJ5.out, HL4.out⟩⟩
            case measure => simp [intOf]; omega
    · obtain rfl : k = len := by omega
      clear hj hL hn
      go_wp2_with fail
      refine HRo.out.mono ?_
      rintro e w7 ⟨j7, A7, c7, v7, d7, rfl, hj7, hL7, -, -⟩
      have HLn := Lib.hid hj7.len
      have HSf := Lib.hid hj7.safe
      rw [← HN.out] at HLn
      have HB7 := Lib.hid hj7.below
      clear hj7 hL7 HRo
      generalize fln ms n = sz at *
      go_wp2_with fail
      refine HLn.out.mono ?_
      rintro e w8 ⟨rfl, rfl⟩
      go_wp2_with fail
      refine HSf.out.mono ?_
      rintro e w8 ⟨rfl, rfl⟩
      go_wp2_with fail
      go_ret
      exact ⟨rfl, HB7.out⟩
end Jr
end Go.Proofs.Ytnamnikelgcepaa
