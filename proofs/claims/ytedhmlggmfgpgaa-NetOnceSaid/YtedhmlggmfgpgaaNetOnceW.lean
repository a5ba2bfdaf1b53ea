/-
  NetOnce: the walk (written by tools/nwonce.py).
-/
import Derived.Test.YtedhmlggmfgpgaaNwM
import Derived.IntWalk
set_option linter.unusedVariables false
set_option maxRecDepth 100000
namespace Go.Proofs.Ytedhmlggmfgpgaa
namespace Nw
open Go.RowKit Bk

theorem Len_is {w : World} {base g : Nat} {v : Value} {P : List Value} {L : List ByteArray} (h : NAt w base g v P L) {z : Int} (hz : (L.length : Int) = z) : Calls Try.prog 18 #[.pointer (some ⟨g, 0, none⟩)] w fun e w' => e = .returned (.int .i64 z) ∧ w = w' := by
  subst hz
  exact Len_any h
theorem isA_no {n : Nat} {i : Int} {L : List ByteArray} (h : isA L.length i = false) : ouA i L = L ∧ gtA L i = ByteArray.empty := by
  unfold ouA gtA
  rw [h]
  exact ⟨rfl, rfl⟩
theorem isA_yes {i : Nat} {L : List ByteArray} (h : isA L.length (i : Int) = true) : i < L.length ∧ ouA (i : Int) L = ou i L ∧ gtA L (i : Int) = bat L i := by
  have h2 : 0 ≤ (i : Int) ∧ (i : Int) < (L.length : Int) := of_decide_eq_true h
  refine ⟨by omega, ?_, ?_⟩
  · unfold ouA; rw [h, if_pos rfl]; rfl
  · unfold gtA; rw [h, if_pos rfl]; rfl
set_option maxHeartbeats 4000000 in
theorem netOnce_walk (A : Option Addr) (n cap : Nat) (f : Nat → A13) (w : World) (h : Acts13 w.heap.size w A n cap f) (_ : True) :
    Calls Try.prog 4 #[.slice A n cap] w fun e w' => e = .returned (.bool true) ∧ Below w.heap.size w w' := by
  have HA := Lib.hid h
  have hmk := run_makeMap_str
  clear h
  go_enter Try.func4, Try.ntmps4
  go_wp2_with fail
  refine (shown13_any w).mono ?_
  rintro e w1 ⟨rfl, hb1⟩
  have HB1 := Lib.hid hb1
  clear hb1
  go_wp2_with fail
  refine (new_any w1).mono ?_
  rintro e w2 ⟨rfl, hn2, hb2⟩
  have HS0 := Lib.hid (Mo.start (hn2.lower HB1.out.size) (HB1.out.trans (hb2.mono HB1.out.size)))
  have HBR := Lib.hid HS0.out.below
  have HF := Lib.hid (few_any A n cap f (w2.alloc (.map #[] 0)) ⟨HA.out.le, HA.out.max, HA.out.nil, fun hn => by
    obtain ⟨g, off, e, hg, hc⟩ := (HA.out.below HBR.out).cell hn
    refine ⟨g, off, e, Nat.lt_of_lt_of_le hg HBR.out.size, fun j hj => ?_⟩
    obtain ⟨c0, ⟨A1, n1, c1, k1, k2⟩, c2⟩ := hc j hj
    exact ⟨c0, ⟨A1, n1, c1, k1, k2.raise HBR.out.size⟩, c2⟩, HA.out.fits⟩)
  clear hn2 hb2 HB1
  generalize w1.heap.size = g at *
  go_wp2_with fail
  generalize w2.alloc (.map #[] 0) = w3 at *
  generalize w2.heap.size = mb at *
  refine HF.out.mono ?_
  rintro e w4 ⟨rfl, m, hm, hm2, rfl, hsz⟩
  have HSZ := Lib.hid hsz
  have HS1 : Hid (∃ N v P L, N ≤ 0 ∧ L.length = 0 ∧ Mo w g mb N v P L (cnt L) w3) := Lib.hid ⟨_, _, _, _, Nat.le_refl _, rfl, HS0.out⟩
  have hcs : m ≤ cap := Nat.le_trans hm HA.out.le
  have hcs2 : cap ≤ 9223372036854775807 := by have := HA.out.max; unfold maxLen at this; omega
  clear hsz HF HS0 HBR hmk
  go_wp2_with fail
  go_loopw [6, 23] (fun av iv wr => ∃ (j k : Nat), av = .int .i64 (k : Int) ∧ iv = .int .i64 (j : Int) ∧ j ≤ m ∧ k ≤ j ∧ Hid (∃ N v P L, N ≤ j ∧ L.length = k ∧ Mo w g mb N v P L (cnt L) wr)) (fun _ iv _ => m - (intOf iv).toNat)
  case atStart => exact ⟨0, 0, rfl, rfl, Nat.zero_le _, Nat.le_refl _, HS1⟩
  case round =>
    rename World => wr
    clear HS1
    obtain ⟨j, k, rfl, rfl, hj, hkj, HI⟩ := hrel
    by_cases hlj : j < m
    · obtain ⟨N, v, P, L, hN, hLk, ht⟩ := HI.out
      obtain ⟨ga, off, rfl, hga, hc⟩ := (HA.out.below ht.below).cell (by omega)
      obtain ⟨k0, ⟨A1, n1, c1, k1, hy⟩, k2⟩ := hc j (by omega)
      have hfit := HA.out.fits j (by omega)
      have hs := HSZ.out j hlj
      have hjI : (j : Int) < (m : Int) := by omega
      have hga2 : ga < wr.heap.size := Nat.lt_of_lt_of_le hga ht.below.size
      generalize f j = fj at *
      obtain ⟨qk, s, x⟩ := fj
      have k0 : wr.cell? ⟨ga, off + j * 3, none⟩ = some (.int .u8 (qk : Int)) := k0
      have k1 : wr.cell? ⟨ga, off + j * 3 + 1, none⟩ = some (.slice A1 n1 c1) := k1
      have k2 : wr.cell? ⟨ga, off + j * 3 + 2, none⟩ = some (.int .i64 x) := k2
      have hq255 : qk ≤ 255 := hfit.1
      have HX : Hid (x ≤ 9223372036854775807) := Lib.hid hfit.2.2
      have HSS : Hid (s.size ≤ 10000) := Lib.hid hs
      have hn1 : n1 ≤ 10000 := by rw [← hy.size]; exact hs
      have HYW : Hid (Yb w.heap.size wr A1 n1 c1 s) := Lib.hid hy
      obtain ⟨b0, b1, b2⟩ := act3_cells wr qk A1 n1 c1 x
      have hbA := (Below.refl wr.heap.size wr).alloc (Nat.le_refl _) (.cells #[.int .u8 (qk : Int), .slice A1 n1 c1, .int .i64 x] 33)
      have HBA : Hid (Below w.heap.size wr (wr.alloc (.cells #[.int .u8 (qk : Int), .slice A1 n1 c1, .int .i64 x] 33))) := Lib.hid (hbA.mono ht.below.size)
      have HTA := Lib.hid (ht.later hbA)
      have HLT : Hid (∀ k, NF g v P k → k < wr.heap.size) := Lib.hid (fun k hk => (ht.na.blocks k hk).2)
      have hbx : wr.heap.size < (wr.alloc (.cells #[.int .u8 (qk : Int), .slice A1 n1 c1, .int .i64 x] 33)).heap.size := by simp
      have HK : Hid (N ≤ j ∧ L.length = k ∧ m ≤ 100) := Lib.hid ⟨hN, hLk, hm2⟩
      clear hc hga hfit hs hy hbA ht HI hN hLk
      rcases (by omega : qk % 5 = 0 ∨ qk % 5 = 1 ∨ qk % 5 = 2 ∨ qk % 5 = 3 ∨ qk % 5 = 4) with hr | hr | hr | hr | hr
      · have hrI : (qk : Int) % 5 = 0 := by omega
        have HS := Lib.hid (Send_any HTA.out.na HTA.out.below.size A1 n1 c1 s ((HYW.out.below HBA.out).raise HTA.out.below.size) (by omega))
        have hE : seE L = 0 := by unfold seE; rw [if_neg (by have := HK.out; omega)]
        have hL : seL L s = L ++ [s] := by unfold seL; rw [if_neg (by have := HK.out; omega)]
        rw [hE, hL] at HS
        clear hr k0 k1 k2 hE hL
        go_wp2_with fail
        generalize wr.alloc (.cells #[.int .u8 (qk : Int), .slice A1 n1 c1, .int .i64 x] 33) = wA at *
        generalize wr.heap.size = bx at *
        refine HS.out.mono ?_
        rintro e w4 ⟨v4, P4, rfl, hn4, ht4⟩
        have hM4 := HTA.out.step hn4 ht4
        have e1 : w4.cell? ⟨bx, 1, none⟩ = some (.slice A1 n1 c1) := (cell_block (ht4.block bx hbx (fun e => Nat.lt_irrefl _ (HLT.out _ e)))).trans b1
        have q4 := (HYW.out.below (HBA.out.trans (HTA.out.na.belowT ht4 (Below.refl _ _) HTA.out.below.size (Nat.le_refl _)))).conv
        have a4 := hM4.asked s (by have := HSS.out; omega)
        have hz := cnt_range L s
        obtain ⟨w5, hrun, hM5, hky⟩ := hM4.put s (by have := HSS.out; omega) (by have := HK.out; omega) (cnt L s + 1) (by have := HK.out; omega) (cnt_snoc L s)
        have HM5 := Lib.hid hM5
        have hz1 := hz.1
        have hz2 : cnt L s ≤ 1000 := by have := hz.2; have := HK.out; omega
        clear hn4 ht4 hM4 hM5 hky HS HTA HBA b0 b1 b2 hz HLT HYW HSS
        generalize cnt L s = z at *
        have HLn := Lib.hid (Len_is HM5.out.na (z := (k : Int) + 1) (by have := HK.out.2.1; simp; omega))
        go_wp2_with fail
        refine HLn.out.mono ?_
        rintro e w9 ⟨rfl, rfl⟩
        clear HLn
        go_wp2_with fail
        go_roundw
        case rel => exact ⟨j + 1, k + 1, by go_num, by go_num, by omega, by omega, Lib.hid ⟨N + 1, _, _, L ++ [s], by have := HK.out.1; omega, by have := HK.out.2.1; simp; omega, HM5.out⟩⟩
        case measure => simp [intOf]; omega
      · have hrI : (qk : Int) % 5 = 1 := by omega
        have HT := Lib.hid (Take_any HTA.out.na x HX.out)
        unfold TakeTold at HT
        clear hr k0 k1 k2
        cases hi : isA L.length x with
        | false =>
          obtain ⟨hou, hgt⟩ := isA_no (n := 0) hi
          rw [hi, hou, hgt] at HT
          clear hi hou hgt
          go_wp2_with fail
          refine HT.out.mono ?_
          rintro e w4 ⟨A4, c4, v4, P4, rfl, hy4, hn4, ht4, hs4⟩
          have HM4 := Lib.hid (HTA.out.step hn4 ht4)
          clear hy4 hn4 ht4 hs4 HT HTA b0 b1 b2
          have HLn := Lib.hid (Len_is HM4.out.na (z := (k : Int)) (by have := HK.out.2.1; omega))
          go_wp2_with fail
          refine HLn.out.mono ?_
          rintro e w9 ⟨rfl, rfl⟩
          clear HLn
          go_wp2_with fail
          go_roundw
          case rel => exact ⟨j + 1, k, by go_num, by go_num, by omega, by omega, Lib.hid ⟨N, _, _, L, by have := HK.out.1; omega, by exact HK.out.2.1, HM4.out⟩⟩
          case measure => simp [intOf]; omega
        | true =>
          have hi2 : 0 ≤ x ∧ x < (L.length : Int) := of_decide_eq_true hi
          obtain ⟨i, rfl⟩ := Int.eq_ofNat_of_zero_le hi2.1
          obtain ⟨hiL, hou, hgt⟩ := isA_yes hi
          rw [hi, hou, hgt] at HT
          have hsm := HTA.out.na.sm _ (bat_mem hiL)
          have hol := ou_len hiL
          have hct := cnt_there L i hiL
          have hcr := cnt_range L (bat L i)
          have hcou := cnt_ou L i hiL
          clear hi hi2 hou hgt
          go_wp2_with fail
          refine HT.out.mono ?_
          rintro e w4 ⟨A4, c4, v4, P4, rfl, hy4, hn4, ht4, hs4⟩
          have hM4 := HTA.out.step hn4 ht4
          have q4 := hy4.yb.conv
          have a4 := hM4.asked (bat L i) hsm
          obtain ⟨w5, hrun, hM5, hky⟩ := hM4.put (bat L i) hsm (by have := HK.out; omega) (cnt L (bat L i) - 1) (by have := HK.out; omega) hcou
          have a5 : (Instr.lookup 44 (.map (some mb)) (.string (bat L i)) false).run Try.prog w5 = .ok (.int .i64 (cnt L (bat L i) - 1)) w5 := by
            have := hM5.asked (bat L i) hsm
            rwa [hcou, if_pos rfl] at this
          have q5 : (convert 31 9 (.slice A4 (bat L i).size c4)).run Try.prog w5 = .ok (.string (bat L i)) w5 := (hky _ _ _ hy4).yb.conv
          have HM5 := Lib.hid hM5
          have hz1 := hct
          have hz2 : cnt L (bat L i) ≤ 1000 := by have := hcr.2; have := HK.out; omega
          have HOL : Hid ((ou i L).length + 1 = k) := Lib.hid (by rw [hol]; exact HK.out.2.1)
          obtain ⟨k', hk'⟩ : ∃ k', k = k' + 1 := ⟨(ou i L).length, HOL.out.symm⟩
          have hkI : (k : Int) - 1 = (k' : Int) := by omega
          clear hy4 hn4 ht4 hs4 hM4 hM5 hky HT HTA b0 b1 b2 hct hcr hcou hsm hol
          generalize cnt L (bat L i) = z at *
          generalize bat L i = s4 at *
          have HLn := Lib.hid (Len_is HM5.out.na (z := (k' : Int)) (by have := HOL.out; omega))
          go_wp2_with fail
          refine HLn.out.mono ?_
          rintro e w9 ⟨rfl, rfl⟩
          clear HLn
          go_wp2_with fail
          go_roundw
          case rel => exact ⟨j + 1, k', by go_num, by go_num, by omega, by omega, Lib.hid ⟨N + 1, _, _, ou i L, by have := HK.out.1; omega, by have := HOL.out; omega, HM5.out⟩⟩
          case measure => simp [intOf]; omega
      · have hrI : (qk : Int) % 5 = 2 := by omega
        have HT := Lib.hid (Peek_any HTA.out.na x)
        unfold PeekTold at HT
        clear hr k0 k1 k2
        cases hi : isA L.length x with
        | false =>
          rw [hi] at HT
          clear hi
          go_wp2_with fail
          refine HT.out.mono ?_
          rintro e w4 ⟨A4, c4, rfl, hy4, hb4⟩
          have HM4 := Lib.hid (HTA.out.later hb4)
          clear hy4 hb4 HT HTA b0 b1 b2
          generalize gtA L x = s4 at *
          have HLn := Lib.hid (Len_is HM4.out.na (z := (k : Int)) (by have := HK.out.2.1; omega))
          go_wp2_with fail
          refine HLn.out.mono ?_
          rintro e w9 ⟨rfl, rfl⟩
          clear HLn
          go_wp2_with fail
          go_roundw
          case rel => exact ⟨j + 1, k, by go_num, by go_num, by omega, by omega, Lib.hid ⟨N, _, _, L, by have := HK.out.1; omega, by exact HK.out.2.1, HM4.out⟩⟩
          case measure => simp [intOf]; omega
        | true =>
          have hi2 : 0 ≤ x ∧ x < (L.length : Int) := of_decide_eq_true hi
          obtain ⟨i, rfl⟩ := Int.eq_ofNat_of_zero_le hi2.1
          obtain ⟨hiL, _, hgt⟩ := isA_yes hi
          rw [hi, hgt] at HT
          have hsm := HTA.out.na.sm _ (bat_mem hiL)
          have hct := cnt_there L i hiL
          clear hi hi2 hgt
          go_wp2_with fail
          refine HT.out.mono ?_
          rintro e w4 ⟨A4, c4, rfl, hy4, hb4⟩
          have HM4 := Lib.hid (HTA.out.later hb4)
          have q4 := hy4.yb.conv
          have a4 := HM4.out.asked (bat L i) hsm
          have d4 : decide (cnt L (bat L i) < 1) = false := decide_eq_false (by omega)
          clear hy4 hb4 HT HTA b0 b1 b2 hsm
          generalize cnt L (bat L i) = z at *
          generalize bat L i = s4 at *
          have HLn := Lib.hid (Len_is HM4.out.na (z := (k : Int)) (by have := HK.out.2.1; omega))
          go_wp2_with fail
          refine HLn.out.mono ?_
          rintro e w9 ⟨rfl, rfl⟩
          clear HLn
          go_wp2_with fail
          go_roundw
          case rel => exact ⟨j + 1, k, by go_num, by go_num, by omega, by omega, Lib.hid ⟨N, _, _, L, by have := HK.out.1; omega, by exact HK.out.2.1, HM4.out⟩⟩
          case measure => simp [intOf]; omega
      · have hrI : (qk : Int) % 5 = 3 := by omega
        have HM4 := HTA
        clear hr k0 k1 k2 HTA
        have HLn := Lib.hid (Len_is HM4.out.na (z := (k : Int)) (by have := HK.out.2.1; omega))
        go_wp2_with fail
        refine HLn.out.mono ?_
        rintro e w9 ⟨rfl, rfl⟩
        clear HLn
        go_wp2_with fail
        go_roundw
        case rel => exact ⟨j + 1, k, by go_num, by go_num, by omega, by omega, Lib.hid ⟨N, _, _, L, by have := HK.out.1; omega, by exact HK.out.2.1, HM4.out⟩⟩
        case measure => simp [intOf]; omega
      · have hrI : (qk : Int) % 5 = 4 := by omega
        have HM4 := HTA
        clear hr k0 k1 k2 HTA
        have HLn := Lib.hid (Len_is HM4.out.na (z := (k : Int)) (by have := HK.out.2.1; omega))
        go_wp2_with fail
        refine HLn.out.mono ?_
        rintro e w9 ⟨rfl, rfl⟩
        clear HLn
        go_wp2_with fail
        go_roundw
        case rel => exact ⟨j + 1, k, by go_num, by go_num, by omega, by omega, Lib.hid ⟨N, _, _, L, by have := HK.out.1; omega, by exact HK.out.2.1, HM4.out⟩⟩
        case measure => simp [intOf]; omega
    · obtain rfl : j = m := by omega
      clear HA HSZ
      go_wp2_with fail
      go_loopw [90] (fun iv wq => ∃ t : Nat, iv = .int .i64 (t : Int) ∧ t ≤ k ∧ Hid (∃ N v P L, N ≤ j + t ∧ L.length + t = k ∧ Mo w g mb N v P L (cnt L) wq)) (fun iv _ => k - (intOf iv).toNat)
      case atStart => exact ⟨0, rfl, Nat.zero_le _, Lib.hid (by obtain ⟨N, v, P, L, h1, h2, h3⟩ := HI.out; exact ⟨N, v, P, L, h1, h2, h3⟩)⟩
      case round =>
        rename World => wq
        clear HI
        obtain ⟨t, rfl, ht, HI⟩ := hrel
        obtain ⟨N, v, P, L, hN, hLk, h4⟩ := HI.out
        have HT4 := Lib.hid h4
        have HK : Hid (N ≤ j + t ∧ L.length + t = k ∧ j ≤ 100) := Lib.hid ⟨hN, hLk, hm2⟩
        clear h4 HI hN
        by_cases hlt : t < k
        · have htI : (t : Int) < (k : Int) := by omega
          obtain ⟨i, hi⟩ : ∃ i, L.length = i + 1 := ⟨L.length - 1, by omega⟩
          have HLn := Lib.hid (Len_is HT4.out.na (z := (i : Int) + 1) (by omega))
          have hiA : isA L.length (i : Int) = true := decide_eq_true ⟨by omega, by omega⟩
          obtain ⟨hiL, hou, hgt⟩ := isA_yes hiA
          have HT := Lib.hid (Take_any HT4.out.na (i : Int) (by have := HT4.out.na.few; omega))
          unfold TakeTold at HT
          rw [hiA, hou, hgt] at HT
          have hsm := HT4.out.na.sm _ (bat_mem hiL)
          have hol := ou_len hiL
          have hct := cnt_there L i hiL
          have hcr := cnt_range L (bat L i)
          have hcou := cnt_ou L i hiL
          have hi1 : (i : Int) ≤ 1024 := by have := HT4.out.na.few; omega
          clear hou hgt hiA hLk
          go_wp2_with fail
          refine HLn.out.mono ?_
          rintro e w3 ⟨rfl, rfl⟩
          go_wp2_with fail
          refine HT.out.mono ?_
          rintro e w4 ⟨A4, c4, v4, P4, rfl, hy4, hn4, ht4, hs4⟩
          have hM4 := HT4.out.step hn4 ht4
          have q4 := hy4.yb.conv
          have a4 := hM4.asked (bat L i) hsm
          obtain ⟨w5, hrun, hM5, hky⟩ := hM4.put (bat L i) hsm (by have := HK.out; omega) (cnt L (bat L i) - 1) (by have := HK.out; omega) hcou
          have HM5 : Hid (∃ N v P L, N ≤ j + (t + 1) ∧ L.length + (t + 1) = k ∧ Mo w g mb N v P L (cnt L) w5) := Lib.hid ⟨N + 1, v4, P4, ou i L, by have := HK.out; omega, by have := HK.out; omega, hM5⟩
          have d4 : decide (cnt L (bat L i) < 1) = false := decide_eq_false (by omega)
          have hz2 : cnt L (bat L i) ≤ 2000 := by have := hcr.2; omega
          clear hy4 hn4 ht4 hs4 hM4 hM5 hky HT HT4 hcr hcou hsm hol HLn hi hiL
          generalize cnt L (bat L i) = z at *
          generalize bat L i = s4 at *
          go_wp2_with fail
          go_roundw
          case rel => exact ⟨t + 1, by go_num, by omega, HM5⟩
          case measure => simp [intOf]; omega
        · obtain rfl : t = k := by omega
          have HLn := Lib.hid (Len_is HT4.out.na (z := 0) (by omega))
          clear hLk
          go_wp2_with fail
          refine HLn.out.mono ?_
          rintro e w3 ⟨rfl, rfl⟩
          go_wp2_with fail
          go_ret
          exact ⟨rfl, HT4.out.below⟩
end Nw
end Go.Proofs.Ytedhmlggmfgpgaa
