/-
  TopNoted: the walk (written by tools/tnwalk.py).
-/
import Derived.Test.YtejldeecblppjaaDoorTnA
import Derived.Deep.QuietTactic
import Derived.BigQuiet
set_option linter.unusedVariables false
set_option maxRecDepth 100000
namespace Go.Proofs.YtejldeecblppjaaDoor
namespace Rc
open Go.RowKit Go.Maps Bp Ck
open Dk (IW)
open Tn

set_option maxHeartbeats 8000000 in
theorem topNoted_walk (A : Option Addr) (n cap : Nat) (f : Nat → Rq × Bool) (cut : Int) (hcut : -9223372036854775808 ≤ cut ∧ cut ≤ 9223372036854775807) (keep : Int) (hkeep : -9223372036854775808 ≤ keep ∧ keep ≤ 9223372036854775807) (w : World) (h : Nts w.heap.size w A n cap f) (hS : Shp w) :
    Calls Tryd.prog 9 #[.slice A n cap, .int .i64 cut, .int .i64 keep] w fun e w' => e = .returned (.bool true) ∧ Below w.heap.size w w' := by
  have HA := Lib.hid h
  have HSH := Lib.hid hS
  have HCUT : Hid (IW cut) := Lib.hid hcut
  have hle := h.le
  have hmx := h.max
  unfold maxLen at hmx
  clear h hS hcut hkeep
  go_enter Tryd.func9, Tryd.ntmps9
  go_wp2_with fail
  refine (Dk.new_any w).mono ?_
  rintro e w2 ⟨rfl, hn2, hb2⟩
  have HO := Lib.hid (Jr.open_new hb2 hn2)
  clear hn2 hb2
  go_wp2_with fail
  refine HO.out.mono ?_
  rintro e w3 ⟨j0, c3, v3, d3, A3, rfl, hj3, -⟩
  have HC : Hid (Calls Tryd.prog 23 #[.pointer (some ⟨w.heap.size, 0, none⟩), .int .i64 cut] w3 fun e w' => e = .returned (.tuple #[]) ∧ St w w' j0 (.slice none 0 0) [] 0) := Lib.hid (St.cut (w0 := w) (w := w3) (j := j0) (av := .slice none 0 0) (Q := []) (s := 0) ⟨⟨v3, d3, hj3⟩, World.ownsRow_nil _ _ _ _, fun x hx => by simp at hx⟩ cut HCUT.out)
  clear hj3 HO
  go_wp2_with fail
  refine HC.out.mono ?_
  rintro e w4 ⟨rfl, hs4⟩
  have HS4 := Lib.hid hs4
  clear hs4 HC
  go_wp2_with fail
  go_loopw [11, 12, 42] (fun av sv iv wr => ∃ (k s : Nat) (Q : List Rq), sv = .int .i64 (s : Int) ∧ iv = .int .i64 (k : Int) ∧ k ≤ n ∧ k ≤ 60 ∧ Hid (Q.length ≤ k ∧ St w wr j0 av Q s)) (fun _ _ iv _ => n - (intOf iv).toNat)
  case atStart => exact ⟨0, 0, [], rfl, rfl, Nat.zero_le _, Nat.zero_le _, Lib.hid ⟨Nat.le_refl _, HS4.out⟩⟩
  case round =>
    rename World => wr
    clear HS4
    obtain ⟨k, s, Q, rfl, rfl, hk, hk60, HI⟩ := hrel
    obtain ⟨hn, hst⟩ := HI.out
    have HN := Lib.hid hn
    have HST := Lib.hid hst
    clear hn hst HI
    obtain ⟨vA, vc, rfl⟩ := HST.out.row.form
    by_cases hlk : k < n
    · obtain ⟨g, off, K, fi, fr, fp, fc, fq, b, rfl, k0, k1, k2, k3, k4, k5, k6⟩ := HA.out.at HST.out.below k hlk
      have hkI : (k : Int) < (n : Int) := by omega
      have HBX : Hid ((wr.alloc (.cells #[.int .u8 (K : Int), .int .i64 fi, .int .i64 fr, .int .i64 fp, .int .i64 fc, .int .i64 fq, .bool b] 51)).heap[wr.heap.size]? = some (.cells #[.int .u8 (K : Int), .int .i64 fi, .int .i64 fr, .int .i64 fp, .int .i64 fc, .int .i64 fq, .bool b] 51 (0, 0))) := Lib.hid (heap_alloc_new wr _)
      have HSA := Lib.hid (HST.out.later (below_new wr (.cells #[.int .u8 (K : Int), .int .i64 fi, .int .i64 fr, .int .i64 fp, .int .i64 fc, .int .i64 fq, .bool b] 51)))
      clear HST
      by_cases h60 : k = 60
      · have hk6 : (60 : Int) ≤ (k : Int) := by omega
        clear HBX h60
        obtain ⟨i, i1, i2, hT⟩ := HSA.out.crash keep
        have HT := Lib.hid hT
        have HLE := Lib.hid HSA.out.le
        obtain ⟨N, hNQ⟩ : ∃ N, N = Q.length := ⟨_, rfl⟩
        rw [← hNQ] at i2 HT HSA ⊢
        have HNQ := Lib.hid hNQ
        have I1 := Lib.hid i1
        have I2 := Lib.hid i2
        clear hT hNQ i1 i2
        go_wp2_with fail
        refine HT.out.mono ?_
        rintro e w7 ⟨rfl, hO⟩
        have HO := Lib.hid hO
        clear hO HT HSA
        go_wp2_with fail
        refine HO.out.mono ?_
        rintro e w8 ⟨j8, A8, c8, rfl, hf8⟩
        have HF8 := Lib.hid hf8
        have g1 : ¬ (i : Int) < (s : Int) := by have := I1.out; omega
        have g2 : ¬ (N : Int) < (i : Int) := by have := I2.out; omega
        have d1 : decide ((i : Int) < (s : Int)) = false := decide_eq_false g1
        have d2 : decide ((N : Int) < (i : Int)) = false := decide_eq_false g2
        have d3 : decide (i < s) = false := decide_eq_false (by omega)
        have d4 : decide (N < i) = false := decide_eq_false (by omega)
        have hc8 := hf8.found.le
        have hm8 := hf8.found.max
        unfold maxLen at hm8
        clear hf8 HO
        go_wp2_with fail
        go_loopw [105] (fun iv wz => ∃ t : Nat, iv = .int .i64 (t : Int) ∧ t ≤ i ∧ Hid (Tn.Fd w wz (.slice vA N vc) Q A8 i c8)) (fun iv _ => i - (intOf iv).toNat)
        case atStart => exact ⟨0, rfl, Nat.zero_le _, HF8⟩
        case round =>
          rename World => wz
          clear HF8
          obtain ⟨t, rfl, ht, HF⟩ := hrel
          by_cases hlt : t < i
          · obtain ⟨⟨K, fi, fr, fp, fc, fq⟩, hx, ⟨gf, off, rfl, A1, n1, c1, k0, hn1, hy⟩, ga, rfl, hga, hc⟩ := HF.out.one HNQ.out hlt I2.out
            have hS := HSH.out.below HF.out.below HSH.out.pos
            have HTK := Lib.hid (take_rec K fi fr fp fc fq hx hS hy)
            have htI : (t : Int) < (i : Int) := by omega
            have htN : (t : Int) < (N : Int) := by have := I2.out; omega
            have hc9 : ∀ {w' : World}, Below wz.heap.size wz w' → ∀ t', t' < 6 → w'.cell? ⟨ga, t * 6 + t', none⟩ = (rcl (K, fi, fr, fp, fc, fq))[t']? := fun hb t' ht' => (hb.cell (p := ⟨ga, t * 6 + t', none⟩) hga).trans (hc t' ht')
            clear hx hy hS hc hga
            go_wp2_with fail
            refine HTK.out.mono ?_
            rintro e w9 ⟨rfl, hb9⟩
            have hal := below_new w9 (.cells #[.int .u8 (K : Int), .int .i64 fi, .int .i64 fr, .int .i64 fp, .int .i64 fc, .int .i64 fq] 23)
            have hf9 := (HF.out.later hb9).later hal
            have y0 := hc9 (hb9.trans (hal.mono hb9.size)) 0 (by omega)
            have y1 := hc9 (hb9.trans (hal.mono hb9.size)) 1 (by omega)
            have y2 := hc9 (hb9.trans (hal.mono hb9.size)) 2 (by omega)
            have y3 := hc9 (hb9.trans (hal.mono hb9.size)) 3 (by omega)
            have y4 := hc9 (hb9.trans (hal.mono hb9.size)) 4 (by omega)
            have y5 := hc9 (hb9.trans (hal.mono hb9.size)) 5 (by omega)
            simp only [rcl, Nat.add_zero, List.getElem?_cons_zero, List.getElem?_cons_succ] at y0 y1 y2 y3 y4 y5
            have HF9 := Lib.hid hf9
            clear hf9 hc9 hb9 hal HTK HF k0
            go_wp2_with fail
            go_big_quiet (fail)
            have hbd := fun (W : World) (m : Nat) => (drawn_below ⟨m, rfl⟩ : Below W.heap.size W (W.drewN m))
            have HFB := Lib.hid (HF9.out.later (hbd _ nq))
            clear hbd HF9 y0 y1 y2 y3 y4 y5
            go_wp2_with fail
            go_roundw
            case rel => exact ⟨t + 1, by go_num, by omega, HFB⟩
            case measure => simp [intOf]; omega
          · obtain rfl : t = i := by omega
            have HBE := Lib.hid HF.out.below
            clear HF
            go_wp2_with fail
            go_ret
            exact ⟨rfl, HBE.out⟩
      · have hk6 : ¬ (60 : Int) ≤ (k : Int) := by omega
        obtain ⟨b0, b1, b2, b3, b4, b5, b6⟩ := box_cells HBX.out
        have hSA := HSH.out.below HSA.out.below HSH.out.pos
        by_cases hok : rok (K, fi, fr, fp, fc, fq)
        · have HOK := Lib.hid hok
          have HLA := Lib.hid (lay_rec K fi fr fp fc fq hok hSA)
          clear hok hSA
          go_wp2_with fail
          generalize wr.alloc (.cells #[.int .u8 (K : Int), .int .i64 fi, .int .i64 fr, .int .i64 fp, .int .i64 fc, .int .i64 fq, .bool b] 51) = wB at *
          generalize wr.heap.size = bx at *
          refine HLA.out.mono ?_
          rintro e w5 ⟨A5, m5, c5, rfl, hy5, hb5⟩
          have hs5 := HSA.out.later hb5
          have HBX5 := Lib.hid (kb_later hb5 _ _ _ HBX.out)
          have HNO := Lib.hid (hs5.note (by have := HN.out; omega) HOK.out A5 m5 c5 hy5)
          clear hs5 hy5 hb5 HSA HLA HBX b0 b1 b2 b3 b4 b5 b6 k0 k1 k2 k3 k4 k5 k6
          go_wp2_with fail
          refine HNO.out.mono ?_
          rintro e w6 ⟨hkb6, ⟨rfl, hs6⟩ | ⟨rfl, hs6⟩⟩
          · have HBX6 := Lib.hid (hkb6 _ _ _ HBX5.out)
            obtain ⟨b0, b1, b2, b3, b4, b5, b6⟩ := box_cells HBX6.out
            have HS6 := Lib.hid hs6
            clear hkb6 hs6 HNO HBX5
            go_wp2_with (at_builtin; refine app_rec rfl _ _ rfl _ Q rfl (K, fi, fr, fp, fc, fq) HS6.out rfl rfl (by have := HN.out; omega) ?_)
            intro A7 c7 w7 hs7 hkb7
            obtain ⟨L, hL⟩ : ∃ L, L = Q.length + 1 := ⟨_, rfl⟩
            have hLQ : (Q ++ [(K, fi, fr, fp, fc, fq)]).length = L := by rw [hL]; simp
            rw [← hL] at hs7 ⊢
            have HLN : Hid (L ≤ k + 1) := Lib.hid (by have := HN.out; omega)
            have HLQ := Lib.hid hLQ
            have HBX7 := Lib.hid (hkb7 _ _ _ HBX6.out)
            clear b0 b1 b2 b3 b4 b5 b6
            obtain ⟨b0, b1, b2, b3, b4, b5, b6⟩ := box_cells HBX7.out
            have HS7 := Lib.hid hs7
            clear hs7 hkb7 hL hLQ HS6 HBX6 HBX7
            cases b with
            | false =>
              go_wp2_with fail
              go_roundw
              case rel => exact ⟨k + 1, s, Q ++ [(K, fi, fr, fp, fc, fq)], rfl, by go_num, by omega, by omega, Lib.hid ⟨by rw [HLQ.out]; exact HLN.out, HS7.out⟩⟩
              case measure => simp [intOf]; omega
            | true =>
              have hsy := HS7.out.sync
              rw [HLQ.out] at hsy
              have HSY := Lib.hid hsy
              clear hsy HS7
              go_wp2_with fail
              refine HSY.out.mono ?_
              rintro e w8 ⟨hkb8, ⟨rfl, hs8⟩ | ⟨rfl, hs8⟩⟩
              · have HS8 := Lib.hid hs8
                clear hs8 hkb8 HSY b0 b1 b2 b3 b4 b5 b6
                go_wp2_with fail
                go_roundw
                case rel => exact ⟨k + 1, L, Q ++ [(K, fi, fr, fp, fc, fq)], rfl, by go_num, by omega, by omega, Lib.hid ⟨by rw [HLQ.out]; exact HLN.out, HS8.out⟩⟩
                case measure => simp [intOf]; omega
              · have HS8 := Lib.hid hs8
                clear hs8 hkb8 HSY b0 b1 b2 b3 b4 b5 b6
                go_wp2_with fail
                go_roundw
                case rel => exact ⟨k + 1, s, Q ++ [(K, fi, fr, fp, fc, fq)], rfl, by go_num, by omega, by omega, Lib.hid ⟨by rw [HLQ.out]; exact HLN.out, HS8.out⟩⟩
                case measure => simp [intOf]; omega
          · have HBX6 := Lib.hid (hkb6 _ _ _ HBX5.out)
            obtain ⟨b0, b1, b2, b3, b4, b5, b6⟩ := box_cells HBX6.out
            have HS6 := Lib.hid hs6
            clear hkb6 hs6 HNO HBX5 HBX6
            cases b with
            | false =>
              go_wp2_with fail
              go_roundw
              case rel => exact ⟨k + 1, s, Q, rfl, by go_num, by omega, by omega, Lib.hid ⟨by have := HN.out; omega, HS6.out⟩⟩
              case measure => simp [intOf]; omega
            | true =>
              have HSY := Lib.hid HS6.out.sync
              clear HS6
              go_wp2_with fail
              refine HSY.out.mono ?_
              rintro e w8 ⟨hkb8, ⟨rfl, hs8⟩ | ⟨rfl, hs8⟩⟩
              · have HS8 := Lib.hid hs8
                clear hs8 hkb8 HSY b0 b1 b2 b3 b4 b5 b6
                go_wp2_with fail
                go_roundw
                case rel => exact ⟨k + 1, Q.length, Q, rfl, by go_num, by omega, by omega, Lib.hid ⟨by have := HN.out; omega, HS8.out⟩⟩
                case measure => simp [intOf]; omega
              · have HS8 := Lib.hid hs8
                clear hs8 hkb8 HSY b0 b1 b2 b3 b4 b5 b6
                go_wp2_with fail
                go_roundw
                case rel => exact ⟨k + 1, s, Q, rfl, by go_num, by omega, by omega, Lib.hid ⟨by have := HN.out; omega, HS8.out⟩⟩
                case measure => simp [intOf]; omega
        · have HLA := Lib.hid (lay_no K fi fr fp fc fq _ hok hSA)
          have HOK : Hid (¬ Rok K (five fi fr fp fc fq)) := Lib.hid hok
          clear hok hSA
          go_wp2_with fail
          generalize wr.alloc (.cells #[.int .u8 (K : Int), .int .i64 fi, .int .i64 fr, .int .i64 fp, .int .i64 fc, .int .i64 fq, .bool b] 51) = wB at *
          generalize wr.heap.size = bx at *
          refine HLA.out.mono ?_
          rintro e w5 ⟨rfl, hb5⟩
          have hs5 := HSA.out.later hb5
          have hr := right_any K fi fr fp fc fq w5 (HSH.out.below hs5.below HSH.out.pos)
          unfold RightTold at hr
          rw [decide_eq_false HOK.out] at hr
          have HR := Lib.hid hr
          have HS5 := Lib.hid hs5
          have HBX5 := Lib.hid (kb_later hb5 _ _ _ HBX.out)
          clear hs5 hb5 hr HSA HLA HBX b0 b1 b2 b3 b4 b5 b6 k0 k1 k2 k3 k4 k5 k6
          obtain ⟨b0, b1, b2, b3, b4, b5, b6⟩ := box_cells HBX5.out
          go_wp2_with fail
          refine HR.out.mono ?_
          rintro e w6 ⟨rfl, hb6⟩
          have HS6 := Lib.hid (HS5.out.later hb6)
          clear hb6 HS5 HR HBX5 b0 b1 b2 b3 b4 b5 b6
          go_wp2_with fail
          go_roundw
          case rel => exact ⟨k + 1, s, Q, rfl, by go_num, by omega, by omega, Lib.hid ⟨by have := HN.out; omega, HS6.out⟩⟩
          case measure => simp [intOf]; omega
    · obtain rfl : k = n := by omega
      obtain ⟨i, i1, i2, hT⟩ := HST.out.crash keep
      have HT := Lib.hid hT
      have HLE := Lib.hid HST.out.le
      obtain ⟨N, hNQ⟩ : ∃ N, N = Q.length := ⟨_, rfl⟩
      rw [← hNQ] at i2 HT HST ⊢
      have HNQ := Lib.hid hNQ
      have I1 := Lib.hid i1
      have I2 := Lib.hid i2
      clear hT hNQ i1 i2
      go_wp2_with fail
      refine HT.out.mono ?_
      rintro e w7 ⟨rfl, hO⟩
      have HO := Lib.hid hO
      clear hO HT HST
      go_wp2_with fail
      refine HO.out.mono ?_
      rintro e w8 ⟨j8, A8, c8, rfl, hf8⟩
      have HF8 := Lib.hid hf8
      have g1 : ¬ (i : Int) < (s : Int) := by have := I1.out; omega
      have g2 : ¬ (N : Int) < (i : Int) := by have := I2.out; omega
      have d1 : decide ((i : Int) < (s : Int)) = false := decide_eq_false g1
      have d2 : decide ((N : Int) < (i : Int)) = false := decide_eq_false g2
      have d3 : decide (i < s) = false := decide_eq_false (by omega)
      have d4 : decide (N < i) = false := decide_eq_false (by omega)
      have hc8 := hf8.found.le
      have hm8 := hf8.found.max
      unfold maxLen at hm8
      clear hf8 HO
      go_wp2_with fail
      go_loopw [105] (fun iv wz => ∃ t : Nat, iv = .int .i64 (t : Int) ∧ t ≤ i ∧ Hid (Tn.Fd w wz (.slice vA N vc) Q A8 i c8)) (fun iv _ => i - (intOf iv).toNat)
      case atStart => exact ⟨0, rfl, Nat.zero_le _, HF8⟩
      case round =>
        rename World => wz
        clear HF8
        obtain ⟨t, rfl, ht, HF⟩ := hrel
        by_cases hlt : t < i
        · obtain ⟨⟨K, fi, fr, fp, fc, fq⟩, hx, ⟨gf, off, rfl, A1, n1, c1, k0, hn1, hy⟩, ga, rfl, hga, hc⟩ := HF.out.one HNQ.out hlt I2.out
          have hS := HSH.out.below HF.out.below HSH.out.pos
          have HTK := Lib.hid (take_rec K fi fr fp fc fq hx hS hy)
          have htI : (t : Int) < (i : Int) := by omega
          have htN : (t : Int) < (N : Int) := by have := I2.out; omega
          have hc9 : ∀ {w' : World}, Below wz.heap.size wz w' → ∀ t', t' < 6 → w'.cell? ⟨ga, t * 6 + t', none⟩ = (rcl (K, fi, fr, fp, fc, fq))[t']? := fun hb t' ht' => (hb.cell (p := ⟨ga, t * 6 + t', none⟩) hga).trans (hc t' ht')
          clear hx hy hS hc hga
          go_wp2_with fail
          refine HTK.out.mono ?_
          rintro e w9 ⟨rfl, hb9⟩
          have hal := below_new w9 (.cells #[.int .u8 (K : Int), .int .i64 fi, .int .i64 fr, .int .i64 fp, .int .i64 fc, .int .i64 fq] 23)
          have hf9 := (HF.out.later hb9).later hal
          have y0 := hc9 (hb9.trans (hal.mono hb9.size)) 0 (by omega)
          have y1 := hc9 (hb9.trans (hal.mono hb9.size)) 1 (by omega)
          have y2 := hc9 (hb9.trans (hal.mono hb9.size)) 2 (by omega)
          have y3 := hc9 (hb9.trans (hal.mono hb9.size)) 3 (by omega)
          have y4 := hc9 (hb9.trans (hal.mono hb9.size)) 4 (by omega)
          have y5 := hc9 (hb9.trans (hal.mono hb9.size)) 5 (by omega)
          simp only [rcl, Nat.add_zero, List.getElem?_cons_zero, List.getElem?_cons_succ] at y0 y1 y2 y3 y4 y5
          have HF9 := Lib.hid hf9
          clear hf9 hc9 hb9 hal HTK HF k0
          go_wp2_with fail
          go_big_quiet (fail)
          have hbd := fun (W : World) (m : Nat) => (drawn_below ⟨m, rfl⟩ : Below W.heap.size W (W.drewN m))
          have HFB := Lib.hid (HF9.out.later (hbd _ nq))
          clear hbd HF9 y0 y1 y2 y3 y4 y5
          go_wp2_with fail
          go_roundw
          case rel => exact ⟨t + 1, by go_num, by omega, HFB⟩
          case measure => simp [intOf]; omega
        · obtain rfl : t = i := by omega
          have HBE := Lib.hid HF.out.below
          clear HF
          go_wp2_with fail
          go_ret
          exact ⟨rfl, HBE.out⟩
end Rc
end Go.Proofs.YtejldeecblppjaaDoor
