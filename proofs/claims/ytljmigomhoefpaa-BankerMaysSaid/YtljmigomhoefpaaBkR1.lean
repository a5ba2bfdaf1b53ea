/-
  Layer 8, the document's answers: in, zones, Right, can.
-/
import Derived.Test.YtljmigomhoefpaaBkK
set_option linter.unusedVariables false
set_option maxRecDepth 100000
namespace Go.Proofs.Ytljmigomhoefpaa.Bk
open Go.RowKit

set_option maxHeartbeats 1000000 in
theorem rin_any (z : Int) (A : Option Addr) (n c B : Nat) (L : List Int) (w : World) (h : Lt B w A n c L) : Calls Try.prog 26 #[.int .i64 z, .slice A n c] w (ToldE (z ∈ L) w) := by
  have HL := Lib.hid h
  have HN := Lib.hid h.len
  have s1 := (Gt.size h).1
  have s2 := (Gt.size h).2
  clear h
  go_enter Try.func26, Try.ntmps26
  go_wp2_with fail
  go_loop [5] (fun iv => ∃ j : Nat, j ≤ n ∧ iv = .int .i64 (j : Int) ∧ Hid (∀ t, t < j → L.getD t 0 ≠ z)) (fun iv => n - (intOf iv).toNat)
  case atStart => exact ⟨0, Nat.zero_le _, rfl, Lib.hid (fun t ht => by omega)⟩
  case round =>
    obtain ⟨j, hj, rfl, HJ⟩ := hrel
    by_cases hlt : j < n
    · obtain ⟨g, off, rfl, hg, q1⟩ := HL.out.cell hlt
      have HXM : Hid (L.getD j 0 ∈ L) := Lib.hid (getD_mem (by rw [HN.out]; exact hlt))
      obtain ⟨x, hx⟩ : ∃ x, x = L.getD j 0 := ⟨_, rfl⟩
      rw [← hx] at q1 HXM
      have HX := Lib.hid hx
      clear hx
      by_cases he : x = z
      · have d1 : (x == z) = true := by rw [beq_iff_eq]; exact he
        have HT : Hid (z ∈ L) := Lib.hid (by rw [← he]; exact HXM.out)
        clear he
        go_wp2_with fail
        go_ret
        exact ⟨true, rfl, iff_of_true rfl HT.out, rfl⟩
      · have d1 : (x == z) = false := by rw [beq_eq_false_iff_ne]; exact he
        have HE := Lib.hid he
        clear he
        go_wp2_with fail
        go_round
        case rel => exact ⟨j + 1, by omega, by go_num, Lib.hid (fun t ht => by
          rcases Nat.lt_succ_iff_lt_or_eq.1 ht with h | h
          · exact HJ.out t h
          · subst h; rw [← HX.out]; exact HE.out)⟩
        case measure => simp [intOf]; omega
    · obtain rfl : j = n := by omega
      have HNO : Hid (z ∉ L) := Lib.hid (fun h => by
        obtain ⟨i, hi, e⟩ := mem_getD (d := 0) h
        exact HJ.out i (by rw [← HN.out]; exact hi) e)
      go_wp2_with fail
      go_ret
      exact ⟨false, rfl, iff_of_false (by decide) HNO.out, rfl⟩
theorem rin_is {z : Int} {A : Option Addr} {n c B : Nat} {L : List Int} {w : World} (h : Lt B w A n c L) (b : Bool) (hb : b = true ↔ z ∈ L) : Calls Try.prog 26 #[.int .i64 z, .slice A n c] w fun e w' => e = .returned (.bool b) ∧ w' = w :=
  (rin_any z A n c B L w h).mono fun e w' ⟨b', h1, h2, h3⟩ => ⟨by
    rw [h1]
    have : b' = b := by
      cases b with
      | true => exact h2.2 (hb.1 rfl)
      | false => exact Bool.eq_false_iff.2 (fun e => by have := hb.2 (h2.1 e); cases this)
    rw [this], h3.symm⟩
set_option maxHeartbeats 1000000 in
theorem rzones_any (A : Option Addr) (n c B : Nat) (L : List Int) (w : World) (h : Lt B w A n c L) : Calls Try.prog 25 #[.slice A n c] w (ToldE (∀ z ∈ L, Zn z) w) := by
  have HL := Lib.hid h
  have HN := Lib.hid h.len
  have s1 := (Gt.size h).1
  have s2 := (Gt.size h).2
  clear h
  go_enter Try.func25, Try.ntmps25
  go_wp2_with fail
  go_loop [3] (fun iv => ∃ j : Nat, j ≤ n ∧ iv = .int .i64 (j : Int) ∧ Hid (∀ t, t < j → Zn (L.getD t 0))) (fun iv => n - (intOf iv).toNat)
  case atStart => exact ⟨0, Nat.zero_le _, rfl, Lib.hid (fun t ht => by omega)⟩
  case round =>
    obtain ⟨j, hj, rfl, HJ⟩ := hrel
    by_cases hlt : j < n
    · obtain ⟨g, off, rfl, hg, q1⟩ := HL.out.cell hlt
      have HXM : Hid (L.getD j 0 ∈ L) := Lib.hid (getD_mem (by rw [HN.out]; exact hlt))
      obtain ⟨x, hx⟩ : ∃ x, x = L.getD j 0 := ⟨_, rfl⟩
      rw [← hx] at q1 HXM
      have HX := Lib.hid hx
      clear hx
      by_cases h1 : x < 0
      · have d1 : decide (x < 0) = true := decide_eq_true h1
        have HT : Hid (¬ ∀ z ∈ L, Zn z) := Lib.hid (fun h => by have := (h x HXM.out).1; omega)
        go_wp2_with fail
        go_ret
        exact ⟨false, rfl, iff_of_false (by decide) HT.out, rfl⟩
      · have d1 : decide (x < 0) = false := decide_eq_false h1
        by_cases h2 : 26 ≤ x
        · have d2 : decide (26 ≤ x) = true := decide_eq_true h2
          have HT : Hid (¬ ∀ z ∈ L, Zn z) := Lib.hid (fun h => by have := (h x HXM.out).2; omega)
          go_wp2_with fail
          go_ret
          exact ⟨false, rfl, iff_of_false (by decide) HT.out, rfl⟩
        · have d2 : decide (26 ≤ x) = false := decide_eq_false h2
          have HE : Hid (Zn x) := Lib.hid ⟨by omega, by omega⟩
          go_wp2_with fail
          go_round
          case rel => exact ⟨j + 1, by omega, by go_num, Lib.hid (fun t ht => by
            rcases Nat.lt_succ_iff_lt_or_eq.1 ht with h | h
            · exact HJ.out t h
            · subst h; rw [← HX.out]; exact HE.out)⟩
          case measure => simp [intOf]; omega
    · obtain rfl : j = n := by omega
      have HY : Hid (∀ z ∈ L, Zn z) := Lib.hid (fun z h => by
        obtain ⟨i, hi, rfl⟩ := mem_getD (d := 0) h
        exact HJ.out i (by rw [← HN.out]; exact hi))
      go_wp2_with fail
      go_ret
      exact ⟨true, rfl, iff_of_true rfl HY.out, rfl⟩
/-- What has been seen of the claims is right. -/
structure Rs (C : Cm) (i : Nat) : Prop where
  zones : ∀ t, t < i → (∀ z ∈ hold C t, Zn z) ∧ ∀ z ∈ need C t, Zn z
  apart : ∀ s t, s < t → t < i → ∀ z ∈ hold C t, z ∉ hold C s
theorem Rs.right {C : Cm} (h : Rs C C.length) (h8 : C.length ≤ 8) : Rg C := by
  refine ⟨h8, h.zones, fun i j hi hj hne z hz hz' => ?_⟩
  rcases Nat.lt_or_ge i j with q | q
  · exact h.apart i j q hj z hz' hz
  · exact h.apart j i (by omega) hi z hz hz'
set_option maxHeartbeats 4000000 in
theorem rright_any (A : Option Addr) (n cap : Nat) (C : Cm) (w : World) (h : Cl w.heap.size w A n cap C) : Calls Try.prog 15 #[.slice A n cap] w (Told8 (Rg C) w) := by
  have HC := Lib.hid h
  have HN := Lib.hid h.len
  have hs := h.size
  have hs1 := hs.1
  have hs2 := hs.2
  clear h hs
  by_cases h8 : n ≤ 8
  · go_enter Try.func15, Try.ntmps15
    go_wp2_with fail
    go_loopw [3] (fun iv wr => ∃ i : Nat, i ≤ n ∧ iv = .int .i64 (i : Int) ∧ Hid (Rs C i ∧ Below w.heap.size w wr)) (fun iv _ => n - (intOf iv).toNat)
    case atStart => exact ⟨0, Nat.zero_le _, rfl, Lib.hid ⟨⟨fun t ht => by omega, fun s t _ ht => by omega⟩, Below.refl _ _⟩⟩
    case round =>
      rename World => wr
      obtain ⟨i, hi, rfl, HI⟩ := hrel
      by_cases hlt : i < n
      · obtain ⟨g, off, a1, n1, c1, a2, n2, c2, rfl, hg, q1, q2, k1, k2⟩ := (HC.out.below HI.out.2).cell hlt
        have HK1 := Lib.hid k1
        have HK2 := Lib.hid k2
        have HQ1 := Lib.hid q1
        have HG := Lib.hid hg
        have HL1 := Lib.hid k1.len
        have s1 := (Gt.size k1).1
        have s2 := (Gt.size k1).2
        clear k1 k2 hg
        by_cases hz1 : ∀ z ∈ hold C i, Zn z
        · have HZ1 := Lib.hid hz1
          by_cases hz2 : ∀ z ∈ need C i, Zn z
          · have HZ2 := Lib.hid hz2
            clear hz1 hz2
            go_wp2_with fail
            refine (rzones_any a1 n1 c1 _ (hold C i) _ HK1.out).mono ?_
            rintro e w' ⟨b, rfl, hb, rfl⟩
            obtain rfl : b = true := hb.2 HZ1.out
            clear hb
            go_wp2_with fail
            refine (rzones_any a2 n2 c2 _ (need C i) _ HK2.out).mono ?_
            rintro e w' ⟨b, rfl, hb, rfl⟩
            obtain rfl : b = true := hb.2 HZ2.out
            clear hb q2 q1
            go_wp2_with fail
            go_loopw [4] (fun kv wy => ∃ k : Nat, k ≤ i ∧ kv = .int .i64 (k : Int) ∧ Hid ((∀ s, s < k → ∀ z ∈ hold C i, z ∉ hold C s) ∧ Below wr.heap.size wr wy)) (fun kv _ => i - (intOf kv).toNat)
            case atStart => exact ⟨0, Nat.zero_le _, rfl, Lib.hid ⟨fun s hs => by omega, Below.refl _ _⟩⟩
            case round =>
              rename World => wy
              obtain ⟨k, hk, rfl, HK⟩ := hrel
              by_cases hlt2 : k < i
              · go_wp2_with fail
                go_loopw [5] (fun jv wz => ∃ j : Nat, j ≤ n1 ∧ jv = .int .i64 (j : Int) ∧ Hid ((∀ s, s < j → (hold C i).getD s 0 ∉ hold C k) ∧ Below wr.heap.size wr wz)) (fun jv _ => n1 - (intOf jv).toNat)
                case atStart => exact ⟨0, Nat.zero_le _, rfl, Lib.hid ⟨fun s hs => by omega, HK.out.2⟩⟩
                case round =>
                  rename World => wz
                  obtain ⟨j, hj, rfl, HJ⟩ := hrel
                  have HBZ : Hid (Below w.heap.size w wz) := Lib.hid (HI.out.2.trans (HJ.out.2.mono HI.out.2.size))
                  have q1 := ((HJ.out.2.mono HI.out.2.size).cell (p := ⟨g, off + i * 2, none⟩) HG.out).trans HQ1.out
                  by_cases hlt3 : j < n1
                  · obtain ⟨g1, o1, rfl, _, q3⟩ := Lt.cell (Gt.below HK1.out (HJ.out.2.mono HI.out.2.size)) hlt3
                    obtain ⟨gd', od', b1, p1, d1, b3, p3, d3, e9, hgd', r3, r4, k3, k4⟩ := (HC.out.below HBZ.out).cell (show k < n by omega)
                    injection e9 with e9
                    injection e9 with e10 e11
                    subst e10 e11
                    have HXM : Hid ((hold C i).getD j 0 ∈ hold C i) := Lib.hid (getD_mem (by rw [HL1.out]; exact hlt3))
                    obtain ⟨x, hx⟩ : ∃ x, x = (hold C i).getD j 0 := ⟨_, rfl⟩
                    rw [← hx] at q3 HXM
                    have HX := Lib.hid hx
                    clear hx
                    by_cases hin : x ∈ hold C k
                    · have HMM : Hid (∀ q, Calls Try.prog 26 #[.int .i64 x, .slice b1 p1 d1] (wz.drewN q) fun e w' => e = .returned (.bool true) ∧ w' = wz.drewN q) := Lib.hid (fun q => rin_is (Gt.below k3 (below_drewN _ _ _)) true ⟨fun _ => hin, fun _ => rfl⟩)
                      have HR : Hid (¬ Rg C) := Lib.hid (fun h => h.apart i k (by rw [HN.out]; exact hlt) (by rw [HN.out]; omega) (by omega) x HXM.out hin)
                      clear k3 k4 r4 hin hgd'
                      go_wp2_with fail
                      go_big_quiet ((go_at_call 26; exact Calls.quiet_of_same (HMM.out _)))
                      go_wp2_with fail
                      go_ret
                      exact ⟨false, rfl, iff_of_false (by decide) HR.out, HBZ.out.trans (below_drewN _ _ _)⟩
                    · have HMM : Hid (∀ q, Calls Try.prog 26 #[.int .i64 x, .slice b1 p1 d1] (wz.drewN q) fun e w' => e = .returned (.bool false) ∧ w' = wz.drewN q) := Lib.hid (fun q => rin_is (Gt.below k3 (below_drewN _ _ _)) false ⟨(by intro h; cases h), fun h => absurd h hin⟩)
                      have HJ2 : Hid (∀ q, (∀ s, s < j + 1 → (hold C i).getD s 0 ∉ hold C k) ∧ Below wr.heap.size wr (wz.drewN q)) := Lib.hid (fun q => ⟨fun s hs => by
                        rcases Nat.lt_succ_iff_lt_or_eq.1 hs with h | h
                        · exact HJ.out.1 s h
                        · rw [h, ← HX.out]; exact hin, HJ.out.2.trans (below_drewN _ _ _)⟩)
                      clear k3 k4 r4 hin hgd'
                      go_wp2_with fail
                      go_big_quiet ((go_at_call 26; exact Calls.quiet_of_same (HMM.out _)))
                      go_wp2_with fail
                      go_roundw
                      case rel =>
                        first
                        | exact ⟨j + 1, by omega, by go_num, Lib.hid (HJ2.out _)⟩
                        | ((repeat apply Exists.intro); exact ⟨⟨j + 1, by omega, by go_num, Lib.hid (HJ2.out _)⟩, rfl⟩)
                      case measure => simp [intOf]; omega
                  · obtain rfl : j = n1 := by omega
                    have HK2' : Hid ((∀ s, s < k + 1 → ∀ z ∈ hold C i, z ∉ hold C s) ∧ Below wr.heap.size wr wz) := Lib.hid ⟨fun s hs z hz => by
                      rcases Nat.lt_succ_iff_lt_or_eq.1 hs with h | h
                      · exact HK.out.1 s h z hz
                      · rw [h]
                        obtain ⟨t, ht, rfl⟩ := mem_getD (d := 0) hz
                        exact HJ.out.1 t (by rw [← HL1.out]; exact ht), HJ.out.2⟩
                    go_wp2_with fail
                    go_roundw
                    case rel =>
                      first
                      | exact ⟨k + 1, by omega, by go_num, HK2'⟩
                      | ((repeat apply Exists.intro); exact ⟨⟨k + 1, by omega, by go_num, HK2'⟩, rfl⟩)
                    case measure => simp [intOf]; omega
              · obtain rfl : k = i := by omega
                have HI2 : Hid (Rs C (k + 1) ∧ Below w.heap.size w wy) := Lib.hid ⟨⟨fun t ht => by
                  rcases Nat.lt_succ_iff_lt_or_eq.1 ht with h | h
                  · exact HI.out.1.zones t h
                  · rw [h]; exact ⟨HZ1.out, HZ2.out⟩, fun s t hs ht => by
                  rcases Nat.lt_succ_iff_lt_or_eq.1 ht with h | h
                  · exact HI.out.1.apart s t hs h
                  · rw [h]; exact HK.out.1 s (by omega)⟩, HI.out.2.trans (HK.out.2.mono HI.out.2.size)⟩
                go_wp2_with fail
                go_roundw
                case rel =>
                  first
                  | exact ⟨k + 1, by omega, by go_num, HI2⟩
                  | ((repeat apply Exists.intro); exact ⟨⟨k + 1, by omega, by go_num, HI2⟩, rfl⟩)
                case measure => simp [intOf]; omega
          · have HR : Hid (¬ Rg C) := Lib.hid (fun h => hz2 (h.zones i (by rw [HN.out]; exact hlt)).2)
            have HZ2 := Lib.hid hz2
            clear hz1 hz2
            go_wp2_with fail
            refine (rzones_any a1 n1 c1 _ (hold C i) _ HK1.out).mono ?_
            rintro e w' ⟨b, rfl, hb, rfl⟩
            obtain rfl : b = true := hb.2 HZ1.out
            clear hb
            go_wp2_with fail
            refine (rzones_any a2 n2 c2 _ (need C i) _ HK2.out).mono ?_
            rintro e w' ⟨b, rfl, hb, rfl⟩
            obtain rfl : b = false := Bool.eq_false_iff.2 (fun e => HZ2.out (hb.1 e))
            clear hb
            go_wp2_with fail
            go_ret
            exact ⟨false, rfl, iff_of_false (by decide) HR.out, HI.out.2⟩
        · have HR : Hid (¬ Rg C) := Lib.hid (fun h => hz1 (h.zones i (by rw [HN.out]; exact hlt)).1)
          have HZ1 := Lib.hid hz1
          clear hz1
          go_wp2_with fail
          refine (rzones_any a1 n1 c1 _ (hold C i) _ HK1.out).mono ?_
          rintro e w' ⟨b, rfl, hb, rfl⟩
          obtain rfl : b = false := Bool.eq_false_iff.2 (fun e => HZ1.out (hb.1 e))
          clear hb
          go_wp2_with fail
          go_ret
          exact ⟨false, rfl, iff_of_false (by decide) HR.out, HI.out.2⟩
      · obtain rfl : i = n := by omega
        have HR : Hid (Rg C) := Lib.hid (Rs.right (by rw [HN.out]; exact HI.out.1) (by rw [HN.out]; exact h8))
        go_wp2_with fail
        go_ret
        exact ⟨true, rfl, iff_of_true rfl HR.out, HI.out.2⟩
  · have h8I : (8 : Int) < (n : Int) := by omega
    have HR : Hid (¬ Rg C) := Lib.hid (fun h => h8 (by rw [← HN.out]; exact h.few))
    go_enter Try.func15, Try.ntmps15
    go_wp2_with fail
    go_ret
    exact ⟨false, rfl, iff_of_false (by decide) HR.out, Below.refl _ _⟩
end Go.Proofs.Ytljmigomhoefpaa.Bk
