/-
  BankerFirst: the walk.
-/
import Derived.Test.YtljmigomhoefpaaBkJ
set_option linter.unusedVariables false
set_option maxRecDepth 100000
namespace Go.Proofs.Ytljmigomhoefpaa.Bk
open Go.RowKit

theorem free_can {D : Cm} {i : Nat} : (∀ t, t < D.length → t = i ∨ ¬ Meets (need D i) (hold D t)) ↔ can (need D) (hb D) (List.range D.length) i = true := by
  rw [can_iff]
  constructor
  · intro h z hz b hb' hne
    rcases h b (List.mem_range.1 hb') with e | e
    · exact absurd e hne
    · exact decide_eq_false (fun h => e ⟨z, hz, h⟩)
  · intro h t ht
    by_cases e : t = i
    · exact .inl e
    · exact .inr (fun ⟨z, h1, h2⟩ => by
        have := h z h1 t (List.mem_range.2 ht) e
        unfold hb at this
        rw [decide_eq_true h2] at this
        cases this)
/-- So far it needs nothing that others hold. -/
def Fr (D : Cm) (i k : Nat) (f : Bool) : Prop := f = true ↔ ∀ t, t < k → t = i ∨ ¬ Meets (need D i) (hold D t)
theorem Fr.start (D : Cm) (i : Nat) : Fr D i 0 true := ⟨fun _ t ht => by omega, fun _ => rfl⟩
theorem Fr.no {D : Cm} {i k : Nat} (h : Fr D i k false) : Fr D i (k + 1) false := by
  constructor
  · intro e; cases e
  · exact fun e => h.2 (fun t ht => e t (by omega))
theorem Fr.me {D : Cm} {i k : Nat} (h : Fr D i k true) (e : k = i) : Fr D i (k + 1) true :=
  ⟨fun _ t ht => by
    rcases Nat.lt_succ_iff_lt_or_eq.1 ht with q | q
    · exact h.1 rfl t q
    · exact .inl (by rw [q, e]), fun _ => rfl⟩
theorem Fr.yes {D : Cm} {i k : Nat} (h : Fr D i k true) (e : ¬ Meets (need D i) (hold D k)) : Fr D i (k + 1) true :=
  ⟨fun _ t ht => by
    rcases Nat.lt_succ_iff_lt_or_eq.1 ht with q | q
    · exact h.1 rfl t q
    · exact .inr (by rw [q]; exact e), fun _ => rfl⟩
theorem Fr.met {D : Cm} {i k : Nat} (hk : k ≠ i) (e : Meets (need D i) (hold D k)) : Fr D i (k + 1) false := by
  constructor
  · intro e; cases e
  · intro h
    rcases h k (Nat.lt_succ_self k) with q | q
    · exact absurd q hk
    · exact absurd e q
theorem meets_is {A : Option Addr} {n c B : Nat} {L : List Int} {A2 : Option Addr} {n2 c2 B2 : Nat} {M : List Int} {w : World} (h : Lt B w A n c L) (h2 : Lt B2 w A2 n2 c2 M) (b : Bool) (hb : b = true ↔ Meets L M) : Calls Try.prog 20 #[.slice A n c, .slice A2 n2 c2] w fun e w' => e = .returned (.bool b) ∧ w' = w :=
  (meets_any A n c B L A2 n2 c2 B2 M w h h2).mono fun e w' ⟨b', h1, h2, h3⟩ => ⟨by
    rw [h1]
    have : b' = b := by
      cases b with
      | true => exact h2.2 (hb.1 rfl)
      | false => exact Bool.eq_false_iff.2 (fun e => by have := hb.2 (h2.1 e); cases this)
    rw [this], h3.symm⟩
theorem first_same {D : Cm} (hR : Rg D) {i : Nat} (hi : i < D.length) (hc : can (need D) (hb D) (List.range D.length) i = true) : (Rg D ∧ SafC D) ↔ (Rg (D.eraseIdx i) ∧ SafC (D.eraseIdx i)) :=
  ⟨fun h => ⟨h.1.erase hi, h.2.erase hi⟩, fun h => ⟨hR, SafC.unerase hi h.2 hc⟩⟩
theorem cl_take {w : World} {A : Option Addr} {n cap : Nat} {C : Cm} (h : Cl w.heap.size w A n cap C) {m : Nat} (hm : FewIs C m) : Cl w.heap.size w A m cap (C.take m) := h.cut (by rw [← h.len]; exact hm.le)
set_option maxHeartbeats 4000000 in
theorem bankerFirst_walk (A : Option Addr) (n cap : Nat) (C : Cm) (w : World) (h : Cl w.heap.size w A n cap C) (_ : True) : Calls Try.prog 6 #[.slice A n cap] w fun e w' => e = .returned (.bool true) ∧ Below w.heap.size w w' := by
  have HC := Lib.hid h
  clear h
  go_enter Try.func6, Try.ntmps6
  go_wp2_with fail
  refine (shown_any _).mono ?_
  rintro e w1 ⟨rfl, hb1⟩
  have HB1 := Lib.hid hb1
  have HC1 := Lib.hid (HC.out.later hb1)
  clear hb1
  go_wp2_with fail
  refine (few_any A n cap _ C _ HC1.out).mono ?_
  rintro e w' ⟨m, rfl, hm, rfl⟩
  have HD1 := Lib.hid (cl_take HC1.out hm)
  have hm9 := hm.nine
  clear hm HC1
  generalize C.take m = D at *
  have HN := Lib.hid HD1.out.len
  have hs := HD1.out.size
  have hs1 := hs.1
  have hs2 := hs.2
  clear hs
  go_wp2_with fail
  refine (right_any A m cap D _ HD1.out).mono ?_
  rintro e w2 ⟨b, rfl, hb, hb2⟩
  have HB2 := Lib.hid (HB1.out.trans (hb2.mono HB1.out.size))
  have HD2 := Lib.hid (HD1.out.later hb2)
  clear hb2
  cases b with
  | false =>
    have HR : Hid (¬ Rg D) := Lib.hid (fun h => by cases hb.2 h)
    clear hb
    go_wp2_with fail
    refine (safe_any A m cap D _ HD2.out).mono ?_
    rintro e w3 ⟨b, rfl, hb, hb3⟩
    obtain rfl : b = false := Bool.eq_false_iff.2 (fun e => HR.out (hb.1 e).1)
    have HB3 := Lib.hid (HB2.out.trans (hb3.mono HB2.out.size))
    clear hb hb3
    go_wp2_with fail
    go_ret
    exact ⟨rfl, HB3.out⟩
  | true =>
    have HR : Hid (Rg D) := Lib.hid (hb.1 rfl)
    clear hb
    go_wp2_with fail
    go_loopw [22] (fun iv wr => ∃ i : Nat, i ≤ m ∧ iv = .int .i64 (i : Int) ∧ Hid (Below w2.heap.size w2 wr)) (fun iv _ => m - (intOf iv).toNat)
    case atStart => exact ⟨0, Nat.zero_le _, rfl, Lib.hid (Below.refl _ _)⟩
    case round =>
      rename World => wr
      obtain ⟨i, hi, rfl, HW⟩ := hrel
      by_cases hlt : i < m
      · have HDr := Lib.hid (HD2.out.later HW.out)
        obtain ⟨g, off, a1, n1, c1, a2, n2, c2, rfl, hg, q1, q2, k1, k2⟩ := HDr.out.cell hlt
        have HK := Lib.hid k2
        have HQ := Lib.hid q2
        clear k1 k2 q1 q2
        go_wp2_with fail
        go_loopw [27, 6] (fun kv fv wy => ∃ (k : Nat) (f : Bool), k ≤ m ∧ kv = .int .i64 (k : Int) ∧ fv = .bool f ∧ Hid (Fr D i k f) ∧ Hid (Below wr.heap.size wr wy)) (fun kv _ _ => m - (intOf kv).toNat)
        case atStart => exact ⟨0, true, Nat.zero_le _, rfl, rfl, Lib.hid (Fr.start D i), Lib.hid (Below.refl _ _)⟩
        case round =>
          rename World => wy
          obtain ⟨k, f, hk, rfl, rfl, HF, HY⟩ := hrel
          by_cases hlt2 : k < m
          · obtain ⟨g', off', b1, m1, d1, b2, m2, d2, e9, hg', r1, r2, l1, l2⟩ := (HDr.out.below HY.out).cell hlt2
            injection e9 with e9
            injection e9 with e10 e11
            subst e10 e11
            cases f with
            | false =>
              have HF2 := Lib.hid HF.out.no
              clear r1 r2 l1 l2
              go_wp2_with fail
              go_big_quiet (fail)
              go_wp2_with fail
              go_roundw
              case rel => exact ⟨k + 1, false, by omega, by go_num, rfl, HF2, Lib.hid (HY.out.trans (below_drewN _ _ _))⟩
              case measure => simp [intOf]; omega
            | true =>
              by_cases hki : k = i
              · have HF2 := Lib.hid (HF.out.me hki)
                have d1 : ((k : Int) == (i : Int)) = true := by rw [beq_iff_eq]; omega
                clear r1 r2 l1 l2 hki
                go_wp2_with fail
                go_big_quiet (fail)
                go_wp2_with fail
                go_roundw
                case rel => exact ⟨k + 1, true, by omega, by go_num, rfl, HF2, Lib.hid (HY.out.trans (below_drewN _ _ _))⟩
                case measure => simp [intOf]; omega
              · have d9 : ((k : Int) == (i : Int)) = false := by rw [beq_eq_false_iff_ne]; omega
                have q2 := (HY.out.cell (p := ⟨g, off + i * 2 + 1, none⟩) hg).trans HQ.out
                have HKY := Lib.hid (Gt.below HK.out HY.out)
                have HL1 := Lib.hid l1
                have HKI := Lib.hid hki
                clear r2 l1 l2 hki
                by_cases hM : Meets (need D i) (hold D k)
                · have HF2 := Lib.hid (Fr.met HKI.out hM)
                  have HMM : Hid (∀ q, Calls Try.prog 20 #[.slice a2 n2 c2, .slice b1 m1 d1] (wy.drewN q) fun e w' => e = .returned (.bool true) ∧ w' = wy.drewN q) := Lib.hid (fun q => meets_is (Gt.below HKY.out (below_drewN _ _ _)) (Gt.below HL1.out (below_drewN _ _ _)) true ⟨fun _ => hM, fun _ => rfl⟩)
                  clear hM
                  go_wp2_with fail
                  go_big_quiet ((go_at_call 20; exact Calls.quiet_of_same (HMM.out _)))
                  go_wp2_with fail
                  go_roundw
                  case rel => exact ⟨k + 1, false, by omega, by go_num, rfl, HF2, Lib.hid (HY.out.trans (below_drewN _ _ _))⟩
                  case measure => simp [intOf]; omega
                · have HF2 := Lib.hid (HF.out.yes hM)
                  have HMM : Hid (∀ q, Calls Try.prog 20 #[.slice a2 n2 c2, .slice b1 m1 d1] (wy.drewN q) fun e w' => e = .returned (.bool false) ∧ w' = wy.drewN q) := Lib.hid (fun q => meets_is (Gt.below HKY.out (below_drewN _ _ _)) (Gt.below HL1.out (below_drewN _ _ _)) false ⟨(by intro h; cases h), fun h => absurd h hM⟩)
                  clear hM
                  go_wp2_with fail
                  go_big_quiet ((go_at_call 20; exact Calls.quiet_of_same (HMM.out _)))
                  go_wp2_with fail
                  go_roundw
                  case rel => exact ⟨k + 1, true, by omega, by go_num, rfl, HF2, Lib.hid (HY.out.trans (below_drewN _ _ _))⟩
                  case measure => simp [intOf]; omega
          · obtain rfl : k = m := by omega
            have HDy := Lib.hid (HDr.out.later HY.out)
            have HWY := Lib.hid (HW.out.trans (HY.out.mono HW.out.size))
            cases f with
            | false =>
              go_wp2_with fail
              go_roundw
              case rel => exact ⟨i + 1, by omega, by go_num, HWY⟩
              case measure => simp [intOf]; omega
            | true =>
              have HS := Lib.hid (first_same HR.out (by rw [HN.out]; exact hlt) (free_can.1 (fun t ht => HF.out.1 rfl t (by rw [← HN.out]; exact ht))))
              go_wp2_with fail
              refine (safe_any _ k cap D _ HDy.out).mono ?_
              rintro e w4 ⟨b4, rfl, hb4, hc4⟩
              have HB4 := Lib.hid hb4
              have HW4 := Lib.hid (HWY.out.trans (hc4.mono HWY.out.size))
              have HD4 := Lib.hid (HDy.out.later hc4)
              clear hb4 hc4
              go_wp2_with fail
              refine (without_any _ k cap D i _ HD4.out hlt hm9).mono ?_
              rintro e w5 ⟨A5, m5, c5, rfl, hd5, hc5⟩
              have HD5 := Lib.hid hd5
              have HW5 := Lib.hid (HW4.out.trans (hc5.mono HW4.out.size))
              clear hd5 hc5
              go_wp2_with fail
              refine (safe_any A5 m5 c5 _ _ HD5.out).mono ?_
              rintro e w6 ⟨b6, rfl, hb6, hc6⟩
              have HW6 := Lib.hid (HW5.out.trans (hc6.mono HW5.out.size))
              obtain rfl : b4 = b6 := by
                rw [Bool.eq_iff_iff, HB4.out, hb6]
                exact HS.out
              have hbb : (b4 != b4) = false := by simp
              clear hb6 hc6
              go_wp2_with fail
              go_roundw
              case rel => exact ⟨i + 1, by omega, by go_num, HW6⟩
              case measure => simp [intOf]; omega
      · obtain rfl : i = m := by omega
        go_wp2_with fail
        go_ret
        exact ⟨rfl, HB2.out.trans (HW.out.mono HB2.out.size)⟩
end Go.Proofs.Ytljmigomhoefpaa.Bk
