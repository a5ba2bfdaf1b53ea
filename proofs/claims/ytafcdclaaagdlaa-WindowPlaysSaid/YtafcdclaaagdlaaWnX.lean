/-
  Layer 6: the document's table: Drop, Forget.
-/
import Derived.Test.YtafcdclaaagdlaaWnV
set_option linter.unusedVariables false
set_option maxRecDepth 100000
namespace Go.Proofs.Ytafcdclaaagdlaa.Wn
open Go.RowKit Go.Maps

theorem erase_at {q : R3} : ∀ (R : List R3) (k : Nat), k < R.length → (∀ i, i < k → R.getD i (0, 0, 0) ≠ q) → R.getD k (0, 0, 0) = q → q ∈ R ∧ R.erase q = R.take k ++ R.drop (k + 1)
  | [], k, h, _, _ => by simp at h
  | x :: R, 0, _, _, h2 => by
    have h3 : x = q := by simpa using h2
    subst h3
    simp
  | x :: R, k + 1, h, h1, h2 => by
    have h0 : x ≠ q := by simpa using h1 0 (by omega)
    have ih := erase_at R k (by simpa using h) (fun i hi => by simpa using h1 (i + 1) (by omega)) (by simpa using h2)
    refine ⟨List.mem_cons_of_mem _ ih.1, ?_⟩
    rw [List.erase_cons, if_neg (by simpa using h0), ih.2]
    simp
theorem not_mem_of {q : R3} {R : List R3} (h : ∀ i, i < R.length → R.getD i (0, 0, 0) ≠ q) : q ∉ R := by
  intro hm
  obtain ⟨i, hi, he⟩ := List.getElem_of_mem hm
  exact h i hi (by rw [List.getD_eq_getElem?_getD, List.getElem?_eq_getElem hi, he]; rfl)
set_option maxHeartbeats 4000000 in
theorem r6drop_any (rb : Nat) (A : Option Addr) (c : Nat) (R : List R3) (x a b : Int) (w : World) (h : RT w rb A c R) :
    Calls Try.prog 23 #[.pointer (some ⟨rb, 0, none⟩), .int .i64 x, .agg #[.int .i64 a, .int .i64 b]] w (TakeTold rb R (rdr R x a b) w) := by
  obtain ⟨b0, b1, hb⟩ := win_box w a b
  have HB := Lib.hid hb
  have HR := Lib.hid h
  have hrb := h.cells.2.2
  have hfew := h.few
  have hbl : w.heap.size < (w.alloc (.cells #[.int .i64 a, .int .i64 b] 32)).heap.size := by rw [alloc_size]; omega
  clear hb h
  go_enter Try.func23, Try.ntmps23
  go_wp2_with fail
  go_loopw [7] (fun iv wr => ∃ j : Nat, iv = .int .i64 (j : Int) ∧ j ≤ R.length ∧ Hid (∀ i, i < j → R.getD i (0, 0, 0) ≠ (x, a, b)) ∧ Below (w.alloc (.cells #[.int .i64 a, .int .i64 b] 32)).heap.size (w.alloc (.cells #[.int .i64 a, .int .i64 b] 32)) wr) (fun iv _ => R.length - (intOf iv).toNat)
  case atStart => exact ⟨0, rfl, Nat.zero_le _, Lib.hid (fun i hi => by omega), Below.refl _ _⟩
  case round =>
    rename World => wr
    obtain ⟨j, rfl, hj, HI, hb⟩ := hrel
    have HBR := Lib.hid hb
    have r0 := (hb.cell (p := ⟨w.heap.size, 0, none⟩) hbl).trans b0
    have r1 := (hb.cell (p := ⟨w.heap.size, 1, none⟩) hbl).trans b1
    have hlr := Nat.lt_of_lt_of_le hbl hb.size
    have HB3 := Lib.hid (HB.out.trans (hb.mono HB.out.size))
    have hRz := HR.out.later HB3.out
    obtain ⟨y0, y1, y2⟩ := hRz.cells
    have HRZ := Lib.hid hRz
    clear hb hRz
    by_cases hlj : j < R.length
    · obtain ⟨g, off, hAA, hg, hc⟩ := HRZ.out.rows.cell (by omega)
      subst hAA
      obtain ⟨e0, e1, e2⟩ := hc j hlj
      have hjI : (j : Int) < (R.length : Int) := by omega
      have HER := Lib.hid (erase_at (q := (x, a, b)) R j hlj HI.out)
      have HIN := Lib.hid (fun (h : R.getD j (0, 0, 0) ≠ (x, a, b)) => (show ∀ i, i < j + 1 → R.getD i (0, 0, 0) ≠ (x, a, b) from fun i hi => by
        rcases (by omega : i < j ∨ i = j) with q | q
        · exact HI.out i q
        · rw [q]; exact h))
      clear hc
      generalize hp : R.getD j (0, 0, 0) = p at *
      obtain ⟨py, pa, pb⟩ := p
      clear hp
      simp only at e0 e1 e2
      by_cases he : (py, pa, pb) = (x, a, b)
      · obtain ⟨hmem, hers⟩ := HER.out he
        have HRR : Hid (rdr R x a b = (0, R.take j ++ R.drop (j + 1))) := Lib.hid (by
          unfold rdr
          rw [if_pos hmem, hers])
        simp only [Prod.mk.injEq] at he
        obtain ⟨he1, he2, he3⟩ := he
        rw [he1] at e0
        rw [he2] at e1
        rw [he3] at e2
        clear he1 he2 he3 hmem hers HER HIN
        go_wp2_with fail
        go_big_quiet (fail)
        obtain ⟨wq, hwq⟩ : ∃ wq, wq = wr.drewN nq := ⟨_, rfl⟩
        have HB4 : Hid (Below w.heap.size w wq) := Lib.hid (by rw [hwq]; exact HB3.out.trans ((below_drewN _ _ _)))
        rw [← hwq]
        clear hwq y0 y1 y2 r0 r1 e0 e1 e2
        have hR := HR.out.later HB4.out
        obtain ⟨c0, f0, hrbq⟩ := hR.cells
        have HRQ := Lib.hid hR
        have HE0 := Lib.hid (Row.empty wq wq.heap.size (Nat.le_refl _))
        have HBA : Hid (Below wq.heap.size wq (wq.alloc (.cells #[] 54))) := Lib.hid ((Below.refl _ wq).alloc (Nat.le_refl _) _)
        have HIA := Lib.hid ((HRQ.out.rows.below HBA.out).raise (B' := (wq.alloc (.cells #[] 54)).heap.size) (by simp))
        have hcap := hR.rows.size
        have hcap1 := hcap.1
        have hcap2 := hcap.2
        have hcapj : (j : Int) ≤ (c : Int) := by omega


        clear hR hcap
        go_upto_region 6 with (at_builtin; refine app_rows rfl _ _ rfl wq.heap.size _ [] rfl HE0.out _ _ _ (R.take j) rfl (HIA.out.take j hj) (by first | omega | (simp only [List.length_nil]; omega) | simp) (by simp) ?_; intro A1 c1 wB o1 b1 _ _; obtain ⟨P1, hP1⟩ : ∃ P1, P1 = [] ++ R.take j := ⟨_, rfl⟩; rw [← hP1] at o1 ⊢; have HP1 := Lib.hid (hP1.trans (List.nil_append _)); have HO1 := Lib.hid o1; have HBB := Lib.hid (HBA.out.trans b1); clear o1 b1 hP1)
        have z0 := (HBB.out.cell (p := ⟨rb, 0, none⟩) hrbq).trans c0
        have z1 := (HBB.out.frozen (p := ⟨rb, 0, none⟩) hrbq).trans f0
        have HI3 := Lib.hid ((HRQ.out.rows.below HBB.out).raise HBB.out.size)
        have htl : P1.length ≤ 100000 := by rw [HP1.out, List.length_take]; omega
        have hdl : (R.drop (j + 1)).length ≤ 100000 := by rw [List.length_drop]; omega
        by_cases hend : j + 1 < R.length
        · go_wp2_with (at_builtin; refine app_rows rfl _ _ rfl wq.heap.size _ _ rfl HO1.out _ _ _ (R.drop (j + 1)) rfl (HI3.out.drop (j + 1) (by omega)) (by omega) HBB.out.size ?_; intro A3 c3 wD o3 b3 _ _; obtain ⟨P3, hP3⟩ : ∃ P3, P3 = P1 ++ R.drop (j + 1) := ⟨_, rfl⟩; rw [← hP3] at o3 ⊢; have HP3 := Lib.hid hP3; have HO4 := Lib.hid o3; have HBD := Lib.hid (HBB.out.trans b3); have s0 := (b3.cell (p := ⟨rb, 0, none⟩) hrbq).trans z0; have s1 := (b3.frozen (p := ⟨rb, 0, none⟩) hrbq).trans z1; clear o3 b3 hP3)
          all_goals
            go_ret
            have hins : P3 = R.take j ++ R.drop (j + 1) := by rw [HP3.out, HP1.out]
            rw [HRR.out, ← hins]
            exact ⟨rfl, rt_end HB4.out HRQ.out hrb HO4.out HBD.out (by rw [HP3.out, HP1.out]; simp only [List.length_append, List.length_take, List.length_drop]; omega)⟩
        · have hje : j + 1 = R.length := by omega
          have HJE := Lib.hid hje
          go_wp2_with (at_builtin; refine app_rows rfl _ _ rfl wq.heap.size _ _ rfl HO1.out _ _ _ (R.drop R.length) rfl (HI3.out.fin (by first | (split <;> simp) | simp) (by omega) (by omega)) (by omega) HBB.out.size ?_; intro A3 c3 wD o3 b3 _ _; obtain ⟨P3, hP3⟩ : ∃ P3, P3 = P1 ++ R.drop R.length := ⟨_, rfl⟩; rw [← hP3] at o3 ⊢; have HP3 := Lib.hid hP3; have HO4 := Lib.hid o3; have HBD := Lib.hid (HBB.out.trans b3); have s0 := (b3.cell (p := ⟨rb, 0, none⟩) hrbq).trans z0; have s1 := (b3.frozen (p := ⟨rb, 0, none⟩) hrbq).trans z1; clear o3 b3 hP3)
          all_goals
            go_ret
            have hins : P3 = R.take j ++ R.drop (j + 1) := by rw [HP3.out, HP1.out, HJE.out]
            rw [HRR.out, ← hins]
            exact ⟨rfl, rt_end HB4.out HRQ.out hrb HO4.out HBD.out (by rw [HP3.out, HP1.out]; simp only [List.length_append, List.length_take, List.length_drop]; omega)⟩
      · have HN := Lib.hid (HIN.out he)
        clear HER HIN
        have hcs : py ≠ x ∨ (py = x ∧ pa ≠ a) ∨ (py = x ∧ pa = a ∧ pb ≠ b) := by
          by_cases q1 : py = x
          · by_cases q2 : pa = a
            · exact .inr (.inr ⟨q1, q2, fun q3 => he (by rw [q1, q2, q3])⟩)
            · exact .inr (.inl ⟨q1, q2⟩)
          · exact .inl q1
        clear he
        rcases hcs with q1 | ⟨q1, q2⟩ | ⟨q1, q2, q3⟩
        · have d1 : (py == x) = false := by rw [beq_eq_false_iff_ne]; exact q1
          go_wp2_with fail
          go_big_quiet (fail)
          go_wp2_with fail
          go_roundw
          case rel => exact ⟨j + 1, by go_num, by omega, HN, HBR.out.trans (below_drewN _ _ _)⟩
          case measure => simp [intOf]; omega
        · have d1 : (pa == a) = false := by rw [beq_eq_false_iff_ne]; exact q2
          rw [q1] at e0
          go_wp2_with fail
          go_big_quiet (fail)
          go_wp2_with fail
          go_roundw
          case rel => exact ⟨j + 1, by go_num, by omega, HN, HBR.out.trans (below_drewN _ _ _)⟩
          case measure => simp [intOf]; omega
        · have d1 : (pb == b) = false := by rw [beq_eq_false_iff_ne]; exact q3
          rw [q1] at e0
          rw [q2] at e1
          go_wp2_with fail
          go_big_quiet (fail)
          go_wp2_with fail
          go_roundw
          case rel => exact ⟨j + 1, by go_num, by omega, HN, HBR.out.trans (below_drewN _ _ _)⟩
          case measure => simp [intOf]; omega
    · have hje : j = R.length := by omega
      have HRR : Hid (rdr R x a b = (2, R)) := Lib.hid (by
        unfold rdr
        rw [if_neg (not_mem_of (by rw [← hje]; exact HI.out))])
      subst hje
      go_wp2_with fail
      go_ret
      rw [HRR.out]
      exact TakeTold.same HR.out rfl HB3.out
set_option maxHeartbeats 4000000 in
theorem r6forget_any (rb : Nat) (A : Option Addr) (c : Nat) (R : List R3) (m : Int) (w : World) (h : RT w rb A c R) :
    Calls Try.prog 24 #[.pointer (some ⟨rb, 0, none⟩), .int .i64 m] w fun e w' => e = .returned (.tuple #[]) ∧ ∃ A' c', RT w' rb A' c' (rfg R m) ∧ Turn (fun k => k = rb) (fun k => k = rb) w w' := by
  have HR := Lib.hid h
  have hrb := h.cells.2.2
  have hfew := h.few
  have hs := h.rows.size
  have hs1 := hs.1
  have hs2 := hs.2
  clear h hs
  go_enter Try.func24, Try.ntmps24
  go_wp2_with fail
  go_loopw [4, 5] (fun ov iv wr => ∃ (j : Nat) (O : List R3) (A' : Option Addr) (c' : Nat), ov = .slice A' O.length c' ∧ iv = .int .i64 (j : Int) ∧ j ≤ R.length ∧ O.length ≤ j ∧ Hid (O = rfg (R.take j) m) ∧ Row wr w.heap.size (.slice A' O.length c') O ∧ Below w.heap.size w wr) (fun _ iv _ => R.length - (intOf iv).toNat)
  case atStart => exact ⟨0, [], none, 0, rfl, rfl, Nat.zero_le _, Nat.zero_le _, Lib.hid rfl, Row.nil _ _, Below.refl _ _⟩
  case round =>
    rename World => wr
    obtain ⟨j, O, A', c', rfl, rfl, hj, hOj, HI, ho, hb⟩ := hrel
    have HO := Lib.hid ho
    have HB := Lib.hid hb
    have HRL := Lib.hid (HR.out.later hb)
    obtain ⟨q0, q1, q2⟩ := HRL.out.cells
    have hOs := ho.rt.size
    have hO1 := hOs.1
    have hO2 := hOs.2
    clear ho hb hOs
    by_cases hlj : j < R.length
    · obtain ⟨g, off, hAA, hg, hc⟩ := HRL.out.rows.cell (by omega)
      subst hAA
      obtain ⟨k1, k2, k3⟩ := hc j hlj
      have HTS := Lib.hid (take_snoc3 R j hlj)
      have hjI : (j : Int) < (R.length : Int) := by omega
      clear hc
      generalize hp : R.getD j (0, 0, 0) = p at *
      obtain ⟨py, pa, pb⟩ := p
      clear hp
      simp only at k1 k2 k3
      by_cases he : m < pb
      · have de : decide (m < pb) = true := decide_eq_true he
        have HN : Hid (O ++ [(py, pa, pb)] = rfg (R.take (j + 1)) m) := Lib.hid (by
          rw [HTS.out]; unfold rfg; rw [List.filter_append, HI.out]; simp [rfg, he])
        have HA5 := Lib.hid ((Below.refl wr.heap.size wr).alloc (Nat.le_refl _) (.cells #[.int .i64 py, .int .i64 pa, .int .i64 pb] 54))
        have HW5 := Lib.hid (Rt.one wr py pa pb)
        have HS5 : Hid (w.heap.size ≤ (wr.alloc (.cells #[.int .i64 py, .int .i64 pa, .int .i64 pb] 54)).heap.size) := Lib.hid (Nat.le_trans HB.out.size HA5.out.size)
        clear he
        go_wp2_with (at_builtin; refine app_rows rfl _ _ rfl w.heap.size _ O rfl (HO.out.later HA5.out) (some ⟨wr.heap.size, 0, none⟩) 1 1 [(py, pa, pb)] rfl HW5.out (by omega) HS5.out ?_; intro A6 c6 w6 ho6 hb6 _ _; have HO6 := Lib.hid ho6; have HB6 := Lib.hid ((HB.out.trans (HA5.out.mono HB.out.size)).trans hb6); clear ho6 hb6)
        go_roundw
        case rel => exact ⟨j + 1, O ++ [(py, pa, pb)], A6, c6, by simp, by go_num, by omega, by simp only [List.length_append, List.length_cons, List.length_nil]; omega, HN, HO6.out, HB6.out⟩
        case measure => simp [intOf]; omega
      · have de : decide (m < pb) = false := decide_eq_false he
        have HN : Hid (O = rfg (R.take (j + 1)) m) := Lib.hid (by
          rw [HTS.out]; unfold rfg; rw [List.filter_append, HI.out]; simp [rfg, he])
        clear he
        go_wp2_with fail
        go_roundw
        case rel => exact ⟨j + 1, O, A', c', rfl, by go_num, by omega, by omega, HN, HO.out, HB.out⟩
        case measure => simp [intOf]; omega
    · have hje : j = R.length := by omega
      subst hje
      have HE : Hid (O = rfg R m) := Lib.hid (by rw [HI.out, List.take_length])
      go_wp2_with fail
      go_end0
      have hend := rt_end (Below.refl _ w) HR.out hrb HO.out HB.out (by omega)
      rw [HE.out] at hend
      rw [HE.out]
      exact ⟨rfl, hend⟩
end Go.Proofs.Ytafcdclaaagdlaa.Wn
