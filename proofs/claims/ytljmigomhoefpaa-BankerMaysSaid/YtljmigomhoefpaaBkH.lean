/-
  Layer 8: what the statements call besides: few, meets, SameInts.
-/
import Derived.Test.YtljmigomhoefpaaBkG
set_option linter.unusedVariables false
set_option maxRecDepth 100000
namespace Go.Proofs.Ytljmigomhoefpaa.Bk
open Go.RowKit

/-- So many of the claims are looked at. -/
structure FewIs (C : Cm) (m : Nat) : Prop where
  le : m ≤ C.length
  ok : ∀ i, i < m → i < 9 ∧ (hold C i).length ≤ 40 ∧ (need C i).length ≤ 40
  end_ : m < C.length → ¬ (m < 9 ∧ (hold C m).length ≤ 40 ∧ (need C m).length ≤ 40)
theorem FewIs.uniq {C : Cm} {m m' : Nat} (h : FewIs C m) (h' : FewIs C m') : m = m' := by
  rcases Nat.lt_trichotomy m m' with q | q | q
  · exact absurd (h'.ok m q) (h.end_ (by have := h'.le; omega))
  · exact q
  · exact absurd (h.ok m' q) (h'.end_ (by have := h.le; omega))
theorem FewIs.nine {C : Cm} {m : Nat} (h : FewIs C m) : m ≤ 9 := by
  rcases Nat.lt_or_ge 9 m with q | q
  · have := (h.ok 9 q).1; omega
  · exact q
/-- The first of them are told. -/
def FewTold (A : Option Addr) (cap : Nat) (C : Cm) (w : World) (e : Ending) (w' : World) : Prop := ∃ m, e = .returned (.slice A m cap) ∧ FewIs C m ∧ w = w'
set_option maxHeartbeats 1000000 in
theorem few_any (A : Option Addr) (n cap B : Nat) (C : Cm) (w : World) (h : Cl B w A n cap C) : Calls Try.prog 10 #[.slice A n cap] w (FewTold A cap C w) := by
  have HC := Lib.hid h
  have HN := Lib.hid h.len
  have hs := h.size
  have hs1 := hs.1
  have hs2 := hs.2
  clear h hs
  go_enter Try.func10, Try.ntmps10
  go_wp2_with fail
  go_loop [6] (fun iv => ∃ j : Nat, j ≤ n ∧ iv = .int .i64 (j : Int) ∧ Hid (∀ t, t < j → t < 9 ∧ (hold C t).length ≤ 40 ∧ (need C t).length ≤ 40)) (fun iv => n - (intOf iv).toNat)
  case atStart => exact ⟨0, Nat.zero_le _, rfl, Lib.hid (fun t ht => by omega)⟩
  case round =>
    obtain ⟨j, hj, rfl, HJ⟩ := hrel
    by_cases hlt : j < n
    · obtain ⟨g, off, a1, n1, c1, a2, n2, c2, rfl, hg, q1, q2, k1, k2⟩ := HC.out.cell hlt
      have HL1 := Lib.hid k1.len
      have HL2 := Lib.hid k2.len
      have s1 := (Gt.size k1).1
      have s2 := (Gt.size k1).2
      have s3 := (Gt.size k2).1
      have s4 := (Gt.size k2).2
      clear k1 k2
      have HE : Hid (¬ (j < 9 ∧ n1 ≤ 40 ∧ n2 ≤ 40) → FewIs C j) := Lib.hid (fun h => ⟨by rw [HN.out]; exact hj, HJ.out, fun _ => by rw [HL1.out, HL2.out]; exact h⟩)
      by_cases h1 : j < 9
      · have d1 : decide (9 ≤ (j : Int)) = false := decide_eq_false (by omega)
        by_cases h2 : n1 ≤ 40
        · have d2 : decide (40 < (n1 : Int)) = false := decide_eq_false (by omega)
          by_cases h3 : n2 ≤ 40
          · have d3 : decide (40 < (n2 : Int)) = false := decide_eq_false (by omega)
            go_wp2_with fail
            go_round
            case rel => exact ⟨j + 1, by omega, by go_num, Lib.hid (fun t ht => by
              rcases Nat.lt_succ_iff_lt_or_eq.1 ht with h | h
              · exact HJ.out t h
              · subst h; rw [HL1.out, HL2.out]; exact ⟨h1, h2, h3⟩)⟩
            case measure => simp [intOf]; omega
          · have d3 : decide (40 < (n2 : Int)) = true := decide_eq_true (by omega)
            have HF := Lib.hid (HE.out (fun h => h3 h.2.2))
            clear h3
            go_wp2_with fail
            go_ret
            exact ⟨j, rfl, HF.out, rfl⟩
        · have d2 : decide (40 < (n1 : Int)) = true := decide_eq_true (by omega)
          have HF := Lib.hid (HE.out (fun h => h2 h.2.1))
          clear h2
          go_wp2_with fail
          go_ret
          exact ⟨j, rfl, HF.out, rfl⟩
      · have d1 : decide (9 ≤ (j : Int)) = true := decide_eq_true (by omega)
        have HF := Lib.hid (HE.out (fun h => h1 h.1))
        clear h1
        go_wp2_with fail
        go_ret
        exact ⟨j, rfl, HF.out, rfl⟩
    · obtain rfl : j = n := by omega
      go_wp2_with fail
      go_ret
      exact ⟨j, rfl, ⟨by rw [HN.out]; exact Nat.le_refl _, HJ.out, fun h => by rw [HN.out] at h; omega⟩, rfl⟩
/-- Two lists that both have a number. -/
def Meets (L M : List Int) : Prop := ∃ z, z ∈ L ∧ z ∈ M
set_option maxHeartbeats 1000000 in
theorem meets_any (A : Option Addr) (n c B : Nat) (L : List Int) (A2 : Option Addr) (n2 c2 B2 : Nat) (M : List Int) (w : World) (h : Lt B w A n c L) (h2 : Lt B2 w A2 n2 c2 M) : Calls Try.prog 20 #[.slice A n c, .slice A2 n2 c2] w (ToldE (Meets L M) w) := by
  have HL := Lib.hid h
  have HM := Lib.hid h2
  have HLN := Lib.hid h.len
  have HMN := Lib.hid h2.len
  have s1 := (Gt.size h).1
  have s2 := (Gt.size h).2
  have s3 := (Gt.size h2).1
  have s4 := (Gt.size h2).2
  clear h h2
  go_enter Try.func20, Try.ntmps20
  go_wp2_with fail
  go_loop [11] (fun iv => ∃ j : Nat, j ≤ n ∧ iv = .int .i64 (j : Int) ∧ Hid (∀ t, t < j → L.getD t 0 ∉ M)) (fun iv => n - (intOf iv).toNat)
  case atStart => exact ⟨0, Nat.zero_le _, rfl, Lib.hid (fun t ht => by omega)⟩
  case round =>
    obtain ⟨j, hj, rfl, HJ⟩ := hrel
    by_cases hlt : j < n
    · obtain ⟨g, off, rfl, hg, q1⟩ := HL.out.cell hlt
      have HXM : Hid (L.getD j 0 ∈ L) := Lib.hid (getD_mem (by rw [HLN.out]; exact hlt))
      obtain ⟨x, hx⟩ : ∃ x, x = L.getD j 0 := ⟨_, rfl⟩
      rw [← hx] at q1 HXM
      have HX := Lib.hid hx
      clear hx
      go_wp2_with fail
      go_loop [17] (fun iv => ∃ k : Nat, k ≤ n2 ∧ iv = .int .i64 (k : Int) ∧ Hid (∀ t, t < k → x ≠ M.getD t 0)) (fun iv => n2 - (intOf iv).toNat)
      case atStart => exact ⟨0, Nat.zero_le _, rfl, Lib.hid (fun t ht => by omega)⟩
      case round =>
        obtain ⟨k, hk, rfl, HK⟩ := hrel
        by_cases hlt2 : k < n2
        · obtain ⟨g2, off2, rfl, hg2, q2⟩ := HM.out.cell hlt2
          have HYM : Hid (M.getD k 0 ∈ M) := Lib.hid (getD_mem (by rw [HMN.out]; exact hlt2))
          obtain ⟨y, hy⟩ : ∃ y, y = M.getD k 0 := ⟨_, rfl⟩
          rw [← hy] at q2 HYM
          have HY := Lib.hid hy
          clear hy
          by_cases he : x = y
          · have d1 : (x == y) = true := by rw [beq_iff_eq]; exact he
            have HT : Hid (Meets L M) := Lib.hid ⟨x, HXM.out, by rw [he]; exact HYM.out⟩
            clear he
            go_wp2_with fail
            go_ret
            exact ⟨true, rfl, iff_of_true rfl HT.out, rfl⟩
          · have d1 : (x == y) = false := by rw [beq_eq_false_iff_ne]; exact he
            have HE := Lib.hid he
            clear he
            go_wp2_with fail
            go_round
            case rel => exact ⟨k + 1, by omega, by go_num, Lib.hid (fun t ht => by
              rcases Nat.lt_succ_iff_lt_or_eq.1 ht with h | h
              · exact HK.out t h
              · subst h; rw [← HY.out]; exact HE.out)⟩
            case measure => simp [intOf]; omega
        · obtain rfl : k = n2 := by omega
          have HNO : Hid (x ∉ M) := Lib.hid (fun h => by
            obtain ⟨i, hi, e⟩ := mem_getD (d := 0) h
            exact HK.out i (by rw [← HMN.out]; exact hi) e.symm)
          go_wp2_with fail
          go_round
          case rel => exact ⟨j + 1, by omega, by go_num, Lib.hid (fun t ht => by
            rcases Nat.lt_succ_iff_lt_or_eq.1 ht with h | h
            · exact HJ.out t h
            · subst h; rw [← HX.out]; exact HNO.out)⟩
          case measure => simp [intOf]; omega
    · obtain rfl : j = n := by omega
      have HNO : Hid (¬ Meets L M) := Lib.hid (fun ⟨z, h1, h2⟩ => by
        obtain ⟨i, hi, e⟩ := mem_getD (d := 0) h1
        exact HJ.out i (by rw [← HLN.out]; exact hi) (by rw [e]; exact h2))
      go_wp2_with fail
      go_ret
      exact ⟨false, rfl, iff_of_false (by decide) HNO.out, rfl⟩
set_option maxHeartbeats 1000000 in
/-- Two lists are the same. -/
theorem same_any (A : Option Addr) (n c B : Nat) (L : List Int) (A2 : Option Addr) (n2 c2 B2 : Nat) (M : List Int) (w : World) (h : Lt B w A n c L) (h2 : Lt B2 w A2 n2 c2 M) (hB : B ≤ w.heap.size) (hB2 : B2 ≤ w.heap.size) : Calls Try.prog 16 #[.slice A n c, .slice A2 n2 c2] w (Told8 (L = M) w) := by
  have HL := Lib.hid (Gt.raise h hB)
  have HM := Lib.hid (Gt.raise h2 hB2)
  have HLN := Lib.hid h.len
  have HMN := Lib.hid h2.len
  have s1 := (Gt.size h).1
  have s2 := (Gt.size h).2
  have s3 := (Gt.size h2).1
  have s4 := (Gt.size h2).2
  clear h h2
  by_cases hnm : n = n2
  · subst hnm
    go_enter Try.func16, Try.ntmps16
    go_wp2_with fail
    go_loopw [5] (fun iv wr => ∃ k : Nat, k ≤ n ∧ iv = .int .i64 (k : Int) ∧ Hid (Below w.heap.size w wr) ∧ Hid (∀ j, j < k → L.getD j 0 = M.getD j 0)) (fun iv _ => n - (intOf iv).toNat)
    case atStart => exact ⟨0, Nat.zero_le _, rfl, Lib.hid (Below.refl _ _), Lib.hid (fun j hj => by omega)⟩
    case round =>
      rename World => wr
      obtain ⟨k, hk, rfl, HB, HJ⟩ := hrel
      by_cases hlt : k < n
      · obtain ⟨g1, o1, rfl, _, q1⟩ := Lt.cell (Gt.below HL.out HB.out) hlt
        obtain ⟨g2, o2, rfl, _, q2⟩ := Lt.cell (Gt.below HM.out HB.out) hlt
        obtain ⟨x, hxq⟩ : ∃ x, x = L.getD k 0 := ⟨_, rfl⟩
        obtain ⟨y, hyq⟩ : ∃ y, y = M.getD k 0 := ⟨_, rfl⟩
        rw [← hxq] at q1
        rw [← hyq] at q2
        have HXQ := Lib.hid hxq
        have HYQ := Lib.hid hyq
        clear hxq hyq
        by_cases he : x = y
        · have hb : (x != y) = false := by rw [bne_eq_false_iff_eq]; exact he
          have HE := Lib.hid he
          clear he
          go_wp2_with fail
          go_big_quiet (fail)
          go_wp2_with fail
          go_roundw
          case rel => exact ⟨k + 1, by omega, by go_num, Lib.hid (HB.out.trans (below_drewN _ _ _)), Lib.hid (fun j hj => by
            rcases Nat.lt_succ_iff_lt_or_eq.1 hj with h | h
            · exact HJ.out j h
            · subst h; rw [← HXQ.out, ← HYQ.out]; exact HE.out)⟩
          case measure => simp [intOf]; omega
        · have hb : (x != y) = true := by rw [bne_iff_ne]; exact he
          have HE := Lib.hid he
          clear he
          go_wp2_with fail
          go_big_quiet (fail)
          go_wp2_with fail
          go_ret
          exact ⟨false, rfl, iff_of_false (by decide) (fun e => HE.out (by rw [HXQ.out, HYQ.out, e])), HB.out.trans (below_drewN _ _ _)⟩
      · obtain rfl : k = n := by omega
        go_wp2_with fail
        go_ret
        exact ⟨true, rfl, iff_of_true rfl (by
          apply List.ext_getElem (by rw [HLN.out, HMN.out])
          intro i h1 h2
          have := HJ.out i (by rw [← HLN.out]; exact h1)
          rw [List.getD, List.getD, List.getElem?_eq_getElem h1, List.getElem?_eq_getElem h2] at this
          exact this), HB.out⟩
  · have hb : ((n : Int) != (n2 : Int)) = true := by rw [bne_iff_ne]; omega
    have HE := Lib.hid hnm
    clear hnm
    go_enter Try.func16, Try.ntmps16
    go_wp2_with fail
    go_ret
    exact ⟨false, rfl, iff_of_false (by decide) (fun e => HE.out (by rw [← HLN.out, ← HMN.out, e])), Below.refl _ _⟩
end Go.Proofs.Ytljmigomhoefpaa.Bk
