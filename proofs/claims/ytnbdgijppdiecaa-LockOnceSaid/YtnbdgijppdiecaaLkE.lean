/-
  Layer 9: the document's Release.
-/
import Derived.Test.YtnbdgijppdiecaaLkD
set_option linter.unusedVariables false
set_option maxRecDepth 100000
namespace Go.Proofs.Ytnbdgijppdiecaa
namespace Lk
open Go.RowKit Bk

theorem erase_at {x : Int × Int} : ∀ {R : List (Int × Int)} {j : Nat}, j < R.length → R.getD j (0, 0) = x → (∀ k, k < j → R.getD k (0, 0) ≠ x) → R.erase x = R.take j ++ R.drop (j + 1)
  | [], j, h, _, _ => by simp at h
  | p :: R, 0, h, e, _ => by
    have e : p = x := e
    subst e
    simp
  | p :: R, j + 1, h, e, hk => by
    have h0 : p ≠ x := hk 0 (by omega)
    rw [List.erase_cons_tail (by simpa using h0), erase_at (R := R) (j := j) (by simpa using h) e (fun k hkj => hk (k + 1) (by omega))]
    rfl
theorem mem_at {x : Int × Int} {R : List (Int × Int)} {j : Nat} (h : j < R.length) (e : R.getD j (0, 0) = x) : x ∈ R := by
  rw [← e, List.getD, List.getElem?_eq_getElem h]; exact List.getElem_mem h
theorem RAt.instead {w w6 : World} {base rb : Nat} {v v6 : Value} {R R6 : List (Int × Int)} (h : RAt w base rb v R) (hb : Below w.heap.size w w6) (ho : Po w6 w.heap.size v6 R6) (hf : R6.length ≤ 100000) :
    RAt (w6.setCell ⟨rb, 0, none⟩ v6) base rb v6 R6 ∧ Kept9 w (w6.setCell ⟨rb, 0, none⟩ v6) ∧ Below base w (w6.setCell ⟨rb, 0, none⟩ v6) := by
  obtain ⟨h1, h2, h3⟩ := (h.later hb).stored (w6 := w6) ⟨rfl, rfl, rfl, Nat.le_refl _, fun _ _ _ => rfl⟩ (own_lower ho h.size) hf
  exact ⟨h1, (Kept9.of hb).trans h2, (hb.mono h.size).trans h3⟩
theorem Pt.below {B : Nat} {w w' : World} {A : Option Addr} {n cap : Nat} {R : List (Int × Int)} (h : Pt B w A n cap R) (hb : Below B w w') : Pt B w' A n cap R := Gt.below h hb
theorem Pt.raise {B B' : Nat} {w : World} {A : Option Addr} {n cap : Nat} {R : List (Int × Int)} (h : Pt B w A n cap R) (hb : B ≤ B') : Pt B' w A n cap R := Gt.raise h hb
theorem rcl9_take (R : List (Int × Int)) (i : Nat) : rcl9 (R.take i) = (rcl9 R).take (i * 2) := by unfold rcl9; rw [List.map_take, pcl_take]
theorem rcl9_drop (R : List (Int × Int)) (i : Nat) : rcl9 (R.drop i) = (rcl9 R).drop (i * 2) := by unfold rcl9; rw [List.map_drop, pcl_drop]
theorem Po.empty (w : World) : Po (w.alloc (.cells #[] 54)) w.heap.size (.slice (some ⟨w.heap.size, 0, none⟩) 0 0) [] := own_empty w 54 2 w.heap.size (Nat.le_refl _)
set_option maxHeartbeats 4000000 in
theorem r9release_any {w : World} {base rb : Nat} {v : Value} {R : List (Int × Int)} (h : RAt w base rb v R) (r z : Int) : Calls Try.prog 12 #[.pointer (some ⟨rb, 0, none⟩), .int .i64 r, .int .i64 z] w (ToldR (rrel R r z) base rb w) := by
  have HT := Lib.hid h
  have HST : Hid ((∃ v', RAt w base rb v' R) ∧ Kept9 w w ∧ Below base w w) := Lib.hid ⟨⟨v, h⟩, Kept9.refl _, Below.refl _ _⟩
  by_cases h1 : Rb r ∧ Zo z
  · have d1 : decide (Rb r ∧ Zo z) = true := decide_eq_true h1
    have HE : Hid (rrel R r z = if (r, z) ∈ R then (0, R.erase (r, z)) else (2, R)) := Lib.hid (by unfold rrel; rw [if_neg (show ¬¬(Rb r ∧ Zo z) from fun q => q h1)])
    rw [HE.out]
    clear h1 HE
    obtain ⟨P, hP⟩ : ∃ P, P = (if (r, z) ∈ R then ((0 : Int), R.erase (r, z)) else (2, R)) := ⟨_, rfl⟩
    rw [← hP]
    have HPP := Lib.hid hP
    clear hP
    obtain ⟨A, n, c, rfl, hn⟩ := h.form
    have HR := Lib.hid (Po.pt h.own).2
    have HN := Lib.hid hn
    have hn2 : n ≤ 100000 := by rw [hn]; exact h.few
    have hs := Gt.size (Po.pt h.own).2
    have hs1 := hs.1
    have hs2 := hs.2
    obtain ⟨k0, k1, k2⟩ := h.cell
    clear h hs hn
    go_enter Try.func12, Try.ntmps12
    go_wp2_with (go_at_call 22; refine (r9right_any r z _).mono ?_; rintro e w' ⟨rfl, rfl⟩; rw [d1])
    go_loopw [7] (fun iv wr => ∃ j : Nat, j ≤ n ∧ iv = .int .i64 (j : Int) ∧ w = wr ∧ Hid (∀ k, k < j → R.getD k (0, 0) ≠ (r, z))) (fun iv _ => n - (intOf iv).toNat)
    case atStart => exact ⟨0, Nat.zero_le _, rfl, rfl, Lib.hid fun k hk => by omega⟩
    case round =>
      obtain ⟨j, hj, rfl, rfl, HI⟩ := hrel
      by_cases hlt : j < n
      · obtain ⟨g, off, rfl, hg, c1, c2⟩ := HR.out.cell hlt
        have hjI : (j : Int) < (n : Int) := by omega
        have hj0 : (0 : Int) ≤ (j : Int) := by omega
        obtain ⟨p, hp⟩ : ∃ p, p = R.getD j (0, 0) := ⟨_, rfl⟩
        have HP := Lib.hid hp
        rw [← hp] at c1 c2
        clear hp
        obtain ⟨a, b⟩ := p
        have c1 : w.cell? ⟨g, off + j * 2, none⟩ = some (.int .i64 a) := c1
        have c2 : w.cell? ⟨g, off + j * 2 + 1, none⟩ = some (.int .i64 b) := c2
        by_cases e : (a, b) = (r, z)
        · have e1 := congrArg Prod.fst e
          have e2 := congrArg Prod.snd e
          simp only at e1 e2
          subst e1 e2
          have HER : Hid ((a, b) ∈ R ∧ R.erase (a, b) = R.take j ++ R.drop (j + 1)) := Lib.hid ⟨mem_at (by rw [← HN.out]; exact hlt) HP.out.symm, erase_at (by rw [← HN.out]; exact hlt) HP.out.symm HI.out⟩
          have HPV : Hid (P = (0, R.take j ++ R.drop (j + 1))) := Lib.hid (by rw [HPP.out, if_pos HER.out.1, HER.out.2])
          clear e
          have HG1 : Hid (Pt w.heap.size w (some ⟨g, off, none⟩) j c (R.take j)) := Lib.hid (by unfold Pt; rw [rcl9_take]; exact Gt.cut HR.out (by omega))
          have hil : (j : Int) ≤ (c : Int) := by omega
          have hil2 : (j : Int) + 1 ≤ (n : Int) := by omega
          have hnc : (n : Int) ≤ (c : Int) := by omega
          have hi1 : (0 : Int) ≤ (j : Int) + 1 := by omega
          have hi2 : (j : Int) + 1 ≤ (c : Int) := by omega
          have hiw : IntKind.i64.wrap ((j : Int) + 1) = (j : Int) + 1 := IntWalk.i64_in _ (by omega)
          have HB0 := Lib.hid ((Below.refl w.heap.size w).alloc (Nat.le_refl _) (.cells #[] 54))
          have HPE := Lib.hid (Po.empty w)
          have HL1 : Hid (([] : List (Int × Int)).length + j ≤ 1000000) := Lib.hid (by simp; omega)
          have HFEW : Hid (([] ++ R.take j ++ R.drop (j + 1)).length ≤ 100000) := Lib.hid (by have := HN.out; simp; omega)
          by_cases hcap : c = j + 1
          · have HG2 : Hid (Pt w.heap.size w (some ⟨g, off, none⟩) 0 0 (R.drop (j + 1))) := Lib.hid (by
              have := Gt.tail HR.out (m := j + 1) (by omega) (some ⟨g, off, none⟩) (by simp) (fun h => by omega)
              unfold Pt
              rw [rcl9_drop]
              rwa [show n - (j + 1) = 0 by omega, show c - (j + 1) = 0 by omega] at this)
            have HL2 : Hid (([] ++ R.take j).length + 0 ≤ 1000000) := Lib.hid (by simp; omega)
            obtain rfl : c = n := by omega
            have hcap' : j + 1 = c := hcap.symm
            clear hcap
            go_wp2_with (first
              | (at_builtin; (fail_if_success have _k := HO4); refine app_pairs rfl _ _ rfl w.heap.size _ [] rfl HPE.out _ j c (R.take j) rfl ((HG1.out.below HB0.out).raise HB0.out.size) HL1.out HB0.out.size ?_; intro A4 n4 c4 w4 hn4 ho4 hb4 _ _; have HO4 := Lib.hid ho4; have HB4 := Lib.hid (HB0.out.trans hb4); have c1 := (HB4.out.cell (p := ⟨rb, 0, none⟩) k2).trans k0; clear ho4 hb4 hn4)
              | (at_builtin; have _k := HO4; refine app_pairs rfl _ _ rfl w.heap.size _ ([] ++ R.take j) rfl HO4.out _ _ _ (R.drop (j + 1)) rfl ((HG2.out.below HB4.out).raise HB4.out.size) HL2.out HB4.out.size ?_; intro A5 n5 c5 w5 hn5 ho5 hb5 _ _; have HS5 := Lib.hid (HT.out.instead (HB4.out.trans hb5) ho5 HFEW.out); have q1 := ((HB4.out.trans hb5).cell (p := ⟨rb, 0, none⟩) k2).trans k0; have q2 := ((HB4.out.trans hb5).frozen (p := ⟨rb, 0, none⟩) k2).trans k1; clear ho5 hb5 hn5))
            go_ret
            exact ⟨by rw [HPV.out]; rfl, by rw [HPV.out]; exact ⟨⟨_, HS5.out.1⟩, HS5.out.2⟩⟩
          · have HG2 : Hid (Pt w.heap.size w (some ⟨g, off + (j + 1) * 2, none⟩) (n - (j + 1)) (c - (j + 1)) (R.drop (j + 1))) := Lib.hid (by
              unfold Pt
              rw [rcl9_drop]; exact Gt.tail HR.out (by omega) _ (by simp) (fun h => rfl))
            have HL2 : Hid (([] ++ R.take j).length + (n - (j + 1)) ≤ 1000000) := Lib.hid (by simp; omega)
            go_wp2_with (first
              | (at_builtin; (fail_if_success have _k := HO4); refine app_pairs rfl _ _ rfl w.heap.size _ [] rfl HPE.out _ j c (R.take j) rfl ((HG1.out.below HB0.out).raise HB0.out.size) HL1.out HB0.out.size ?_; intro A4 n4 c4 w4 hn4 ho4 hb4 _ _; have HO4 := Lib.hid ho4; have HB4 := Lib.hid (HB0.out.trans hb4); have c1 := (HB4.out.cell (p := ⟨rb, 0, none⟩) k2).trans k0; clear ho4 hb4 hn4)
              | (at_builtin; have _k := HO4; refine app_pairs rfl _ _ rfl w.heap.size _ ([] ++ R.take j) rfl HO4.out _ _ _ (R.drop (j + 1)) rfl ((HG2.out.below HB4.out).raise HB4.out.size) HL2.out HB4.out.size ?_; intro A5 n5 c5 w5 hn5 ho5 hb5 _ _; have HS5 := Lib.hid (HT.out.instead (HB4.out.trans hb5) ho5 HFEW.out); have q1 := ((HB4.out.trans hb5).cell (p := ⟨rb, 0, none⟩) k2).trans k0; have q2 := ((HB4.out.trans hb5).frozen (p := ⟨rb, 0, none⟩) k2).trans k1; clear ho5 hb5 hn5))
            go_ret
            exact ⟨by rw [HPV.out]; rfl, by rw [HPV.out]; exact ⟨⟨_, HS5.out.1⟩, HS5.out.2⟩⟩
        · have HI2 : Hid (∀ k, k < j + 1 → R.getD k (0, 0) ≠ (r, z)) := Lib.hid (fun k hk => by
            rcases (by omega : k < j ∨ k = j) with q | q
            · exact HI.out k q
            · rw [q, ← HP.out]; exact e)
          have hne : a ≠ r ∨ (a = r ∧ b ≠ z) := by
            by_cases q : a = r
            · exact .inr ⟨q, fun e2 => e (by rw [q, e2])⟩
            · exact .inl q
          clear e
          rcases hne with e | ⟨rfl, e⟩
          · have e1 : (a == r) = false := by rw [beq_eq_false_iff_ne]; exact e
            go_wp2_with fail
            go_roundw
            case rel => exact ⟨j + 1, by omega, by go_num, trivial, HI2⟩
            case measure => simp [intOf]; omega
          · have e1 : (b == z) = false := by rw [beq_eq_false_iff_ne]; exact e
            go_wp2_with fail
            go_roundw
            case rel => exact ⟨j + 1, by omega, by go_num, trivial, HI2⟩
            case measure => simp [intOf]; omega
      · obtain rfl : j = n := by omega
        have HNM : Hid (¬ (r, z) ∈ R) := Lib.hid (fun hm => by
          obtain ⟨k, hk, e⟩ := List.getElem_of_mem hm
          refine HI.out k (by rw [HN.out]; exact hk) ?_
          rw [List.getD, List.getElem?_eq_getElem hk]; exact e)
        have HPV : Hid (P = (2, R)) := Lib.hid (by rw [HPP.out, if_neg HNM.out])
        go_wp2_with fail
        go_ret
        exact ⟨by rw [HPV.out]; rfl, by rw [HPV.out]; exact HST.out⟩
  · have d1 : decide (Rb r ∧ Zo z) = false := decide_eq_false h1
    have HE : Hid (rrel R r z = (1, R)) := Lib.hid (by unfold rrel; rw [if_pos h1])
    rw [HE.out]
    clear h1 HE h
    go_enter Try.func12, Try.ntmps12
    go_wp2_with (go_at_call 22; refine (r9right_any r z _).mono ?_; rintro e w' ⟨rfl, rfl⟩; rw [d1])
    go_ret
    exact ⟨rfl, HST.out⟩
end Lk
end Go.Proofs.Ytnbdgijppdiecaa
