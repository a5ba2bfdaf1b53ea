/-
  Layer 6: Same; the examples.
-/
import Derived.Test.YtafcdclaaagdlaaWnF
set_option linter.unusedVariables false
set_option maxRecDepth 100000
namespace Go.Proofs.Ytafcdclaaagdlaa.Wn
open Go.RowKit Go.Maps

theorem ext_getD {L M : List (Int × Int)} (hl : L.length = M.length) (h : ∀ t, t < L.length → L.getD t (0, 0) = M.getD t (0, 0)) : L = M :=
  List.ext_getElem hl fun i h1 h2 => by
    have := h i h1
    rw [List.getD_eq_getElem?_getD, List.getD_eq_getElem?_getD, List.getElem?_eq_getElem h1, List.getElem?_eq_getElem h2] at this
    simpa using this
set_option maxHeartbeats 2000000 in
theorem same_any (A A' : Option Addr) (n n' c c' : Nat) (L M : List (Int × Int)) (w : World) (h1 : Wt w.heap.size w A n c L) (h2 : Wt w.heap.size w A' n' c' M) (hn : n ≤ 1000000) :
    Calls Try.prog 11 #[.slice A n c, .slice A' n' c'] w fun e w' => e = .returned (.bool (decide (L = M))) ∧ Below w.heap.size w w' := by
  have H1 := Lib.hid h1
  have H2 := Lib.hid h2
  have HL1 := Lib.hid h1.len
  have HL2 := Lib.hid h2.len
  have hs := h1.size
  have hs1 := hs.1
  have hs2 := hs.2
  have hs' := h2.size
  have hs3 := hs'.1
  have hs4 := hs'.2
  clear h1 h2 hs hs'
  by_cases hnn : n = n'
  · subst hnn
    have HB0 := Lib.hid (Below.refl w.heap.size w)
    go_enter Try.func11, Try.ntmps11
    go_wp2_with fail
    go_loopw [5] (fun iv wr => ∃ (j : Nat), iv = .int .i64 (j : Int) ∧ j ≤ n ∧ Hid (∀ t, t < j → L.getD t (0, 0) = M.getD t (0, 0)) ∧ Below w.heap.size w wr) (fun iv _ => n - (intOf iv).toNat)
    case atStart => exact ⟨0, rfl, Nat.zero_le _, Lib.hid (fun t ht => by omega), Below.refl _ _⟩
    case round =>
      rename World => wr
      obtain ⟨j, rfl, hj, HI, hb⟩ := hrel
      have HB := Lib.hid hb
      clear hb
      by_cases hlj : j < n
      · obtain ⟨g1, o1, rfl, _, hc1⟩ := (H1.out.later HB.out).cell (by omega)
        obtain ⟨k1, k2⟩ := hc1 j hlj
        obtain ⟨g2, o2, rfl, _, hc2⟩ := (H2.out.later HB.out).cell (by omega)
        obtain ⟨k3, k4⟩ := hc2 j hlj
        have hjI : (j : Int) < (n : Int) := by omega
        clear hc1 hc2
        by_cases he : L.getD j (0, 0) = M.getD j (0, 0)
        · have HI2 : Hid (∀ t, t < j + 1 → L.getD t (0, 0) = M.getD t (0, 0)) := Lib.hid (fun t ht => by
            rcases (by omega : t < j ∨ t = j) with q | q
            · exact HI.out t q
            · rw [q]; exact he)
          rw [← he] at k3 k4
          clear he
          generalize L.getD j (0, 0) = p at *
          go_wp2_with fail
          go_big_quiet (fail)
          go_wp2_with fail
          go_roundw
          case rel => exact ⟨j + 1, by go_num, by omega, HI2, HB.out.trans (below_drewN _ _ _)⟩
          case measure => simp [intOf]; omega
        · have HD : Hid (decide (L = M) = false) := Lib.hid (decide_eq_false (fun e => he (by rw [e])))
          obtain ⟨p1, hp1⟩ : ∃ p1, p1 = (L.getD j (0, 0)).1 := ⟨_, rfl⟩
          obtain ⟨p2, hp2⟩ : ∃ p2, p2 = (L.getD j (0, 0)).2 := ⟨_, rfl⟩
          obtain ⟨p3, hp3⟩ : ∃ p3, p3 = (M.getD j (0, 0)).1 := ⟨_, rfl⟩
          obtain ⟨p4, hp4⟩ : ∃ p4, p4 = (M.getD j (0, 0)).2 := ⟨_, rfl⟩
          have hcs : p1 ≠ p3 ∨ (p1 = p3 ∧ p2 ≠ p4) := by
            by_cases e1 : p1 = p3
            · exact .inr ⟨e1, fun e2 => he (Prod.ext (by rw [← hp1, ← hp3, e1]) (by rw [← hp2, ← hp4, e2]))⟩
            · exact .inl e1
          rw [← hp1] at k1
          rw [← hp2] at k2
          rw [← hp3] at k3
          rw [← hp4] at k4
          clear hp1 hp2 hp3 hp4 he
          rcases hcs with e1 | ⟨rfl, e1⟩
          · have d1 : (p1 == p3) = false := by rw [beq_eq_false_iff_ne]; exact e1
            go_wp2_with fail
            go_big_quiet (fail)
            go_wp2_with fail
            go_ret
            exact ⟨by rw [HD.out]; rfl, HB.out.trans (below_drewN _ _ _)⟩
          · have d1 : (p2 == p4) = false := by rw [beq_eq_false_iff_ne]; exact e1
            go_wp2_with fail
            go_big_quiet (fail)
            go_wp2_with fail
            go_ret
            exact ⟨by rw [HD.out]; rfl, HB.out.trans (below_drewN _ _ _)⟩
      · obtain rfl : j = n := by omega
        have HD : Hid (decide (L = M) = true) := Lib.hid (decide_eq_true (ext_getD (by rw [← HL1.out, ← HL2.out]) (fun t ht => HI.out t (by rw [HL1.out]; exact ht))))
        go_wp2_with fail
        go_ret
        exact ⟨by rw [HD.out]; rfl, HB.out⟩
  · have HD : Hid (decide (L = M) = false) := Lib.hid (decide_eq_false (fun e => hnn (by rw [HL1.out, HL2.out, e])))
    have hd : ((n : Int) == (n' : Int)) = false := by rw [beq_eq_false_iff_ne]; omega
    rw [HD.out]
    go_enter Try.func11, Try.ntmps11
    go_wp2_with fail
    go_ret
    exact ⟨rfl, Below.refl _ _⟩
theorem Wt.two (w : World) (a b c d : Int) : Wt (w.alloc (.cells #[.int .i64 a, .int .i64 b, .int .i64 c, .int .i64 d] 32)).heap.size (w.alloc (.cells #[.int .i64 a, .int .i64 b, .int .i64 c, .int .i64 d] 32)) (some ⟨w.heap.size, 0, none⟩) 2 2 [(a, b), (c, d)] := by
  refine ⟨rfl, Nat.le_refl _, by unfold maxLen; omega, fun h => (by cases h), fun _ => ⟨w.heap.size, 0, rfl, by simp, fun j hj => ?_⟩⟩
  rcases (by omega : j = 0 ∨ j = 1) with rfl | rfl
  · exact ⟨by simp [World.cell?_alloc_new], by simp [World.cell?_alloc_new]⟩
  · exact ⟨by simp [World.cell?_alloc_new], by simp [World.cell?_alloc_new]⟩
theorem frees_shown : frees [(3, 7), (7, 9)] = [(0, 3), (9, 1048576)] := by decide
theorem Tab.below {w w' : World} {base tb N : Nat} {mv : Option Nat} {T : Int → List (Int × Int)} {gb : Int → Nat} {F' : Nat → Prop} (h : Tab w base tb N mv T gb) (ht : Turn (TF tb mv T gb) F' w w') : Below base w w' :=
  ht.below base (by have h1 := h.lo; have h2 := h.cells.2.2; omega) (fun k hk => (h.foot k hk).1)
set_option maxHeartbeats 2000000 in
theorem shown_any (w : World) : Calls Try.prog 6 #[] w fun e w' => e = .returned (.bool true) ∧ Below w.heap.size w w' := by
  have hi5 : IW 5 := by unfold IW; omega
  have HT0 := Lib.hid (Tab.new w w.heap.size (Nat.le_refl _))
  go_enter Try.func6, Try.ntmps6
  go_wp2_with fail
  refine (new_any w).mono ?_
  rintro e w1 ⟨rfl, hw1⟩
  rw [← hw1] at HT0
  have HB1 : Hid (Below w.heap.size w w1) := Lib.hid (by rw [hw1]; exact (Below.refl _ _).alloc (Nat.le_refl _) _)
  clear hw1
  go_wp2_with fail
  refine (take_end w.heap.size w.heap.size 0 none (fun _ => []) (fun _ => 0) 5 3 7 w1 HT0.out hi5 (by omega) rfl rfl (by decide)).mono ?_
  rintro e w2 ⟨rfl, mv2, g2, hT2, ht2⟩
  obtain ⟨T2, hT2e⟩ : ∃ T2, T2 = upd (fun _ => []) 5 ((fun _ => []) 5 ++ [((3 : Int), (7 : Int))]) := ⟨_, rfl⟩
  obtain ⟨gb2, hg2e⟩ : ∃ gb2, gb2 = upd (fun _ => 0) (5 : Int) g2 := ⟨_, rfl⟩
  have HS2 : Hid (T2 5 = [(3, 7)]) := Lib.hid (by rw [hT2e, upd_same]; rfl)
  rw [← hT2e, ← hg2e] at hT2 ht2
  have HB2 : Hid (Below w.heap.size w w2) := Lib.hid (HB1.out.trans (HT0.out.below ht2))
  have HT2 := Lib.hid hT2
  clear hT2e hg2e hT2 ht2
  go_wp2_with fail
  refine (take_there w.heap.size w.heap.size _ mv2 T2 gb2 5 6 9 w2 HT2.out hi5 rfl (by rw [HS2.out]; decide) (by rw [HS2.out]; decide)).mono ?_
  rintro e w3 ⟨rfl, hb3⟩
  have HB3 := Lib.hid (HB2.out.trans (hb3.mono HB2.out.size))
  have HT3 := Lib.hid (HT2.out.later hb3)
  clear hb3
  go_wp2_with fail
  refine (take_end w.heap.size w.heap.size _ mv2 T2 gb2 5 7 9 w3 HT3.out hi5 (by omega) rfl (by rw [HS2.out]; decide) (by rw [HS2.out]; decide)).mono ?_
  rintro e w4 ⟨rfl, mv4, g4, hT4, ht4⟩
  obtain ⟨T4, hT4e⟩ : ∃ T4, T4 = upd T2 5 (T2 5 ++ [((7 : Int), (9 : Int))]) := ⟨_, rfl⟩
  obtain ⟨gb4, hg4e⟩ : ∃ gb4, gb4 = upd gb2 (5 : Int) g4 := ⟨_, rfl⟩
  have HS4 : Hid (T4 5 = [(3, 7), (7, 9)]) := Lib.hid (by rw [hT4e, upd_same, HS2.out]; rfl)
  rw [← hT4e, ← hg4e] at hT4 ht4
  have HB4 : Hid (Below w.heap.size w w4) := Lib.hid (HB3.out.trans (HT3.out.below ht4))
  have HT4 := Lib.hid hT4
  clear hT4e hg4e hT4 ht4
  go_wp2_with fail
  refine (taken_any w.heap.size w.heap.size _ mv4 T4 gb4 5 w4 HT4.out hi5).mono ?_
  rw [HS4.out]
  rintro e w5 ⟨A5, c5, rfl, ho5, hb5⟩
  have HO5 := Lib.hid ho5
  have HB5 := Lib.hid hb5
  clear ho5 hb5
  go_wp2_with fail
  have HA5 := Lib.hid ((Below.refl w5.heap.size w5).alloc (Nat.le_refl _) (.cells #[.int .i64 3, .int .i64 7, .int .i64 7, .int .i64 9] 32))
  refine (same_any A5 (some ⟨w5.heap.size, 0, none⟩) 2 2 c5 2 [(3, 7), (7, 9)] [(3, 7), (7, 9)] _ (HO5.out.wt.later HA5.out) (Wt.two w5 3 7 7 9) (by decide)).mono ?_
  rintro e w6 ⟨he, hb6⟩
  rw [show decide (([(3, 7), (7, 9)] : List (Int × Int)) = [(3, 7), (7, 9)]) = true by decide] at he
  subst he
  have HB6 := Lib.hid (HB5.out.trans ((HA5.out.mono HB5.out.size).trans (hb6.mono (Nat.le_trans HB5.out.size HA5.out.size))))
  have HT6 := Lib.hid (HT4.out.later HB6.out)
  clear hb6
  go_wp2_with fail
  refine (free_any w.heap.size w.heap.size _ mv4 T4 gb4 5 w6 HT6.out hi5).mono ?_
  rw [HS4.out, frees_shown]
  rintro e w7 ⟨A7, c7, rfl, ho7, hb7⟩
  have HO7 := Lib.hid ho7
  have HB7 := Lib.hid hb7
  clear ho7 hb7
  go_wp2_with fail
  have HA7 := Lib.hid ((Below.refl w7.heap.size w7).alloc (Nat.le_refl _) (.cells #[.int .i64 0, .int .i64 3, .int .i64 9, .int .i64 1048576] 32))
  refine (same_any A7 (some ⟨w7.heap.size, 0, none⟩) 2 2 c7 2 [(0, 3), (9, 1048576)] [(0, 3), (9, 1048576)] _ (HO7.out.wt.later HA7.out) (Wt.two w7 0 3 9 1048576) (by decide)).mono ?_
  rintro e w8 ⟨he, hb8⟩
  rw [show decide (([(0, 3), (9, 1048576)] : List (Int × Int)) = [(0, 3), (9, 1048576)]) = true by decide] at he
  subst he
  have HB8 := Lib.hid (HB7.out.trans ((HA7.out.mono HB7.out.size).trans (hb8.mono (Nat.le_trans HB7.out.size HA7.out.size))))
  clear hb8
  go_wp2_with fail
  go_ret
  exact ⟨rfl, HB4.out.trans ((HB6.out.mono HB4.out.size).trans (HB8.out.mono (Nat.le_trans HB4.out.size HB6.out.size)))⟩
end Go.Proofs.Ytafcdclaaagdlaa.Wn
