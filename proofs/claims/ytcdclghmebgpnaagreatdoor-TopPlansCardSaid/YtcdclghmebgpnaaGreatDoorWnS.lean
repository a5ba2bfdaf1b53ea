/-
  Layer 6: Same; the examples.
-/
import Derived.Test.YtcdclghmebgpnaaGreatDoorWnF
set_option linter.unusedVariables false
set_option maxRecDepth 100000
namespace Go.Proofs.YtcdclghmebgpnaaGreatDoor.Wn
open Go.RowKit Go.Maps

theorem ext_getD {L M : List (Int × Int)} (hl : L.length = M.length) (h : ∀ t, t < L.length → L.getD t (0, 0) = M.getD t (0, 0)) : L = M :=
  List.ext_getElem hl fun i h1 h2 => by
    have := h i h1
    rw [List.getD_eq_getElem?_getD, List.getD_eq_getElem?_getD, List.getElem?_eq_getElem h1, List.getElem?_eq_getElem h2] at this
    simpa using this
set_option maxHeartbeats 2000000 in
theorem same_any (A A' : Option Addr) (n n' c c' : Nat) (L M : List (Int × Int)) (w : World) (h1 : Wt w.heap.size w A n c L) (h2 : Wt w.heap.size w A' n' c' M) (hn : n ≤ 1000000) :
    Calls Tryz.prog 16 #[.slice A n c, .slice A' n' c'] w fun e w' => e = .returned (.bool (decide (L = M))) ∧ Below w.heap.size w w' := by
  have H1 := Lib.hid h1
  have H2 := Lib.hid h2
  have HL1 := Lib.hid h1.len
  have HL2 := Lib.hid h2.len
  have hs := h1.size
  have hs1 := hs.1
  have hs2 := hs.2
  have hs' := h2.size
  have hs3 := hs'.1
  have hs4 := hs'.2
  clear h1 h2 hs hs'
  by_cases hnn : n = n'
  · subst hnn
    have HB0 := Lib.hid (Below.refl w.heap.size w)
    go_enter Tryz.func16, Tryz.ntmps16
    go_wp2_with fail
    go_loopw [5] (fun iv wr => ∃ (j : Nat), iv = .int .i64 (j : Int) ∧ j ≤ n ∧ Hid (∀ t, t < j → L.getD t (0, 0) = M.getD t (0, 0)) ∧ Below w.heap.size w wr) (fun iv _ => n - (intOf iv).toNat)
    case atStart => exact ⟨0, rfl, Nat.zero_le _, Lib.hid (fun t ht => by omega), Below.refl _ _⟩
    case round =>
      rename World => wr
      obtain ⟨j, rfl, hj, HI, hb⟩ := hrel
      have HB := Lib.hid hb
      clear hb
      by_cases hlj : j < n
      · obtain ⟨g1, o1, rfl, _, hc1⟩ := (H1.out.later HB.out).cell (by omega)
        obtain ⟨k1, k2⟩ := hc1 j hlj
        obtain ⟨g2, o2, rfl, _, hc2⟩ := (H2.out.later HB.out).cell (by omega)
        obtain ⟨k3, k4⟩ := hc2 j hlj
        have hjI : (j : Int) < (n : Int) := by omega
        clear hc1 hc2
        by_cases he : L.getD j (0, 0) = M.getD j (0, 0)
        · have HI2 : Hid (∀ t, t < j + 1 → L.getD t (0, 0) = M.getD t (0, 0)) := Lib.hid (fun t ht => by
            rcases (by omega : t < j ∨ t = j) with q | q
            · exact HI.out t q
            · rw [q]; exact he)
          rw [← he] at k3 k4
          clear he
          generalize L.getD j (0, 0) = p at *
          go_wp2_with fail
          go_big_quiet (fail)
          go_wp2_with fail
          go_roundw
          case rel => exact ⟨j + 1, by go_num, by omega, HI2, HB.out.trans (below_drewN _ _ _)⟩
          case measure => simp [intOf]; omega
        · have HD : Hid (decide (L = M) = false) := Lib.hid (decide_eq_false (fun e => he (by rw [e])))
          obtain ⟨p1, hp1⟩ : ∃ p1, p1 = (L.getD j (0, 0)).1 := ⟨_, rfl⟩
          obtain ⟨p2, hp2⟩ : ∃ p2, p2 = (L.getD j (0, 0)).2 := ⟨_, rfl⟩
          obtain ⟨p3, hp3⟩ : ∃ p3, p3 = (M.getD j (0, 0)).1 := ⟨_, rfl⟩
          obtain ⟨p4, hp4⟩ : ∃ p4, p4 = (M.getD j (0, 0)).2 := ⟨_, rfl⟩
          have hcs : p1 ≠ p3 ∨ (p1 = p3 ∧ p2 ≠ p4) := by
            by_cases e1 : p1 = p3
            · exact .inr ⟨e1, fun e2 => he (Prod.ext (by rw [← hp1, ← hp3, e1]) (by rw [← hp2, ← hp4, e2]))⟩
            · exact .inl e1
          rw [← hp1] at k1
          rw [← hp2] at k2
          rw [← hp3] at k3
          rw [← hp4] at k4
          clear hp1 hp2 hp3 hp4 he
          rcases hcs with e1 | ⟨rfl, e1⟩
          · have d1 : (p1 == p3) = false := by rw [beq_eq_false_iff_ne]; exact e1
            go_wp2_with fail
            go_big_quiet (fail)
            go_wp2_with fail
            go_ret
            exact ⟨by rw [HD.out]; rfl, HB.out.trans (below_drewN _ _ _)⟩
          · have d1 : (p2 == p4) = false := by rw [beq_eq_false_iff_ne]; exact e1
            go_wp2_with fail
            go_big_quiet (fail)
            go_wp2_with fail
            go_ret
            exact ⟨by rw [HD.out]; rfl, HB.out.trans (below_drewN _ _ _)⟩
      · obtain rfl : j = n := by omega
        have HD : Hid (decide (L = M) = true) := Lib.hid (decide_eq_true (ext_getD (by rw [← HL1.out, ← HL2.out]) (fun t ht => HI.out t (by rw [HL1.out]; exact ht))))
        go_wp2_with fail
        go_ret
        exact ⟨by rw [HD.out]; rfl, HB.out⟩
  · have HD : Hid (decide (L = M) = false) := Lib.hid (decide_eq_false (fun e => hnn (by rw [HL1.out, HL2.out, e])))
    have hd : ((n : Int) == (n' : Int)) = false := by rw [beq_eq_false_iff_ne]; omega
    rw [HD.out]
    go_enter Tryz.func16, Tryz.ntmps16
    go_wp2_with fail
    go_ret
    exact ⟨rfl, Below.refl _ _⟩
theorem Wt.two (w : World) (a b c d : Int) : Wt (w.alloc (.cells #[.int .i64 a, .int .i64 b, .int .i64 c, .int .i64 d] 52)).heap.size (w.alloc (.cells #[.int .i64 a, .int .i64 b, .int .i64 c, .int .i64 d] 52)) (some ⟨w.heap.size, 0, none⟩) 2 2 [(a, b), (c, d)] := by
  refine ⟨rfl, Nat.le_refl _, by unfold maxLen; omega, fun h => (by cases h), fun _ => ⟨w.heap.size, 0, rfl, by simp, fun j hj => ?_⟩⟩
  rcases (by omega : j = 0 ∨ j = 1) with rfl | rfl
  · exact ⟨by simp [World.cell?_alloc_new], by simp [World.cell?_alloc_new]⟩
  · exact ⟨by simp [World.cell?_alloc_new], by simp [World.cell?_alloc_new]⟩
theorem frees_shown : frees [(3, 7), (7, 9)] = [(0, 3), (9, 1048576)] := by decide
theorem Tab.below {w w' : World} {base tb N : Nat} {mv : Option Nat} {T : Int → List (Int × Int)} {gb : Int → Nat} {F' : Nat → Prop} (h : Tab w base tb N mv T gb) (ht : Turn (TF tb mv T gb) F' w w') : Below base w w' :=
  ht.below base (by have h1 := h.lo; have h2 := h.cells.2.2; omega) (fun k hk => (h.foot k hk).1)
end Go.Proofs.YtcdclghmebgpnaaGreatDoor.Wn
