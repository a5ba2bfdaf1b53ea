/-
  WindowWhole: the walk.
-/
import Derived.Test.YtfedfgfiaajpjaaWnS
import Derived.OpenShut
set_option linter.unusedVariables false
set_option maxRecDepth 100000
namespace Go.Proofs.Ytfedfgfiaajpjaa.Wn
open Go.RowKit Go.Maps

theorem xor_wf (x : Int) : IW (bits .xor .i64 x 1) := by
  have h : (Lit.int .i64 (bits .xor .i64 x 1)).wf = true := wf_wrap _ _
  unfold IW
  simpa [Lit.wf, IntKind.min, IntKind.max, IntKind.signed, IntKind.bits] using h
theorem xor_ne (x : Int) : bits .xor .i64 x 1 ≠ x := by
  intro h
  have h1 := congrArg (BitVec.ofInt 64) h
  have h2 : BitVec.ofInt 64 (bits .xor .i64 x 1) = BitVec.ofInt 64 x ^^^ 1#64 := by
    unfold bits
    have e : ∀ n : Int, BitVec.ofInt 64 (IntKind.i64.wrap n) = BitVec.ofInt 64 n := fun n => by
      apply BitVec.eq_of_toInt_eq
      simp only [BitVec.toInt_ofInt]
      simp [IntKind.wrap, IntKind.signed, IntKind.bits]
      try (simp only [Int.bmod]; omega)
    rw [e]
    simp [IntKind.bits]
    rfl
  rw [h2] at h1
  have h3 := congrArg (fun b => BitVec.ofInt 64 x ^^^ b) h1
  simp only [← BitVec.xor_assoc, BitVec.xor_self, BitVec.zero_xor] at h3
  exact absurd h3 (by decide)
/-- Of a cell that is taken for all time. -/
theorem take_full (base tb N : Nat) (mv : Option Nat) (T : Int → List (Int × Int)) (gb : Int → Nat) (x a b : Int) (w : World) (h : Tab w base tb N mv T gb) (hx : IW x) (hT : T x = [(0, 1048576)]) :
    Calls Try.prog 22 #[.pointer (some ⟨tb, 0, none⟩), .int .i64 x, .agg #[.int .i64 a, .int .i64 b]] w fun e w' => e = .returned (.int .i64 (if rgt a b = true then 3 else 1)) ∧ Below w.heap.size w w' := by
  cases hr : rgt a b with
  | false => exact (take_arg tb x a b w hr).mono (fun e w' ⟨h1, h2⟩ => ⟨by rw [h1]; rfl, h2⟩)
  | true =>
    have hr2 := hr
    unfold rgt at hr2
    simp only [Bool.and_eq_true, decide_eq_true_eq] at hr2
    have hp : plc (T x) a = 0 := by
      rw [hT]
      have : ¬ ((1048576 : Int) ≤ a) := by omega
      simp [plc, this]
    refine (take_there base tb N mv T gb x a b w h hx hr (by rw [hp, hT]; decide) (by rw [hp, hT]; show (0 : Int) < b; omega)).mono (fun e w' ⟨h1, h2⟩ => ⟨by rw [h1]; rfl, h2⟩)
theorem isT_full (m : Int) : isT [(0, 1048576)] m = false := by
  unfold isT
  by_cases h0 : 0 ≤ m
  · by_cases h1 : m < 1048576
    · have h2 : ¬ ((1048576 : Int) ≤ m) := by omega
      have h3 : ¬ (m < 0) := by omega
      simp [isF, plc, h2, h3]
    · simp [h1]
  · simp [h0]
theorem isT_nil (m : Int) : isT [] m = (decide (0 ≤ m) && decide (m < 1048576)) := by simp [isT, isF, plc]
theorem frees_full : frees [(0, 1048576)] = [] := by decide
set_option maxHeartbeats 4000000 in
theorem whole_any (x a b m : Int) (w : World) (hx : IW x) :
    Calls Try.prog 8 #[.int .i64 x, .agg #[.int .i64 a, .int .i64 b], .int .i64 m] w fun e w' => e = .returned (.bool true) ∧ Below w.heap.size w w' := by
  obtain ⟨b0, b1, hb⟩ := win_box w a b
  have HB0 := Lib.hid hb
  clear hb
  go_enter Try.func8, Try.ntmps8
  go_wp2_with fail
  refine (shown_any _).mono ?_
  rintro e w1 ⟨rfl, hb1⟩
  have b10 := (hb1.cell (p := ⟨w.heap.size, 0, none⟩) (by simp)).trans b0
  have b11 := (hb1.cell (p := ⟨w.heap.size, 1, none⟩) (by simp)).trans b1
  have HZ1 : Hid (w.heap.size < w1.heap.size) := Lib.hid (by have := hb1.size; rw [alloc_size] at this; omega)
  have HB1 := Lib.hid (HB0.out.trans (hb1.mono HB0.out.size))
  have HT1 := Lib.hid (Tab.new w1 w1.heap.size (Nat.le_refl _))
  clear hb1 b0 b1
  go_wp2_with fail
  refine (new_any w1).mono ?_
  rintro e w2 ⟨rfl, hw2⟩
  rw [← hw2] at HT1
  have HB2 : Hid (Below w1.heap.size w1 w2) := Lib.hid (by rw [hw2]; exact (Below.refl _ _).alloc (Nat.le_refl _) _)
  clear hw2
  have b20 := (HB2.out.cell (p := ⟨w.heap.size, 0, none⟩) HZ1.out).trans b10
  have b21 := (HB2.out.cell (p := ⟨w.heap.size, 1, none⟩) HZ1.out).trans b11
  go_wp2_with fail
  refine (take_end w1.heap.size w1.heap.size 0 none (fun _ => []) (fun _ => 0) x 0 1048576 w2 HT1.out hx (by omega) rfl rfl (by decide)).mono ?_
  rintro e w3 ⟨rfl, mv3, g3, hT3, ht3⟩
  obtain ⟨T3, hT3e⟩ : ∃ T3, T3 = upd (fun _ => []) x ((fun _ => []) x ++ [((0 : Int), (1048576 : Int))]) := ⟨_, rfl⟩
  obtain ⟨gb3, hg3e⟩ : ∃ gb3, gb3 = upd (fun _ => 0) x g3 := ⟨_, rfl⟩
  have HS3 : Hid (T3 x = [(0, 1048576)]) := Lib.hid (by rw [hT3e, upd_same]; rfl)
  have HO3 : Hid (∀ y, y ≠ x → T3 y = []) := Lib.hid (fun y hy => by rw [hT3e, upd_other _ _ hy])
  rw [← hT3e, ← hg3e] at hT3 ht3
  have HB3 : Hid (Below w1.heap.size w1 w3) := Lib.hid (HB2.out.trans (HT1.out.below ht3))
  have HT3 := Lib.hid hT3
  clear hT3e hg3e hT3 ht3 b20 b21
  have b30 := (HB3.out.cell (p := ⟨w.heap.size, 0, none⟩) HZ1.out).trans b10
  have b31 := (HB3.out.cell (p := ⟨w.heap.size, 1, none⟩) HZ1.out).trans b11
  clear b10 b11
  have HTF := Lib.hid (take_full w1.heap.size w1.heap.size _ mv3 T3 gb3 x a b w3 HT3.out hx HS3.out)
  have hc : (decide (0 ≤ a) = false ∧ rgt a b = false) ∨ (decide (0 ≤ a) = true ∧ decide (a < b) = false ∧ rgt a b = false) ∨ (decide (0 ≤ a) = true ∧ decide (a < b) = true ∧ decide (b ≤ 1048576) = false ∧ rgt a b = false) ∨ (decide (0 ≤ a) = true ∧ decide (a < b) = true ∧ decide (b ≤ 1048576) = true ∧ rgt a b = true) := by
    unfold rgt
    by_cases h0 : 0 ≤ a <;> by_cases h1 : a < b <;> by_cases h2 : b ≤ 1048576 <;> simp [h0, h1, h2]
  rcases hc with ⟨d0, hr⟩ | ⟨d0, d1, hr⟩ | ⟨d0, d1, d2, hr⟩ | ⟨d0, d1, d2, hr⟩
  all_goals
    rw [hr] at HTF
    clear hr
    go_wp2_with fail
    refine HTF.out.mono ?_
    rintro e w4 ⟨he, hb4⟩
    simp only [Bool.false_eq_true, if_false, if_true] at he
    subst he
    have HB4 := Lib.hid hb4
    have HT4 := Lib.hid (HT3.out.later hb4)
    clear hb4 b30 b31
    go_wp2_with fail
    refine (is_any w1.heap.size w1.heap.size _ mv3 T3 gb3 x m w4 HT4.out hx).mono ?_
    rw [HS3.out, isT_full]
    rintro e w5 ⟨rfl, hb5⟩
    have HB5 := Lib.hid hb5
    have HT5 := Lib.hid (HT4.out.later hb5)
    clear hb5
    go_wp2_with fail
    refine (free_any w1.heap.size w1.heap.size _ mv3 T3 gb3 x w5 HT5.out hx).mono ?_
    rw [HS3.out, frees_full]
    rintro e w6 ⟨A6, c6, rfl, _, hb6⟩
    have HB6 := Lib.hid hb6
    have HT6 := Lib.hid (HT5.out.later hb6)
    clear hb6
    go_wp2_with fail
    refine (is_any w1.heap.size w1.heap.size _ mv3 T3 gb3 (bits .xor .i64 x 1) m w6 HT6.out (xor_wf x)).mono ?_
    rw [HO3.out _ (xor_ne x), isT_nil]
    rintro e w7 ⟨he, hb7⟩
    have HB7 := Lib.hid hb7
    have HT7 := Lib.hid (HT6.out.later hb7)
    clear hb7
    have HK : Hid (Below w.heap.size w w7) := Lib.hid (by
      have q1 := HB1.out
      have q3 := HB3.out
      have z1 := q1.size
      have z3 := Nat.le_trans z1 q3.size
      have z4 := Nat.le_trans z3 HB4.out.size
      have z5 := Nat.le_trans z4 HB5.out.size
      have z6 := Nat.le_trans z5 HB6.out.size
      exact q1.trans ((q3.mono z1).trans ((HB4.out.mono z3).trans ((HB5.out.mono z4).trans ((HB6.out.mono z5).trans (HB7.out.mono z6))))))
    have hm : (decide (0 ≤ m) = false ∧ (decide (0 ≤ m) && decide (m < 1048576)) = false) ∨ (decide (0 ≤ m) = true ∧ decide (m < 1048576) = false ∧ (decide (0 ≤ m) && decide (m < 1048576)) = false) ∨ (decide (0 ≤ m) = true ∧ decide (m < 1048576) = true ∧ (decide (0 ≤ m) && decide (m < 1048576)) = true) := by
      by_cases h0 : 0 ≤ m <;> by_cases h1 : m < 1048576 <;> simp [h0, h1]
    rcases hm with ⟨e0, hr⟩ | ⟨e0, e1, hr⟩ | ⟨e0, e1, hr⟩
    all_goals
      rw [hr] at he
      subst he
      clear hr
      go_wp2_with fail
      refine (taken_any w1.heap.size w1.heap.size _ mv3 T3 gb3 (bits .xor .i64 x 1) w7 HT7.out (xor_wf x)).mono ?_
      rw [HO3.out _ (xor_ne x)]
      rintro e w8 ⟨A8, c8, rfl, _, hb8⟩
      have HB8 := Lib.hid (HK.out.trans (hb8.mono HK.out.size))
      clear hb8
      go_wp2_with fail
      go_ret
      exact ⟨rfl, HB8.out⟩
theorem windowWhole_walk (x : Int) (hx : -9223372036854775808 ≤ x ∧ x ≤ 9223372036854775807) (a b m : Int) (hm : -9223372036854775808 ≤ m ∧ m ≤ 9223372036854775807) (w : World) :
    Calls Try.prog 8 #[.int .i64 x, .agg #[.int .i64 a, .int .i64 b], .int .i64 m] w fun e w' => e = .returned (.bool true) ∧ Below w.heap.size w w' := whole_any x a b m w hx
end Go.Proofs.Ytfedfgfiaajpjaa.Wn
