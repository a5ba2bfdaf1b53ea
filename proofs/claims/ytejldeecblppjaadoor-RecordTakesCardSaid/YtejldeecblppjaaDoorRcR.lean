/-
  Layer 17: the document's Right, Lay and LayAct.
-/
import Derived.Test.YtejldeecblppjaaDoorRcI
import Derived.Test.YtejldeecblppjaaDoorBtSix
set_option linter.unusedVariables false
set_option maxRecDepth 100000
namespace Go.Proofs.YtejldeecblppjaaDoor
namespace Rc
open Go.RowKit Bp Ck
theorem in_any (n m : Int) (b : Bool) (hb : decide (0 ≤ n ∧ n ≤ m) = b) (w : World) :
    Calls Tryd.prog 39 #[.int .i64 n, .int .i64 m] w fun e w' => e = .returned (.bool b) ∧ w = w' := by
  by_cases hn : 0 ≤ n
  · have e1 : decide (0 ≤ n) = true := decide_eq_true hn
    rw [Bool.decide_and, e1, Bool.true_and] at hb
    go_enter Tryd.func39, Tryd.ntmps39
    go_wp2
    go_ret
    exact ⟨by rw [← hb]; rfl, rfl⟩
  · have e1 : decide (0 ≤ n) = false := decide_eq_false hn
    rw [Bool.decide_and, e1, Bool.false_and] at hb
    subst hb
    go_enter Tryd.func39, Tryd.ntmps39
    go_wp2
    go_ret
    exact ⟨rfl, rfl⟩
theorem rok1 (i r p c q : Int) : Rok 1 (five i r p c q) ↔ i = 0 ∧ r = 0 ∧ (0 ≤ p ∧ p ≤ 63) ∧ (0 ≤ c ∧ c ≤ 255) ∧ (0 ≤ q ∧ q ≤ 5) := by
  constructor
  · intro h
    have h0 := h.2 0 (by decide); have h1 := h.2 1 (by decide); have h2 := h.2 2 (by decide); have h3 := h.2 3 (by decide); have h4 := h.2 4 (by decide)
    simp [five, fmx, fl] at h0 h1 h2 h3 h4
    omega
  · intro h
    refine ⟨by simp [fl], fun f hf => ?_⟩
    have hcs : f = 0 ∨ f = 1 ∨ f = 2 ∨ f = 3 ∨ f = 4 := by omega
    rcases hcs with rfl | rfl | rfl | rfl | rfl <;> simp [five, fmx, fl] <;> omega
theorem rok2 (i r p c q : Int) : Rok 2 (five i r p c q) ↔ (0 ≤ i ∧ i ≤ 1073741824) ∧ (r = 0) ∧ p = 0 ∧ c = 0 ∧ q = 0 := by
  constructor
  · intro h
    have h0 := h.2 0 (by decide); have h1 := h.2 1 (by decide); have h2 := h.2 2 (by decide); have h3 := h.2 3 (by decide); have h4 := h.2 4 (by decide)
    simp [five, fmx, fl] at h0 h1 h2 h3 h4
    omega
  · intro h
    refine ⟨by simp [fl], fun f hf => ?_⟩
    have hcs : f = 0 ∨ f = 1 ∨ f = 2 ∨ f = 3 ∨ f = 4 := by omega
    rcases hcs with rfl | rfl | rfl | rfl | rfl <;> simp [five, fmx, fl] <;> omega
theorem rok3 (i r p c q : Int) : Rok 3 (five i r p c q) ↔ (0 ≤ i ∧ i ≤ 1073741824) ∧ (0 ≤ r ∧ r ≤ 7) ∧ p = 0 ∧ c = 0 ∧ q = 0 := by
  constructor
  · intro h
    have h0 := h.2 0 (by decide); have h1 := h.2 1 (by decide); have h2 := h.2 2 (by decide); have h3 := h.2 3 (by decide); have h4 := h.2 4 (by decide)
    simp [five, fmx, fl] at h0 h1 h2 h3 h4
    omega
  · intro h
    refine ⟨by simp [fl], fun f hf => ?_⟩
    have hcs : f = 0 ∨ f = 1 ∨ f = 2 ∨ f = 3 ∨ f = 4 := by omega
    rcases hcs with rfl | rfl | rfl | rfl | rfl <;> simp [five, fmx, fl] <;> omega
theorem rok4 (i r p c q : Int) : Rok 4 (five i r p c q) ↔ (i = 0) ∧ (0 ≤ r ∧ r ≤ 7) ∧ p = 0 ∧ c = 0 ∧ q = 0 := by
  constructor
  · intro h
    have h0 := h.2 0 (by decide); have h1 := h.2 1 (by decide); have h2 := h.2 2 (by decide); have h3 := h.2 3 (by decide); have h4 := h.2 4 (by decide)
    simp [five, fmx, fl] at h0 h1 h2 h3 h4
    omega
  · intro h
    refine ⟨by simp [fl], fun f hf => ?_⟩
    have hcs : f = 0 ∨ f = 1 ∨ f = 2 ∨ f = 3 ∨ f = 4 := by omega
    rcases hcs with rfl | rfl | rfl | rfl | rfl <;> simp [five, fmx, fl] <;> omega
theorem rok5 (i r p c q : Int) : Rok 5 (five i r p c q) ↔ (i = 0) ∧ (0 ≤ r ∧ r ≤ 7) ∧ p = 0 ∧ c = 0 ∧ q = 0 := by
  constructor
  · intro h
    have h0 := h.2 0 (by decide); have h1 := h.2 1 (by decide); have h2 := h.2 2 (by decide); have h3 := h.2 3 (by decide); have h4 := h.2 4 (by decide)
    simp [five, fmx, fl] at h0 h1 h2 h3 h4
    omega
  · intro h
    refine ⟨by simp [fl], fun f hf => ?_⟩
    have hcs : f = 0 ∨ f = 1 ∨ f = 2 ∨ f = 3 ∨ f = 4 := by omega
    rcases hcs with rfl | rfl | rfl | rfl | rfl <;> simp [five, fmx, fl] <;> omega
set_option maxHeartbeats 4000000 in
theorem rright_1 (i r p c q : Int) (w : World) : Calls Tryd.prog 14 #[.agg #[.int .u8 1, .int .i64 i, .int .i64 r, .int .i64 p, .int .i64 c, .int .i64 q]] w fun e w' => e = .returned (.bool (decide (Rok 1 (five i r p c q)))) ∧ Below w.heap.size w w' := by
  have HB := Lib.hid (below_new w (.cells #[.int .u8 1, .int .i64 i, .int .i64 r, .int .i64 p, .int .i64 c, .int .i64 q] 23))
  rcases (Decidable.em (i = 0)).symm with h0 | h0
  · have hd : decide (Rok 1 (five i r p c q)) = false := decide_eq_false (fun x => by rw [rok1] at x; exact h0 (by omega))
    have d0 : (i == 0) = false := by simpa using h0
    rw [hd]
    clear hd h0
    go_enter Tryd.func14, Tryd.ntmps14
    go_wp2
    go_ret
    exact ⟨rfl, HB.out⟩
  have d0 : (i == 0) = true := by simpa using h0
  rcases (Decidable.em (r = 0)).symm with h1 | h1
  · have hd : decide (Rok 1 (five i r p c q)) = false := decide_eq_false (fun x => by rw [rok1] at x; exact h1 (by omega))
    have d1 : (r == 0) = false := by simpa using h1
    rw [hd]
    clear hd h0 h1
    go_enter Tryd.func14, Tryd.ntmps14
    go_wp2
    go_ret
    exact ⟨rfl, HB.out⟩
  have d1 : (r == 0) = true := by simpa using h1
  rcases (Decidable.em (0 ≤ p ∧ p ≤ 63)).symm with h2 | h2
  · have hd : decide (Rok 1 (five i r p c q)) = false := decide_eq_false (fun x => by rw [rok1] at x; exact h2 (by omega))
    have d2 : decide (0 ≤ p ∧ p ≤ 63) = false := decide_eq_false h2
    rw [hd]
    clear hd h0 h1 h2
    go_enter Tryd.func14, Tryd.ntmps14
    go_wp2_with fail
    refine (in_any p 63 false d2 _).mono ?_
    rintro e w1 ⟨rfl, rfl⟩
    go_wp2
    go_ret
    exact ⟨rfl, HB.out⟩
  have d2 : decide (0 ≤ p ∧ p ≤ 63) = true := decide_eq_true h2
  rcases (Decidable.em (0 ≤ c ∧ c ≤ 255)).symm with h3 | h3
  · have hd : decide (Rok 1 (five i r p c q)) = false := decide_eq_false (fun x => by rw [rok1] at x; exact h3 (by omega))
    have d3 : decide (0 ≤ c ∧ c ≤ 255) = false := decide_eq_false h3
    rw [hd]
    clear hd h0 h1 h2 h3
    go_enter Tryd.func14, Tryd.ntmps14
    go_wp2_with fail
    refine (in_any p 63 true d2 _).mono ?_
    rintro e w1 ⟨rfl, rfl⟩
    go_wp2_with fail
    refine (in_any c 255 false d3 _).mono ?_
    rintro e w1 ⟨rfl, rfl⟩
    go_wp2
    go_ret
    exact ⟨rfl, HB.out⟩
  have d3 : decide (0 ≤ c ∧ c ≤ 255) = true := decide_eq_true h3
  rcases (Decidable.em (0 ≤ q ∧ q ≤ 5)).symm with h4 | h4
  · have hd : decide (Rok 1 (five i r p c q)) = false := decide_eq_false (fun x => by rw [rok1] at x; exact h4 (by omega))
    have d4 : decide (0 ≤ q ∧ q ≤ 5) = false := decide_eq_false h4
    rw [hd]
    clear hd h0 h1 h2 h3 h4
    go_enter Tryd.func14, Tryd.ntmps14
    go_wp2_with fail
    refine (in_any p 63 true d2 _).mono ?_
    rintro e w1 ⟨rfl, rfl⟩
    go_wp2_with fail
    refine (in_any c 255 true d3 _).mono ?_
    rintro e w1 ⟨rfl, rfl⟩
    go_wp2_with fail
    refine (in_any q 5 false d4 _).mono ?_
    rintro e w1 ⟨rfl, rfl⟩
    go_wp2
    go_ret
    exact ⟨rfl, HB.out⟩
  have d4 : decide (0 ≤ q ∧ q ≤ 5) = true := decide_eq_true h4
  have hd : decide (Rok 1 (five i r p c q)) = true := decide_eq_true ((rok1 i r p c q).2 ⟨h0, h1, h2, h3, h4⟩)
  rw [hd]
  clear hd h0 h1 h2 h3 h4
  go_enter Tryd.func14, Tryd.ntmps14
  go_wp2_with fail
  refine (in_any p 63 true d2 _).mono ?_
  rintro e w1 ⟨rfl, rfl⟩
  go_wp2_with fail
  refine (in_any c 255 true d3 _).mono ?_
  rintro e w1 ⟨rfl, rfl⟩
  go_wp2_with fail
  refine (in_any q 5 true d4 _).mono ?_
  rintro e w1 ⟨rfl, rfl⟩
  go_wp2
  go_ret
  exact ⟨rfl, HB.out⟩
set_option maxHeartbeats 4000000 in
theorem rright_2 (i r p c q : Int) (w : World) : Calls Tryd.prog 14 #[.agg #[.int .u8 2, .int .i64 i, .int .i64 r, .int .i64 p, .int .i64 c, .int .i64 q]] w fun e w' => e = .returned (.bool (decide (Rok 2 (five i r p c q)))) ∧ Below w.heap.size w w' := by
  have HB := Lib.hid (below_new w (.cells #[.int .u8 2, .int .i64 i, .int .i64 r, .int .i64 p, .int .i64 c, .int .i64 q] 23))
  rcases (Decidable.em (0 ≤ i ∧ i ≤ 1073741824)).symm with h0 | h0
  · have hd : decide (Rok 2 (five i r p c q)) = false := decide_eq_false (fun x => by rw [rok2] at x; exact h0 (by omega))
    have d0 : decide (0 ≤ i ∧ i ≤ 1073741824) = false := decide_eq_false h0
    rw [hd]
    clear hd h0
    go_enter Tryd.func14, Tryd.ntmps14
    go_wp2_with fail
    refine (in_any i 1073741824 false d0 _).mono ?_
    rintro e w1 ⟨rfl, rfl⟩
    go_wp2
    go_ret
    exact ⟨rfl, HB.out⟩
  have d0 : decide (0 ≤ i ∧ i ≤ 1073741824) = true := decide_eq_true h0
  rcases (Decidable.em (r = 0)).symm with h1 | h1
  · have hd : decide (Rok 2 (five i r p c q)) = false := decide_eq_false (fun x => by rw [rok2] at x; exact h1 (by omega))
    have d1 : (r == 0) = false := by simpa using h1
    rw [hd]
    clear hd h0 h1
    go_enter Tryd.func14, Tryd.ntmps14
    go_wp2_with fail
    refine (in_any i 1073741824 true d0 _).mono ?_
    rintro e w1 ⟨rfl, rfl⟩
    go_wp2
    go_ret
    exact ⟨rfl, HB.out⟩
  have d1 : (r == 0) = true := by simpa using h1
  rcases (Decidable.em (p = 0)).symm with h2 | h2
  · have hd : decide (Rok 2 (five i r p c q)) = false := decide_eq_false (fun x => by rw [rok2] at x; exact h2 (by omega))
    have d2 : (p == 0) = false := by simpa using h2
    rw [hd]
    clear hd h0 h1 h2
    go_enter Tryd.func14, Tryd.ntmps14
    go_wp2_with fail
    refine (in_any i 1073741824 true d0 _).mono ?_
    rintro e w1 ⟨rfl, rfl⟩
    go_wp2
    go_ret
    exact ⟨rfl, HB.out⟩
  have d2 : (p == 0) = true := by simpa using h2
  rcases (Decidable.em (c = 0)).symm with h3 | h3
  · have hd : decide (Rok 2 (five i r p c q)) = false := decide_eq_false (fun x => by rw [rok2] at x; exact h3 (by omega))
    have d3 : (c == 0) = false := by simpa using h3
    rw [hd]
    clear hd h0 h1 h2 h3
    go_enter Tryd.func14, Tryd.ntmps14
    go_wp2_with fail
    refine (in_any i 1073741824 true d0 _).mono ?_
    rintro e w1 ⟨rfl, rfl⟩
    go_wp2
    go_ret
    exact ⟨rfl, HB.out⟩
  have d3 : (c == 0) = true := by simpa using h3
  rcases (Decidable.em (q = 0)).symm with h4 | h4
  · have hd : decide (Rok 2 (five i r p c q)) = false := decide_eq_false (fun x => by rw [rok2] at x; exact h4 (by omega))
    have d4 : (q == 0) = false := by simpa using h4
    rw [hd]
    clear hd h0 h1 h2 h3 h4
    go_enter Tryd.func14, Tryd.ntmps14
    go_wp2_with fail
    refine (in_any i 1073741824 true d0 _).mono ?_
    rintro e w1 ⟨rfl, rfl⟩
    go_wp2
    go_ret
    exact ⟨rfl, HB.out⟩
  have d4 : (q == 0) = true := by simpa using h4
  have hd : decide (Rok 2 (five i r p c q)) = true := decide_eq_true ((rok2 i r p c q).2 ⟨h0, h1, h2, h3, h4⟩)
  rw [hd]
  clear hd h0 h1 h2 h3 h4
  go_enter Tryd.func14, Tryd.ntmps14
  go_wp2_with fail
  refine (in_any i 1073741824 true d0 _).mono ?_
  rintro e w1 ⟨rfl, rfl⟩
  go_wp2
  go_ret
  exact ⟨rfl, HB.out⟩
set_option maxHeartbeats 4000000 in
theorem rright_3 (i r p c q : Int) (w : World) : Calls Tryd.prog 14 #[.agg #[.int .u8 3, .int .i64 i, .int .i64 r, .int .i64 p, .int .i64 c, .int .i64 q]] w fun e w' => e = .returned (.bool (decide (Rok 3 (five i r p c q)))) ∧ Below w.heap.size w w' := by
  have HB := Lib.hid (below_new w (.cells #[.int .u8 3, .int .i64 i, .int .i64 r, .int .i64 p, .int .i64 c, .int .i64 q] 23))
  rcases (Decidable.em (0 ≤ i ∧ i ≤ 1073741824)).symm with h0 | h0
  · have hd : decide (Rok 3 (five i r p c q)) = false := decide_eq_false (fun x => by rw [rok3] at x; exact h0 (by omega))
    have d0 : decide (0 ≤ i ∧ i ≤ 1073741824) = false := decide_eq_false h0
    rw [hd]
    clear hd h0
    go_enter Tryd.func14, Tryd.ntmps14
    go_wp2_with fail
    refine (in_any i 1073741824 false d0 _).mono ?_
    rintro e w1 ⟨rfl, rfl⟩
    go_wp2
    go_ret
    exact ⟨rfl, HB.out⟩
  have d0 : decide (0 ≤ i ∧ i ≤ 1073741824) = true := decide_eq_true h0
  rcases (Decidable.em (0 ≤ r ∧ r ≤ 7)).symm with h1 | h1
  · have hd : decide (Rok 3 (five i r p c q)) = false := decide_eq_false (fun x => by rw [rok3] at x; exact h1 (by omega))
    have d1 : decide (0 ≤ r ∧ r ≤ 7) = false := decide_eq_false h1
    rw [hd]
    clear hd h0 h1
    go_enter Tryd.func14, Tryd.ntmps14
    go_wp2_with fail
    refine (in_any i 1073741824 true d0 _).mono ?_
    rintro e w1 ⟨rfl, rfl⟩
    go_wp2_with fail
    refine (in_any r 7 false d1 _).mono ?_
    rintro e w1 ⟨rfl, rfl⟩
    go_wp2
    go_ret
    exact ⟨rfl, HB.out⟩
  have d1 : decide (0 ≤ r ∧ r ≤ 7) = true := decide_eq_true h1
  rcases (Decidable.em (p = 0)).symm with h2 | h2
  · have hd : decide (Rok 3 (five i r p c q)) = false := decide_eq_false (fun x => by rw [rok3] at x; exact h2 (by omega))
    have d2 : (p == 0) = false := by simpa using h2
    rw [hd]
    clear hd h0 h1 h2
    go_enter Tryd.func14, Tryd.ntmps14
    go_wp2_with fail
    refine (in_any i 1073741824 true d0 _).mono ?_
    rintro e w1 ⟨rfl, rfl⟩
    go_wp2_with fail
    refine (in_any r 7 true d1 _).mono ?_
    rintro e w1 ⟨rfl, rfl⟩
    go_wp2
    go_ret
    exact ⟨rfl, HB.out⟩
  have d2 : (p == 0) = true := by simpa using h2
  rcases (Decidable.em (c = 0)).symm with h3 | h3
  · have hd : decide (Rok 3 (five i r p c q)) = false := decide_eq_false (fun x => by rw [rok3] at x; exact h3 (by omega))
    have d3 : (c == 0) = false := by simpa using h3
    rw [hd]
    clear hd h0 h1 h2 h3
    go_enter Tryd.func14, Tryd.ntmps14
    go_wp2_with fail
    refine (in_any i 1073741824 true d0 _).mono ?_
    rintro e w1 ⟨rfl, rfl⟩
    go_wp2_with fail
    refine (in_any r 7 true d1 _).mono ?_
    rintro e w1 ⟨rfl, rfl⟩
    go_wp2
    go_ret
    exact ⟨rfl, HB.out⟩
  have d3 : (c == 0) = true := by simpa using h3
  rcases (Decidable.em (q = 0)).symm with h4 | h4
  · have hd : decide (Rok 3 (five i r p c q)) = false := decide_eq_false (fun x => by rw [rok3] at x; exact h4 (by omega))
    have d4 : (q == 0) = false := by simpa using h4
    rw [hd]
    clear hd h0 h1 h2 h3 h4
    go_enter Tryd.func14, Tryd.ntmps14
    go_wp2_with fail
    refine (in_any i 1073741824 true d0 _).mono ?_
    rintro e w1 ⟨rfl, rfl⟩
    go_wp2_with fail
    refine (in_any r 7 true d1 _).mono ?_
    rintro e w1 ⟨rfl, rfl⟩
    go_wp2
    go_ret
    exact ⟨rfl, HB.out⟩
  have d4 : (q == 0) = true := by simpa using h4
  have hd : decide (Rok 3 (five i r p c q)) = true := decide_eq_true ((rok3 i r p c q).2 ⟨h0, h1, h2, h3, h4⟩)
  rw [hd]
  clear hd h0 h1 h2 h3 h4
  go_enter Tryd.func14, Tryd.ntmps14
  go_wp2_with fail
  refine (in_any i 1073741824 true d0 _).mono ?_
  rintro e w1 ⟨rfl, rfl⟩
  go_wp2_with fail
  refine (in_any r 7 true d1 _).mono ?_
  rintro e w1 ⟨rfl, rfl⟩
  go_wp2
  go_ret
  exact ⟨rfl, HB.out⟩
set_option maxHeartbeats 4000000 in
theorem rright_4 (i r p c q : Int) (w : World) : Calls Tryd.prog 14 #[.agg #[.int .u8 4, .int .i64 i, .int .i64 r, .int .i64 p, .int .i64 c, .int .i64 q]] w fun e w' => e = .returned (.bool (decide (Rok 4 (five i r p c q)))) ∧ Below w.heap.size w w' := by
  have HB := Lib.hid (below_new w (.cells #[.int .u8 4, .int .i64 i, .int .i64 r, .int .i64 p, .int .i64 c, .int .i64 q] 23))
  rcases (Decidable.em (i = 0)).symm with h0 | h0
  · have hd : decide (Rok 4 (five i r p c q)) = false := decide_eq_false (fun x => by rw [rok4] at x; exact h0 (by omega))
    have d0 : (i == 0) = false := by simpa using h0
    rw [hd]
    clear hd h0
    go_enter Tryd.func14, Tryd.ntmps14
    go_wp2
    go_ret
    exact ⟨rfl, HB.out⟩
  have d0 : (i == 0) = true := by simpa using h0
  rcases (Decidable.em (0 ≤ r ∧ r ≤ 7)).symm with h1 | h1
  · have hd : decide (Rok 4 (five i r p c q)) = false := decide_eq_false (fun x => by rw [rok4] at x; exact h1 (by omega))
    have d1 : decide (0 ≤ r ∧ r ≤ 7) = false := decide_eq_false h1
    rw [hd]
    clear hd h0 h1
    go_enter Tryd.func14, Tryd.ntmps14
    go_wp2_with fail
    refine (in_any r 7 false d1 _).mono ?_
    rintro e w1 ⟨rfl, rfl⟩
    go_wp2
    go_ret
    exact ⟨rfl, HB.out⟩
  have d1 : decide (0 ≤ r ∧ r ≤ 7) = true := decide_eq_true h1
  rcases (Decidable.em (p = 0)).symm with h2 | h2
  · have hd : decide (Rok 4 (five i r p c q)) = false := decide_eq_false (fun x => by rw [rok4] at x; exact h2 (by omega))
    have d2 : (p == 0) = false := by simpa using h2
    rw [hd]
    clear hd h0 h1 h2
    go_enter Tryd.func14, Tryd.ntmps14
    go_wp2_with fail
    refine (in_any r 7 true d1 _).mono ?_
    rintro e w1 ⟨rfl, rfl⟩
    go_wp2
    go_ret
    exact ⟨rfl, HB.out⟩
  have d2 : (p == 0) = true := by simpa using h2
  rcases (Decidable.em (c = 0)).symm with h3 | h3
  · have hd : decide (Rok 4 (five i r p c q)) = false := decide_eq_false (fun x => by rw [rok4] at x; exact h3 (by omega))
    have d3 : (c == 0) = false := by simpa using h3
    rw [hd]
    clear hd h0 h1 h2 h3
    go_enter Tryd.func14, Tryd.ntmps14
    go_wp2_with fail
    refine (in_any r 7 true d1 _).mono ?_
    rintro e w1 ⟨rfl, rfl⟩
    go_wp2
    go_ret
    exact ⟨rfl, HB.out⟩
  have d3 : (c == 0) = true := by simpa using h3
  rcases (Decidable.em (q = 0)).symm with h4 | h4
  · have hd : decide (Rok 4 (five i r p c q)) = false := decide_eq_false (fun x => by rw [rok4] at x; exact h4 (by omega))
    have d4 : (q == 0) = false := by simpa using h4
    rw [hd]
    clear hd h0 h1 h2 h3 h4
    go_enter Tryd.func14, Tryd.ntmps14
    go_wp2_with fail
    refine (in_any r 7 true d1 _).mono ?_
    rintro e w1 ⟨rfl, rfl⟩
    go_wp2
    go_ret
    exact ⟨rfl, HB.out⟩
  have d4 : (q == 0) = true := by simpa using h4
  have hd : decide (Rok 4 (five i r p c q)) = true := decide_eq_true ((rok4 i r p c q).2 ⟨h0, h1, h2, h3, h4⟩)
  rw [hd]
  clear hd h0 h1 h2 h3 h4
  go_enter Tryd.func14, Tryd.ntmps14
  go_wp2_with fail
  refine (in_any r 7 true d1 _).mono ?_
  rintro e w1 ⟨rfl, rfl⟩
  go_wp2
  go_ret
  exact ⟨rfl, HB.out⟩
set_option maxHeartbeats 4000000 in
theorem rright_5 (i r p c q : Int) (w : World) : Calls Tryd.prog 14 #[.agg #[.int .u8 5, .int .i64 i, .int .i64 r, .int .i64 p, .int .i64 c, .int .i64 q]] w fun e w' => e = .returned (.bool (decide (Rok 5 (five i r p c q)))) ∧ Below w.heap.size w w' := by
  have HB := Lib.hid (below_new w (.cells #[.int .u8 5, .int .i64 i, .int .i64 r, .int .i64 p, .int .i64 c, .int .i64 q] 23))
  rcases (Decidable.em (i = 0)).symm with h0 | h0
  · have hd : decide (Rok 5 (five i r p c q)) = false := decide_eq_false (fun x => by rw [rok5] at x; exact h0 (by omega))
    have d0 : (i == 0) = false := by simpa using h0
    rw [hd]
    clear hd h0
    go_enter Tryd.func14, Tryd.ntmps14
    go_wp2
    go_ret
    exact ⟨rfl, HB.out⟩
  have d0 : (i == 0) = true := by simpa using h0
  rcases (Decidable.em (0 ≤ r ∧ r ≤ 7)).symm with h1 | h1
  · have hd : decide (Rok 5 (five i r p c q)) = false := decide_eq_false (fun x => by rw [rok5] at x; exact h1 (by omega))
    have d1 : decide (0 ≤ r ∧ r ≤ 7) = false := decide_eq_false h1
    rw [hd]
    clear hd h0 h1
    go_enter Tryd.func14, Tryd.ntmps14
    go_wp2_with fail
    refine (in_any r 7 false d1 _).mono ?_
    rintro e w1 ⟨rfl, rfl⟩
    go_wp2
    go_ret
    exact ⟨rfl, HB.out⟩
  have d1 : decide (0 ≤ r ∧ r ≤ 7) = true := decide_eq_true h1
  rcases (Decidable.em (p = 0)).symm with h2 | h2
  · have hd : decide (Rok 5 (five i r p c q)) = false := decide_eq_false (fun x => by rw [rok5] at x; exact h2 (by omega))
    have d2 : (p == 0) = false := by simpa using h2
    rw [hd]
    clear hd h0 h1 h2
    go_enter Tryd.func14, Tryd.ntmps14
    go_wp2_with fail
    refine (in_any r 7 true d1 _).mono ?_
    rintro e w1 ⟨rfl, rfl⟩
    go_wp2
    go_ret
    exact ⟨rfl, HB.out⟩
  have d2 : (p == 0) = true := by simpa using h2
  rcases (Decidable.em (c = 0)).symm with h3 | h3
  · have hd : decide (Rok 5 (five i r p c q)) = false := decide_eq_false (fun x => by rw [rok5] at x; exact h3 (by omega))
    have d3 : (c == 0) = false := by simpa using h3
    rw [hd]
    clear hd h0 h1 h2 h3
    go_enter Tryd.func14, Tryd.ntmps14
    go_wp2_with fail
    refine (in_any r 7 true d1 _).mono ?_
    rintro e w1 ⟨rfl, rfl⟩
    go_wp2
    go_ret
    exact ⟨rfl, HB.out⟩
  have d3 : (c == 0) = true := by simpa using h3
  rcases (Decidable.em (q = 0)).symm with h4 | h4
  · have hd : decide (Rok 5 (five i r p c q)) = false := decide_eq_false (fun x => by rw [rok5] at x; exact h4 (by omega))
    have d4 : (q == 0) = false := by simpa using h4
    rw [hd]
    clear hd h0 h1 h2 h3 h4
    go_enter Tryd.func14, Tryd.ntmps14
    go_wp2_with fail
    refine (in_any r 7 true d1 _).mono ?_
    rintro e w1 ⟨rfl, rfl⟩
    go_wp2
    go_ret
    exact ⟨rfl, HB.out⟩
  have d4 : (q == 0) = true := by simpa using h4
  have hd : decide (Rok 5 (five i r p c q)) = true := decide_eq_true ((rok5 i r p c q).2 ⟨h0, h1, h2, h3, h4⟩)
  rw [hd]
  clear hd h0 h1 h2 h3 h4
  go_enter Tryd.func14, Tryd.ntmps14
  go_wp2_with fail
  refine (in_any r 7 true d1 _).mono ?_
  rintro e w1 ⟨rfl, rfl⟩
  go_wp2
  go_ret
  exact ⟨rfl, HB.out⟩
theorem rright_any (k : Nat) (i r p c q : Int) (w : World) : Calls Tryd.prog 14 #[.agg #[.int .u8 (k : Int), .int .i64 i, .int .i64 r, .int .i64 p, .int .i64 c, .int .i64 q]] w fun e w' => e = .returned (.bool (decide (Rok k (five i r p c q)))) ∧ Below w.heap.size w w' := by
  by_cases h : k = 1 ∨ k = 2 ∨ k = 3 ∨ k = 4 ∨ k = 5
  · rcases h with rfl | rfl | rfl | rfl | rfl
    · exact rright_1 i r p c q w
    · exact rright_2 i r p c q w
    · exact rright_3 i r p c q w
    · exact rright_4 i r p c q w
    · exact rright_5 i r p c q w
  · have hd : decide (Rok k (five i r p c q)) = false := decide_eq_false (fun x => by have := x.kind; omega)
    have d1 : ((k : Int) == 1) = false := by simp; omega
    have d2 : ((k : Int) == 2) = false := by simp; omega
    have d3 : ((k : Int) == 3) = false := by simp; omega
    have d4 : ((k : Int) == 4) = false := by simp; omega
    have d5 : ((k : Int) == 5) = false := by simp; omega
    have HB := Lib.hid (below_new w (.cells #[.int .u8 (k : Int), .int .i64 i, .int .i64 r, .int .i64 p, .int .i64 c, .int .i64 q] 23))
    rw [hd]
    clear hd h
    go_enter Tryd.func14, Tryd.ntmps14
    go_wp2
    go_ret
    exact ⟨rfl, HB.out⟩
end Rc
end Go.Proofs.YtejldeecblppjaaDoor
