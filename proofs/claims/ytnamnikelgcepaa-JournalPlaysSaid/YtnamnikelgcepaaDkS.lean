/-
  Layer 15: the document's disk: Read, Cut, Crash, New.
-/
import Derived.Test.YtnamnikelgcepaaDkR
set_option linter.unusedVariables false
set_option maxRecDepth 100000
namespace Go.Proofs.Ytnamnikelgcepaa
namespace Dk
open Go.RowKit Go.Maps Bk Nw

theorem rRead_any {w : World} {base q : Nat} {d : D} (h : RD w base q d) : Calls Try.prog 26 #[.pointer (some ⟨q, 0, none⟩)] w fun e w' => e = .returned (.tuple #[.string (rdS d), .int .i64 (pwE d)]) ∧ w = w' := by
  obtain ⟨c0, c1, c2, c3⟩ := h.cells
  cases hd : d.dead with
  | true =>
    have e1 : rdS d = ByteArray.empty := by unfold rdS; rw [if_pos hd]
    rw [hd] at c2
    rw [e1, pw_dead hd]
    clear h hd e1
    go_enter Try.func26, Try.ntmps26
    go_wp2_with fail
    go_ret2
    exact ⟨rfl, rfl⟩
  | false =>
    have e1 : rdS d = d.s := by unfold rdS; rw [if_neg (by rw [hd]; simp)]
    rw [hd] at c2
    rw [e1, pw_on hd]
    clear h hd e1
    go_enter Try.func26, Try.ntmps26
    go_wp2_with fail
    go_ret2
    exact ⟨rfl, rfl⟩
set_option maxHeartbeats 1000000 in
theorem rCut_any {w : World} {base q : Nat} {d : D} (h : RD w base q d) (x : Int) (hx : IW x) : Calls Try.prog 22 #[.pointer (some ⟨q, 0, none⟩), .int .i64 x] w (RTold base q (.tuple #[]) (ctD d x) w) := by
  obtain ⟨c0, c1, c2, c3⟩ := h.cells
  have f3 := h.free 3
  cases hd : d.dead with
  | true =>
    have e1 : ctD d x = d := by unfold ctD; rw [if_pos hd]
    have HN : Hid (RTold base q (.tuple #[]) (ctD d x) w (.returned (.tuple #[])) w) := Lib.hid ⟨rfl, by rw [e1]; exact h, Turn.refl _ _⟩
    rw [hd] at c2
    clear h hd e1
    go_enter Try.func22, Try.ntmps22
    go_wp2_with fail
    go_end0
    exact HN.out
  | false =>
    have e1 : ctD d x = ⟨d.s, d.safe, d.dead, decide (0 ≤ x), x⟩ := by unfold ctD; rw [if_neg (by rw [hd]; simp)]
    have HN : Hid (∀ y, y = (if 0 ≤ x then x else -1) → RTold base q (.tuple #[]) (ctD d x) w (.returned (.tuple #[])) (w.setCell ⟨q, 3, none⟩ (.int .i64 y))) := Lib.hid (by
      rintro y rfl
      rw [e1]
      refine ⟨rfl, ⟨rset h.box ?_, h.lo, h.le, h.few, fun _ z => of_decide_eq_true z, hx⟩, tone (Turn.refl _ _)⟩
      by_cases h0 : 0 ≤ x
      · simp [rbox, lf, hd, h0]
      · simp [rbox, lf, hd, h0])
    rw [hd] at c2
    clear h hd e1 hx
    by_cases h0 : 0 ≤ x
    · have HN2 := Lib.hid (HN.out x (by rw [if_pos h0]))
      have h1 : ¬ ((-1 : Int) > x) := by omega
      clear HN
      go_enter Try.func22, Try.ntmps22
      go_wp2_with fail
      go_end0
      exact HN2.out
    · have HN2 := Lib.hid (HN.out (-1) (by rw [if_neg h0]))
      clear HN
      by_cases h2 : x = -1
      · subst h2
        go_enter Try.func22, Try.ntmps22
        go_wp2_with fail
        go_end0
        exact HN2.out
      · have h1 : (-1 : Int) > x := by omega
        go_enter Try.func22, Try.ntmps22
        go_wp2_with fail
        go_end0
        exact HN2.out
set_option maxHeartbeats 4000000 in
theorem rCrash_any {w : World} {base q : Nat} {d : D} (h : RD w base q d) (x : Int) : Calls Try.prog 24 #[.pointer (some ⟨q, 0, none⟩), .int .i64 x] w (RTold base q (.tuple #[]) (crD d x) w) := by
  obtain ⟨c0, c1, c2, c3⟩ := h.cells
  have hle := h.le
  have hfew := h.few
  have f0 := h.free 0
  have f1 := h.free 1
  have f2 := h.free 2
  have f3 := h.free 3
  have HD := Lib.hid h
  have hw : IntKind.i64.wrap ((d.s.size : Int) - (d.safe : Int)) = (d.s.size : Int) - (d.safe : Int) := by rw [IntKind.wrap_i64]; omega
  obtain ⟨m, hm⟩ : ∃ m : Nat, m = min x.toNat (d.s.size - d.safe) := ⟨_, rfl⟩
  obtain ⟨cn, hcn⟩ : ∃ cn : Nat, cn = crN d x := ⟨_, rfl⟩
  have HC := Lib.hid hcn
  have hcm : cn = d.safe + m := by rw [hcn, hm]; rfl
  have hcl : cn ≤ d.s.size := by rw [hcn]; exact crN_le hle x
  have hw2 : IntKind.i64.wrap ((d.safe : Int) + (m : Int)) = (cn : Int) := by rw [IntKind.wrap_i64]; omega
  have hclI : (cn : Int) ≤ (d.s.size : Int) := by omega
  have HX : Hid ((d.s.extract 0 cn).size = cn) := Lib.hid (size_ext _ _ hcl)
  have HE : Hid (∀ (i1 i3 : Decidable ((d.s.size : Int) - (d.safe : Int) < x)) (i2 : Decidable (0 < @ite _ ((d.s.size : Int) - (d.safe : Int) < x) i1 ((d.s.size : Int) - (d.safe : Int)) x)), @ite _ (0 < @ite _ ((d.s.size : Int) - (d.safe : Int) < x) i1 ((d.s.size : Int) - (d.safe : Int)) x) i2 (@ite _ ((d.s.size : Int) - (d.safe : Int) < x) i3 ((d.s.size : Int) - (d.safe : Int)) x) 0 = (m : Int)) := Lib.hid (fun i1 i3 i2 => by
    by_cases hy : (d.s.size : Int) - (d.safe : Int) < x
    · by_cases h0 : 0 < (d.s.size : Int) - (d.safe : Int)
      · rw [if_pos (by rw [if_pos hy]; exact h0), if_pos hy]
        omega
      · rw [if_neg (by rw [if_pos hy]; exact h0)]
        omega
    · by_cases h0 : 0 < x
      · rw [if_pos (by rw [if_neg hy]; exact h0), if_neg hy]
        omega
      · rw [if_neg (by rw [if_neg hy]; exact h0)]
        omega)
  clear h hm hcn hcm
  go_enter Try.func24, Try.ntmps24
  go_wp2_with fail
  go_region_law (fail)
  all_goals
    rw [HE.out]
    clear hw HE
    go_wp2_with fail
  all_goals go_region_law (fail)
  all_goals
    go_wp2_with fail
    go_end0
    refine ⟨rfl, ⟨rset (rset (rset (rset ((show w.drew.drew.heap[q]? = _ from HD.out.box)) rfl) rfl) rfl) ?_, HD.out.lo, ?_, ?_, fun _ z => (by cases z), HD.out.num⟩, tone (tone (tone (tone (Turn.refl _ _).drew.drew)))⟩
    · simp [rbox, lf, crD, ← HC.out]
    · show crN d x ≤ (d.s.extract 0 (crN d x)).size
      rw [← HC.out, HX.out]
      exact Nat.le_refl _
    · show (d.s.extract 0 (crN d x)).size ≤ 1048576
      rw [← HC.out, HX.out]
      omega
theorem rnew_any (w : World) (base : Nat) (hb : base ≤ w.heap.size) : Calls Try.prog 10 #[] w fun e w' => e = .returned (.pointer (some ⟨w.heap.size, 0, none⟩)) ∧ RD w' base w.heap.size d0 ∧ Below w.heap.size w w' := by
  have H1 : Hid (RD (w.alloc (.cells #[.string ByteArray.empty, .int .i64 0, .bool false, .int .i64 (-1)] 53)) base w.heap.size d0) := Lib.hid ⟨heap_alloc_new w _, hb, Nat.le_refl _, by decide, fun _ q => (by cases q), (by show IW 0; unfold IW; decide)⟩
  have H2 := Lib.hid ((Below.refl w.heap.size w).alloc (Nat.le_refl _) (.cells #[.string ByteArray.empty, .int .i64 0, .bool false, .int .i64 (-1)] 53))
  go_enter Try.func10, Try.ntmps10
  go_wp2_with fail
  go_ret
  exact ⟨rfl, H1.out, H2.out⟩
end Dk
end Go.Proofs.Ytnamnikelgcepaa
