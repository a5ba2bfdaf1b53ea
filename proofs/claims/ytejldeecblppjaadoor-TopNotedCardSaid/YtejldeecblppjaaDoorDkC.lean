/-
  Layer 15: Read, Cut, Crash, Dead, Safe, Copy, New.
-/
import Derived.Test.YtejldeecblppjaaDoorDkB
set_option linter.unusedVariables false
set_option maxRecDepth 100000
namespace Go.Proofs.YtejldeecblppjaaDoor
namespace Dk
open Go.RowKit Go.Maps Bk Nw

/-- All bytes are told. -/
def ReadTold (d : D) (w : World) (e : Ending) (w' : World) : Prop := ∃ A c, e = .returned (.tuple #[.slice A (rdS d).size c, .int .i64 (pwE d)]) ∧ Yw w' w.heap.size (.slice A (rdS d).size c) (rdS d) ∧ Below w.heap.size w w'
set_option maxHeartbeats 1000000 in
theorem Read_any {w : World} {base g : Nat} {v : Value} {d : D} (h : DAt w base g v d) : Calls Tryd.prog 52 #[.pointer (some ⟨g, 0, none⟩)] w (ReadTold d w) := by
  have HP := Lib.hid (power_any h)
  obtain ⟨A, c, hv⟩ := h.form
  have k0 := h.cells.1
  cases hd : d.dead with
  | true =>
    have hp := pw_dead hd
    have e1 : rdS d = ByteArray.empty := by unfold rdS; rw [if_pos hd]
    have HN : Hid (ReadTold d w (.returned (.tuple #[.slice none 0 0, .int .i64 5])) w) := Lib.hid ⟨none, 0, by rw [e1, hp]; rfl, by rw [e1]; exact Yw.nil _ _, Below.refl _ _⟩
    rw [hp] at HP
    clear h hd hp e1
    go_enter Tryd.func52, Tryd.ntmps52
    go_wp2_with fail
    refine HP.out.mono ?_
    rintro e w1 ⟨rfl, rfl⟩
    go_wp2_with fail
    go_ret2
    exact HN.out
  | false =>
    have hp := pw_on hd
    have e1 : rdS d = d.s := by unfold rdS; rw [if_neg (by rw [hd]; simp)]
    rw [hp] at HP
    subst hv
    have HC := Lib.hid (copied_any A d.s.size c _ w h.own.yb (by have := h.few; omega))
    have HE := Lib.hid e1
    have HE2 := Lib.hid hp
    clear h hd hp e1
    go_enter Tryd.func52, Tryd.ntmps52
    go_wp2_with fail
    refine HP.out.mono ?_
    rintro e w1 ⟨rfl, rfl⟩
    go_wp2_with fail
    refine HC.out.mono ?_
    rintro e w2 ⟨rfl, hy2, hb2⟩
    have HY := Lib.hid hy2
    have HB := Lib.hid hb2
    clear hy2 hb2
    go_wp2_with fail
    go_ret2
    refine ⟨some ⟨w.heap.size, 0, none⟩, d.s.size, ?_, ?_, HB.out⟩
    · rw [HE.out, HE2.out]
      rfl
    · rw [HE.out]
      exact HY.out
theorem Read_nil (w : World) : Calls Tryd.prog 52 #[.pointer none] w fun e w' => e = .returned (.tuple #[.slice none 0 0, .int .i64 2]) ∧ w = w' := by
  have HP := Lib.hid (power_nil w)
  go_enter Tryd.func52, Tryd.ntmps52
  go_wp2_with fail
  refine HP.out.mono ?_
  rintro e w1 ⟨rfl, rfl⟩
  go_wp2_with fail
  go_ret2
  exact ⟨rfl, rfl⟩
set_option maxHeartbeats 1000000 in
theorem Cut_any {w : World} {base g : Nat} {v : Value} {d : D} (h : DAt w base g v d) (x : Int) (hx : IW x) : Calls Tryd.prog 23 #[.pointer (some ⟨g, 0, none⟩), .int .i64 x] w (Told base g v (.tuple #[]) (ctD d x) w) := by
  have HP := Lib.hid (power_any h)
  cases hd : d.dead with
  | true =>
    have hp := pw_dead hd
    have e1 : ctD d x = d := by unfold ctD; rw [if_pos hd]
    have HN : Hid (Told base g v (.tuple #[]) (ctD d x) w (.returned (.tuple #[])) w) := Lib.hid ⟨v, rfl, by rw [e1]; exact h, Turn.refl _ _⟩
    rw [hp] at HP
    clear h hd hp e1
    go_enter Tryd.func23, Tryd.ntmps23
    go_wp2_with fail
    refine HP.out.mono ?_
    rintro e w1 ⟨rfl, rfl⟩
    go_wp2_with fail
    go_end0
    exact HN.out
  | false =>
    have hp := pw_on hd
    have e1 : ctD d x = ⟨d.s, d.safe, d.dead, decide (0 ≤ x), x⟩ := by unfold ctD; rw [if_neg (by rw [hd]; simp)]
    obtain ⟨k0, k1, k2, k3, k4⟩ := h.cells
    have f3 := h.free 3
    have f4 := h.free 4
    have HN : Hid (∀ b : Bool, b = decide (0 ≤ x) → Told base g v (.tuple #[]) (ctD d x) w (.returned (.tuple #[])) ((w.setCell ⟨g, 3, none⟩ (.bool b)).setCell ⟨g, 4, none⟩ (.int .i64 x))) := Lib.hid (by
      rintro b rfl
      refine ⟨v, rfl, ?_, ((Turn.refl (DF g v) w).put _ (.inl rfl)).put _ (.inl rfl)⟩
      rw [e1]
      have g1 : (w.setCell ⟨g, 3, none⟩ (.bool (decide (0 ≤ x)))).heap[g]? = _ := heap_setCell_same w g 3 _ _ _ h.box
      refine h.re ?_ (fun k hk => (set_other _ _ _ _ _ hk).trans (set_other _ _ _ _ _ hk)) rfl h.le (fun _ q => of_decide_eq_true q) hx
      rw [heap_setCell_same _ g 4 _ _ _ g1]
      simp [box])
    rw [hp] at HP
    clear h hd hp e1 hx k0 k1 k2
    by_cases h0 : 0 ≤ x
    · have HN2 := Lib.hid (HN.out true (decide_eq_true h0).symm)
      clear HN
      go_enter Tryd.func23, Tryd.ntmps23
      go_wp2_with fail
      refine HP.out.mono ?_
      rintro e w1 ⟨rfl, rfl⟩
      go_wp2_with fail
      go_end0
      exact HN2.out
    · have HN2 := Lib.hid (HN.out false (decide_eq_false h0).symm)
      have d0 : decide (0 ≤ x) = false := decide_eq_false h0
      clear HN
      go_enter Tryd.func23, Tryd.ntmps23
      go_wp2_with fail
      refine HP.out.mono ?_
      rintro e w1 ⟨rfl, rfl⟩
      go_wp2_with fail
      go_end0
      exact HN2.out
theorem Cut_nil (x : Int) (w : World) : Calls Tryd.prog 23 #[.pointer none, .int .i64 x] w fun e w' => e = .returned (.tuple #[]) ∧ w = w' := by
  have HP := Lib.hid (power_nil w)
  go_enter Tryd.func23, Tryd.ntmps23
  go_wp2_with fail
  refine HP.out.mono ?_
  rintro e w1 ⟨rfl, rfl⟩
  go_wp2_with fail
  go_end0
  exact ⟨rfl, rfl⟩
set_option maxHeartbeats 8000000 in
theorem Crash_any {w : World} {base g : Nat} {v : Value} {d : D} (h : DAt w base g v d) (x : Int) : Calls Tryd.prog 26 #[.pointer (some ⟨g, 0, none⟩), .int .i64 x] w (Told base g v (.tuple #[]) (crD d x) w) := by
  obtain ⟨A, c, hv⟩ := h.form
  have HK := Lib.hid (keep_any (h.later (Below.refl _ _).drew) (crN d x) (crN_le h.le x))
  have HD := Lib.hid h
  obtain ⟨k0, k1, k2, k3, k4⟩ := h.cells
  have hle := h.le
  have hfew := h.few
  have HFIN : Hid (∀ v1 w1, DAt w1 base g v1 (kp d (crN d x)) → Turn (DF g v) (DF g v1) w.drew w1 → Told base g v (.tuple #[]) (crD d x) w (.returned (.tuple #[])) ((w1.setCell ⟨g, 2, none⟩ (.bool false)).setCell ⟨g, 3, none⟩ (.bool false))) := Lib.hid (fun v1 w1 hn ht => by
    refine ⟨v1, rfl, hn.re ?_ (fun k hk => (set_other _ _ _ _ _ hk).trans (set_other _ _ _ _ _ hk)) rfl hn.le (fun _ q => by cases q) hn.num, ((Turn.trans (show Turn (DF g v) (DF g v) w w.drew from (Turn.refl _ _).drew) ht).put _ (.inl rfl)).put _ (.inl rfl)⟩
    have g1 : (w1.setCell ⟨g, 2, none⟩ (.bool false)).heap[g]? = _ := heap_setCell_same w1 g 2 _ _ _ hn.box
    rw [heap_setCell_same _ g 3 _ _ _ g1]
    simp [box, kp, crD])
  obtain ⟨cn, hcn⟩ : ∃ cn, cn = crN d x := ⟨_, rfl⟩
  rw [← hcn] at HK HFIN
  unfold crN at hcn
  subst hv
  generalize d.s.size = sz at *
  generalize d.safe = sf at *
  clear h k2 k3 k4
  have hw : IntKind.i64.wrap ((sz : Int) - (sf : Int)) = (sz : Int) - (sf : Int) := by rw [IntKind.wrap_i64]; omega
  have hw2 : IntKind.i64.wrap (cn : Int) = (cn : Int) := by rw [IntKind.wrap_i64]; omega
  have HE : Hid (∀ (i1 i3 : Decidable (x < 0)) (i2 : Decidable (IntKind.i64.wrap ((sz : Int) - (sf : Int)) < @ite _ (x < 0) i1 0 x)), IntKind.i64.wrap ((sf : Int) + @ite _ (IntKind.i64.wrap ((sz : Int) - (sf : Int)) < @ite _ (x < 0) i1 0 x) i2 (IntKind.i64.wrap ((sz : Int) - (sf : Int))) (@ite _ (x < 0) i3 0 x)) = (cn : Int)) := Lib.hid (fun i1 i3 i2 => by
    rw [← hw2]
    congr 1
    by_cases hx : x < 0
    · have h2 : ¬ (IntKind.i64.wrap ((sz : Int) - (sf : Int)) < @ite _ (x < 0) i1 0 x) := by rw [hw, if_pos hx]; omega
      rw [if_neg h2, if_pos hx]
      omega
    · by_cases hy : (sz : Int) - (sf : Int) < x
      · have h2 : IntKind.i64.wrap ((sz : Int) - (sf : Int)) < @ite _ (x < 0) i1 0 x := by rw [hw, if_neg hx]; exact hy
        rw [if_pos h2, hw]
        omega
      · have h2 : ¬ (IntKind.i64.wrap ((sz : Int) - (sf : Int)) < @ite _ (x < 0) i1 0 x) := by rw [hw, if_neg hx]; exact hy
        rw [if_neg h2, if_neg hx]
        omega)
  clear hcn hw hw2
  go_enter Tryd.func26, Tryd.ntmps26
  go_wp2_with fail
  go_region_law (go_simp; go_at_call 59; rw [HE.out]; refine HK.out.mono ?_; rintro e w1 ⟨v1, rfl, hn1, ht1⟩; have f2 := hn1.free 2; have f3 := hn1.free 3; have j2 := hn1.cells.2.2.1; have j3 := hn1.cells.2.2.2.1; have HF := Lib.hid (HFIN.out v1 w1 hn1 ht1); clear hn1 ht1)
  all_goals go_wp2_with fail
  all_goals go_end0
  all_goals exact HF.out
theorem Crash_nil (x : Int) (w : World) : Calls Tryd.prog 26 #[.pointer none, .int .i64 x] w fun e w' => e = .returned (.tuple #[]) ∧ w = w' := by
  go_enter Tryd.func26, Tryd.ntmps26
  go_wp2_with fail
  ((try simp only [Exit.inBlock, Exit.then]); refine bodyPost_ret (results_none rfl _ _ _) rfl ?_)
  exact ⟨rfl, rfl⟩
theorem new_any (w : World) : Calls Tryd.prog 21 #[] w fun e w' => e = .returned (.pointer (some ⟨w.heap.size, 0, none⟩)) ∧ DAt w' w.heap.size w.heap.size (.slice none 0 0) d0 ∧ Below w.heap.size w w' := by
  have H1 : Hid (DAt (w.alloc (.cells #[.slice none 0 0, .int .i64 0, .bool false, .bool false, .int .i64 0] 88)) w.heap.size w.heap.size (.slice none 0 0) d0) := Lib.hid ⟨heap_alloc_new w _, Yw.nil _ _, Nat.le_refl _, Nat.le_refl _, by decide, fun _ q => (by cases q), (by show IW 0; unfold IW; decide)⟩
  have H2 := Lib.hid ((Below.refl w.heap.size w).alloc (Nat.le_refl _) (.cells #[.slice none 0 0, .int .i64 0, .bool false, .bool false, .int .i64 0] 88))
  go_enter Tryd.func21, Tryd.ntmps21
  go_wp2_with fail
  go_ret
  exact ⟨rfl, H1.out, H2.out⟩
end Dk
end Go.Proofs.YtejldeecblppjaaDoor
