/-
  PathBlocked: the walk.
-/
import Derived.Test.YtaioiobimenkfaaDoorPtArgs
set_option linter.unusedVariables false
set_option maxRecDepth 100000
namespace Go.Proofs.YtaioiobimenkfaaDoor
open Go.RowKit Fl Pt

theorem mk_more (f g : Nat → Int) (m k x : Nat) (h : mk f m x = true) : mk (fun j => (il f m ++ il g k).getD j 0) (il f m ++ il g k).length x = true := by
  rw [mk_iff] at h ⊢
  obtain ⟨j, hj, e⟩ := h
  refine ⟨j, by rw [List.length_append, il_length]; omega, ?_⟩
  rw [List.getD, List.getElem?_append_left (by rw [il_length]; exact hj)]
  simp [il, hj, e]
/-- Two answers: with more cells blocked no way is shorter. -/
theorem blocked_more {W H : Int} {s : ByteArray} {c : Int} {B C : Nat → Bool} (hBC : ∀ x, B x = true → C x = true) {n : Nat} {F : List Int} {n2 : Nat} {G : List Int}
    (h1 : n = F.length) (h2 : OnFloor W H s c → F.length = s.size ∧ ∀ x, x < s.size → IsD (nx5 W.toNat H.toNat (at_ s) c.toNat B) c.toNat x (F.getD x 0)) (h3 : ¬ OnFloor W H s c → F = [])
    (k1 : n2 = G.length) (k2 : OnFloor W H s c → G.length = s.size ∧ ∀ x, x < s.size → IsD (nx5 W.toNat H.toNat (at_ s) c.toNat C) c.toNat x (G.getD x 0)) (k3 : ¬ OnFloor W H s c → G = []) :
    n = n2 ∧ ∀ x, x < n → 0 ≤ G.getD x 0 → 0 ≤ F.getD x 0 ∧ F.getD x 0 ≤ G.getD x 0 := by
  by_cases hO : OnFloor W H s c
  · obtain ⟨a1, a2⟩ := h2 hO
    obtain ⟨b1, b2⟩ := k2 hO
    exact ⟨by omega, fun x hx h0 => blocked_le hBC (a2 x (by omega)) (b2 x (by omega)) h0⟩
  · have e1 := h3 hO
    have e2 := k3 hO
    subst e1 e2
    exact ⟨by omega, fun x hx => by simp at h1; omega⟩

set_option maxHeartbeats 4000000 in
theorem pathBlocked_walk (W H : Int) (hH : H ≤ 9223372036854775807) (s : ByteArray) (hs : s.size ≤ maxLen) (a : Int) (ha : -9223372036854775808 ≤ a ∧ a ≤ 9223372036854775807) (A1 : Option Addr) (n1 p1 : Nat) (f : Nat → Int) (A2 : Option Addr) (n2 p2 : Nat) (g : Nat → Int) (w : World) (hf : Il w.heap.size w A1 n1 p1 f) (_ : True) (hg : Il w.heap.size w A2 n2 p2 g) (_ : True) :
    Calls Tryd.prog 7 #[.agg #[.int .i64 W, .int .i64 H, .string s], .int .i64 a, .slice A1 n1 p1, .slice A2 n2 p2] w fun e w' => e = .returned (.bool true) ∧ Below w.heap.size w w' := by
  have HF := Lib.hid hf
  have HG := Lib.hid hg
  have HSM := Lib.hid (small_any W H s hs)
  obtain ⟨m1, hm1⟩ : ∃ m, m = min n1 50 := ⟨_, rfl⟩
  obtain ⟨m2, hm2⟩ : ∃ m, m = min n2 50 := ⟨_, rfl⟩
  have hm1' : m1 ≤ 50 := by omega
  have hm2' : m2 ≤ 50 := by omega
  have HE1 := Lib.hid (fun wx => few5_is _ _ A1 n1 p1 m1 f wx hf hm1)
  have HE2 := Lib.hid (fun wx => few5_is _ _ A2 n2 p2 m2 g wx hg hm2)
  have HF1 := Lib.hid (hf.cut (k := m1) (by omega))
  have HG1 := Lib.hid (hg.cut (k := m2) (by omega))
  have HDI := Lib.hid (fun A n cap f wx h => dist_any W H s hs a A n cap f wx h)
  clear hf hg hm1 hm2 ha hH
  go_enter Tryd.func7, Tryd.ntmps7
  go_wp2_with fail
  refine (shown_any _).mono ?_
  rintro e w1 ⟨rfl, hb1⟩
  have HX1 := Lib.hid ((Box.start w W H s 23).after hb1)
  have c0 := HX1.out.c0
  have c1 := HX1.out.c1
  have c2 := HX1.out.c2
  clear hb1
  go_wp2_with fail
  refine (HSM.out _).mono ?_
  rintro e w2 ⟨rfl, hb2⟩
  have HX2 := Lib.hid (HX1.out.after hb2)
  clear hb2 c0 c1 c2
  by_cases h80 : s.size ≤ 80
  · have hd : decide (s.size ≤ 80) = true := decide_eq_true h80
    rw [hd]
    have HSZ := Lib.hid h80
    clear hd h80
    have c0 := HX2.out.c0
    have c1 := HX2.out.c1
    have c2 := HX2.out.c2
    have hz := HX2.out.lt
    go_wp2_with fail
    go_region_held3 (fun w' => w'.cell? ⟨w.heap.size, 0, none⟩ = some (.int .i64 W) ∧ w'.cell? ⟨w.heap.size, 1, none⟩ = some (.int .i64 H) ∧ w'.cell? ⟨w.heap.size, 2, none⟩ = some (.string s)) (go_keep)
      ((first
        | (go_at_call 13; refine (HE1.out _).mono ?_; rintro e w' ⟨rfl, rfl⟩)
        | (go_at_call 12; refine (HDI.out A1 m1 _ f _ (args_il HF1.out HX2.out.drew.below)).mono ?_; rintro e w3 ⟨A3, n3, k3, F, rfl, hn3, hil3, hb3, hd3, hd4⟩; have HX3 := Lib.hid (HX2.out.drew.after hb3); have HI3 := Lib.hid hil3; have HN3 := Lib.hid hn3; have HD3 := Lib.hid hd3; have HD4 := Lib.hid hd4; have e0 := HX3.out.c0; have e1 := HX3.out.c1; have e2 := HX3.out.c2; clear hn3 hil3 hb3 hd3 hd4)))
    have hz3 := HX3.out.lt
    clear c0 c1 c2 hz
    have hlt : w.heap.size < w3.heap.size := hz3
    have HL1 : Hid (([] : List Int).length + m1 ≤ 1000000) := Lib.hid (by simp; omega)
    have HL2 : Hid (([] ++ il f m1).length + m2 ≤ 1000000) := Lib.hid (by rw [List.nil_append, il_length]; omega)
    have HLEN : Hid (([] ++ il f m1 ++ il g m2).length = (il f m1).length + (il g m2).length) := Lib.hid (by simp)
    have HMK : Hid (∀ x, mk f m1 x = true → mk (fun j => ([] ++ il f m1 ++ il g m2).getD j 0) ((il f m1).length + (il g m2).length) x = true) := Lib.hid (fun x hx => by rw [← HLEN.out]; exact mk_more f g m1 m2 x hx)
    have HXA := Lib.hid (HX3.out.after ((Below.refl w3.heap.size w3).alloc (Nat.le_refl _) (.cells #[] 3))).drew
    have HIA := Lib.hid ((HI3.out.below ((Below.refl w3.heap.size w3).alloc (Nat.le_refl _) (.cells #[] 3))).below (Below.refl w3.heap.size _).drew)
    have HSA : Hid (w3.heap.size ≤ (w3.alloc (.cells #[] 3)).drew.heap.size) := Lib.hid (by rw [show (w3.alloc (.cells #[] 3)).drew.heap.size = w3.heap.size + 1 from alloc_size w3 _]; exact Nat.le_succ _)
    go_wp2_with fail
    go_region_held3 (fun w' => w'.cell? ⟨w.heap.size, 0, none⟩ = some (.int .i64 W) ∧ w'.cell? ⟨w.heap.size, 1, none⟩ = some (.int .i64 H) ∧ w'.cell? ⟨w.heap.size, 2, none⟩ = some (.string s)) (go_keep)
      ((first
        | (go_at_call_of 13 (Value.slice A1 n1 p1); refine (HE1.out _).mono ?_; rintro e w' ⟨rfl, rfl⟩)
        | (go_at_call_of 13 (Value.slice A2 n2 p2); refine (HE2.out _).mono ?_; rintro e w' ⟨rfl, rfl⟩)
        | (go_at_call 12; refine (HDI.out A5 _ k5 (fun j => ([] ++ il f m1 ++ il g m2).getD j 0) _ HI5.out).mono ?_; rintro e w6 ⟨A6, n6, k6, G, rfl, hn6, hil6, hb6, hd6, hd7⟩; have HX6 := Lib.hid (HX5.out.after hb6); have HI36 := Lib.hid ((HI35.out.below (hb6.mono HS5.out)).raise (Nat.le_trans HS5.out hb6.size)); have HI6 := Lib.hid hil6; have HC6 := Lib.hid (blocked_more HMK.out HN3.out HD3.out HD4.out hn6 hd6 hd7); have e0 := HX6.out.c0; have e1 := HX6.out.c1; have e2 := HX6.out.c2; clear hn6 hil6 hb6 hd6 hd7)
        | ((fail_if_success have _k := HO4); refine step_app_ints (by rfl) _ _ (by rfl) w3.heap.size (.slice (some ⟨w3.heap.size, 0, none⟩) 0 0) [] (by rfl) (OwnI.empty w3.drew w3.heap.size (Nat.le_refl _)) A1 m1 p1 f (by rfl) (args_il HF1.out HXA.out.below) HL1.out HSA.out ?_; intro A4 k4 w4 ho4 hb4; have HX4 := Lib.hid (HXA.out.later (hb4.mono HX3.out.lt)); have HO4 := Lib.hid ho4; have HS4 : Hid (w3.heap.size ≤ w4.heap.size) := Lib.hid (Nat.le_trans HSA.out hb4.size); have HI34 := Lib.hid (HIA.out.below hb4); have e0 := HX4.out.c0; have e1 := HX4.out.c1; have e2 := HX4.out.c2; clear ho4 hb4)
        | (have _k := HO4; refine step_app_ints (by rfl) _ _ (by rfl) w3.heap.size _ ([] ++ il f m1) (by rfl) HO4.out A2 m2 p2 g (by rfl) (args_il HG1.out HX4.out.below) HL2.out HS4.out ?_; intro A5 k5 w5 ho5 hb5; have HX5 := Lib.hid (HX4.out.later (hb5.mono HX3.out.lt)); have HI35 := Lib.hid (HI34.out.below hb5); have HS5 : Hid (w3.heap.size ≤ w5.heap.size) := Lib.hid (Nat.le_trans HS4.out hb5.size); obtain ⟨A5', k5', e5, hil5⟩ := ho5.il; obtain ⟨rfl, rfl⟩ : A5 = A5' ∧ k5 = k5' := ⟨by injection e5, by injection e5⟩; clear e5; rw [HLEN.out] at hil5; have HI5 := Lib.hid hil5; have e0 := HX5.out.c0; have e1 := HX5.out.c1; have e2 := HX5.out.c2; clear ho5 hb5 hil5)))
    all_goals
      obtain ⟨hnn, hcc⟩ := HC6.out
      have HCC := Lib.hid hcc
      obtain rfl : n6 = n3 := hnn.symm
      have hsz := HI6.out.size
      clear hcc hnn hlt hz3
      go_wp2_with fail
      go_loopw [40] (fun iv wr => ∃ j : Nat, j ≤ n6 ∧ iv = .int .i64 (j : Int) ∧ Below w6.heap.size w6 wr) (fun iv _ => n6 - (intOf iv).toNat)
      case atStart => exact ⟨0, Nat.zero_le _, rfl, Below.refl _ _⟩
      case round =>
        rename World => wr
        obtain ⟨j, hj, rfl, hB⟩ := hrel
        have HB := Lib.hid hB
        clear hB
        by_cases hlt : j < n6
        · obtain ⟨g1, o1, rfl, _, q1⟩ := (HI36.out.below HB.out).cell (by omega)
          obtain ⟨g2, o2, rfl, _, q2⟩ := (HI6.out.below HB.out).cell (by omega)
          have r1 := q1 j hlt
          have r2 := q2 j hlt
          have HQ := Lib.hid (HCC.out j hlt)
          clear q1 q2
          generalize F.getD j 0 = x at *
          generalize G.getD j 0 = y at *
          by_cases hy : 0 ≤ y
          · obtain ⟨hx0, hxy⟩ := HQ.out hy
            have d1 : decide (0 ≤ y) = true := decide_eq_true hy
            have d2 : decide (x < 0) = false := decide_eq_false (by omega)
            have d3 : decide (y < x) = false := decide_eq_false (by omega)
            clear hy hx0 hxy
            go_wp2_with fail
            go_big_quiet (fail)
            go_wp2_with fail
            go_roundw
            case rel => exact ⟨j + 1, by omega, by go_num, HB.out.trans (below_drewN _ _ _)⟩
            case measure => simp [intOf]; omega
          · have d1 : decide (0 ≤ y) = false := decide_eq_false hy
            clear hy
            go_wp2_with fail
            go_big_quiet (fail)
            go_wp2_with fail
            go_roundw
            case rel => exact ⟨j + 1, by omega, by go_num, HB.out.trans (below_drewN _ _ _)⟩
            case measure => simp [intOf]; omega
        · obtain rfl : j = n6 := by omega
          go_wp2_with fail
          go_ret
          exact ⟨rfl, HX6.out.below.trans (HB.out.mono HX6.out.below.size)⟩
  · have hd : decide (s.size ≤ 80) = false := decide_eq_false h80
    rw [hd]
    clear hd
    go_wp2_with fail
    go_ret
    exact ⟨rfl, HX2.out.below⟩
end Go.Proofs.YtaioiobimenkfaaDoor
