/-
  PathBack: the walk.
-/
import Derived.Test.YtebjmdaiojiaeaaDoorPtShown
import Derived.Deep.RegionHeld3
import Derived.BigQuiet
set_option linter.unusedVariables false
set_option maxRecDepth 100000
namespace Go.Proofs.YtebjmdaiojiaeaaDoor
open Go.RowKit Fl Pt

theorem small_any (W H : Int) (s : ByteArray) (hs : s.size ≤ maxLen) (w : World) : Calls Tryd.prog 11 #[.agg #[.int .i64 W, .int .i64 H, .string s]] w fun e w' => e = .returned (.bool (decide (s.size ≤ 80))) ∧ Below w.heap.size w w' := by
  unfold maxLen at hs
  have HB := Lib.hid ((Below.refl w.heap.size w).alloc (Nat.le_refl _) (.cells #[.int .i64 W, .int .i64 H, .string s] 23))
  by_cases h : s.size ≤ 80
  · have hd : decide (s.size ≤ 80) = true := decide_eq_true h
    rw [hd]
    have HD := Lib.hid hd
    clear hd
    go_enter Tryd.func11, Tryd.ntmps11
    go_wp2
    go_ret
    exact ⟨ret_bool (by simp; omega), HB.out⟩
  · have hd : decide (s.size ≤ 80) = false := decide_eq_false h
    rw [hd]
    clear hd
    go_enter Tryd.func11, Tryd.ntmps11
    go_wp2
    go_ret
    exact ⟨ret_bool (by simp; omega), HB.out⟩
/-- How far cells are, on a floor whose cell a is a lane. -/
theorem dist_lane {W H : Nat} {s : ByteArray} {a : Nat} {w : World} (hO : OnFloor (W : Int) (H : Int) s (a : Int)) (f : Nat → Int) :
    ∀ e w', DistTold (W : Int) (H : Int) s (a : Int) (mk f 0) w e w' → ∃ A cap, ∃ F : List Int, e = .returned (.slice A s.size cap) ∧ F.length = s.size ∧ Il w'.heap.size w' A s.size cap (fun j => F.getD j 0) ∧ Below w.heap.size w w' ∧ ∀ x, x < s.size → IsD (nx5 W H (at_ s) a fun _ => false) a x (F.getD x 0) := by
  rintro e w' ⟨A, n, cap, F, rfl, hn, hil, hb, hd, _⟩
  obtain ⟨h1, h2⟩ := hd hO
  obtain rfl : n = s.size := hn.trans h1
  exact ⟨A, cap, F, rfl, h1, hil, hb, h2⟩
theorem lane_floor {W H : Int} {s : ByteArray} {c : Int} (h : OnLane W H s c) : ∃ a b k : Nat, W = a ∧ H = b ∧ c = k ∧ k < s.size ∧ isL (at_ s k) = true ∧ Sides a b s ∧ RightN a b (at_ s) := by
  obtain ⟨a, b, rfl, rfl, hS, hN⟩ := rightNat h.1
  have h2 := h.2
  obtain ⟨k, rfl, hk, hz⟩ := bAt_in (s := s) (c := c) (fun e => by rw [e] at h2; revert h2; decide)
  rw [hz] at h2
  exact ⟨a, b, k, rfl, rfl, rfl, hk, h2, hS, hN⟩
theorem lane_cell {W H : Int} {s : ByteArray} {c : Int} (h : OnLane W H s c) : ∃ k : Nat, c = k ∧ k < s.size ∧ isL (at_ s k) = true := by
  obtain ⟨_, _, k, _, _, e, hk, hl, _⟩ := lane_floor h
  exact ⟨k, e, hk, hl⟩
theorem lane_on {W H : Int} {s : ByteArray} {c : Int} (h : OnLane W H s c) : OnFloor W H s c := ⟨h.1, fun e => by have h2 := h.2; rw [e] at h2; revert h2; decide⟩
theorem isD_lt {nx : Nat → List Nat} {N a c : Nat} {x : Int} (ha : a < N) (hN : ∀ x y, x < N → y ∈ nx x → y < N) (h : IsD nx a c x) : -1 ≤ x ∧ x < N := by
  rcases h with ⟨rfl, _⟩ | ⟨n, rfl, hl⟩
  · exact ⟨Int.le_refl _, by omega⟩
  · have := lv_lt ha hN hl
    omega
def at3 (a b c : Int) : Nat → Int
  | 0 => a
  | 1 => b
  | _ => c
theorem il_three (w : World) (a b c : Int) : Il (w.alloc (.cells #[.int .i64 a, .int .i64 b, .int .i64 c] 3)).heap.size (w.alloc (.cells #[.int .i64 a, .int .i64 b, .int .i64 c] 3)) (some ⟨w.heap.size, 0, none⟩) 3 3 (at3 a b c) := by
  have h := il_lit (w := w) (l := [a, b, c]) (cs := #[.int .i64 a, .int .i64 b, .int .i64 c]) (by simp) rfl
  refine ⟨h.le, h.max, h.nil, fun h0 => ?_⟩
  obtain ⟨g, off, e, hg, hc⟩ := h.cell h0
  refine ⟨g, off, e, hg, fun j hj => ?_⟩
  have := hc j hj
  have : j = 0 ∨ j = 1 ∨ j = 2 := by omega
  rcases this with rfl | rfl | rfl <;> exact hc _ hj

def LaneD (W H : Nat) (s : ByteArray) (a : Nat) (w : World) (e : Ending) (w' : World) : Prop :=
  ∃ A cap, ∃ F : List Int, e = .returned (.slice A s.size cap) ∧ Il w'.heap.size w' A s.size cap (fun j => F.getD j 0) ∧ Below w.heap.size w w' ∧ Hid (∀ x, x < s.size → IsD (nx5 W H (at_ s) a fun _ => false) a x (F.getD x 0))
theorem laneD_any {W H : Nat} {s : ByteArray} {a : Nat} (hs : s.size ≤ maxLen) (hO : OnFloor (W : Int) (H : Int) s (a : Int)) (w : World) :
    Calls Tryd.prog 13 #[.agg #[.int .i64 (W : Int), .int .i64 (H : Int), .string s], .int .i64 (a : Int), .slice none 0 0] w (LaneD W H s a w) :=
  (dist_any (W : Int) (H : Int) s hs (a : Int) none 0 0 (fun _ => 0) w (Il.empty _ _ _)).mono fun e w' h => by
    obtain ⟨A, cap, F, h1, h2, h3, h4, h5⟩ := dist_lane hO _ e w' h
    exact ⟨A, cap, F, h1, h3, h4, Lib.hid h5⟩

set_option maxHeartbeats 4000000 in
theorem pathBack_walk (W H : Int) (hH : H ≤ 9223372036854775807) (s : ByteArray) (hs : s.size ≤ maxLen) (a : Int) (ha : -9223372036854775808 ≤ a ∧ a ≤ 9223372036854775807) (b : Int) (hb : -9223372036854775808 ≤ b ∧ b ≤ 9223372036854775807) (c : Int) (hc : -9223372036854775808 ≤ c ∧ c ≤ 9223372036854775807) (w : World) :
    Calls Tryd.prog 9 #[.agg #[.int .i64 W, .int .i64 H, .string s], .int .i64 a, .int .i64 b, .int .i64 c] w fun e w' => e = .returned (.bool true) ∧ Below w.heap.size w w' := by
  clear ha hb hc hH
  have HSM := Lib.hid (small_any W H s hs)
  have HZ := Lib.hid (fun x => zone_any W H s hs x)
  go_enter Tryd.func9, Tryd.ntmps9
  go_wp2_with fail
  refine (shown_any _).mono ?_
  rintro e w1 ⟨rfl, hb1⟩
  have HX1 := Lib.hid ((Box.start w W H s 23).after hb1)
  have c0 := HX1.out.c0
  have c1 := HX1.out.c1
  have c2 := HX1.out.c2
  clear hb1
  go_wp2_with fail
  refine (HSM.out _).mono ?_
  rintro e w2 ⟨rfl, hb2⟩
  have HX2 := Lib.hid (HX1.out.after hb2)
  clear hb2 c0 c1 c2
  by_cases h80 : s.size ≤ 80
  · have hd : decide (s.size ≤ 80) = true := decide_eq_true h80
    rw [hd]
    have HSZ := Lib.hid h80
    clear hd
    have HI3 := Lib.hid (il_three w2 a b c)
    have HX3 := Lib.hid (HX2.out.after ((Below.refl w2.heap.size w2).alloc (Nat.le_refl _) (.cells #[.int .i64 a, .int .i64 b, .int .i64 c] 3)))
    have HSZ3 := Lib.hid (alloc_size w2 (.cells #[.int .i64 a, .int .i64 b, .int .i64 c] 3))
    go_wp2_with fail
    generalize w2.alloc (.cells #[.int .i64 a, .int .i64 b, .int .i64 c] 3) = w3 at *
    go_loopw [26] (fun iv wr => ∃ j : Nat, j ≤ 3 ∧ iv = .int .i64 (j : Int) ∧ Below w3.heap.size w3 wr ∧ Hid (∀ i, i < j → OnLane W H s (at3 a b c i))) (fun iv _ => 3 - (intOf iv).toNat)
    case atStart => exact ⟨0, Nat.zero_le _, rfl, Below.refl _ _, Lib.hid (fun i hi => by omega)⟩
    case round =>
      rename World => wr
      obtain ⟨j, hj, rfl, hB, HJ⟩ := hrel
      have HB := Lib.hid hB
      have HX := Lib.hid (HX3.out.after hB)
      have c0 := HX.out.c0
      have c1 := HX.out.c1
      have c2 := HX.out.c2
      clear hB
      by_cases hlt : j < 3
      · obtain ⟨g, off, e1, _, hcell⟩ := (HI3.out.below HB.out).cell (by omega)
        simp only [Option.some.injEq, Addr.mk.injEq, and_true] at e1
        obtain ⟨rfl, rfl⟩ := e1
        have q := hcell j hlt
        rw [Nat.zero_add] at q
        clear hcell
        have HAT : Hid (∃ x, x = at3 a b c j) := Lib.hid ⟨_, rfl⟩
        obtain ⟨x, hx⟩ := HAT.out
        rw [← hx] at q
        have HXX := Lib.hid hx
        clear hx HAT
        go_wp2_with fail
        refine (HZ.out x _).mono ?_
        rintro e w4 ⟨n4, b4, rfl, h4a, h4b, hb4⟩
        have HX4 := Lib.hid (HX.out.after hb4)
        have HB4 := Lib.hid (HB.out.trans (hb4.mono HB.out.size))
        by_cases hL : OnLane W H s x
        · obtain ⟨_, rfl⟩ := h4a hL
          have HL := Lib.hid hL
          clear h4a h4b hb4 hL c0 c1 c2
          go_wp2_with fail
          go_roundw
          case rel =>
            refine ⟨j + 1, by omega, by go_num, HB4.out, Lib.hid (fun i hi => ?_)⟩
            by_cases e : i = j
            · subst e; rw [← HXX.out]; exact HL.out
            · exact HJ.out i (by omega)
          case measure => simp [intOf]; omega
        · obtain ⟨_, rfl⟩ := h4b hL
          clear h4a h4b hb4 hL c0 c1 c2
          go_wp2_with fail
          go_ret
          exact ⟨rfl, HX4.out.below⟩
      · obtain rfl : j = 3 := by omega
        have la := HJ.out 0 (by decide)
        have lb := HJ.out 1 (by decide)
        have lc := HJ.out 2 (by decide)
        obtain ⟨W, H, a, rfl, rfl, rfl, ka, ja, hS, hN⟩ := lane_floor la
        obtain ⟨b, rfl, kb, jb⟩ := lane_cell lb
        obtain ⟨c, rfl, kc, jc⟩ := lane_cell lc
        have HLA := Lib.hid (lane_on la)
        have HLB := Lib.hid (lane_on lb)
        have HFA := Lib.hid (fun w => laneD_any hs (lane_on la) w)
        have HFB := Lib.hid (fun w => laneD_any hs (lane_on lb) w)
        have hW := hS.w1
        have hsz := hS.sz
        have HQ : Hid (∀ F G : List Int, (∀ x, x < s.size → IsD (nx5 W H (at_ s) a fun _ => false) a x (F.getD x 0)) → (∀ x, x < s.size → IsD (nx5 W H (at_ s) b fun _ => false) b x (G.getD x 0)) → G.getD a 0 = F.getD b 0 ∧ 0 ≤ F.getD b 0 ∧ F.getD c 0 ≤ F.getD b 0 + G.getD c 0 ∧ F.getD b 0 ≤ 1000 ∧ 0 ≤ G.getD c 0 ∧ G.getD c 0 ≤ 1000) := Lib.hid (fun F G hF hG => by
          have h80 := HSZ.out
          have e1 := back_same hW (by rw [← hsz]; exact ka) (by rw [← hsz]; exact kb) ja jb (hF b kb) (hG a ka)
          have e2 := lanes_pos hW hN.lanes (by rw [← hsz]; exact ka) (by rw [← hsz]; exact kb) ja jb (hF b kb)
          have e3 := lanes_tri hW hN.lanes (by rw [← hsz]; exact ka) (by rw [← hsz]; exact kb) (by rw [← hsz]; exact kc) ja jb jc (hF b kb) (hG c kc) (hF c kc)
          have e4 := lanes_pos hW hN.lanes (by rw [← hsz]; exact kb) (by rw [← hsz]; exact kc) jb jc (hG c kc)
          have b1 := isD_lt (N := s.size) ka (fun x y hx hy => by rw [hsz] at hx ⊢; exact nx5_lt hW x y hx hy) (hF b kb)
          have b2 := isD_lt (N := s.size) kb (fun x y hx hy => by rw [hsz] at hx ⊢; exact nx5_lt hW x y hx hy) (hG c kc)
          exact ⟨e1.symm, e2, e3, by omega, e4, by omega⟩)
        have hs80 := HSZ.out
        clear la lb lc hS hN hW hsz ja jb jc HJ hlt hj
        go_wp2_with fail
        go_region_held3 (fun w' => w'.cell? ⟨w.heap.size, 0, none⟩ = some (.int .i64 (W : Int)) ∧ w'.cell? ⟨w.heap.size, 1, none⟩ = some (.int .i64 (H : Int)) ∧ w'.cell? ⟨w.heap.size, 2, none⟩ = some (.string s)) (go_keep)
          ((first
            | (go_at_call_of 13 (Value.int .i64 (a : Int)); refine (HFA.out _).mono ?_; rintro e w5 ⟨A5, k5, F, rfl, hil, hb5, HF⟩; have HX5 := Lib.hid (HX.out.drew.after hb5); have HI5 := Lib.hid hil; have e0 := HX5.out.c0; have e1 := HX5.out.c1; have e2 := HX5.out.c2; clear hil hb5)
            | (go_at_call_of 13 (Value.int .i64 (b : Int)); refine (HFB.out _).mono ?_; rintro e w6 ⟨A6, k6, G, rfl, hil, hb6, HG⟩; have HX6 := Lib.hid (HX5.out.after hb6); have HI56 := Lib.hid ((HI5.out.below hb6).raise hb6.size); have HI6 := Lib.hid hil; have e0 := HX6.out.c0; have e1 := HX6.out.c1; have e2 := HX6.out.c2; clear hil hb6)))
        obtain ⟨q1, q2, q3, q4, q5, q6⟩ := HQ.out F G HF.out HG.out
        obtain ⟨g, o, rfl, _, hc1⟩ := HI56.out.cell (by omega)
        obtain ⟨g2, o2, rfl, _, hc2⟩ := HI6.out.cell (by omega)
        have r1 := hc1 b kb
        have r2 := hc2 a ka
        have r3 := hc1 c kc
        have r4 := hc2 c kc
        rw [q1] at r2
        clear hc1 hc2 q1
        generalize F.getD b 0 = u at *
        generalize F.getD c 0 = v at *
        generalize G.getD c 0 = y at *
        have hwr : IntKind.i64.wrap (u + y) = u + y := IntWalk.i64_in _ (by omega)
        have d1 : decide (0 ≤ u) = true := decide_eq_true q2
        have d2 : decide (v ≤ u + y) = true := decide_eq_true q3
        clear q3
        go_wp2_with fail
        go_big_quiet (fail)
        go_wp2_with fail
        go_ret
        exact ⟨by first | rfl | simp, HX6.out.below.trans (below_drewN _ _ _)⟩
  · have hd : decide (s.size ≤ 80) = false := decide_eq_false h80
    rw [hd]
    clear hd
    go_wp2_with fail
    go_ret
    exact ⟨rfl, HX2.out.below⟩
end Go.Proofs.YtebjmdaiojiaeaaDoor
