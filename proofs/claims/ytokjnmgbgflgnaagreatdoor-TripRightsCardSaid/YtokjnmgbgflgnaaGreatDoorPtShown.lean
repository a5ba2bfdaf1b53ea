/-
  Layer 5: the document's examples; lists that are the same, of whatever make.
-/
import Derived.Test.YtokjnmgbgflgnaaGreatDoorPtFind
import Derived.Test.YtokjnmgbgflgnaaGreatDoorFlI
import Derived.Test.YtokjnmgbgflgnaaGreatDoorFlRa
set_option linter.unusedVariables false
set_option maxRecDepth 100000
namespace Go.Proofs.YtokjnmgbgflgnaaGreatDoor
open Go.RowKit Fl Pt

/-- Two lists are the same. -/
def SameAt (n m : Nat) (f g : Nat → Int) : Prop := n = m ∧ ∀ j, j < n → f j = g j
set_option maxHeartbeats 2000000 in
theorem sameIl_any (a b : Option Addr) (n m c d B1 B2 : Nat) (f g : Nat → Int) (w : World) (hx : Il B1 w a n c f) (hy : Il B2 w b m d g) (h1 : B1 ≤ w.heap.size) (h2 : B2 ≤ w.heap.size) (hl : n ≤ 1048576) (hl2 : m ≤ 1048576) :
    Calls Tryz.prog 18 #[.slice a n c, .slice b m d] w (Told (SameAt n m f g) w) := by
  have HX := Lib.hid (hx.raise h1)
  have HY := Lib.hid (hy.raise h2)
  clear hx hy h1 h2
  by_cases hnm : n = m
  · subst hnm
    go_enter Tryz.func18, Tryz.ntmps18
    go_wp2_with fail
    go_loopw [5] (fun iv wr => ∃ k : Nat, k ≤ n ∧ iv = .int .i64 (k : Int) ∧ Below w.heap.size w wr ∧ ∀ j, j < k → f j = g j) (fun iv _ => n - (intOf iv).toNat)
    case atStart => exact ⟨0, Nat.zero_le _, rfl, Below.refl _ _, fun j hj => by omega⟩
    case round =>
      rename World => wr
      obtain ⟨k, hk, rfl, hB, hJ⟩ := hrel
      have HB := Lib.hid hB
      have HJ := Lib.hid hJ
      clear hB hJ
      by_cases hlt : k < n
      · obtain ⟨g1, o1, rfl, _, hc⟩ := (HX.out.below HB.out).cell (by omega)
        obtain ⟨g2, o2, rfl, _, hc2⟩ := (HY.out.below HB.out).cell (by omega)
        have q1 := hc k hlt
        have q2 := hc2 k hlt
        obtain ⟨x, hxq⟩ : ∃ x, x = f k := ⟨_, rfl⟩
        obtain ⟨y, hyq⟩ : ∃ y, y = g k := ⟨_, rfl⟩
        rw [← hxq] at q1
        rw [← hyq] at q2
        have HXQ := Lib.hid hxq
        have HYQ := Lib.hid hyq
        clear hxq hyq hc hc2
        by_cases he : x = y
        · have hb : (x != y) = false := by rw [bne_eq_false_iff_eq]; exact he
          have HE := Lib.hid he
          clear he
          go_wp2_with fail
          go_big_quiet (fail)
          go_wp2_with fail
          go_roundw
          case rel => exact ⟨k + 1, by omega, by go_num, HB.out.trans (below_drewN _ _ _), fun j hj => by
            rcases Nat.lt_succ_iff_lt_or_eq.1 hj with h | h
            · exact HJ.out j h
            · subst h; rw [← HXQ.out, ← HYQ.out]; exact HE.out⟩
          case measure => simp [intOf]; omega
        · have hb : (x != y) = true := by rw [bne_iff_ne]; exact he
          have HE := Lib.hid he
          clear he
          go_wp2_with fail
          go_big_quiet (fail)
          go_wp2_with fail
          go_ret
          exact ⟨false, rfl, iff_of_false (by decide) (fun e => HE.out (by rw [HXQ.out, HYQ.out]; exact e.2 k hlt)), HB.out.trans (below_drewN _ _ _)⟩
      · obtain rfl : k = n := by omega
        go_wp2_with fail
        go_ret
        exact ⟨true, rfl, iff_of_true rfl ⟨rfl, HJ.out⟩, HB.out⟩
  · have hb : ((n : Int) != (m : Int)) = true := by rw [bne_iff_ne]; omega
    have HE := Lib.hid hnm
    clear hnm
    go_enter Tryz.func18, Tryz.ntmps18
    go_wp2_with fail
    go_ret
    exact ⟨false, rfl, iff_of_false (by decide) (fun e => HE.out e.1), Below.refl _ _⟩

/-! ### The floor of the examples -/
def s5 : ByteArray := ⟨#[48, 97, 97, 98, 49, 10, 35, 99, 35, 100, 35, 10, 50, 101, 101, 102, 102, 10]⟩
def c5 : ByteArray := ⟨#[48, 97, 97, 98, 49, 35, 99, 35, 100, 35, 50, 101, 101, 102, 102]⟩
theorem rows5 : rowsL s5.data.toList = [[48, 97, 97, 98, 49], [35, 99, 35, 100, 35], [50, 101, 101, 102, 102]] := by decide
theorem right5 : Right 5 3 c5 := by
  refine ⟨5, 3, rfl, rfl, ⟨by decide, by decide, by decide, by decide, rfl⟩, ⟨by decide, ⟨by decide, by decide, ?_, ?_⟩, ⟨1, [2, 3, 6, 8, 11, 12, 13, 14], by decide, ?_⟩⟩⟩
  · intro r hr
    have h1 : (docks 5 3 (at_ c5)).length = 3 := by decide
    have : r = 0 ∨ r = 1 ∨ r = 2 := by omega
    rcases this with rfl | rfl | rfl <;> decide
  · intro d hd
    have h1 : docks 5 3 (at_ c5) = [0, 4, 10] := by decide
    rw [h1] at hd
    simp only [List.mem_cons, List.not_mem_nil, or_false] at hd
    rcases hd with rfl | rfl | rfl
    · exact ⟨1, by decide, by decide⟩
    · exact ⟨3, by decide, by decide⟩
    · exact ⟨11, by decide, by decide⟩
  · have r1 : Rch 5 3 (at_ c5) 1 1 := Rch.refl _ _ _ 1
    have r2 := r1.step (c := 2) (by decide) (by decide)
    have r3 := r2.step (c := 3) (by decide) (by decide)
    have r6 := r1.step (c := 6) (by decide) (by decide)
    have r8 := r3.step (c := 8) (by decide) (by decide)
    have r11 := r6.step (c := 11) (by decide) (by decide)
    have r12 := r11.step (c := 12) (by decide) (by decide)
    have r13 := r12.step (c := 13) (by decide) (by decide)
    have r14 := r13.step (c := 14) (by decide) (by decide)
    intro l hl
    simp only [List.mem_cons, List.not_mem_nil, or_false] at hl
    rcases hl with rfl | rfl | rfl | rfl | rfl | rfl | rfl | rfl | rfl <;> assumption
theorem out5 {W H : Int} {c : ByteArray} {row : Nat} {err : Int} (h : POut (rowsL s5.data.toList) W H c row err) : W = 5 ∧ H = 3 ∧ c = c5 ∧ row = 0 ∧ err = 0 := by
  rw [rows5] at h
  refine POut.one h (.inr (.inl ⟨?_, right5, rfl, rfl, rfl, rfl, rfl⟩))
  intro j hj
  have : j = 0 ∨ j = 1 ∨ j = 2 := by simp at hj; omega
  rcases this with rfl | rfl | rfl <;> decide
theorem pot_back {nx : Nat → List Nat} {N z : Nat} {E : Nat → Nat} (hN : ∀ x y, x < N → y ∈ nx x → y < N) (h : ∀ x, x < N → ∀ y, y ∈ nx x → E x ≤ E y + 1) (hz : E z = 0) : ∀ n x, x < N → Wk nx x n z → E x ≤ n := by
  intro n
  induction n with
  | zero => intro x _ hw; rw [← hw.zero_eq, hz]; exact Nat.le_refl _
  | succ n ih =>
    intro x hx hw
    obtain ⟨y, h1, h2⟩ := hw.uncons
    have := h x hx y h1
    have := ih y (hN x y hx h1) h2
    omega
theorem on5 (c : Int) (h : bAt c5 c ≠ 35) : OnFloor 5 3 c5 c := ⟨right5, h⟩
def B0 : Nat → Bool := mk (fun _ => 0) 0
def B2 : Nat → Bool := mk (fun _ => 2) 1
def E1 (x : Nat) : Nat := [4, 3, 2, 1, 0, 50, 4, 50, 2, 50, 50, 5, 4, 3, 4].getD x 50
def E2 (x : Nat) : Nat := [8, 7, 2, 1, 0, 50, 6, 50, 2, 50, 50, 5, 4, 3, 4].getD x 50
def E3 (x : Nat) : Nat := [4, 3, 4, 5, 50, 50, 2, 50, 4, 50, 0, 1, 2, 3, 4].getD x 50
theorem in5 (B : Nat → Bool) : ∀ x y, x < 15 → y ∈ nx5 5 3 (at_ c5) 0 B x → y < 15 := fun x y hx hy => nx5_lt (H := 3) (by decide) x y hx hy
theorem pe1 : ∀ x, x < 15 → ∀ y, y ∈ nx5 5 3 (at_ c5) 0 B0 x → E1 x ≤ E1 y + 1 := by decide +kernel
theorem pe2 : ∀ x, x < 15 → ∀ y, y ∈ nx5 5 3 (at_ c5) 0 B2 x → E2 x ≤ E2 y + 1 := by decide +kernel
theorem pe3 : ∀ x, x < 15 → ∀ y, y ∈ nx5 5 3 (at_ c5) 0 B0 x → E3 x ≤ E3 y + 1 := by decide +kernel
theorem gr1 : Gr (nx5 5 3 (at_ c5) 0 B0) 4 0 [1, 2, 3, 4] :=
  ⟨⟨[], [], by decide +kernel, by simp⟩, ⟨[], [6, 0], by decide +kernel, by simp⟩, ⟨[], [1], by decide +kernel, by simp⟩, ⟨[], [8, 2], by decide +kernel, by simp⟩, rfl⟩
theorem gr2 : Gr (nx5 5 3 (at_ c5) 0 B2) 4 0 [1, 6, 11, 12, 13, 8, 3, 4] := by
  have hp := pot_back (z := 4) (in5 B2) pe2 rfl
  refine ⟨⟨[], [], by decide +kernel, by simp⟩, ⟨[], [0], by decide +kernel, by simp⟩, ⟨[1], [], by decide +kernel, ?_⟩, ⟨[6], [10], by decide +kernel, ?_⟩, ⟨[], [11], by decide +kernel, by simp⟩, ⟨[], [14, 12], by decide +kernel, by simp⟩, ⟨[], [13], by decide +kernel, by simp⟩, ⟨[], [8], by decide +kernel, by simp⟩, rfl⟩
  · intro y hy hw
    obtain rfl := List.mem_singleton.1 hy
    have := hp _ 1 (by decide) hw
    revert this; decide
  · intro y hy hw
    obtain rfl := List.mem_singleton.1 hy
    have := hp _ 6 (by decide) hw
    revert this; decide
theorem way1 : WayIs 5 3 c5 0 4 B0 [1, 2, 3, 4] 0 := .inl ⟨on5 0 (by decide), on5 4 (by decide), rfl, gr1, gr1.wk, fun m hm => pot_back (z := 4) (in5 B0) pe1 rfl m 0 (by decide) hm⟩
theorem way2 : WayIs 5 3 c5 0 4 B2 [1, 6, 11, 12, 13, 8, 3, 4] 0 := .inl ⟨on5 0 (by decide), on5 4 (by decide), rfl, gr2, gr2.wk, fun m hm => pot_back (z := 4) (in5 B2) pe2 rfl m 0 (by decide) hm⟩
theorem dist5 : IsD (nx5 5 3 (at_ c5) 0 B0) 0 10 4 := by
  refine .inr ⟨4, rfl, ?_, fun m hm => pot_back (z := 10) (in5 B0) pe3 rfl m 0 (by decide) hm⟩
  exact (((Wk.zero.step (c := 1) (by decide +kernel)).step (c := 6) (by decide +kernel)).step (c := 11) (by decide +kernel)).step (by decide +kernel)

theorem il_lit {w : World} {l : List Int} {cs : Array Value} (hl : l.length ≤ 100) (hc : cs = (l.map fun x => Value.int .i64 x).toArray) : Il (w.alloc (.cells cs 3)).heap.size (w.alloc (.cells cs 3)) (some ⟨w.heap.size, 0, none⟩) l.length l.length (fun j => l.getD j 0) := by
  refine ⟨Nat.le_refl _, by unfold maxLen; omega, (fun e => by cases e), fun _ => ⟨w.heap.size, 0, rfl, by simp, fun j hj => ?_⟩⟩
  rw [hc, Nat.zero_add]
  have h := heap_alloc_new w (.cells (l.map fun x => Value.int .i64 x).toArray 3)
  rw [((cells_row h (by simp)).2 j hj).1]
  simp [List.getD, hj]

theorem il_two (w : World) : Il (w.alloc (.cells #[.int .i64 2] 3)).heap.size (w.alloc (.cells #[.int .i64 2] 3)) (some ⟨w.heap.size, 0, none⟩) 1 1 (fun _ => 2) := by
  have h := il_lit (w := w) (l := [2]) (cs := #[.int .i64 2]) (by decide) rfl
  refine ⟨h.le, h.max, h.nil, fun h0 => ?_⟩
  obtain ⟨g, off, e, hg, hc⟩ := h.cell h0
  refine ⟨g, off, e, hg, fun j hj => ?_⟩
  obtain rfl : j = 0 := by omega
  exact hc 0 hj
end Go.Proofs.YtokjnmgbgflgnaaGreatDoor
