/-
  Layer 5: the document's examples; lists that are the same, of whatever make.
  PathBack: the walk.
  Layer 5: lists of integers that came in; the first so many of them; lists laid one behind the other.
-/
import Derived.Test.YtellaeihcignaaaGreatDoorPtFind
import Derived.Test.YtellaeihcignaaaGreatDoorFlTwo
import Derived.Test.YtellaeihcignaaaGreatDoorFlRa
import Derived.Deep.RegionHeld3
import Derived.BigQuiet
import Derived.Laws.AppendOwnNone
import Derived.ProofKit
import Derived.OpenShut
set_option linter.unusedVariables false
set_option maxRecDepth 100000
section
namespace Go.Proofs.YtellaeihcignaaaGreatDoor
open Go.RowKit Fl Pt

/-- Two lists are the same. -/
def SameAt (n m : Nat) (f g : Nat → Int) : Prop := n = m ∧ ∀ j, j < n → f j = g j
set_option maxHeartbeats 2000000 in
theorem sameIl_any (a b : Option Addr) (n m c d B1 B2 : Nat) (f g : Nat → Int) (w : World) (hx : Il B1 w a n c f) (hy : Il B2 w b m d g) (h1 : B1 ≤ w.heap.size) (h2 : B2 ≤ w.heap.size) (hl : n ≤ 1048576) (hl2 : m ≤ 1048576) :
    Calls Tryz.prog 49 #[.slice a n c, .slice b m d] w (Told (SameAt n m f g) w) := by
  have HX := Lib.hid (hx.raise h1)
  have HY := Lib.hid (hy.raise h2)
  clear hx hy h1 h2
  by_cases hnm : n = m
  · subst hnm
    go_enter Tryz.func49, Tryz.ntmps49
    go_wp2_with fail
    go_loopw [5] (fun iv wr => ∃ k : Nat, k ≤ n ∧ iv = .int .i64 (k : Int) ∧ Below w.heap.size w wr ∧ ∀ j, j < k → f j = g j) (fun iv _ => n - (intOf iv).toNat)
    case atStart => exact ⟨0, Nat.zero_le _, rfl, Below.refl _ _, fun j hj => by omega⟩
    case round =>
      rename World => wr
      obtain ⟨k, hk, rfl, hB, hJ⟩ := hrel
      have HB := Lib.hid hB
      have HJ := Lib.hid hJ
      clear hB hJ
      by_cases hlt : k < n
      · obtain ⟨g1, o1, rfl, _, hc⟩ := (HX.out.below HB.out).cell (by omega)
        obtain ⟨g2, o2, rfl, _, hc2⟩ := (HY.out.below HB.out).cell (by omega)
        have q1 := hc k hlt
        have q2 := hc2 k hlt
        obtain ⟨x, hxq⟩ : ∃ x, x = f k := ⟨_, rfl⟩
        obtain ⟨y, hyq⟩ : ∃ y, y = g k := ⟨_, rfl⟩
        rw [← hxq] at q1
        rw [← hyq] at q2
        have HXQ := Lib.hid hxq
        have HYQ := Lib.hid hyq
        clear hxq hyq hc hc2
        by_cases he : x = y
        · have hb : (x != y) = false := by rw [bne_eq_false_iff_eq]; exact he
          have HE := Lib.hid he
          clear he
          go_wp2_with fail
          go_big_quiet (fail)
          go_wp2_with fail
          go_roundw
          case rel => exact ⟨k + 1, by omega, by go_num, HB.out.trans (below_drewN _ _ _), fun j hj => by
            rcases Nat.lt_succ_iff_lt_or_eq.1 hj with h | h
            · exact HJ.out j h
            · subst h; rw [← HXQ.out, ← HYQ.out]; exact HE.out⟩
          case measure => simp [intOf]; omega
        · have hb : (x != y) = true := by rw [bne_iff_ne]; exact he
          have HE := Lib.hid he
          clear he
          go_wp2_with fail
          go_big_quiet (fail)
          go_wp2_with fail
          go_ret
          exact ⟨false, rfl, iff_of_false (by decide) (fun e => HE.out (by rw [HXQ.out, HYQ.out]; exact e.2 k hlt)), HB.out.trans (below_drewN _ _ _)⟩
      · obtain rfl : k = n := by omega
        go_wp2_with fail
        go_ret
        exact ⟨true, rfl, iff_of_true rfl ⟨rfl, HJ.out⟩, HB.out⟩
  · have hb : ((n : Int) != (m : Int)) = true := by rw [bne_iff_ne]; omega
    have HE := Lib.hid hnm
    clear hnm
    go_enter Tryz.func49, Tryz.ntmps49
    go_wp2_with fail
    go_ret
    exact ⟨false, rfl, iff_of_false (by decide) (fun e => HE.out e.1), Below.refl _ _⟩

/-! ### The floor of the examples -/
def s5 : ByteArray := ⟨#[48, 97, 97, 98, 49, 10, 35, 99, 35, 100, 35, 10, 50, 101, 101, 102, 102, 10]⟩
def c5 : ByteArray := ⟨#[48, 97, 97, 98, 49, 35, 99, 35, 100, 35, 50, 101, 101, 102, 102]⟩
theorem rows5 : rowsL s5.data.toList = [[48, 97, 97, 98, 49], [35, 99, 35, 100, 35], [50, 101, 101, 102, 102]] := by decide
theorem right5 : Right 5 3 c5 := by
  refine ⟨5, 3, rfl, rfl, ⟨by decide, by decide, by decide, by decide, rfl⟩, ⟨by decide, ⟨by decide, by decide, ?_, ?_⟩, ⟨1, [2, 3, 6, 8, 11, 12, 13, 14], by decide, ?_⟩⟩⟩
  · intro r hr
    have h1 : (docks 5 3 (at_ c5)).length = 3 := by decide
    have : r = 0 ∨ r = 1 ∨ r = 2 := by omega
    rcases this with rfl | rfl | rfl <;> decide
  · intro d hd
    have h1 : docks 5 3 (at_ c5) = [0, 4, 10] := by decide
    rw [h1] at hd
    simp only [List.mem_cons, List.not_mem_nil, or_false] at hd
    rcases hd with rfl | rfl | rfl
    · exact ⟨1, by decide, by decide⟩
    · exact ⟨3, by decide, by decide⟩
    · exact ⟨11, by decide, by decide⟩
  · have r1 : Rch 5 3 (at_ c5) 1 1 := Rch.refl _ _ _ 1
    have r2 := r1.step (c := 2) (by decide) (by decide)
    have r3 := r2.step (c := 3) (by decide) (by decide)
    have r6 := r1.step (c := 6) (by decide) (by decide)
    have r8 := r3.step (c := 8) (by decide) (by decide)
    have r11 := r6.step (c := 11) (by decide) (by decide)
    have r12 := r11.step (c := 12) (by decide) (by decide)
    have r13 := r12.step (c := 13) (by decide) (by decide)
    have r14 := r13.step (c := 14) (by decide) (by decide)
    intro l hl
    simp only [List.mem_cons, List.not_mem_nil, or_false] at hl
    rcases hl with rfl | rfl | rfl | rfl | rfl | rfl | rfl | rfl | rfl <;> assumption
theorem out5 {W H : Int} {c : ByteArray} {row : Nat} {err : Int} (h : POut (rowsL s5.data.toList) W H c row err) : W = 5 ∧ H = 3 ∧ c = c5 ∧ row = 0 ∧ err = 0 := by
  rw [rows5] at h
  refine POut.one h (.inr (.inl ⟨?_, right5, rfl, rfl, rfl, rfl, rfl⟩))
  intro j hj
  have : j = 0 ∨ j = 1 ∨ j = 2 := by simp at hj; omega
  rcases this with rfl | rfl | rfl <;> decide
theorem pot_back {nx : Nat → List Nat} {N z : Nat} {E : Nat → Nat} (hN : ∀ x y, x < N → y ∈ nx x → y < N) (h : ∀ x, x < N → ∀ y, y ∈ nx x → E x ≤ E y + 1) (hz : E z = 0) : ∀ n x, x < N → Wk nx x n z → E x ≤ n := by
  intro n
  induction n with
  | zero => intro x _ hw; rw [← hw.zero_eq, hz]; exact Nat.le_refl _
  | succ n ih =>
    intro x hx hw
    obtain ⟨y, h1, h2⟩ := hw.uncons
    have := h x hx y h1
    have := ih y (hN x y hx h1) h2
    omega
theorem on5 (c : Int) (h : bAt c5 c ≠ 35) : OnFloor 5 3 c5 c := ⟨right5, h⟩
def B0 : Nat → Bool := mk (fun _ => 0) 0
def B2 : Nat → Bool := mk (fun _ => 2) 1
def E1 (x : Nat) : Nat := [4, 3, 2, 1, 0, 50, 4, 50, 2, 50, 50, 5, 4, 3, 4].getD x 50
def E2 (x : Nat) : Nat := [8, 7, 2, 1, 0, 50, 6, 50, 2, 50, 50, 5, 4, 3, 4].getD x 50
def E3 (x : Nat) : Nat := [4, 3, 4, 5, 50, 50, 2, 50, 4, 50, 0, 1, 2, 3, 4].getD x 50
theorem in5 (B : Nat → Bool) : ∀ x y, x < 15 → y ∈ nx5 5 3 (at_ c5) 0 B x → y < 15 := fun x y hx hy => nx5_lt (H := 3) (by decide) x y hx hy
theorem pe1 : ∀ x, x < 15 → ∀ y, y ∈ nx5 5 3 (at_ c5) 0 B0 x → E1 x ≤ E1 y + 1 := by decide +kernel
theorem pe2 : ∀ x, x < 15 → ∀ y, y ∈ nx5 5 3 (at_ c5) 0 B2 x → E2 x ≤ E2 y + 1 := by decide +kernel
theorem pe3 : ∀ x, x < 15 → ∀ y, y ∈ nx5 5 3 (at_ c5) 0 B0 x → E3 x ≤ E3 y + 1 := by decide +kernel
theorem gr1 : Gr (nx5 5 3 (at_ c5) 0 B0) 4 0 [1, 2, 3, 4] :=
  ⟨⟨[], [], by decide +kernel, by simp⟩, ⟨[], [6, 0], by decide +kernel, by simp⟩, ⟨[], [1], by decide +kernel, by simp⟩, ⟨[], [8, 2], by decide +kernel, by simp⟩, rfl⟩
theorem gr2 : Gr (nx5 5 3 (at_ c5) 0 B2) 4 0 [1, 6, 11, 12, 13, 8, 3, 4] := by
  have hp := pot_back (z := 4) (in5 B2) pe2 rfl
  refine ⟨⟨[], [], by decide +kernel, by simp⟩, ⟨[], [0], by decide +kernel, by simp⟩, ⟨[1], [], by decide +kernel, ?_⟩, ⟨[6], [10], by decide +kernel, ?_⟩, ⟨[], [11], by decide +kernel, by simp⟩, ⟨[], [14, 12], by decide +kernel, by simp⟩, ⟨[], [13], by decide +kernel, by simp⟩, ⟨[], [8], by decide +kernel, by simp⟩, rfl⟩
  · intro y hy hw
    obtain rfl := List.mem_singleton.1 hy
    have := hp _ 1 (by decide) hw
    revert this; decide
  · intro y hy hw
    obtain rfl := List.mem_singleton.1 hy
    have := hp _ 6 (by decide) hw
    revert this; decide
theorem way1 : WayIs 5 3 c5 0 4 B0 [1, 2, 3, 4] 0 := .inl ⟨on5 0 (by decide), on5 4 (by decide), rfl, gr1, gr1.wk, fun m hm => pot_back (z := 4) (in5 B0) pe1 rfl m 0 (by decide) hm⟩
theorem way2 : WayIs 5 3 c5 0 4 B2 [1, 6, 11, 12, 13, 8, 3, 4] 0 := .inl ⟨on5 0 (by decide), on5 4 (by decide), rfl, gr2, gr2.wk, fun m hm => pot_back (z := 4) (in5 B2) pe2 rfl m 0 (by decide) hm⟩
theorem dist5 : IsD (nx5 5 3 (at_ c5) 0 B0) 0 10 4 := by
  refine .inr ⟨4, rfl, ?_, fun m hm => pot_back (z := 10) (in5 B0) pe3 rfl m 0 (by decide) hm⟩
  exact (((Wk.zero.step (c := 1) (by decide +kernel)).step (c := 6) (by decide +kernel)).step (c := 11) (by decide +kernel)).step (by decide +kernel)

theorem il_lit {w : World} {l : List Int} {cs : Array Value} (hl : l.length ≤ 100) (hc : cs = (l.map fun x => Value.int .i64 x).toArray) : Il (w.alloc (.cells cs 3)).heap.size (w.alloc (.cells cs 3)) (some ⟨w.heap.size, 0, none⟩) l.length l.length (fun j => l.getD j 0) := by
  refine ⟨Nat.le_refl _, by unfold maxLen; omega, (fun e => by cases e), fun _ => ⟨w.heap.size, 0, rfl, by simp, fun j hj => ?_⟩⟩
  rw [hc, Nat.zero_add]
  have h := heap_alloc_new w (.cells (l.map fun x => Value.int .i64 x).toArray 3)
  rw [((cells_row h (by simp)).2 j hj).1]
  simp [List.getD, hj]

theorem il_two (w : World) : Il (w.alloc (.cells #[.int .i64 2] 3)).heap.size (w.alloc (.cells #[.int .i64 2] 3)) (some ⟨w.heap.size, 0, none⟩) 1 1 (fun _ => 2) := by
  have h := il_lit (w := w) (l := [2]) (cs := #[.int .i64 2]) (by decide) rfl
  refine ⟨h.le, h.max, h.nil, fun h0 => ?_⟩
  obtain ⟨g, off, e, hg, hc⟩ := h.cell h0
  refine ⟨g, off, e, hg, fun j hj => ?_⟩
  obtain rfl : j = 0 := by omega
  exact hc 0 hj
end Go.Proofs.YtellaeihcignaaaGreatDoor
end

section
namespace Go.Proofs.YtellaeihcignaaaGreatDoor
open Go.RowKit Fl Pt

/-- How far cells are, on a floor whose cell a is a lane. -/
theorem dist_lane {W H : Nat} {s : ByteArray} {a : Nat} {w : World} (hO : OnFloor (W : Int) (H : Int) s (a : Int)) (f : Nat → Int) :
    ∀ e w', DistTold (W : Int) (H : Int) s (a : Int) (mk f 0) w e w' → ∃ A cap, ∃ F : List Int, e = .returned (.slice A s.size cap) ∧ F.length = s.size ∧ Il w'.heap.size w' A s.size cap (fun j => F.getD j 0) ∧ Below w.heap.size w w' ∧ ∀ x, x < s.size → IsD (nx5 W H (at_ s) a fun _ => false) a x (F.getD x 0) := by
  rintro e w' ⟨A, n, cap, F, rfl, hn, hil, hb, hd, _⟩
  obtain ⟨h1, h2⟩ := hd hO
  obtain rfl : n = s.size := hn.trans h1
  exact ⟨A, cap, F, rfl, h1, hil, hb, h2⟩
theorem lane_floor {W H : Int} {s : ByteArray} {c : Int} (h : OnLane W H s c) : ∃ a b k : Nat, W = a ∧ H = b ∧ c = k ∧ k < s.size ∧ isL (at_ s k) = true ∧ Sides a b s ∧ RightN a b (at_ s) := by
  obtain ⟨a, b, rfl, rfl, hS, hN⟩ := rightNat h.1
  have h2 := h.2
  obtain ⟨k, rfl, hk, hz⟩ := bAt_in (s := s) (c := c) (fun e => by rw [e] at h2; revert h2; decide)
  rw [hz] at h2
  exact ⟨a, b, k, rfl, rfl, rfl, hk, h2, hS, hN⟩
theorem lane_cell {W H : Int} {s : ByteArray} {c : Int} (h : OnLane W H s c) : ∃ k : Nat, c = k ∧ k < s.size ∧ isL (at_ s k) = true := by
  obtain ⟨_, _, k, _, _, e, hk, hl, _⟩ := lane_floor h
  exact ⟨k, e, hk, hl⟩
theorem lane_on {W H : Int} {s : ByteArray} {c : Int} (h : OnLane W H s c) : OnFloor W H s c := ⟨h.1, fun e => by have h2 := h.2; rw [e] at h2; revert h2; decide⟩
theorem isD_lt {nx : Nat → List Nat} {N a c : Nat} {x : Int} (ha : a < N) (hN : ∀ x y, x < N → y ∈ nx x → y < N) (h : IsD nx a c x) : -1 ≤ x ∧ x < N := by
  rcases h with ⟨rfl, _⟩ | ⟨n, rfl, hl⟩
  · exact ⟨Int.le_refl _, by omega⟩
  · have := lv_lt ha hN hl
    omega
def at3 (a b c : Int) : Nat → Int
  | 0 => a
  | 1 => b
  | _ => c
theorem il_three (w : World) (a b c : Int) : Il (w.alloc (.cells #[.int .i64 a, .int .i64 b, .int .i64 c] 3)).heap.size (w.alloc (.cells #[.int .i64 a, .int .i64 b, .int .i64 c] 3)) (some ⟨w.heap.size, 0, none⟩) 3 3 (at3 a b c) := by
  have h := il_lit (w := w) (l := [a, b, c]) (cs := #[.int .i64 a, .int .i64 b, .int .i64 c]) (by simp) rfl
  refine ⟨h.le, h.max, h.nil, fun h0 => ?_⟩
  obtain ⟨g, off, e, hg, hc⟩ := h.cell h0
  refine ⟨g, off, e, hg, fun j hj => ?_⟩
  have := hc j hj
  have : j = 0 ∨ j = 1 ∨ j = 2 := by omega
  rcases this with rfl | rfl | rfl <;> exact hc _ hj

def LaneD (W H : Nat) (s : ByteArray) (a : Nat) (w : World) (e : Ending) (w' : World) : Prop :=
  ∃ A cap, ∃ F : List Int, e = .returned (.slice A s.size cap) ∧ Il w'.heap.size w' A s.size cap (fun j => F.getD j 0) ∧ Below w.heap.size w w' ∧ Hid (∀ x, x < s.size → IsD (nx5 W H (at_ s) a fun _ => false) a x (F.getD x 0))

end Go.Proofs.YtellaeihcignaaaGreatDoor
end

section
namespace Go.Proofs.YtellaeihcignaaaGreatDoor
open Go.RowKit Fl Pt Go.ChangeShapes Go.WideShapes Go.ChangeAt

def IW (x : Int) : Prop := -9223372036854775808 ≤ x ∧ x ≤ 9223372036854775807
theorem plain_addr5 {w : World} {x : Addr} {v : Value} (h : w.cell? (x.add 0) = some v) : ∃ g off, x = ⟨g, off, none⟩ ∧ g < w.heap.size := by
  obtain ⟨g, off, spot⟩ := x
  have e0 : (Addr.add ⟨g, off, spot⟩ 0) = ⟨g, off, spot⟩ := by simp [Addr.add]
  rw [e0] at h
  have hs : spot = none := World.cell?_spot h
  subst hs
  exact ⟨g, off, rfl, World.block_lt_of_cell? w _ h⟩
theorem open_ilist {H : Type} {enc : TypeId × Value → H} {W : World} {a : Option Addr} {len cap : Nat} {d : DataW H} {p : List MemPlace}
    (h : DataW.Trod enc Tryz.prog W 0 (fun _ => true) true 46 (.slice a len cap) d p) :
    ∃ f : Nat → Int, Il W.heap.size W a len cap f ∧ ∀ j, j < len → IW (f j) := by
  obtain ⟨fuel, hf⟩ := h
  rcases open_ints Tryz.underlying46 Tryz.underlying3 (by kernel_rfl) hf with ⟨hcs, _⟩ | ⟨x, l, c, zs, hcs, _, hl, hm, hz, _, hcell, hwz⟩
  · simp [Value.cells] at hcs
    obtain ⟨rfl, rfl, rfl⟩ := hcs
    exact ⟨fun _ => 0, Il.empty _ _ _, fun j hj => by omega⟩
  · simp [Value.cells] at hcs
    obtain ⟨rfl, rfl, rfl⟩ := hcs
    have hz' : zs.length = cap := by simpa using hz
    refine ⟨fun i => zs.getD i 0, ⟨hl, hm, (fun e => by simp at e), fun h0 => ?_⟩, fun j hj => ?_⟩
    obtain ⟨g, off, rfl, hg⟩ := plain_addr5 (hcell 0 (by omega))
    refine ⟨g, off, rfl, hg, fun i hi => ?_⟩
    rw [← plain_add, hcell i (by omega)]
    have hj2 : j < zs.length := by omega
    have := hwz (zs.getD j 0) (by rw [List.getD, List.getElem?_eq_getElem hj2]; exact List.getElem_mem hj2)
    unfold IW
    simpa [Lit.wf, IntKind.min, IntKind.max, IntKind.signed, IntKind.bits] using this


def iz (l : List Int) : List Value := l.map fun n => Value.int .i64 n
/-- The list of integers xs is owned at v. -/
def OwnI (w : World) (base : Nat) (v : Value) (xs : List Int) : Prop := w.ownsRow base 3 1 v xs.length (iz xs)
theorem OwnI.empty (w : World) (base : Nat) (hb : base ≤ w.heap.size) : OwnI (w.alloc (.cells #[] 3)) base (.slice (some ⟨w.heap.size, 0, none⟩) 0 0) [] :=
  ⟨rfl, .inr ⟨w.heap.size, 0, #[], rfl, hb, heap_alloc_new w _, Nat.le_refl _, Nat.zero_le _, rfl, rfl⟩⟩
theorem OwnI.il {w : World} {base : Nat} {v : Value} {xs : List Int} (h : OwnI w base v xs) : ∃ A cap, v = .slice A xs.length cap ∧ Il w.heap.size w A xs.length cap (fun j => xs.getD j 0) := by
  rcases h.2 with ⟨rfl, h0⟩ | ⟨g, cap, cur, rfl, hg, hh, h1, h2, h3, h4⟩
  · exact ⟨none, 0, by rw [h0], by rw [h0]; exact Il.empty _ _ _⟩
  · refine ⟨_, cap, rfl, h1, h2, (fun e => by cases e), fun h0 => ⟨g, 0, rfl, lt_of_heap hh, fun j hj => ?_⟩⟩
    have := World.ownsRow.cellAt h j (by omega)
    rw [Nat.zero_add, this]
    simp [iz, List.getD, hj]
theorem run_app_ints {w : World} (ty : TypeId) (base : Nat) (v : Value) (xs : List Int) (hown : OwnI w base v xs)
    (A : Option Addr) (m c : Nat) (f : Nat → Int) (hr : Il w.heap.size w A m c f) (hb : xs.length + m ≤ 1000000) (hbase : base ≤ w.heap.size) :
    ∃ v' w', (Builtin.append_ #[46, 46] ty #[v, .slice A m c]).run Tryz.prog w = .ok v' w' ∧ OwnI w' base v' (xs ++ il f m) ∧ Below base w w' := by
  obtain ⟨i0, hi, hz0, hz1, hz2⟩ := info_parts Tryz.infoInt
  cases A with
  | none =>
    obtain ⟨rfl, rfl⟩ := hr.nil rfl
    exact ⟨v, w, run_append_owned_none (P := Tryz.prog) (w := w) base 46 ty 3 i0 1 Tryz.underlying46 hi v xs.length (iz xs) hown, by simpa [il] using hown, Below.refl _ _⟩
  | some ad =>
    have hcells : ∀ j u, (iz (il f m))[j]? = some u → w.cell? (ad.add j) = some u := fun j u hu => by
      have hj : j < m := by
        have := (List.getElem?_eq_some_iff.1 hu).1
        simpa [iz, il] using this
      obtain ⟨g, off, e, _, hc⟩ := hr.cell (by omega)
      obtain rfl : ad = ⟨g, off, none⟩ := by simpa using e
      rw [plain_add, hc j hj]
      simp [iz, il, hj] at hu
      rw [hu]
    obtain ⟨v', w', hrun, h2, h3, _, h5⟩ := run_append_own_at (P := Tryz.prog) w base 46 ty 3 i0 (.int .i64 0) 1 8 Tryz.underlying46 hi hz0 hz1 hz2 rfl (by decide) v xs.length (iz xs) hown ad m c (iz (il f m)) (by simp [iz, il]) hcells (by simp [iz, Value.oneCell']) (by unfold maxLen; omega) (by omega) hbase
    exact ⟨v', w', hrun, by unfold OwnI; rw [List.length_append, il_length]; simpa [iz] using h2, Below.grown (Below.refl _ _) h3 hbase (fun k hk => (hown.lt k hk).1)⟩
theorem step_app_ints {w : World} {ops : Array Oper} {o : Oper} {a : Act} {K : Act → World → Prop} {Q : Exit → Act → World → Prop} {F : Prop} (hgd : o.guard = none) (s x : Operand)
    (ho : o.op = .call { callee := .builtin .append, args := #[s, x], argTypes := #[46, 46] })
    (base : Nat) (v : Value) (xs : List Int) (hs : a.eval s = v) (hown : OwnI w base v xs)
    (A : Option Addr) (m c : Nat) (f : Nat → Int) (hx : a.eval x = .slice A m c) (hr : Il w.heap.size w A m c f) (hb : xs.length + m ≤ 1000000) (hbase : base ≤ w.heap.size)
    (h : ∀ A' c' w', OwnI w' base (.slice A' (xs ++ il f m).length c') (xs ++ il f m) → Below base w w' → K (a.put o.dst (.slice A' (xs ++ il f m).length c')) w') : if Region.wanted o (yielded ops a.tmps) = true then Oper.wp Tryz.prog o a w K Q else F := by
  have hw : Region.wanted o (yielded ops a.tmps) = true := by simp [Region.wanted, hgd]
  rw [if_pos hw]
  obtain ⟨v', w', hrun, h2, h3⟩ := run_app_ints o.type base v xs hown A m c f hr hb hbase
  obtain ⟨A', c', rfl, _⟩ := h2.il
  unfold Oper.wp execOp
  simp only [ho, resolve, invoke, builtin, Sem.run_bind, Sem.run_pure, Result.andThen_ok, List.map_toArray, List.map_cons, List.map_nil, hs, hx, hrun]
  exact h A' c' w' h2 h3
end Go.Proofs.YtellaeihcignaaaGreatDoor
end
