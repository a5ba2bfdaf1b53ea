/-
  The walk of TrafficNil.
-/
import Derived.Test.YtellaeihcignaaaGreatDoorTfFou
set_option linter.unusedVariables false
set_option maxRecDepth 100000
namespace Go.Proofs.YtellaeihcignaaaGreatDoor
namespace Tf
open Go.RowKit Fl Tr Pt
open Lk (T0)

/-- A step's value. -/
def stepV (k : Nat) (r f t : Int) (A : Option Addr) (n c : Nat) : Value := .agg #[.int .u8 (k : Int), .int .i64 r, .int .i64 f, .int .i64 t, .slice A n c]
/-- A step's box. -/
def Sx (b : Nat) (k : Nat) (r f t : Int) (A : Option Addr) (n c : Nat) (w : World) : Prop := w.heap[b]? = some (.cells #[.int .u8 (k : Int), .int .i64 r, .int .i64 f, .int .i64 t, .slice A n c] 37 (0, 0))
theorem Sx.cells {b k : Nat} {r f t : Int} {A : Option Addr} {n c : Nat} {w : World} (h : Sx b k r f t A n c w) : w.cell? ⟨b, 0, none⟩ = some (.int .u8 (k : Int)) ∧ w.cell? ⟨b, 1, none⟩ = some (.int .i64 r) ∧ w.cell? ⟨b, 2, none⟩ = some (.int .i64 f) ∧ w.cell? ⟨b, 3, none⟩ = some (.int .i64 t) ∧ w.cell? ⟨b, 4, none⟩ = some (.slice A n c) ∧ b < w.heap.size :=
  ⟨by rw [cell_of_row w b 0 _ _ _ h]; rfl, by rw [cell_of_row w b 1 _ _ _ h]; rfl, by rw [cell_of_row w b 2 _ _ _ h]; rfl, by rw [cell_of_row w b 3 _ _ _ h]; rfl, by rw [cell_of_row w b 4 _ _ _ h]; rfl, lt_of_heap h⟩
theorem Sx.new (w : World) (k : Nat) (r f t : Int) (A : Option Addr) (n c : Nat) : Sx w.heap.size k r f t A n c (w.alloc (.cells #[.int .u8 (k : Int), .int .i64 r, .int .i64 f, .int .i64 t, .slice A n c] 37)) := heap_alloc_new w _
theorem Sx.later {b k : Nat} {r f t : Int} {A : Option Addr} {n c : Nat} {w w' : World} (h : Sx b k r f t A n c w) (hb : Below w.heap.size w w') : Sx b k r f t A n c w' := (hb.block b (lt_of_heap h)).trans h
/-- Both boxes. -/
structure Nb (w0 : World) (b1 b2 k : Nat) (r f t : Int) (A : Option Addr) (n c : Nat) (W H : Int) (s : ByteArray) (w : World) : Prop where
  below : Below w0.heap.size w0 w
  sx : Sx b1 k r f t A n c w
  fb : Fb b2 W H s w
theorem Nb.later {w0 : World} {b1 b2 k : Nat} {r f t : Int} {A : Option Addr} {n c : Nat} {W H : Int} {s : ByteArray} {w w' : World} (h : Nb w0 b1 b2 k r f t A n c W H s w) (hb : Below w.heap.size w w') : Nb w0 b1 b2 k r f t A n c W H s w' :=
  ⟨h.below.trans (hb.mono h.below.size), h.sx.later hb, h.fb.later hb⟩
theorem Nb.start (w : World) (k : Nat) (r f t : Int) (A : Option Addr) (n c : Nat) (W H : Int) (s : ByteArray) : Nb w w.heap.size (w.heap.size + 1) k r f t A n c W H s ((w.alloc (.cells #[.int .u8 (k : Int), .int .i64 r, .int .i64 f, .int .i64 t, .slice A n c] 37)).alloc (.cells #[.int .i64 W, .int .i64 H, .string s] 25)) := by
  have h1 := Sx.new w k r f t A n c
  have hs : (w.alloc (.cells #[.int .u8 (k : Int), .int .i64 r, .int .i64 f, .int .i64 t, .slice A n c] 37)).heap.size = w.heap.size + 1 := by simp
  have h2 := Fb.new (w.alloc (.cells #[.int .u8 (k : Int), .int .i64 r, .int .i64 f, .int .i64 t, .slice A n c] 37)) W H s
  rw [hs] at h2
  exact ⟨((Below.refl w.heap.size w).alloc (Nat.le_refl _) _).alloc (by simp) _, h1.later ((Below.refl _ _).alloc (Nat.le_refl _) _), h2⟩
set_option maxHeartbeats 8000000 in
theorem trafficNil_walk (k : Nat) (r f t : Int) (A : Option Addr) (n c : Nat) (L : List Ac) (W H : Int) (hH : H ≤ 9223372036854775807) (s : ByteArray) (hs : s.size ≤ maxLen) (w : World) (hl : Al w.heap.size w A n c L) (hk : k ≤ 255) :
    Calls Tryz.prog 8 #[stepV k r f t A n c, .agg #[.int .i64 W, .int .i64 H, .string s]] w fun e w' => e = .returned (.bool true) ∧ Below w.heap.size w w' := by
  clear hl hk hH
  unfold stepV
  have hN := Nb.start w k r f t A n c W H s
  have HRT := Lib.hid (fun wx => Go.Proofs.YtellaeihcignaaaGreatDoor.right_any W H s hs wx)
  have HNW := Lib.hid (fun wx => new_any W H s hs wx)
  unfold maxLen at hs
  go_enter Tryz.func8, Tryz.ntmps8
  go_upto_region 1 with (fail)
  generalize hb1 : w.heap.size + 1 = b2 at *
  obtain ⟨b1, hb0⟩ : ∃ b1, b1 = w.heap.size := ⟨_, rfl⟩
  rw [← hb0] at hN ⊢
  generalize (w.alloc (.cells #[.int .u8 (k : Int), .int .i64 r, .int .i64 f, .int .i64 t, .slice A n c] 37)).alloc (.cells #[.int .i64 W, .int .i64 H, .string s] 25) = w0 at *
  have HN0 := Lib.hid hN
  clear hN hb0 hb1
  go_wp2_with fail
  refine (shown11_any _).mono ?_
  rintro e w1 ⟨rfl, hb1⟩
  have HN1 := Lib.hid (HN0.out.later hb1)
  obtain ⟨_, c1, _, _, _, cl⟩ := HN1.out.sx.cells
  clear hb1
  go_wp2_with fail
  refine (grant_nil r _).mono ?_
  rintro e w2 ⟨rfl, hb2⟩
  have hB3 := (Below.refl w2.heap.size w2).alloc (Nat.le_refl _) (.cells #[.int .u8 0, .int .i64 0, .int .i64 0] 39)
  have HN3 := Lib.hid ((HN1.out.later hb2).later hB3)
  clear hb2 hB3 c1 cl
  obtain ⟨_, c1, _, _, _, cl⟩ := HN3.out.sx.cells
  dsimp only [actV]
  go_upto_region 4 with (fail)
  generalize w2.alloc (.cells #[.int .u8 0, .int .i64 0, .int .i64 0] 39) = w3 at *
  generalize w2.heap.size = x7 at *
  go_wp2_with fail
  refine (cell_nil r _).mono ?_
  unfold CellTold cellF
  rw [if_neg (by intro q; have := q.2; simp at this; omega)]
  rintro e w4 ⟨rfl, hb4⟩
  have HN4 := Lib.hid (HN3.out.later hb4)
  clear hb4 c1 cl
  obtain ⟨_, c1, _, _, _, cl⟩ := HN4.out.sx.cells
  dsimp only
  go_wp2_with fail
  refine (now_nil r _).mono ?_
  unfold NowTold nowF
  rw [if_neg (by intro q; have := q.2; simp at this; omega)]
  rintro e w5 ⟨rfl, hb5⟩
  have hB6 := (Below.refl w5.heap.size w5).alloc (Nat.le_refl _) (.cells #[.int .u8 0, .int .i64 0, .int .i64 0] 39)
  have HN6 := Lib.hid ((HN4.out.later hb5).later hB6)
  clear hb5 hB6 c1 cl
  obtain ⟨_, c1, _, _, _, cl⟩ := HN6.out.sx.cells
  obtain ⟨f0, f1, f2, fl, _⟩ := HN6.out.fb.cells
  dsimp only [actV]
  go_upto_region 6 with (fail)
  generalize w5.alloc (.cells #[.int .u8 0, .int .i64 0, .int .i64 0] 39) = w6 at *
  generalize w5.heap.size = x11 at *
  by_cases hlong : 500 < s.size
  · have d1 : decide ((500 : Int) < (s.size : Int)) = true := decide_eq_true (by omega)
    go_wp2_with fail
    go_ret
    exact ⟨rfl, HN6.out.below⟩
  · have d1 : decide ((500 : Int) < (s.size : Int)) = false := decide_eq_false (by omega)
    go_wp2_with fail
    refine (HNW.out _).mono ?_
    rintro e w7 hnw
    rcases hnw with ⟨hno, rfl, hb7⟩ | ⟨hR, S, g, M, cap, top, rfl, hst, hge, hb7⟩
    · have HNO := Lib.hid hno
      have HN7 := Lib.hid (HN6.out.later hb7)
      clear hno hb7 c1 cl f0 f1 f2 fl
      obtain ⟨_, c1, _, _, _, cl⟩ := HN7.out.sx.cells
      obtain ⟨f0, f1, f2, fl, _⟩ := HN7.out.fb.cells
      go_wp2_with fail
      refine (start_nil r none 0 0 _).mono ?_
      rintro e w8 ⟨rfl, hb8⟩
      have HN8 := Lib.hid (HN7.out.later hb8)
      clear hb8 c1 cl f0 f1 f2 fl
      obtain ⟨_, c1, _, _, _, cl⟩ := HN8.out.sx.cells
      obtain ⟨f0, f1, f2, fl, _⟩ := HN8.out.fb.cells
      go_wp2_with fail
      refine (done_nil r _).mono ?_
      rintro e w9 ⟨rfl, hb9⟩
      have HN9 := Lib.hid (HN8.out.later hb9)
      clear hb9 c1 cl f0 f1 f2 fl
      obtain ⟨_, c1, _, _, _, cl⟩ := HN9.out.sx.cells
      obtain ⟨f0, f1, f2, fl, _⟩ := HN9.out.fb.cells
      go_wp2_with fail
      refine (left_nil r _).mono ?_
      rintro e wA ⟨A5, n5, c5, rfl, hn5, _, hbA⟩
      replace hn5 : n5 = 0 := by rw [hn5]; unfold leftF; rw [if_neg (by intro q; have := q.2; simp at this; omega)]; rfl
      subst hn5
      have HNA := Lib.hid (HN9.out.later hbA)
      clear hbA c1 cl f0 f1 f2 fl
      obtain ⟨f0, f1, f2, fl, _⟩ := HNA.out.fb.cells
      go_wp2_with fail
      refine (claims_nil _).mono ?_
      rintro e wB ⟨rfl, rfl⟩
      go_wp2_with fail
      refine (HRT.out _).mono ?_
      rintro e wC ⟨b, rfl, hb, hbC⟩
      obtain rfl : b = false := by
        cases b with
        | false => rfl
        | true => exact absurd (hb.1 rfl) HNO.out
      have HNC := Lib.hid (HNA.out.later hbC)
      clear hb hbC
      go_wp2_with fail
      go_ret
      exact ⟨rfl, HNC.out.below⟩
    · have HR := Lib.hid hR
      have HN7 := Lib.hid (HN6.out.later hb7)
      clear hR hst hge hb7 c1 cl f0 f1 f2 fl
      obtain ⟨_, c1, _, _, _, cl⟩ := HN7.out.sx.cells
      obtain ⟨f0, f1, f2, fl, _⟩ := HN7.out.fb.cells
      go_wp2_with fail
      refine (start_nil r none 0 0 _).mono ?_
      rintro e w8 ⟨rfl, hb8⟩
      have HN8 := Lib.hid (HN7.out.later hb8)
      clear hb8 c1 cl f0 f1 f2 fl
      obtain ⟨_, c1, _, _, _, cl⟩ := HN8.out.sx.cells
      obtain ⟨f0, f1, f2, fl, _⟩ := HN8.out.fb.cells
      go_wp2_with fail
      refine (done_nil r _).mono ?_
      rintro e w9 ⟨rfl, hb9⟩
      have HN9 := Lib.hid (HN8.out.later hb9)
      clear hb9 c1 cl f0 f1 f2 fl
      obtain ⟨_, c1, _, _, _, cl⟩ := HN9.out.sx.cells
      obtain ⟨f0, f1, f2, fl, _⟩ := HN9.out.fb.cells
      go_wp2_with fail
      refine (left_nil r _).mono ?_
      rintro e wA ⟨A5, n5, c5, rfl, hn5, _, hbA⟩
      replace hn5 : n5 = 0 := by rw [hn5]; unfold leftF; rw [if_neg (by intro q; have := q.2; simp at this; omega)]; rfl
      subst hn5
      have HNA := Lib.hid (HN9.out.later hbA)
      clear hbA c1 cl f0 f1 f2 fl
      obtain ⟨f0, f1, f2, fl, _⟩ := HNA.out.fb.cells
      go_wp2_with fail
      refine (claims_nil _).mono ?_
      rintro e wB ⟨rfl, rfl⟩
      go_wp2_with fail
      refine (HRT.out _).mono ?_
      rintro e wC ⟨b, rfl, hb, hbC⟩
      obtain rfl : b = true := hb.2 HR.out
      have HNC := Lib.hid (HNA.out.later hbC)
      clear hb hbC
      go_wp2_with fail
      go_ret
      exact ⟨rfl, HNC.out.below⟩
end Tf
end Go.Proofs.YtellaeihcignaaaGreatDoor
