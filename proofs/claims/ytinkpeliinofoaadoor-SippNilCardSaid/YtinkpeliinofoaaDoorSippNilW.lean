/-
  SippNil: with a nil table; the walk.
-/
import Derived.Test.YtinkpeliinofoaaDoorSpLaw
set_option linter.unusedVariables false
set_option maxRecDepth 100000
namespace Go.Proofs.YtinkpeliinofoaaDoor
open Go.RowKit Fl Pt
open Sp
open Wn (Tab TF frees isT Ordw IW Wt wcl plc Rising RT Rt R3 tkn rtk tk upd)

/-- The case's box, and all that was there before. -/
structure Cx (w : World) (W H : Int) (s : ByteArray) (A : Option Addr) (n cap : Nat) (fr tz st ah : Int) (w' : World) : Prop where
  box : Cb w.heap.size W H s A n cap fr tz st ah w'
  below : Below w.heap.size w w'
theorem Cx.after {w w1 w2 : World} {W H : Int} {s : ByteArray} {A : Option Addr} {n cap : Nat} {fr tz st ah : Int} (h : Cx w W H s A n cap fr tz st ah w1) (hb : Below w1.heap.size w1 w2) : Cx w W H s A n cap fr tz st ah w2 :=
  ⟨h.box.later hb, h.below.trans (hb.mono h.below.size)⟩
theorem Cx.start (w : World) (W H : Int) (s : ByteArray) (A : Option Addr) (n cap : Nat) (fr tz st ah : Int) : Cx w W H s A n cap fr tz st ah (w.alloc (.cells #[.int .i64 W, .int .i64 H, .string s, .slice A n cap, .int .i64 fr, .int .i64 tz, .int .i64 st, .int .i64 ah] 26)) :=
  ⟨Cb.new w W H s A n cap fr tz st ah, (Below.refl _ _).alloc (Nat.le_refl _) _⟩
theorem plan_nil (W H : Int) (s : ByteArray) (c t0 tz ahead : Int) (w : World) :
    Calls Tryd.prog 11 #[.agg #[.int .i64 W, .int .i64 H, .string s], .pointer none, .int .i64 c, .int .i64 t0, .int .i64 tz, .int .i64 ahead] w fun e w' => e = .returned (.tuple #[.slice none 0 0, .int .i64 1]) ∧ Below w.heap.size w w' := by
  have HRE := Lib.hid (fun wx => reach7_nil W H s c t0 ahead wx)
  have HX0 := Lib.hid (Box.start w W H s 23)
  go_enter Tryd.func11, Tryd.ntmps11
  go_wp2_with fail
  refine (HRE.out _).mono ?_
  rintro e w1 ⟨rfl, hb⟩
  have HX := Lib.hid (HX0.out.after hb)
  clear hb
  go_wp2_with fail
  go_ret2
  exact ⟨rfl, HX.out.below⟩
theorem soon_nil (W H : Int) (s : ByteArray) (c t0 ahead : Int) (w : World) :
    Calls Tryd.prog 9 #[.agg #[.int .i64 W, .int .i64 H, .string s], .pointer none, .int .i64 c, .int .i64 t0, .int .i64 ahead] w fun e w' => e = .returned (.slice none 0 0) ∧ Below w.heap.size w w' := by
  have HRE := Lib.hid (fun wx => reach7_nil W H s c t0 ahead wx)
  have HX0 := Lib.hid (Box.start w W H s 23)
  go_enter Tryd.func9, Tryd.ntmps9
  go_wp2_with fail
  refine (HRE.out _).mono ?_
  rintro e w1 ⟨rfl, hb⟩
  have HX := Lib.hid (HX0.out.after hb)
  clear hb
  go_wp2_with fail
  go_ret
  exact ⟨rfl, HX.out.below⟩
theorem is_nil (W H : Int) (s : ByteArray) (c t0 : Int) (w : World) :
    Calls Tryd.prog 12 #[.agg #[.int .i64 W, .int .i64 H, .string s], .pointer none, .int .i64 c, .int .i64 t0, .slice none 0 0] w fun e w' => e = .returned (.bool false) ∧ Below w.heap.size w w' := by
  have HRE := Lib.hid (fun wx => right7_nil W H s c t0 wx)
  have HX0 := Lib.hid (Box.start w W H s 23)
  go_enter Tryd.func12, Tryd.ntmps12
  go_wp2_with fail
  refine (HRE.out _).mono ?_
  rintro e w1 ⟨rfl, hb⟩
  have HX := Lib.hid (HX0.out.after hb)
  clear hb
  go_wp2_with fail
  go_ret
  exact ⟨rfl, HX.out.below⟩

set_option maxHeartbeats 4000000 in
theorem sippNil_walk (W H : Int) (s : ByteArray) (hs : s.size ≤ maxLen) (A : Option Addr) (n cap : Nat) (L : List R3) (fr tz st ah : Int) (w : World) (hL : Rt w.heap.size w A n cap L) (hx : ∀ j, j < n → IW (L.getD j (0, 0, 0)).1) :
    Calls Tryd.prog 4 #[caseV W H s A n cap fr tz st ah] w fun e w' => e = .returned (.bool true) ∧ Below w.heap.size w w' := by
  have HX0 := Lib.hid (Cx.start w W H s A n cap fr tz st ah)
  clear hL hx hs
  unfold caseV
  go_enter Tryd.func4, Tryd.ntmps4
  go_wp2_with fail
  refine (shown7_any _).mono ?_
  rintro e w1 ⟨rfl, hb1⟩
  have HX1 := Lib.hid (HX0.out.after hb1)
  clear hb1
  have c0 := HX1.out.box.c0
  have c1 := HX1.out.box.c1
  have c2 := HX1.out.box.c2
  have c4 := HX1.out.box.c4
  have c5 := HX1.out.box.c5
  have c6 := HX1.out.box.c6
  go_wp2_with fail
  refine (plan_nil _ _ _ _ _ _ _ _).mono ?_
  rintro e w2 ⟨rfl, hb2⟩
  have HX2 := Lib.hid (HX1.out.after hb2)
  clear hb2 c0 c1 c2 c4 c5 c6
  have c0 := HX2.out.box.c0
  have c1 := HX2.out.box.c1
  have c2 := HX2.out.box.c2
  have c4 := HX2.out.box.c4
  have c6 := HX2.out.box.c6
  go_wp2_with fail
  refine (soon_nil _ _ _ _ _ _ _).mono ?_
  rintro e w3 ⟨rfl, hb3⟩
  have HX3 := Lib.hid (HX2.out.after hb3)
  clear hb3 c0 c1 c2 c4 c6
  have c0 := HX3.out.box.c0
  have c1 := HX3.out.box.c1
  have c2 := HX3.out.box.c2
  have c4 := HX3.out.box.c4
  have c6 := HX3.out.box.c6
  go_wp2_with fail
  refine (is_nil _ _ _ _ _ _).mono ?_
  rintro e w4 ⟨rfl, hb4⟩
  have HX4 := Lib.hid (HX3.out.after hb4)
  clear hb4
  go_wp2_with fail
  go_ret
  exact ⟨rfl, HX4.out.below⟩
end Go.Proofs.YtinkpeliinofoaaDoor
