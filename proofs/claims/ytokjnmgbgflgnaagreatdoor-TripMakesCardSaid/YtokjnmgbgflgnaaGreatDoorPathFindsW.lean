/-
  PathFinds: the walk.
-/
import Derived.Test.YtokjnmgbgflgnaaGreatDoorPtR5
set_option linter.unusedVariables false
set_option maxRecDepth 100000
namespace Go.Proofs.YtokjnmgbgflgnaaGreatDoor
open Go.RowKit Fl Pt

def NoWay (w : World) (e : Ending) (w' : World) : Prop := e = .returned (.tuple #[.slice none 0 0, .int .i64 1]) ∧ Below w.heap.size w w'
theorem rmfind_none (c t : Int) (A : Option Addr) (m cap : Nat) (w : World) : Calls Tryz.prog 33 #[.agg #[.slice none 0 0, .slice none 0 0, .slice none 0 0], .int .i64 c, .int .i64 t, .slice A m cap] w (NoWay w) := by
  obtain ⟨b0, b1, b2, hb⟩ := map_box w (.slice none 0 0) (.slice none 0 0) (.slice none 0 0)
  have HB1 := Lib.hid hb
  clear hb
  go_enter Tryz.func33, Tryz.ntmps33
  go_wp2_with fail
  refine (ropen_none c _).mono ?_
  rintro e w2 ⟨rfl, hb2⟩
  have HB2 := Lib.hid (HB1.out.trans (hb2.mono HB1.out.size))
  clear hb2
  go_wp2_with fail
  go_ret2
  exact ⟨rfl, HB2.out⟩
set_option maxHeartbeats 1000000 in
theorem rmfind_no {W H : Nat} {s : ByteArray} {AN AL AO : Option Addr} {n cN cL cO : Nat} (c t : Int) (A : Option Addr) (m cap : Nat) (w : World) (h : MapAt w W H s AN AL AO n cN cL cO) (h256 : s.size ≤ 256) (hz : ¬ (bAt s c ≠ 35 ∧ bAt s t ≠ 35)) :
    Calls Tryz.prog 33 #[.agg #[.slice AN n cN, .slice AL n cL, .slice AO n cO], .int .i64 c, .int .i64 t, .slice A m cap] w (NoWay w) := by
  obtain ⟨b0, b1, b2, hb⟩ := map_box w (.slice AN n cN) (.slice AL n cL) (.slice AO n cO)
  have HMX : Hid (MX w.heap.size AN AL AO n cN cL cO (w.alloc (.cells #[.slice AN n cN, .slice AL n cL, .slice AO n cO] 57))) := Lib.hid ⟨b0, b1, b2, by rw [alloc_size]; exact Nat.lt_succ_self _⟩
  have HB1 := Lib.hid hb
  have HZ := Lib.hid hz
  have HOP := Lib.hid (fun (c : Int) wx hb => ropen_map (W := W) (H := H) (s := s) (AN := AN) (AL := AL) (AO := AO) (cN := cN) (cL := cL) (cO := cO) c wx (h.later hb) h256)
  clear h hb hz b0 b1 b2
  go_enter Tryz.func33, Tryz.ntmps33
  have c0 := HMX.out.c0
  have c1 := HMX.out.c1
  have c2 := HMX.out.c2
  go_wp2_with fail
  refine (HOP.out c _ HB1.out).mono ?_
  rintro e w2 ⟨b, rfl, hb, hb2⟩
  have HMX2 := Lib.hid (HMX.out.later hb2)
  have HB2 := Lib.hid (HB1.out.trans (hb2.mono HB1.out.size))
  have HBB := Lib.hid hb
  clear hb hb2 c0 c1 c2
  cases b with
  | false =>
    go_wp2_with fail
    go_ret2
    exact ⟨rfl, HB2.out⟩
  | true =>
    have c0 := HMX2.out.c0
    have c1 := HMX2.out.c1
    have c2 := HMX2.out.c2
    go_wp2_with fail
    refine (HOP.out t _ HB2.out).mono ?_
    rintro e w3 ⟨b, rfl, hb, hb3⟩
    obtain rfl : b = false := by
      cases b with
      | false => rfl
      | true => exact absurd ⟨HBB.out.1 (by first | trivial | rfl), hb.1 (by first | trivial | rfl)⟩ HZ.out
    have HB3 := Lib.hid (HB2.out.trans (hb3.mono HB2.out.size))
    clear hb hb3 c0 c1 c2
    go_wp2_with fail
    go_ret2
    exact ⟨rfl, HB3.out⟩
theorem same_yes {k : Nat} {args : Array Value} {w : World} {P : Prop} (h : Calls Tryz.prog k args w (Told P w)) (hP : P) : Calls Tryz.prog k args w fun e w' => e = .returned (.bool true) ∧ Below w.heap.size w w' :=
  h.mono fun e w' ⟨b, h1, h2, h3⟩ => ⟨by rw [h1, h2.2 hP], h3⟩
end Go.Proofs.YtokjnmgbgflgnaaGreatDoor
