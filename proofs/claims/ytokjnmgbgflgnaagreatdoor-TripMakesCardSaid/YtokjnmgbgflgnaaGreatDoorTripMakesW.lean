/-
  TripMakes: the walk.
-/
import Derived.Test.YtokjnmgbgflgnaaGreatDoorTrNo
import Derived.Test.YtokjnmgbgflgnaaGreatDoorTrArgs
set_option linter.unusedVariables false
set_option maxRecDepth 100000
namespace Go.Proofs.YtokjnmgbgflgnaaGreatDoor
namespace Tr
open Go.RowKit Fl Pt
open Bk (Gt)

set_option maxHeartbeats 16000000 in
theorem tripMakes_walk (W H : Int) (s : ByteArray) (hs : s.size ≤ maxLen) (r pod a b : Int) (A : Option Addr) (n cap : Nat) (f : Nat → Int) (w : World) (h : Il w.heap.size w A n cap f) (_ : ∀ j, j < n → IW (f j)) :
    Calls Tryz.prog 3 #[caseV W H s r pod a b A n cap] w fun e w' => e = .returned (.bool true) ∧ Below w.heap.size w w' := by
  have HI := Lib.hid h
  have HSM := Lib.hid (fun wx => small10_any W H s hs r pod a b A n cap ⟨h.le, by have := h.max; unfold maxLen at this; omega⟩ wx)
  have HMK := Lib.hid (fun wx (hb : Below w.heap.size w wx) => make_any W H s hs r pod a b A n cap f wx (args_il h hb))
  have HRM := Lib.hid (fun wx (hb : Below w.heap.size w wx) => rmake_any W H s hs r pod a b A n cap f wx (args_il h hb))
  have HCB := Lib.hid (Cb.new w W H s r pod a b A n cap)
  have HBB := Lib.hid ((Below.refl w.heap.size w).alloc (Nat.le_refl _) (.cells #[.int .i64 W, .int .i64 H, .string s, .int .i64 r, .int .i64 pod, .int .i64 a, .int .i64 b, .slice A n cap] 26))
  clear h
  unfold caseV at HSM ⊢
  go_enter Tryz.func3, Tryz.ntmps3
  go_wp2_with fail
  refine (shown10_any _).mono ?_
  rintro e w1 ⟨rfl, hb1⟩
  obtain ⟨D, hD⟩ : ∃ D, D = w.heap.size := ⟨_, rfl⟩
  have HLD : Hid (w.heap.size ≤ D) := Lib.hid (by omega)
  have HC1 : Hid (Cb D W H s r pod a b A n cap w1) := Lib.hid (by rw [hD]; exact HCB.out.later hb1)
  have HB1 := Lib.hid (HBB.out.trans (hb1.mono HBB.out.size))
  rw [← hD]
  clear hb1 hD HCB HBB
  have c0 := HC1.out.c0
  have c1 := HC1.out.c1
  have c2 := HC1.out.c2
  have c3 := HC1.out.c3
  have c4 := HC1.out.c4
  have c5 := HC1.out.c5
  have c6 := HC1.out.c6
  have c7 := HC1.out.c7
  go_wp2_with fail
  refine (HSM.out _).mono ?_
  rintro e w2 ⟨rfl, hb2⟩
  have HC2 := Lib.hid (HC1.out.later hb2)
  have HB2 := Lib.hid (HB1.out.trans (hb2.mono HB1.out.size))
  clear hb2 c0 c1 c2 c3 c4 c5 c6 c7
  cases hsm : (decide (s.size ≤ 60) && decide (n ≤ 30)) with
  | false =>
    go_wp2_with fail
    go_ret
    exact ⟨rfl, HB2.out⟩
  | true =>
    have c0 := HC2.out.c0
    have c1 := HC2.out.c1
    have c2 := HC2.out.c2
    have c3 := HC2.out.c3
    have c4 := HC2.out.c4
    have c5 := HC2.out.c5
    have c6 := HC2.out.c6
    have c7 := HC2.out.c7
    clear hsm
    go_wp2_with fail
    refine (HMK.out _ HB2.out).mono ?_
    rintro e w3 ⟨A3, n3, k3, L, er, rfl, hmi, hl3, hje, hal, hb3⟩
    have HC3 := Lib.hid (HC2.out.later hb3)
    have HB3 := Lib.hid (HB2.out.trans (hb3.mono HB2.out.size))
    have HA3 := Lib.hid hal
    have HL3 := Lib.hid hl3
    have hn3 := hal.len
    have hk3 := hal.size
    obtain ⟨hk3, hk3b⟩ := hk3
    have HMI := Lib.hid hmi
    clear hal hb3 hl3 hje hmi hn3 HL3 c0 c1 c2 c3 c4 c5 c6 c7 HMK HSM HB1 HC1
    have c0 := HC3.out.c0
    have c1 := HC3.out.c1
    have c2 := HC3.out.c2
    have c3 := HC3.out.c3
    have c4 := HC3.out.c4
    have c5 := HC3.out.c5
    have c6 := HC3.out.c6
    have c7 := HC3.out.c7
    go_wp2_with fail
    refine (HRM.out _ HB3.out).mono ?_
    rintro e w4 ⟨A4, n4, k4, M, er2, rfl, hmi2, _, _, hal4, hb4⟩
    obtain ⟨rfl, rfl⟩ := HMI.out.uniq hmi2
    have HA34 := Lib.hid (HA3.out.later hb4)
    have HA4 := Lib.hid hal4
    have HB4 := Lib.hid (HB3.out.trans (hb4.mono HB3.out.size))
    have hsame := same_any A3 A4 n3 n4 k3 k4 L L w4 HA34.out hal4
    rw [show decide (L = L) = true from decide_eq_true rfl] at hsame
    have HSAME := Lib.hid hsame
    have dee : (er == er) = true := by rw [beq_iff_eq]
    clear hmi2 hal4 hb4 hsame c0 c1 c2 c3 c4 c5 c6 c7
    go_wp2_with fail
    refine HSAME.out.mono ?_
    rintro e w5 ⟨rfl, hb5⟩
    have HB5 := Lib.hid (HB4.out.trans (hb5.mono HB4.out.size))
    clear hb5
    go_wp2_with fail
    go_ret
    exact ⟨by first | rfl | simp, HB5.out⟩
end Tr
end Go.Proofs.YtokjnmgbgflgnaaGreatDoor
