/-
  The statement CheckFrames: its walk.
-/
import Derived.Test.YtbdlcmpljhbebaaChkK
import Derived.Test.YtbdlcmpljhbebaaChkSumsW
set_option linter.unusedVariables false
namespace Go.Proofs.Ytbdlcmpljhbebaa
open Go.RowKit Bp Ck

/-- What Frame and Open tell. -/
def frL (zs : List Nat) : List Nat := if zs.length ≤ 1000 then frm zs else []
def frE (zs : List Nat) : Int := if zs.length ≤ 1000 then 0 else 4
def opL (zs : List Nat) : List Nat := if isFrm zs = true then inn zs else []
/-- Bytes and a number, told. -/
def ToldE (w : World) (e : Ending) (w' : World) (ys : List Nat) (E : Int) : Prop :=
  ∃ A n c, e = .returned (.tuple #[.slice A n c, .int .i64 E]) ∧ By w'.heap.size w' A n c ys ∧ Below w.heap.size w w'
def ToldB (w : World) (e : Ending) (w' : World) (ys : List Nat) (b : Bool) : Prop :=
  ∃ A n c, e = .returned (.tuple #[.slice A n c, .bool b]) ∧ By w'.heap.size w' A n c ys ∧ Below w.heap.size w w'

theorem frame_told {B : Nat} {w : World} {A : Option Addr} {n cap : Nat} {zs : List Nat} (h : By B w A n cap zs) (hB : B ≤ w.heap.size) :
    Calls Try.prog 26 #[.slice A n cap] w fun e w' => ToldE w e w' (frL zs) (frE zs) := by
  have hl := h.len
  by_cases hn : n ≤ 1000
  · refine (frame_ok h hB hn).mono ?_
    rintro e w' ⟨g, c, rfl, ho, hb⟩
    unfold frL frE
    rw [if_pos (by omega), if_pos (by omega)]
    exact ⟨_, _, _, rfl, By.own ho (frm_byte zs h.byte (by omega)), hb⟩
  · refine (frame_long h (by omega)).mono ?_
    rintro e w' ⟨rfl, rfl⟩
    unfold frL frE
    rw [if_neg (by omega), if_neg (by omega)]
    exact ⟨_, _, _, rfl, By.none_ _ _, Below.refl _ _⟩
theorem refFrame_told {B : Nat} {w : World} {A : Option Addr} {n cap : Nat} {zs : List Nat} (h : By B w A n cap zs) (hB : B ≤ w.heap.size) :
    Calls Try.prog 27 #[.slice A n cap] w fun e w' => ToldE w e w' (frL zs) (frE zs) := by
  have hl := h.len
  by_cases hn : n ≤ 1000
  · refine (refFrame_ok h hB hn).mono ?_
    rintro e w' ⟨g, c, rfl, ho, hb⟩
    unfold frL frE
    rw [if_pos (by omega), if_pos (by omega)]
    exact ⟨_, _, _, rfl, By.own ho (frm_byte zs h.byte (by omega)), hb⟩
  · refine (refFrame_long h (by omega)).mono ?_
    rintro e w' ⟨rfl, rfl⟩
    unfold frL frE
    rw [if_neg (by omega), if_neg (by omega)]
    exact ⟨_, _, _, rfl, By.none_ _ _, Below.refl _ _⟩
theorem open_told {B : Nat} {w : World} {A : Option Addr} {n cap : Nat} {zs : List Nat} (h : By B w A n cap zs) (hB : B ≤ w.heap.size) :
    Calls Try.prog 28 #[.slice A n cap] w fun e w' => ToldB w e w' (opL zs) (isFrm zs) := by
  by_cases hf : isFrm zs = true
  · refine (open_yes h hB hf).mono ?_
    rintro e w' ⟨A', rfl, hy, _, hb⟩
    unfold opL
    rw [if_pos hf, hf]
    exact ⟨_, _, _, rfl, hy, hb⟩
  · have hf' : isFrm zs = false := by simpa using hf
    refine (open_no h hB hf').mono ?_
    rintro e w' ⟨rfl, hb⟩
    unfold opL
    rw [if_neg hf, hf']
    exact ⟨_, _, _, rfl, By.none_ _ _, hb⟩
theorem refOpen_told {B : Nat} {w : World} {A : Option Addr} {n cap : Nat} {zs : List Nat} (h : By B w A n cap zs) (hB : B ≤ w.heap.size) :
    Calls Try.prog 29 #[.slice A n cap] w fun e w' => ToldB w e w' (opL zs) (isFrm zs) := by
  by_cases hf : isFrm zs = true
  · have h4 := (isFrm_len hf).1
    rw [h.len] at h4
    refine (refOpen_yes h hB hf).mono ?_
    rintro e w' ⟨rfl, hb⟩
    unfold opL
    rw [if_pos hf, hf]
    exact ⟨_, _, _, rfl, ((h.inner h4).below (hb.mono hB)).mono (Nat.le_trans hB hb.size), hb⟩
  · have hf' : isFrm zs = false := by simpa using hf
    refine (refOpen_none h hB hf').mono ?_
    rintro e w' ⟨rfl, hb⟩
    unfold opL
    rw [if_neg hf, hf']
    exact ⟨_, _, _, rfl, By.none_ _ _, hb⟩
theorem By.later {w w' : World} {A : Option Addr} {n cap : Nat} {zs : List Nat} (h : By w.heap.size w A n cap zs) (hb : Below w.heap.size w w') : By w'.heap.size w' A n cap zs := (h.below hb).mono hb.size

set_option maxHeartbeats 1000000 in
theorem checkFrames_walk (ao : Option Addr) (len cap : Nat) (f : Nat → Nat) (w : World) (hA : ArgIn (fun z : Nat => Value.int .u8 (z : Int)) w ao len cap f) (hf : ∀ i, i < len → f i ≤ 255) :
    Calls Try.prog 5 #[.slice ao len cap] w fun e w' => e = .returned (.bool true) ∧ Below w.heap.size w w' := by
  obtain ⟨m, hm, hm1, hm2, hy⟩ := first_by hA hf 20000
  have hle := hA.le
  have hmx := hA.max
  unfold maxLen at hmx
  have HFew := Lib.hid fun W => few2_any ao len cap m W hle hmx hm
  have HY := Lib.hid hy
  generalize listOf f m = zs at *
  clear hy hm hA hf
  go_enter Try.func5, Try.ntmps5
  go_wp2_with fail
  refine (shown2_any _).mono ?_
  rintro e w1 ⟨rfl, hb1⟩
  have HB1 := Lib.hid hb1
  clear hb1
  go_wp2_with fail
  refine (HFew.out _).mono ?_
  rintro e w2 ⟨rfl, rfl⟩
  go_wp2_with fail
  refine (frame_told (HY.out.below HB1.out) HB1.out.size).mono ?_
  rintro e w2 ⟨A2, n2, c2, rfl, hy2, hb2⟩
  have HY2 := Lib.hid hy2
  have HB2 := Lib.hid (HB1.out.trans (hb2.mono HB1.out.size))
  clear hy2 hb2 HB1
  go_wp2_with fail
  refine (HFew.out _).mono ?_
  rintro e w3 ⟨rfl, rfl⟩
  go_wp2_with fail
  refine (refFrame_told (HY.out.below HB2.out) HB2.out.size).mono ?_
  rintro e w3 ⟨A3, n3, c3, rfl, hy3, hb3⟩
  have HY3 := Lib.hid hy3
  have HY23 := Lib.hid (HY2.out.later hb3)
  have HB3 := Lib.hid (HB2.out.trans (hb3.mono HB2.out.size))
  clear hy3 hb3 HB2 HY2
  go_wp2_with fail
  refine (HFew.out _).mono ?_
  rintro e w4 ⟨rfl, rfl⟩
  go_wp2_with fail
  refine (open_told (HY.out.below HB3.out) HB3.out.size).mono ?_
  rintro e w4 ⟨A4, n4, c4, rfl, hy4, hb4⟩
  have HY4 := Lib.hid hy4
  have HY24 := Lib.hid (HY23.out.later hb4)
  have HY34 := Lib.hid (HY3.out.later hb4)
  have HB4 := Lib.hid (HB3.out.trans (hb4.mono HB3.out.size))
  clear hy4 hb4 HB3 HY3 HY23
  go_wp2_with fail
  refine (HFew.out _).mono ?_
  rintro e w5 ⟨rfl, rfl⟩
  go_wp2_with fail
  refine (refOpen_told (HY.out.below HB4.out) HB4.out.size).mono ?_
  rintro e w5 ⟨A5, n5, c5, rfl, hy5, hb5⟩
  have cv5 := hy5.conv
  have cv2 := (HY24.out.later hb5).conv
  have cv3 := (HY34.out.later hb5).conv
  have cv4 := (HY4.out.later hb5).conv
  have HB5 := Lib.hid (HB4.out.trans (hb5.mono HB4.out.size))
  clear hy5 hb5 HB4 HY4 HY24 HY34 HFew
  generalize strOf (opL zs) = s1 at *
  generalize strOf (frL zs) = s2 at *
  generalize frE zs = E at *
  generalize isFrm zs = b at *
  go_wp2
  go_ret
  exact ⟨rfl, HB5.out⟩

end Go.Proofs.Ytbdlcmpljhbebaa
