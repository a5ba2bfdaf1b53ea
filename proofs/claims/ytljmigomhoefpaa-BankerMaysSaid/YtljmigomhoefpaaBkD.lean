/-
  Layer 8: whether one holds a zone, when one is given besides (the closure of May); who can be next (next).
-/
import Derived.Test.YtljmigomhoefpaaBkC
set_option linter.unusedVariables false
set_option maxRecDepth 100000
namespace Go.Proofs.Ytljmigomhoefpaa.Bk
open Go.RowKit

/-- The boxes of May's closure. -/
structure Mv (w : World) (b1 b2 b3 bx g : Nat) (f : Nat → Nat) (C : Cm) (who : Nat) (zone : Int) : Prop where
  lt : b1 < w.heap.size ∧ b2 < w.heap.size ∧ b3 < w.heap.size
  c1 : w.cell? ⟨b1, 0, none⟩ = some (.int .i64 (who : Int))
  c2 : w.cell? ⟨b2, 0, none⟩ = some (.int .i64 zone)
  c3 : w.cell? ⟨b3, 0, none⟩ = some (holdV bx)
  hv : Hv w bx g f C
theorem Mv.later {w w' : World} {b1 b2 b3 bx g : Nat} {f : Nat → Nat} {C : Cm} {who : Nat} {zone : Int} (h : Mv w b1 b2 b3 bx g f C who zone) (hb : Below w.heap.size w w') : Mv w' b1 b2 b3 bx g f C who zone :=
  ⟨⟨Nat.lt_of_lt_of_le h.lt.1 hb.size, Nat.lt_of_lt_of_le h.lt.2.1 hb.size, Nat.lt_of_lt_of_le h.lt.2.2 hb.size⟩, (hb.cell (p := ⟨b1, 0, none⟩) h.lt.1).trans h.c1, (hb.cell (p := ⟨b2, 0, none⟩) h.lt.2.1).trans h.c2, (hb.cell (p := ⟨b3, 0, none⟩) h.lt.2.2).trans h.c3, h.hv.later hb⟩
theorem may1_any (b1 b2 b3 bx g : Nat) (f : Nat → Nat) (C : Cm) (who : Nat) (zone : Int) (w : World) (h : Mv w b1 b2 b3 bx g f C who zone) (a : Nat) (ha : a < C.length) (z : Int) (hz : Zn z) :
    Calls Try.prog 28 #[.int .i64 (a : Int), .int .i64 z, .pointer (some ⟨b1, 0, none⟩), .pointer (some ⟨b2, 0, none⟩), .pointer (some ⟨b3, 0, none⟩)] w fun e w' => e = .returned (.bool (gv (hb C) who zone a z)) ∧ w = w' := by
  have c1 := h.c1
  have c2 := h.c2
  have c3 := h.c3
  have HH := Lib.hid (holder1_any bx g f C w h.hv a ha z hz)
  have hl := h.hv.few
  have ha8 : a < 8 := by omega
  unfold holdV at c3
  clear h ha hl
  by_cases h1 : a = who
  · subst h1
    have d1 : ((a : Int) == (a : Int)) = true := by simp
    by_cases h2 : z = zone
    · subst h2
      have d2 : (z == z) = true := by simp
      have HG : Hid (gv (hb C) a z a z = true) := Lib.hid (by simp [gv])
      go_enter Try.func28, Try.ntmps28
      go_wp2_with fail
      go_ret
      exact ⟨ret_bool HG.out.symm, rfl⟩
    · have d2 : (z == zone) = false := by rw [beq_eq_false_iff_ne]; exact h2
      have HG : Hid (gv (hb C) a zone a z = hb C a z) := Lib.hid (by simp [gv, h2])
      clear h2
      go_enter Try.func28, Try.ntmps28
      go_wp2_with fail
      refine (HH.out).mono ?_
      rintro e w' ⟨rfl, rfl⟩
      go_wp2_with fail
      go_ret
      exact ⟨ret_bool HG.out.symm, rfl⟩
  · have d1 : ((a : Int) == (who : Int)) = false := by rw [beq_eq_false_iff_ne]; omega
    have HG : Hid (gv (hb C) who zone a z = hb C a z) := Lib.hid (by simp [gv, h1])
    clear h1
    go_enter Try.func28, Try.ntmps28
    go_wp2_with fail
    refine (HH.out).mono ?_
    rintro e w' ⟨rfl, rfl⟩
    go_wp2_with fail
    go_ret
    exact ⟨ret_bool HG.out.symm, rfl⟩
end Go.Proofs.Ytljmigomhoefpaa.Bk
