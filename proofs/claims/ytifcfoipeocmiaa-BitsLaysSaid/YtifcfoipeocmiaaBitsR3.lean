/-
  The reader's calls: NewReader, Get, Count, Left, End.
-/
import Derived.Test.YtifcfoipeocmiaaBitsR2
set_option linter.unusedVariables false
namespace Go.Proofs.Ytifcfoipeocmiaa
open Go.RowKit Bp

/-- The bytes zs lie at the slice value v (of whatever make), in w. -/
def BytesAt (w : World) (v : Value) (zs : List Nat) : Prop :=
  (v = .slice none 0 0 ∧ zs = []) ∨ ∃ a cap, v = .slice (some a) zs.length cap ∧ ∀ j u, (bc zs)[j]? = some u → w.cell? (a.add j) = some u

theorem bc_one (zs : List Nat) : ∀ u ∈ bc zs, u.oneCell' = true := by
  intro u hu
  simp only [bc, List.mem_map] at hu
  obtain ⟨x, _, rfl⟩ := hu
  rfl

set_option maxHeartbeats 400000 in
theorem newReader_any (v : Value) (zs : List Nat) (w : World) (h : BytesAt w v zs) (hf : zs.length ≤ 1048576) (hb : ∀ z ∈ zs, z ≤ 255) :
    Calls Try.prog 15 #[v] w fun e w' => ∃ b v', e = .returned (.pointer (some ⟨b, 0, none⟩)) ∧ Rd w.heap.size w' b v' zs 0 0 ∧ Below w.heap.size w w' := by
  rcases h with ⟨rfl, rfl⟩ | ⟨a, cap, rfl, hx⟩
  · have HC := Lib.hid (clone_nil w)
    go_enter Try.func15, Try.ntmps15
    go_wp2_with (go_at_call 25; refine HC.out.mono ?_; rintro e w' ⟨rfl, rfl⟩)
    go_ret
    refine ⟨w.heap.size, .slice none 0 0, rfl, ⟨heap_alloc_new w _, by exact World.ownsRow_nil _ _ _ _, by simp [Value.ownBlock], Nat.le_refl _, by simp, by simp, by simp⟩, (Below.refl _ _).alloc (Nat.le_refl _) _⟩
  · have HC := Lib.hid (clone_any a zs.length cap (bc zs) w (bc_length zs) hx (bc_one zs) hf)
    clear hx
    have HB := Lib.hid hb
    clear hb
    go_enter Try.func15, Try.ntmps15
    go_wp2_with fail
    refine HC.out.mono ?_
    rintro e w1 ⟨v1, rfl, ho, hbl⟩
    have HO := Lib.hid ho
    have HBL := Lib.hid hbl
    obtain ⟨a1, cap1, hv1⟩ := ownsRow_shape ho
    rw [hv1] at HO ⊢
    clear ho hbl hv1
    go_wp2
    go_ret
    refine ⟨w1.heap.size, .slice a1 zs.length cap1, rfl, ⟨heap_alloc_new w1 _, HO.out.alloc _, ?_, HBL.out.size, by simp, hf, HB.out⟩, HBL.out.alloc HBL.out.size _⟩
    intro e
    have := (HO.out.lt _ e).2
    omega

/-- What a call of a reader leaves: the reader as told, all else as it was. -/
def RdTo (B : Nat) (w : World) (b : Nat) (v : Value) (zs : List Nat) (p : Nat) (f : Int) (w' : World) : Prop := Rd B w' b v zs p f ∧ Turn (RF b v) (RF b v) w w'

theorem Turn.ofDrew {F : Nat → Prop} (w : World) : Turn F F w w.drew := (Turn.refl F w).drew

theorem get_fault (B b : Nat) (v : Value) (zs : List Nat) (p : Nat) (f m : Int) (w : World) (h : Rd B w b v zs p f) (hf : f ≠ 0) :
    Calls Try.prog 17 #[.pointer (some ⟨b, 0, none⟩), .int .i64 m] w fun e w' => e = .returned (.int .u64 0) ∧ w = w' := by
  have c2 := h.cells.2.2.1
  have t1 : (f != 0) = true := by simpa using hf
  clear h
  go_enter Try.func17, Try.ntmps17
  go_wp2
  go_ret
  exact ⟨rfl, rfl⟩

theorem get_arg (B b : Nat) (v : Value) (zs : List Nat) (p : Nat) (m : Int) (w : World) (h : Rd B w b v zs p 0) (hm : m < 0 ∨ 64 < m) :
    Calls Try.prog 17 #[.pointer (some ⟨b, 0, none⟩), .int .i64 m] w fun e w' => e = .returned (.int .u64 0) ∧ RdTo B w b v zs p 1 w' := by
  have hf : (decide (0 ≤ m) && decide (m ≤ 64)) = false := by
    rw [Bool.and_eq_false_iff]; rcases hm with h | h
    · exact .inl (by simpa using h)
    · exact .inr (by simpa using h)
  have hc := fitsWord_any m
  rw [hf] at hc
  have HC := Lib.hid hc
  have c2 := h.cells.2.2.1
  have f2 := h.cells.2.2.2.2
  have HR := Lib.hid h
  clear hc hf h
  go_enter Try.func17, Try.ntmps17
  go_wp2_with (first | (go_at_call 24; refine (HC.out _).mono ?_; rintro e w' ⟨rfl, rfl⟩) | (go_at_call 27; refine (fail_core b 1 0 _ c2 f2).mono ?_; rintro e w' ⟨rfl, rfl⟩))
  go_ret
  exact ⟨rfl, HR.out.faulty 1, (Turn.refl _ w).put _ (.inl rfl)⟩

theorem get_short (B b : Nat) (v : Value) (zs : List Nat) (p m : Nat) (w : World) (h : Rd B w b v zs p 0) (hm : m ≤ 64) (hs : 8 * zs.length < p + m) :
    Calls Try.prog 17 #[.pointer (some ⟨b, 0, none⟩), .int .i64 (m : Int)] w fun e w' => e = .returned (.int .u64 0) ∧ RdTo B w b v zs p 10 w' := by
  have hf : (decide (0 ≤ (m : Int)) && decide ((m : Int) ≤ 64)) = true := by simp; omega
  have hc := fitsWord_any m
  rw [hf] at hc
  have HC := Lib.hid hc
  have c2 := h.cells.2.2.1
  have f2 := h.cells.2.2.2.2
  have HR := Lib.hid h
  have hle := h.at_le
  have hfew := h.few
  have t : (zs.length : Int) * 8 - (p : Int) < (m : Int) := by omega
  clear hc hf h
  go_enter Try.func17, Try.ntmps17
  go_wp2_with (first | (go_at_call 24; refine (HC.out _).mono ?_; rintro e w' ⟨rfl, rfl⟩) | (go_at_call 19; refine (rleft_any B b v zs p 0 _ HR.out).mono ?_; rintro e w' ⟨rfl, rfl⟩) | (go_at_call 27; refine (fail_core b 10 0 _ HR.out.drew.cells.2.2.1 HR.out.drew.cells.2.2.2.2).mono ?_; rintro e w' ⟨rfl, rfl⟩))
  go_ret
  exact ⟨rfl, HR.out.drew.faulty 10, (Turn.ofDrew w).put _ (.inl rfl)⟩

theorem get_ok (B b : Nat) (v : Value) (zs : List Nat) (p m : Nat) (w : World) (h : Rd B w b v zs p 0) (hm : m ≤ 64) (hs : p + m ≤ 8 * zs.length) :
    Calls Try.prog 17 #[.pointer (some ⟨b, 0, none⟩), .int .i64 (m : Int)] w fun e w' => e = .returned (.int .u64 (tk zs p m : Int)) ∧ RdTo B w b v zs (p + m) 0 w' := by
  have hf : (decide (0 ≤ (m : Int)) && decide ((m : Int) ≤ 64)) = true := by simp; omega
  have hc := fitsWord_any m
  rw [hf] at hc
  have HC := Lib.hid hc
  have c2 := h.cells.2.2.1
  have HR := Lib.hid h
  have hle := h.at_le
  have hfew := h.few
  have t : ¬ (zs.length : Int) * 8 - (p : Int) < (m : Int) := by omega
  clear hc hf h
  go_enter Try.func17, Try.ntmps17
  go_wp2_with (first | (go_at_call 24; refine (HC.out _).mono ?_; rintro e w' ⟨rfl, rfl⟩) | (go_at_call 19; refine (rleft_any B b v zs p 0 _ HR.out).mono ?_; rintro e w' ⟨rfl, rfl⟩) | (go_at_call 28; refine (rtake_any B b v zs p m 0 _ HR.out.drew hm hs).mono ?_; rintro e w3 ⟨rfl, hR3, hT3⟩; have HR3 := Lib.hid hR3; have HT3 := Lib.hid hT3; clear hR3 hT3))
  go_ret
  exact ⟨rfl, HR3.out, (Turn.ofDrew w).trans HT3.out⟩

end Go.Proofs.Ytifcfoipeocmiaa
