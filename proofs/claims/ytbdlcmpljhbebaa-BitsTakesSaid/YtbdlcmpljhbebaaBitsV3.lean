/-
  The document's reader: End, Of.
-/
import Derived.Test.YtbdlcmpljhbebaaBitsV2
set_option linter.unusedVariables false
namespace Go.Proofs.Ytbdlcmpljhbebaa
open Go.RowKit Bp

theorem vend_fault (B b : Nat) (v : Value) (zs : List Nat) (p : Nat) (f : Int) (w : World) (h : Rv B w b v zs p f) (hf : f ≠ 0) :
    Calls Try.prog 21 #[.pointer (some ⟨b, 0, none⟩)] w fun e w' => e = .returned (.int .i64 f) ∧ RvTo B w b v zs p f w' := by
  have c2 := h.cells.2.2.1
  have t1 : (f != 0) = true := by simpa using hf
  have HR := Lib.hid (RvTo.refl h)
  clear h hf
  go_enter Try.func21, Try.ntmps21
  go_wp2
  go_ret
  exact ⟨rfl, HR.out⟩
theorem vend_tail (B b : Nat) (v : Value) (zs : List Nat) (p : Nat) (w : World) (h : Rv B w b v zs p 0) (ht : p + 8 ≤ 8 * zs.length) :
    Calls Try.prog 21 #[.pointer (some ⟨b, 0, none⟩)] w fun e w' => e = .returned (.int .i64 11) ∧ RvTo B w b v zs p 0 w' := by
  obtain ⟨va, vc, hv⟩ := ownsRow_shape h.row
  subst hv
  obtain ⟨c0, c1, c2, f1, f2⟩ := h.cells
  have HR := Lib.hid (RvTo.refl h)
  have hfew := h.few
  obtain ⟨n, hn⟩ : ∃ n, n = 8 * zs.length := ⟨_, rfl⟩
  rw [← hn] at ht c0 HR ⊢
  have hn2 : n ≤ 8388608 := by omega
  clear h hfew hn
  have t7 : (7 : Int) < (n : Int) - (p : Int) := by omega
  go_enter Try.func21, Try.ntmps21
  go_wp2
  go_quiet (fail)
  go_wp2
  go_ret
  exact ⟨rfl, HR.out.drewN _⟩
set_option maxHeartbeats 1000000 in
theorem vend_bit (B b : Nat) (v : Value) (zs : List Nat) (p q : Nat) (w : World) (h : Rv B w b v zs p 0) (hz : Zs zs p q) (ht : 8 * zs.length < p + 8) :
    Calls Try.prog 21 #[.pointer (some ⟨b, 0, none⟩)] w fun e w' => e = .returned (.int .i64 (if p + q < 8 * zs.length then 11 else 0)) ∧ RvTo B w b v zs p 0 w' := by
  obtain ⟨va, vc, hv⟩ := ownsRow_shape h.row
  subst hv
  obtain ⟨c0, c1, c2, f1, f2⟩ := h.cells
  have HR := Lib.hid (RvTo.refl h)
  have hfew := h.few
  have hle := h.at_le
  obtain ⟨n, hn⟩ : ∃ n, n = 8 * zs.length := ⟨_, rfl⟩
  obtain ⟨y, hy⟩ : ∃ y : Int, y = if p + q < 8 * zs.length then 11 else 0 := ⟨_, rfl⟩
  rw [← hy]
  have HYY := Lib.hid hy
  rw [← hn] at ht hle c0 HR ⊢
  have hn2 : n ≤ 8388608 := by omega
  have HN := Lib.hid hn
  have HZ := Lib.hid hz
  clear h hfew hn hy hz
  have t7 : ¬ ((7 : Int) < (n : Int) - (p : Int)) := by omega
  go_enter Try.func21, Try.ntmps21
  go_wp2
  go_quiet (fail)
  have HR2 := Lib.hid (HR.out.drewN nq)
  obtain ⟨wz, hwz⟩ : ∃ wz, wz = w.drewN nq := ⟨_, rfl⟩
  rw [← hwz] at HR2 ⊢
  have cz0 : wz.cell? ⟨b, 0, none⟩ = some (.slice va n vc) := by rw [hwz]; exact c0
  have cz1 : wz.cell? ⟨b, 1, none⟩ = some (.int .i64 (p : Int)) := by rw [hwz]; exact c1
  clear hwz HR c0 c1 c2 t7
  go_wp2
  go_loop [3] (fun iv => ∃ i : Nat, p + i ≤ n ∧ iv = .int .i64 ((p + i : Nat) : Int) ∧ ∀ j, j < i → rbit zs (p + j) = 0) (fun iv => n - (intOf iv).toNat)
  case atStart => exact ⟨0, hle, by simp, fun j hj => by omega⟩
  case round =>
    obtain ⟨i, hi, rfl, hzi⟩ := hrel
    have HZI := Lib.hid hzi
    clear hzi
    by_cases hlt : p + i < n
    · have hpl : p + i < 8 * zs.length := by rw [← HN.out]; omega
      have HBB := Lib.hid (bool_bits zs (p + i) hpl)
      obtain ⟨gv, cv, hsv⟩ := shape_of HR2.out.1.row (by omega)
      rw [← HN.out] at hsv
      simp only [Value.slice.injEq, true_and] at hsv
      obtain ⟨rfl, rfl⟩ := hsv
      have hcell : wz.cell? ⟨gv, p + i, none⟩ = some (.bool ((bitsZ zs).getD (p + i) false)) := by
        have := HR2.out.1.row
        rw [← HN.out] at this
        rw [this.cellAt _ (by omega)]
        simp [bb, List.getD, List.getElem?_eq_getElem (show p + i < (bitsZ zs).length by rw [bitsZ_len]; exact hpl)]
      rw [HBB.out] at hcell
      have hrl := rbit_le zs (p + i)
      by_cases hx : rbit zs (p + i) = 0
      · rw [hx] at hcell
        have HZ1 : Hid (∀ j, j < i + 1 → rbit zs (p + j) = 0) := Lib.hid (fun j hj => by
          rcases Nat.lt_or_ge j i with h | h
          · exact HZI.out j h
          · have : j = i := by omega
            subst this; exact hx)
        clear hx hpl hrl
        go_wp2
        go_round
        case rel => exact ⟨i + 1, by omega, by go_num, HZ1.out⟩
        case measure => simp [intOf]; omega
      · have hx1 : rbit zs (p + i) = 1 := by omega
        rw [hx1] at hcell
        have HX1 := Lib.hid hx1
        clear hx hx1 hpl hrl
        go_wp2
        go_ret
        refine ⟨ret_int1 ?_, HR2.out⟩
        rw [HYY.out, if_pos]
        rw [← HN.out]
        rcases Nat.lt_or_ge i q with h | h
        · have := HZ.out.zero i h
          have := HX1.out
          omega
        · omega
    · go_wp2
      go_ret
      refine ⟨ret_int1 ?_, HR2.out⟩
      rw [HYY.out, if_neg]
      rw [← HN.out]
      intro hh
      rcases HZ.out.stop with x | x | x
      · omega
      · rw [← HN.out] at x; omega
      · have := HZI.out q (by omega)
        omega

end Go.Proofs.Ytbdlcmpljhbebaa
