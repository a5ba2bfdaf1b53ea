/-
  The document's reader: Count.
-/
import Derived.Test.YtbdlcmpljhbebaaBitsV1
set_option linter.unusedVariables false
namespace Go.Proofs.Ytbdlcmpljhbebaa
open Go.RowKit Bp

theorem vcount_fault (B b : Nat) (v : Value) (zs : List Nat) (p : Nat) (f : Int) (w : World) (h : Rv B w b v zs p f) (hf : f ≠ 0) :
    Calls Try.prog 16 #[.pointer (some ⟨b, 0, none⟩)] w fun e w' => e = .returned (.int .u64 0) ∧ RvTo B w b v zs p f w' := by
  have c2 := h.cells.2.2.1
  have t1 : (f != 0) = true := by simpa using hf
  have HR := Lib.hid (RvTo.refl h)
  clear h hf
  go_enter Try.func16, Try.ntmps16
  go_wp2
  go_ret
  exact ⟨rfl, HR.out⟩

set_option maxHeartbeats 1000000 in
theorem vcount_long (B b : Nat) (v : Value) (zs : List Nat) (p : Nat) (w : World) (h : Rv B w b v zs p 0) (hz : Zs zs p 64) :
    Calls Try.prog 16 #[.pointer (some ⟨b, 0, none⟩)] w fun e w' => e = .returned (.int .u64 0) ∧ RvTo B w b v zs p 4 w' := by
  obtain ⟨va, vc, hv⟩ := ownsRow_shape h.row
  subst hv
  obtain ⟨c0, c1, c2, f1, f2⟩ := h.cells
  have HR := Lib.hid (RvTo.refl h)
  have hle := h.at_le
  have hfew := h.few
  obtain ⟨n, hn⟩ : ∃ n, n = 8 * zs.length := ⟨_, rfl⟩
  rw [← hn] at hle c0 HR ⊢
  have hn2 : n ≤ 8388608 := by omega
  have HN := Lib.hid hn
  have HZ := Lib.hid hz
  clear h hfew hn hz
  go_enter Try.func16, Try.ntmps16
  go_wp2
  go_loopw [4] (fun kv wr => ∃ k : Nat, p + k ≤ n ∧ kv = .int .i64 (k : Int) ∧ (∀ i, i < k → rbit zs (p + i) = 0) ∧ RvTo B w b (.slice va n vc) zs p 0 wr) (fun kv _ => n - (intOf kv).toNat)
  case atStart => exact ⟨0, by omega, rfl, fun i hi => by omega, HR.out⟩
  case round =>
    obtain ⟨k, hk, rfl, hz, hr⟩ := hrel
    obtain ⟨e0, e1, e2, g1, g2⟩ := hr.1.cells
    have HRr := Lib.hid hr
    have HZk := Lib.hid hz
    clear hr hz HR c0 c1 c2
    by_cases hin : p + k < n
    · have hpl : p + k < 8 * zs.length := by rw [← HN.out]; omega
      have HBB := Lib.hid (bool_bits zs (p + k) hpl)
      obtain ⟨gv, cv, hsv⟩ := shape_of HRr.out.1.row (by omega)
      rw [← HN.out] at hsv
      simp only [Value.slice.injEq, true_and] at hsv
      obtain ⟨rfl, rfl⟩ := hsv
      have hcell : wr.cell? ⟨gv, p + k, none⟩ = some (.bool ((bitsZ zs).getD (p + k) false)) := by
        have := HRr.out.1.row
        rw [← HN.out] at this
        rw [this.cellAt _ (by omega)]
        simp [bb, List.getD, List.getElem?_eq_getElem (show p + k < (bitsZ zs).length by rw [bitsZ_len]; exact hpl)]
      rw [HBB.out] at hcell
      have hrl := rbit_le zs (p + k)
      have d1 : decide ((p : Int) + (k : Int) < (n : Int)) = true := by simp; omega
      by_cases hx : rbit zs (p + k) = 0
      · rw [hx] at hcell
        have HZ1 : Hid (∀ i, i < k + 1 → rbit zs (p + i) = 0) := Lib.hid (fun i hi => by
          rcases Nat.lt_or_ge i k with h | h
          · exact HZk.out i h
          · have : i = k := by omega
            subst this; exact hx)
        clear hx hpl hrl
        go_wp2
        go_quiet (fail)
        go_wp2
        go_roundw
        case rel => exact ⟨k + 1, by omega, by go_num, HZ1.out, HRr.out.drewN _⟩
        case measure => simp [intOf]; omega
      · have hx1 : rbit zs (p + k) = 1 := by omega
        rw [hx1] at hcell
        have HX1 := Lib.hid hx1
        clear hx hx1 hpl hrl
        have h64 : 64 ≤ k := by
          rcases Nat.lt_or_ge k 64 with h | h
          · exfalso
            have := HZ.out.zero k h
            have := HZ.out.inn
            have := HX1.out
            omega
          · exact h
        go_wp2
        go_quiet (fail)
        go_wp2
        go_ret
        exact ⟨rfl, (HRr.out.drewN _).faulty 4⟩
    · have d1 : decide ((p : Int) + (k : Int) < (n : Int)) = false := by simp; omega
      have h64 : 64 ≤ k := by
        rcases Nat.lt_or_ge k 64 with h | h
        · exfalso
          have := HZ.out.zero k h
          have := HZ.out.inn
          rw [← HN.out] at this
          omega
        · exact h
      go_wp2
      go_quiet (fail)
      go_wp2
      go_ret
      exact ⟨rfl, (HRr.out.drewN _).faulty 4⟩

theorem ret_int1 {k : IntKind} {a b : Int} (h : a = b) : Ending.returned (.int k a) = .returned (.int k b) := by rw [h]
theorem vget_short_int (B b : Nat) (v : Value) (zs : List Nat) (p m : Nat) (M : Int) (w : World) (h : Rv B w b v zs p 0) (hm : m ≤ 64) (hs : 8 * zs.length < p + m) (hM : M = m) :
    Calls Try.prog 18 #[.pointer (some ⟨b, 0, none⟩), .int .i64 M] w fun e w' => e = .returned (.int .u64 0) ∧ RvTo B w b v zs p 10 w' := by
  subst hM; exact vget_short B b v zs p m w h hm hs
theorem vget_ok_int (B b : Nat) (v : Value) (zs : List Nat) (p m : Nat) (M : Int) (w : World) (h : Rv B w b v zs p 0) (hm : m ≤ 64) (hs : p + m ≤ 8 * zs.length) (hM : M = m) :
    Calls Try.prog 18 #[.pointer (some ⟨b, 0, none⟩), .int .i64 M] w fun e w' => e = .returned (.int .u64 (tk zs p m : Int)) ∧ RvTo B w b v zs (p + m) 0 w' := by
  subst hM; exact vget_ok B b v zs p m w h hm hs
theorem back {B : Nat} {w w1 w2 : World} {b : Nat} {v : Value} {zs : List Nat} {p q : Nat} {f g : Int} (h : RvTo B w b v zs q g w1) (h2 : RvTo B w1 b v zs q f w2) (hp : p ≤ 8 * zs.length) : RvTo B w b v zs p f (w2.setCell ⟨b, 1, none⟩ (.int .i64 (p : Int))) :=
  ⟨h2.1.move p hp, (h.2.trans h2.2).put _ (.inl rfl)⟩

set_option maxHeartbeats 2000000 in
theorem vcount_short (B b : Nat) (v : Value) (zs : List Nat) (p q : Nat) (w : World) (h : Rv B w b v zs p 0) (hz : Zs zs p q) (hq : q ≤ 63) (hs : 8 * zs.length < p + (2 * q + 1)) :
    Calls Try.prog 16 #[.pointer (some ⟨b, 0, none⟩)] w fun e w' => e = .returned (.int .u64 0) ∧ RvTo B w b v zs p 10 w' := by
  obtain ⟨va, vc, hv⟩ := ownsRow_shape h.row
  subst hv
  obtain ⟨c0, c1, c2, f1, f2⟩ := h.cells
  have HR := Lib.hid (RvTo.refl h)
  have hle := h.at_le
  have hfew := h.few
  obtain ⟨n, hn⟩ : ∃ n, n = 8 * zs.length := ⟨_, rfl⟩
  rw [← hn] at hle c0 HR hs ⊢
  have hn2 : n ≤ 8388608 := by omega
  have HN := Lib.hid hn
  have HZ := Lib.hid hz
  clear h hfew hn hz
  go_enter Try.func16, Try.ntmps16
  go_wp2
  go_loopw [4] (fun kv wr => ∃ k : Nat, p + k ≤ n ∧ kv = .int .i64 (k : Int) ∧ (∀ i, i < k → rbit zs (p + i) = 0) ∧ RvTo B w b (.slice va n vc) zs p 0 wr) (fun kv _ => n - (intOf kv).toNat)
  case atStart => exact ⟨0, by omega, rfl, fun i hi => by omega, HR.out⟩
  case round =>
    obtain ⟨k, hk, rfl, hz, hr⟩ := hrel
    obtain ⟨e0, e1, e2, g1, g2⟩ := hr.1.cells
    have HRr := Lib.hid hr
    have HZk := Lib.hid hz
    clear hr hz HR c0 c1 c2
    by_cases hin : p + k < n
    · have hpl : p + k < 8 * zs.length := by rw [← HN.out]; omega
      have HBB := Lib.hid (bool_bits zs (p + k) hpl)
      obtain ⟨gv, cv, hsv⟩ := shape_of HRr.out.1.row (by omega)
      rw [← HN.out] at hsv
      simp only [Value.slice.injEq, true_and] at hsv
      obtain ⟨rfl, rfl⟩ := hsv
      have hcell : wr.cell? ⟨gv, p + k, none⟩ = some (.bool ((bitsZ zs).getD (p + k) false)) := by
        have := HRr.out.1.row
        rw [← HN.out] at this
        rw [this.cellAt _ (by omega)]
        simp [bb, List.getD, List.getElem?_eq_getElem (show p + k < (bitsZ zs).length by rw [bitsZ_len]; exact hpl)]
      rw [HBB.out] at hcell
      have hrl := rbit_le zs (p + k)
      have d1 : decide ((p : Int) + (k : Int) < (n : Int)) = true := by simp; omega
      by_cases hx : rbit zs (p + k) = 0
      · rw [hx] at hcell
        have HZ1 : Hid (∀ i, i < k + 1 → rbit zs (p + i) = 0) := Lib.hid (fun i hi => by
          rcases Nat.lt_or_ge i k with h | h
          · exact HZk.out i h
          · have : i = k := by omega
            subst this; exact hx)
        clear hx hpl hrl
        go_wp2
        go_quiet (fail)
        go_wp2
        go_roundw
        case rel => exact ⟨k + 1, by omega, by go_num, HZ1.out, HRr.out.drewN _⟩
        case measure => simp [intOf]; omega
      · have hx1 : rbit zs (p + k) = 1 := by omega
        rw [hx1] at hcell
        have HX1 := Lib.hid hx1
        clear hx hx1 hpl hrl
        have hkq : k = q := by
          rcases Nat.lt_trichotomy k q with h | h | h
          · have := HZ.out.zero k h
            have := HX1.out
            omega
          · exact h
          · have h0 := HZk.out q h
            rcases HZ.out.stop with x | x | x
            · omega
            · rw [← HN.out] at x; omega
            · omega
        subst hkq
        clear HZk
        go_wp2
        go_quiet (fail)
        have HM := Lib.hid ((HRr.out.drewN nq).move (p + k) (by rw [← HN.out]; exact hk))
        go_wp2_with fail
        refine (vget_short_int B b _ zs (p + k) (k + 1) _ _ (by simpa using HM.out.1) (by omega) (by rw [← HN.out]; omega) (by simp)).mono ?_
        rintro e w5 ⟨rfl, h5⟩
        have H5 := Lib.hid h5
        obtain ⟨i0, i1, i2, j1, j2⟩ := h5.1.cells
        clear h5
        go_wp2
        go_ret
        exact ⟨rfl, back (by simpa using HM.out) H5.out (by rw [← HN.out]; exact hle)⟩
    · have d1 : decide ((p : Int) + (k : Int) < (n : Int)) = false := by simp; omega
      have hkq : k = q := by
        rcases Nat.lt_trichotomy k q with h | h | h
        · have := HZ.out.inn
          rw [← HN.out] at this
          omega
        · exact h
        · have h0 := HZk.out q h
          rcases HZ.out.stop with x | x | x
          · omega
          · rw [← HN.out] at x; omega
          · omega
      subst hkq
      clear HZk
      go_wp2
      go_quiet (fail)
      have HM := Lib.hid ((HRr.out.drewN nq).move (p + k) (by rw [← HN.out]; exact hk))
      go_wp2_with fail
      refine (vget_short_int B b _ zs (p + k) (k + 1) _ _ (by simpa using HM.out.1) (by omega) (by rw [← HN.out]; omega) (by simp)).mono ?_
      rintro e w5 ⟨rfl, h5⟩
      have H5 := Lib.hid h5
      obtain ⟨i0, i1, i2, j1, j2⟩ := h5.1.cells
      clear h5
      go_wp2
      go_ret
      exact ⟨rfl, back (by simpa using HM.out) H5.out (by rw [← HN.out]; exact hle)⟩

set_option maxHeartbeats 2000000 in
theorem vcount_ok (B b : Nat) (v : Value) (zs : List Nat) (p q : Nat) (w : World) (h : Rv B w b v zs p 0) (hz : Zs zs p q) (hq : q ≤ 63) (hs : p + (2 * q + 1) ≤ 8 * zs.length) :
    Calls Try.prog 16 #[.pointer (some ⟨b, 0, none⟩)] w fun e w' => e = .returned (.int .u64 ((tk zs (p + q) (q + 1) - 1 : Nat) : Int)) ∧ RvTo B w b v zs (p + (2 * q + 1)) 0 w' := by
  obtain ⟨va, vc, hv⟩ := ownsRow_shape h.row
  subst hv
  obtain ⟨c0, c1, c2, f1, f2⟩ := h.cells
  have HR := Lib.hid (RvTo.refl h)
  have hle := h.at_le
  have hfew := h.few
  obtain ⟨n, hn⟩ : ∃ n, n = 8 * zs.length := ⟨_, rfl⟩
  rw [← hn] at hle c0 HR hs ⊢
  have hn2 : n ≤ 8388608 := by omega
  have HN := Lib.hid hn
  have HZ := Lib.hid hz
  clear h hfew hn hz
  go_enter Try.func16, Try.ntmps16
  go_wp2
  go_loopw [4] (fun kv wr => ∃ k : Nat, p + k ≤ n ∧ kv = .int .i64 (k : Int) ∧ (∀ i, i < k → rbit zs (p + i) = 0) ∧ RvTo B w b (.slice va n vc) zs p 0 wr) (fun kv _ => n - (intOf kv).toNat)
  case atStart => exact ⟨0, by omega, rfl, fun i hi => by omega, HR.out⟩
  case round =>
    obtain ⟨k, hk, rfl, hz, hr⟩ := hrel
    obtain ⟨e0, e1, e2, g1, g2⟩ := hr.1.cells
    have HRr := Lib.hid hr
    have HZk := Lib.hid hz
    clear hr hz HR c0 c1 c2
    by_cases hin : p + k < n
    · have hpl : p + k < 8 * zs.length := by rw [← HN.out]; omega
      have HBB := Lib.hid (bool_bits zs (p + k) hpl)
      obtain ⟨gv, cv, hsv⟩ := shape_of HRr.out.1.row (by omega)
      rw [← HN.out] at hsv
      simp only [Value.slice.injEq, true_and] at hsv
      obtain ⟨rfl, rfl⟩ := hsv
      have hcell : wr.cell? ⟨gv, p + k, none⟩ = some (.bool ((bitsZ zs).getD (p + k) false)) := by
        have := HRr.out.1.row
        rw [← HN.out] at this
        rw [this.cellAt _ (by omega)]
        simp [bb, List.getD, List.getElem?_eq_getElem (show p + k < (bitsZ zs).length by rw [bitsZ_len]; exact hpl)]
      rw [HBB.out] at hcell
      have hrl := rbit_le zs (p + k)
      have d1 : decide ((p : Int) + (k : Int) < (n : Int)) = true := by simp; omega
      by_cases hx : rbit zs (p + k) = 0
      · rw [hx] at hcell
        have HZ1 : Hid (∀ i, i < k + 1 → rbit zs (p + i) = 0) := Lib.hid (fun i hi => by
          rcases Nat.lt_or_ge i k with h | h
          · exact HZk.out i h
          · have : i = k := by omega
            subst this; exact hx)
        clear hx hpl hrl
        go_wp2
        go_quiet (fail)
        go_wp2
        go_roundw
        case rel => exact ⟨k + 1, by omega, by go_num, HZ1.out, HRr.out.drewN _⟩
        case measure => simp [intOf]; omega
      · have hx1 : rbit zs (p + k) = 1 := by omega
        rw [hx1] at hcell
        have HX1 := Lib.hid hx1
        clear hx hx1 hpl hrl
        have hkq : k = q := by
          rcases Nat.lt_trichotomy k q with h | h | h
          · have := HZ.out.zero k h
            have := HX1.out
            omega
          · exact h
          · have h0 := HZk.out q h
            rcases HZ.out.stop with x | x | x
            · omega
            · rw [← HN.out] at x; omega
            · omega
        subst hkq
        clear HZk
        have ht := tk_top zs (p + k) k HX1.out
        have hp0 : 0 < 2 ^ k := Nat.two_pow_pos k
        have ht2 := tk_lt zs (p + k) (k + 1)
        have ht3 : tk zs (p + k) (k + 1) < 18446744073709551616 := Nat.lt_of_lt_of_le ht2 (by
          have : (2 : Nat) ^ (k + 1) ≤ 2 ^ 64 := Nat.pow_le_pow_right (by decide) (by omega)
          exact this)
        have ht4 : 1 ≤ tk zs (p + k) (k + 1) := by omega
        clear ht ht2 hp0
        go_wp2
        go_quiet (fail)
        have HM := Lib.hid ((HRr.out.drewN nq).move (p + k) (by rw [← HN.out]; omega))
        go_wp2_with fail
        refine (vget_ok_int B b _ zs (p + k) (k + 1) _ _ (by simpa using HM.out.1) (by omega) (by rw [← HN.out]; omega) (by simp)).mono ?_
        rintro e w5 ⟨rfl, h5⟩
        have H5 := Lib.hid h5
        obtain ⟨i0, i1, i2, j1, j2⟩ := h5.1.cells
        clear h5
        obtain ⟨t, htt⟩ : ∃ t, t = tk zs (p + k) (k + 1) := ⟨_, rfl⟩
        rw [← htt] at ht3 ht4 ⊢
        have HTT := Lib.hid htt
        clear htt
        go_wp2
        go_ret
        exact ⟨ret_int1 (by rw [← HTT.out]; omega), by
          have := HM.out
          refine ⟨?_, (show Turn _ _ w _ by simpa using HM.out.2).trans H5.out.2⟩
          rw [show p + (2 * k + 1) = p + k + (k + 1) by omega]
          exact H5.out.1⟩
    · have d1 : decide ((p : Int) + (k : Int) < (n : Int)) = false := by simp; omega
      exfalso
      have hkq : k = q := by
        rcases Nat.lt_trichotomy k q with h | h | h
        · have := HZ.out.inn
          rw [← HN.out] at this
          omega
        · exact h
        · have h0 := HZk.out q h
          rcases HZ.out.stop with x | x | x
          · omega
          · rw [← HN.out] at x; omega
          · omega
      omega

end Go.Proofs.Ytbdlcmpljhbebaa
