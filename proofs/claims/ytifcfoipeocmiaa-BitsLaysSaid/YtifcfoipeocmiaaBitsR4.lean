/-
  The reader's calls: Count and End.
-/
import Derived.Test.YtifcfoipeocmiaaBitsR3
set_option linter.unusedVariables false
namespace Go.Proofs.Ytifcfoipeocmiaa
open Go.RowKit Bp

theorem Zs.unique {zs : List Nat} {p n m : Nat} (h : Zs zs p n) (k : Zs zs p m) : n = m := by
  rcases Nat.lt_trichotomy n m with x | x | x
  · have h1 := k.zero n x
    have h2 := k.few
    have h3 := k.inn
    rcases h.stop with e | e | e <;> omega
  · exact x
  · have h1 := h.zero m x
    have h2 := h.few
    have h3 := h.inn
    rcases k.stop with e | e | e <;> omega

theorem rzeros_at (B b : Nat) (v : Value) (zs : List Nat) (p n : Nat) (f : Int) (w : World) (h : Rd B w b v zs p f) (hz : Zs zs p n) :
    Calls Try.prog 26 #[.pointer (some ⟨b, 0, none⟩)] w fun e w' => e = .returned (.int .i64 (n : Int)) ∧ RdTo B w b v zs p f w' := by
  refine (rzeros_any B b v zs p f w h).mono ?_
  rintro e w' ⟨m, rfl, hm, hR, hB⟩
  obtain rfl := hz.unique hm
  exact ⟨rfl, hR, Turn.ofBelow hB _⟩

theorem count_fault (B b : Nat) (v : Value) (zs : List Nat) (p : Nat) (f : Int) (w : World) (h : Rd B w b v zs p f) (hf : f ≠ 0) :
    Calls Try.prog 16 #[.pointer (some ⟨b, 0, none⟩)] w fun e w' => e = .returned (.int .u64 0) ∧ w = w' := by
  have c2 := h.cells.2.2.1
  have t1 : (f != 0) = true := by simpa using hf
  clear h
  go_enter Try.func16, Try.ntmps16
  go_wp2
  go_ret
  exact ⟨rfl, rfl⟩

set_option maxHeartbeats 400000 in
theorem count_toolong (B b : Nat) (v : Value) (zs : List Nat) (p : Nat) (w : World) (h : Rd B w b v zs p 0) (hz : Zs zs p 64) :
    Calls Try.prog 16 #[.pointer (some ⟨b, 0, none⟩)] w fun e w' => e = .returned (.int .u64 0) ∧ RdTo B w b v zs p 4 w' := by
  have c2 := h.cells.2.2.1
  have HR := Lib.hid h
  have HZ := Lib.hid (rzeros_at B b v zs p 64 0 w h hz)
  clear h hz
  go_enter Try.func16, Try.ntmps16
  go_wp2_with fail
  refine HZ.out.mono ?_
  rintro e w1 ⟨rfl, hR1, hT1⟩
  have HR1 := Lib.hid hR1
  have HT1 := Lib.hid hT1
  clear hR1 hT1 HZ
  go_wp2_with (go_at_call 27; refine (fail_core b 4 0 _ HR1.out.cells.2.2.1 HR1.out.cells.2.2.2.2).mono ?_; rintro e w' ⟨rfl, rfl⟩)
  go_ret
  exact ⟨rfl, HR1.out.faulty 4, HT1.out.put _ (.inl rfl)⟩

set_option maxHeartbeats 400000 in
theorem count_short (B b : Nat) (v : Value) (zs : List Nat) (p n : Nat) (w : World) (h : Rd B w b v zs p 0) (hz : Zs zs p n) (hn : n ≤ 63) (hs : 8 * zs.length < p + (2 * n + 1)) :
    Calls Try.prog 16 #[.pointer (some ⟨b, 0, none⟩)] w fun e w' => e = .returned (.int .u64 0) ∧ RdTo B w b v zs p 10 w' := by
  have c2 := h.cells.2.2.1
  have hle := h.at_le
  have hfew := h.few
  have HZ := Lib.hid (rzeros_at B b v zs p n 0 w h hz)
  have t : (zs.length : Int) * 8 - (p : Int) < (n : Int) + (n : Int) + 1 := by omega
  clear h hz
  go_enter Try.func16, Try.ntmps16
  go_wp2_with fail
  refine HZ.out.mono ?_
  rintro e w1 ⟨rfl, hR1, hT1⟩
  have HR1 := Lib.hid hR1
  have HT1 := Lib.hid hT1
  clear hR1 hT1 HZ
  go_wp2_with (first | (go_at_call 19; refine (rleft_any B b v zs p 0 _ HR1.out).mono ?_; rintro e w' ⟨rfl, rfl⟩) | (go_at_call 27; refine (fail_core b 10 0 _ HR1.out.drew.cells.2.2.1 HR1.out.drew.cells.2.2.2.2).mono ?_; rintro e w' ⟨rfl, rfl⟩))
  go_ret
  exact ⟨rfl, HR1.out.drew.faulty 10, HT1.out.drew.put _ (.inl rfl)⟩

theorem rtake_int (B b : Nat) (v : Value) (zs : List Nat) (p m : Nat) (M : Int) (f : Int) (w : World) (h : Rd B w b v zs p f) (hm : m ≤ 64) (hin : p + m ≤ 8 * zs.length) (hM : M = m) :
    Calls Try.prog 28 #[.pointer (some ⟨b, 0, none⟩), .int .i64 M] w fun e w' => e = .returned (.int .u64 (tk zs p m : Int)) ∧ Rd B w' b v zs (p + m) f ∧ Turn (RF b v) (RF b v) w w' := by
  subst hM; exact rtake_any B b v zs p m f w h hm hin

theorem tk_top (zs : List Nat) (p m : Nat) (h : rbit zs p = 1) : 2 ^ m ≤ tk zs p (m + 1) := by
  induction m with
  | zero => simp [tk, h]
  | succ m ih => rw [tk, Nat.pow_succ]; omega

set_option maxHeartbeats 400000 in
theorem rcount_ok (B b : Nat) (v : Value) (zs : List Nat) (p n : Nat) (w : World) (h : Rd B w b v zs p 0) (hz : Zs zs p n) (hn : n ≤ 63) (hs : p + (2 * n + 1) ≤ 8 * zs.length) :
    Calls Try.prog 16 #[.pointer (some ⟨b, 0, none⟩)] w fun e w' => e = .returned (.int .u64 ((tk zs (p + n) (n + 1) - 1 : Nat) : Int)) ∧ RdTo B w b v zs (p + (2 * n + 1)) 0 w' := by
  have c2 := h.cells.2.2.1
  have hle := h.at_le
  have hfew := h.few
  have HZ := Lib.hid (rzeros_at B b v zs p n 0 w h hz)
  have t : ¬ (zs.length : Int) * 8 - (p : Int) < (n : Int) + (n : Int) + 1 := by omega
  have h1 : rbit zs (p + n) = 1 := by rcases hz.stop with e | e | e <;> omega
  have hlo := tk_top zs (p + n) n h1
  have hlo2 : 1 ≤ tk zs (p + n) (n + 1) := by have := Nat.two_pow_pos n; omega
  have hhi : tk zs (p + n) (n + 1) < 18446744073709551616 := by
    have h2 := tk_lt zs (p + n) (n + 1)
    have h3 : (2 : Nat) ^ (n + 1) ≤ 2 ^ 64 := Nat.pow_le_pow_right (by decide) (by omega)
    have e : (2 : Nat) ^ 64 = 18446744073709551616 := by decide
    omega
  clear h hz h1 hlo
  go_enter Try.func16, Try.ntmps16
  go_wp2_with fail
  refine HZ.out.mono ?_
  rintro e w1 ⟨rfl, hR1, hT1⟩
  have HR1 := Lib.hid hR1
  have HT1 := Lib.hid hT1
  have d1 := hR1.cells.2.1
  have e1 := hR1.cells.2.2.2.1
  have hcast : ((p + n : Nat) : Int) = (p : Int) + (n : Int) := by omega
  have hmv := hR1.move (p + n) (by omega)
  rw [hcast] at hmv
  have HM := Lib.hid hmv
  clear hcast hmv hR1 hT1 HZ
  go_wp2_with (go_at_call 19; refine (rleft_any B b v zs p 0 _ HR1.out).mono ?_; rintro e w' ⟨rfl, rfl⟩)
  refine (rtake_int B b v zs (p + n) (n + 1) ((n : Int) + 1) 0 _ HM.out.drew (by omega) (by omega) (by simp)).mono ?_
  rintro e w2 ⟨rfl, hR2, hT2⟩
  have HR2 := Lib.hid hR2
  have HT2 := Lib.hid hT2
  clear hR2 hT2
  have hsub : ((tk zs (p + n) (n + 1) - 1 : Nat) : Int) = (tk zs (p + n) (n + 1) : Int) - 1 := by omega
  have HS := Lib.hid hsub
  clear hsub
  generalize hx : tk zs (p + n) (n + 1) = x at *
  have HX := Lib.hid hx
  clear hx
  go_wp2
  go_ret
  refine ⟨by rw [HX.out, HS.out]; rfl, ?_, (HT1.out.put _ (.inl rfl)).drew.trans HT2.out⟩
  have e : p + n + (n + 1) = p + (2 * n + 1) := by omega
  rw [← e]
  exact HR2.out

theorem end_fault (B b : Nat) (v : Value) (zs : List Nat) (p : Nat) (f : Int) (w : World) (h : Rd B w b v zs p f) (hf : f ≠ 0) :
    Calls Try.prog 18 #[.pointer (some ⟨b, 0, none⟩)] w fun e w' => e = .returned (.int .i64 f) ∧ w = w' := by
  have c2 := h.cells.2.2.1
  have t1 : (f != 0) = true := by simpa using hf
  clear h
  go_enter Try.func18, Try.ntmps18
  go_wp2
  go_ret
  exact ⟨rfl, rfl⟩

set_option maxHeartbeats 400000 in
theorem end_tail (B b : Nat) (v : Value) (zs : List Nat) (p : Nat) (w : World) (h : Rd B w b v zs p 0) (ht : p + 8 ≤ 8 * zs.length) :
    Calls Try.prog 18 #[.pointer (some ⟨b, 0, none⟩)] w fun e w' => e = .returned (.int .i64 11) ∧ RdTo B w b v zs p 0 w' := by
  have c2 := h.cells.2.2.1
  have HR := Lib.hid h
  have hle := h.at_le
  have hfew := h.few
  have t : (8 : Int) ≤ (zs.length : Int) * 8 - (p : Int) := by omega
  clear h
  go_enter Try.func18, Try.ntmps18
  go_wp2_with (go_at_call 19; refine (rleft_any B b v zs p 0 _ HR.out).mono ?_; rintro e w' ⟨rfl, rfl⟩)
  go_ret
  exact ⟨rfl, HR.out.drew, Turn.ofDrew w⟩

set_option maxHeartbeats 400000 in
theorem end_bit (B b : Nat) (v : Value) (zs : List Nat) (p n : Nat) (w : World) (h : Rd B w b v zs p 0) (hz : Zs zs p n) (ht : 8 * zs.length < p + 8) :
    Calls Try.prog 18 #[.pointer (some ⟨b, 0, none⟩)] w fun e w' => e = .returned (.int .i64 (if p + n < 8 * zs.length then 11 else 0)) ∧ RdTo B w b v zs p 0 w' := by
  have c2 := h.cells.2.2.1
  have HR := Lib.hid h
  have hle := h.at_le
  have hfew := h.few
  have hn := hz.few
  have hin := hz.inn
  have HZ := Lib.hid (rzeros_at B b v zs p n 0 w.drew h.drew hz)
  have t : (zs.length : Int) * 8 - (p : Int) < 8 := by omega
  clear h hz
  by_cases hlt : p + n < 8 * zs.length
  · rw [if_pos hlt]
    have t2 : (n : Int) < (zs.length : Int) * 8 - (p : Int) := by omega
    go_enter Try.func18, Try.ntmps18
    go_wp2_with fail
    refine (rleft_any B b v zs p 0 _ HR.out).mono ?_
    rintro e w' ⟨rfl, rfl⟩
    go_wp2_with fail
    refine HZ.out.mono ?_
    rintro e w1 ⟨rfl, hR1, hT1⟩
    have HR1 := Lib.hid hR1
    have HT1 := Lib.hid hT1
    clear hR1 hT1 HZ
    go_wp2_with (go_at_call 19; refine (rleft_any B b v zs p 0 _ HR1.out).mono ?_; rintro e w' ⟨rfl, rfl⟩)
    go_ret
    exact ⟨rfl, HR1.out.drew, ((Turn.ofDrew w).trans HT1.out).drew⟩
  · rw [if_neg hlt]
    have t2 : ¬ (n : Int) < (zs.length : Int) * 8 - (p : Int) := by omega
    go_enter Try.func18, Try.ntmps18
    go_wp2_with fail
    refine (rleft_any B b v zs p 0 _ HR.out).mono ?_
    rintro e w' ⟨rfl, rfl⟩
    go_wp2_with fail
    refine HZ.out.mono ?_
    rintro e w1 ⟨rfl, hR1, hT1⟩
    have HR1 := Lib.hid hR1
    have HT1 := Lib.hid hT1
    clear hR1 hT1 HZ
    go_wp2_with (go_at_call 19; refine (rleft_any B b v zs p 0 _ HR1.out).mono ?_; rintro e w' ⟨rfl, rfl⟩)
    go_ret
    exact ⟨rfl, HR1.out.drew, ((Turn.ofDrew w).trans HT1.out).drew⟩

end Go.Proofs.Ytifcfoipeocmiaa
