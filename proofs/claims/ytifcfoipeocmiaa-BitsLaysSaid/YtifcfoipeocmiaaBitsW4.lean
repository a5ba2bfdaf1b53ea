/-
  The writer's call Count.
-/
import Derived.Test.YtifcfoipeocmiaaBitsW3
import Derived.Test.YtifcfoipeocmiaaBitsLen64
import Derived.Test.YtifcfoipeocmiaaBitsPlain3
import Derived.Lib.ItoaNum
set_option linter.unusedVariables false
namespace Go.Proofs.Ytifcfoipeocmiaa
open Go.RowKit Bp

theorem bitLen_kz (n : Nat) (h : n + 1 < 18446744073709551616) : Lib.bitLen (n + 1) = kz n + 1 := by
  obtain ⟨h1, h2, h3⟩ := Lib.bitLenAux_bounds 64 (n + 1) (by simpa using h) (by omega)
  have e : Lib.bitLenAux 64 (n + 1) - 1 + 1 = Lib.bitLenAux 64 (n + 1) := by omega
  have := pow_unique (Lib.bitLenAux 64 (n + 1) - 1) (kz n) (n + 1) h2 (by rw [e]; exact h3) (kz_le n) (kz_lt n)
  unfold Lib.bitLen
  omega

theorem len64_any (n : Nat) (w : World) (h : n + 1 < 18446744073709551616) :
    Calls Try.prog 20 #[.int .u64 ((n : Int) + 1)] w fun e w' => e = .returned (.int .i64 ((kz n : Int) + 1)) ∧ w = w' := by
  refine (Try.bits_Len64 ((n : Int) + 1) w (by omega) (by omega)).mono ?_
  rintro e w' ⟨rfl, rfl⟩
  refine ⟨?_, rfl⟩
  have e1 : ((n : Int) + 1).toNat = n + 1 := by omega
  rw [e1, bitLen_kz n h]
  rfl

theorem count_arg (b : Nat) (w : World) :
    Calls Try.prog 8 #[.pointer (some ⟨b, 0, none⟩), .int .u64 18446744073709551615] w fun e w' => e = .returned (.int .i64 1) ∧ w = w' := by
  go_enter Try.func8, Try.ntmps8
  go_wp2
  go_ret
  exact ⟨rfl, rfl⟩

set_option maxHeartbeats 400000 in
theorem count_long (b n : Nat) (v : Value) (bs : List Bool) (w : World) (h : Wr w b v bs) (hn : n + 1 < 18446744073709551616) (hl : 1048576 < bs.length + (2 * kz n + 1)) :
    Calls Try.prog 8 #[.pointer (some ⟨b, 0, none⟩), .int .u64 (n : Int)] w fun e w' => e = .returned (.int .i64 4) ∧ w = w' := by
  have hk := kz_63 n hn
  have hne : ((n : Int) == 18446744073709551615) = false := by rw [beq_eq_false_iff_ne]; omega
  have HL := Lib.hid (len64_any n w hn)
  have hr : decide ((kz n : Int) + (kz n : Int) + 1 ≤ 1048576 - (bs.length : Int)) = false := by simp; omega
  have hd := hasRoom_any b ((kz n : Int) + (kz n : Int) + 1) bs.length w h.cells.2.1 (by omega) (by have := h.few; omega)
  rw [hr] at hd
  have HD := Lib.hid hd
  clear hd hr hl h
  generalize kz n = k at *
  go_enter Try.func8, Try.ntmps8
  go_wp2_with (first | (go_at_call 20; refine HL.out.mono ?_; rintro e w' ⟨rfl, rfl⟩) | (go_at_call 21; refine HD.out.mono ?_; rintro e w' ⟨rfl, rfl⟩))
  go_ret
  exact ⟨rfl, rfl⟩

theorem spread_int (b n many : Nat) (N M : Int) (v : Value) (bs : List Bool) (w : World) (h : Wr w b v bs) (hn : n < 18446744073709551616) (hm : many ≤ 64) (hlt : bs.length + many ≤ 1048576) (hN : N = n) (hM : M = many) :
    Calls Try.prog 22 #[.int .u64 N, .int .i64 M, .func (.func 23) #[.pointer (some ⟨b, 0, none⟩)] #[]] w fun e w' => e = .returned (.tuple #[]) ∧ Lays w b v bs (bitsOf n many) w' := by
  subst hN hM; exact spread_any b n many v bs w h hn hm hlt

set_option maxHeartbeats 400000 in
theorem count_ok (b n : Nat) (v : Value) (bs : List Bool) (w : World) (h : Wr w b v bs) (hn : n + 1 < 18446744073709551616) (hl : bs.length + (2 * kz n + 1) ≤ 1048576) :
    Calls Try.prog 8 #[.pointer (some ⟨b, 0, none⟩), .int .u64 (n : Int)] w fun e w' => e = .returned (.int .i64 0) ∧ Lays w b v bs (countBits n) w' := by
  have hk := kz_63 n hn
  have hne : ((n : Int) == 18446744073709551615) = false := by rw [beq_eq_false_iff_ne]; omega
  have HL := Lib.hid (len64_any n w hn)
  have hr : decide ((kz n : Int) + (kz n : Int) + 1 ≤ 1048576 - (bs.length : Int)) = true := by simp; omega
  have hd := hasRoom_any b ((kz n : Int) + (kz n : Int) + 1) bs.length w h.cells.2.1 (by omega) (by have := h.few; omega)
  rw [hr] at hd
  have HD := Lib.hid hd
  have HS := Lib.hid (spread_int b 0 (kz n) 0 (kz n : Int) v bs w h (by decide) (by omega) (by omega) rfl rfl)
  have hfin : ∀ w1 v1 w2, Wr w1 b v1 (bs ++ bitsOf 0 (kz n)) → Turn (WF b v) (WF b v1) w w1 → Lays w1 b v1 (bs ++ bitsOf 0 (kz n)) (bitsOf (n + 1) (kz n + 1)) w2 → Lays w b v bs (countBits n) w2 := by
    rintro w1 v1 w2 h1 t1 ⟨v2, h2, t2⟩
    refine ⟨v2, ?_, t1.trans t2⟩
    rw [bitsOf_zero, List.append_assoc] at h2
    exact h2
  have HF := Lib.hid hfin
  have hlen : (bs ++ bitsOf 0 (kz n)).length = bs.length + kz n := by simp [bitsOf_length]
  have HLen := Lib.hid hlen
  clear hd hr h hfin hlen
  generalize hkk : kz n = k at *
  have HK := Lib.hid hkk
  clear hkk
  go_enter Try.func8, Try.ntmps8
  go_wp2_with (first | (go_at_call 20; refine HL.out.mono ?_; rintro e w' ⟨rfl, rfl⟩) | (go_at_call 21; refine HD.out.mono ?_; rintro e w' ⟨rfl, rfl⟩))
  refine HS.out.mono ?_
  rintro e w1 ⟨rfl, v1, h1, t1⟩
  have H1 := Lib.hid h1
  have T1 := Lib.hid t1
  clear h1 t1 HS HL HD
  go_wp2_with fail
  refine (spread_int b (n + 1) (k + 1) ((n : Int) + 1) ((k : Int) + 1) v1 _ w1 H1.out (by omega) (by omega) (by rw [HLen.out]; omega) (by simp) (by simp)).mono ?_
  rintro e w2 ⟨rfl, h2⟩
  have R := HF.out w1 v1 w2 H1.out T1.out h2
  clear h2
  go_wp2
  go_ret
  exact ⟨rfl, R⟩

end Go.Proofs.Ytifcfoipeocmiaa
