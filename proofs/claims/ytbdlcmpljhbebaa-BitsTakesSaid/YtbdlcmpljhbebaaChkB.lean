/-
  The check sum: contracts.
-/
import Derived.Test.YtbdlcmpljhbebaaChkA
set_option linter.unusedVariables false
namespace Go.Proofs.Ytbdlcmpljhbebaa
open Go.RowKit Bp Ck

theorem and_top (r : Nat) (h : r < 65536) : bits BinOp.and IntKind.u16 (r : Int) 32768 = ((r / 32768 * 32768 : Nat) : Int) := by
  have := u16_and_nat r 32768 h (by omega)
  rw [show (((32768 : Nat) : Int)) = 32768 from rfl] at this
  rw [this, show (32768 : Nat) = 2 ^ 15 from rfl, nat_bit 15 r, show (2 : Nat) ^ 15 = 32768 from rfl]
  have : r / 32768 % 2 = r / 32768 := by omega
  rw [this]
theorem shN_hi (r : Nat) (h : r < 65536) (h2 : 32768 ≤ r) : shN r = (2 * r % 65536) ^^^ 4129 := by
  have ht : r.testBit 15 = true := by
    rw [Nat.testBit_eq_decide_div_mod_eq]
    have h15 : r / 2 ^ 15 = 1 := by rw [show (2 : Nat) ^ 15 = 32768 from rfl]; omega
    rw [h15]; rfl
  unfold shN
  rw [ht, if_pos rfl]

theorem ret_int {k : IntKind} {a b : Int} (h : a = b) : Ending.returned (.int k a) = .returned (.int k b) := by rw [h]
theorem shl1 (r : Nat) : IntKind.u16.wrap ((r : Int) * 2) = ((2 * r % 65536 : Nat) : Int) := by rw [IntKind.wrap_u16]; omega

theorem shift_any (r : Nat) (h : r < 65536) (w : World) :
    Calls Try.prog 44 #[.int .u16 (r : Int)] w fun e w' => e = .returned (.int .u16 ((shN r : Nat) : Int)) ∧ w = w' := by
  have ha := and_top r h
  by_cases h2 : 32768 ≤ r
  · have ht : (bits BinOp.and IntKind.u16 (r : Int) 32768 != 0) = true := by rw [ha, bne_iff_ne]; omega
    have hx := u16_xor_nat (2 * r % 65536) 4129 (by omega) (by omega)
    have HS := Lib.hid (shN_hi r h h2)
    have HX := Lib.hid hx
    clear ha hx
    go_enter Try.func44, Try.ntmps44
    go_wp2
    go_ret
    exact ⟨ret_int (by rw [HS.out, shl1]; exact HX.out), rfl⟩
  · have ht : (bits BinOp.and IntKind.u16 (r : Int) 32768 != 0) = false := by rw [ha, bne_eq_false_iff_eq]; omega
    have HS := Lib.hid (shN_small r (by omega))
    clear ha
    go_enter Try.func44, Try.ntmps44
    go_wp2
    go_ret
    exact ⟨ret_int (by rw [HS.out]; omega), rfl⟩

theorem crc_take (zs : List Nat) (k : Nat) (h : k < zs.length) : crc (zs.take (k + 1)) = cb (crc (zs.take k)) (zs.getD k 0) := by
  unfold crc
  rw [List.take_succ_eq_append_getElem h, reg_snoc]
  simp [List.getD, List.getElem?_eq_getElem h]
theorem getD_byte (zs : List Nat) (k : Nat) (hz : ∀ z ∈ zs, z ≤ 255) : zs.getD k 0 ≤ 255 := by
  rw [List.getD]
  rcases Nat.lt_or_ge k zs.length with h | h
  · rw [List.getElem?_eq_getElem h]; exact hz _ (List.getElem_mem h)
  · rw [List.getElem?_eq_none h]; simp
theorem take_byte (zs : List Nat) (k : Nat) (hz : ∀ z ∈ zs, z ≤ 255) : ∀ z ∈ zs.take k, z ≤ 255 := fun z h => hz z (List.mem_of_mem_take h)
theorem xor_in (c z : Nat) (hc : c < 65536) (hz : z ≤ 255) : bits BinOp.xor IntKind.u16 (c : Int) ((z : Int) * 256) = ((c ^^^ z * 256 : Nat) : Int) := by
  have := u16_xor_nat c (z * 256) hc (by omega)
  rw [show ((z * 256 : Nat) : Int) = (z : Int) * 256 by omega] at this
  exact this

set_option maxHeartbeats 1000000 in
theorem sum_any {B : Nat} {w : World} {A : Option Addr} {n cap : Nat} {zs : List Nat} (h : By B w A n cap zs) :
    Calls Try.prog 23 #[.slice A n cap] w fun e w' => e = .returned (.int .u16 ((crc zs : Nat) : Int)) ∧ w = w' := by
  have hl := Lib.hid h.len
  have hle := h.le
  have hmx := h.max
  unfold maxLen at hmx
  have HB := Lib.hid h.byte
  have HC := Lib.hid h.cell
  clear h
  go_enter Try.func23, Try.ntmps23
  go_wp2
  go_loop [3, 8] (fun r i => ∃ k : Nat, k ≤ n ∧ i = .int .i64 (k : Int) ∧ r = .int .u16 ((crc (zs.take k) : Nat) : Int)) (fun _ i => n - (intOf i).toNat)
  case atStart => exact ⟨0, Nat.zero_le _, rfl, rfl⟩
  case round =>
    obtain ⟨k, hk, rfl, rfl⟩ := hrel
    by_cases hlt : k < n
    · have HS : Hid (crc (zs.take (k + 1)) = cb (crc (zs.take k)) (zs.getD k 0)) := Lib.hid (crc_take zs k (by rw [hl.out]; exact hlt))
      have hc := crc_lt (zs.take k) (take_byte zs k HB.out)
      have hz := getD_byte zs k HB.out
      obtain ⟨g, off, rfl, hg, hcell⟩ := HC.out (by omega)
      have hck := hcell k hlt
      clear hcell
      generalize zs.getD k 0 = z at *
      generalize crc (zs.take k) = c at *
      have HX := Lib.hid (xor_in c z hc hz)
      have hlt0 := Nat.xor_lt_two_pow (n := 16) hc (byte_lt z hz)
      go_wp2
      rw [HX.out]
      go_loop [3, 17] (fun r j => ∃ m : Nat, m ≤ 8 ∧ j = .int .i64 (m : Int) ∧ r = .int .u16 ((it m (c ^^^ z * 256) : Nat) : Int)) (fun _ j => 8 - (intOf j).toNat)
      case atStart => exact ⟨0, Nat.zero_le _, rfl, rfl⟩
      case round =>
        obtain ⟨m, hm, rfl, rfl⟩ := hrel
        by_cases hm8 : m < 8
        · have hi := it_lt m _ hlt0
          have HI := Lib.hid (it_succ m (c ^^^ z * 256))
          generalize it m (c ^^^ z * 256) = q at *
          go_wp2_with (go_at_call 44; refine (shift_any q hi _).mono ?_; rintro e w' ⟨rfl, rfl⟩)
          go_round
          case rel => exact ⟨m + 1, by omega, by go_num, by rw [HI.out]⟩
          case measure => simp [intOf]; omega
        · obtain rfl : m = 8 := by omega
          have HI : Hid (crc (zs.take (k + 1)) = it 8 (c ^^^ z * 256)) := Lib.hid HS.out
          generalize it 8 (c ^^^ z * 256) = q at *
          go_wp2
          go_round
          case rel => exact ⟨k + 1, by omega, by go_num, by rw [HI.out]⟩
          case measure => simp [intOf]; omega
    · obtain rfl : k = n := by omega
      go_wp2
      go_ret
      exact ⟨ret_int (by rw [List.take_of_length_le (by rw [hl.out]; exact Nat.le_refl _)]), rfl⟩

end Go.Proofs.Ytbdlcmpljhbebaa
