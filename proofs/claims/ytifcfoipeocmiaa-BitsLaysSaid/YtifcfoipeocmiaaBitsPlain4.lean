/-
  Plain facts: bits read off the bytes of laid bits; a count's bits.
-/
import Derived.Test.YtifcfoipeocmiaaBitsPlain3
import Derived.Test.YtifcfoipeocmiaaBitsR4
set_option linter.unusedVariables false
namespace Go.Proofs.Ytifcfoipeocmiaa
open Bp

theorem rbit_pack (bs : List Bool) (k : Nat) (h : k < 8 * nb bs.length) : rbit (pack bs) k = bitN bs k := by
  unfold rbit
  rw [pack_getD bs (k / 8) (by omega), byteAt_bit]
theorem rbit_take (zs : List Nat) (c k : Nat) (h : k < 8 * c) : rbit (zs.take c) k = rbit zs k := by
  unfold rbit
  rw [List.getD, List.getD, List.getElem?_take, if_pos (by omega)]
theorem pack_byte (bs : List Bool) : ∀ z ∈ pack bs, z ≤ 255 := by
  intro z hz
  simp only [pack, List.mem_map] at hz
  obtain ⟨i, _, rfl⟩ := hz
  exact byteAt_le bs i
theorem bitN_left (a b : List Bool) (i : Nat) (h : i < a.length) : bitN (a ++ b) i = bitN a i := by
  simp [bitN, List.getD, List.getElem?_append_left h]
theorem bitN_right (a b : List Bool) (i : Nat) : bitN (a ++ b) (a.length + i) = bitN b i := by
  unfold bitN
  rw [List.getD, List.getD, List.getElem?_append_right (by omega), Nat.add_sub_cancel_left]
theorem bitN_at (a b c : List Bool) (p i : Nat) (hp : a.length = p) (h : i < b.length) : bitN (a ++ b ++ c) (p + i) = bitN b i := by
  subst hp
  rw [List.append_assoc, bitN_right, bitN_left _ _ _ h]
/-- The bits of a number, by their places. -/
theorem bitN_bitsOf (n m i : Nat) (h : i < m) : bitN (bitsOf n m) i = n / 2 ^ (m - 1 - i) % 2 := by
  induction m generalizing n with
  | zero => omega
  | succ m ih =>
    rw [bitsOf_succ]
    rcases Nat.lt_or_ge i m with x | x
    · rw [bitN_left _ _ _ (by rw [bitsOf_length]; exact x), ih (n / 2) x, Nat.div_div_eq_div_mul, ← Nat.pow_succ']
      congr 3
      omega
    · obtain rfl : i = m := by omega
      have := bitN_right (bitsOf (n / 2) i) [n % 2 == 1] 0
      rw [bitsOf_length, Nat.add_zero] at this
      rw [this]
      have e : i + 1 - 1 - i = 0 := by omega
      rw [e, Nat.pow_zero, Nat.div_one]
      exact bn_mod n
theorem count_zero (x i : Nat) (h : i < kz x) : bitN (countBits x) i = 0 := by
  unfold countBits
  rw [bitN_left _ _ _ (by simpa using h)]
  simp [bitN, List.getD, h, bn]
theorem count_one (x : Nat) : bitN (countBits x) (kz x) = 1 := by
  unfold countBits
  have := bitN_right (List.replicate (kz x) false) (bitsOf (x + 1) (kz x + 1)) 0
  simp only [List.length_replicate, Nat.add_zero] at this
  rw [this, bitN_bitsOf _ _ _ (by omega)]
  have h1 := kz_le x
  have h2 := kz_lt x
  rw [Nat.pow_succ] at h2
  have e : kz x + 1 - 1 - 0 = kz x := by omega
  rw [e]
  have h3 : (x + 1) / 2 ^ kz x = 1 := by
    apply Nat.div_eq_of_lt_le
    · omega
    · omega
  rw [h3]
/-- A cut count is too short. -/
theorem cut_zs (x c : Nat) (hx : x + 1 < 18446744073709551616) (hc : c < nb (2 * kz x + 1)) :
    ∃ n, Zs ((pack (countBits x)).take c) 0 n ∧ n ≤ 63 ∧ 8 * ((pack (countBits x)).take c).length < 0 + (2 * n + 1) := by
  have hk := kz_63 x hx
  have hlen : ((pack (countBits x)).take c).length = c := by
    rw [List.length_take, pack_length, countBits_length]; omega
  have hnb : nb (2 * kz x + 1) = (2 * kz x + 8) / 8 := rfl
  have hb : ∀ k, k < 8 * c → rbit ((pack (countBits x)).take c) k = bitN (countBits x) k := fun k hkc => by
    rw [rbit_take _ _ _ hkc, rbit_pack _ _ (by rw [countBits_length]; omega)]
  rcases Nat.lt_or_ge (kz x) (8 * c) with h | h
  · refine ⟨kz x, ⟨by omega, by rw [hlen]; omega, fun j hj => ?_, .inr (.inr ?_)⟩, hk, by rw [hlen]; omega⟩
    · rw [Nat.zero_add, hb j (by omega), count_zero x j hj]
    · rw [Nat.zero_add, hb _ h, count_one]
  · refine ⟨8 * c, ⟨by omega, by rw [hlen]; omega, fun j hj => ?_, .inr (.inl (by rw [hlen]; omega))⟩, by omega, by rw [hlen]; omega⟩
    rw [Nat.zero_add, hb j hj, count_zero x j (by omega)]
/-- How far halving goes. -/
theorem half_more (y j : Nat) (h : 1 < y / 2 ^ j) : 2 ^ (j + 1) ≤ y := by
  have hp := Nat.two_pow_pos j
  have := (Nat.le_div_iff_mul_le hp).1 h
  rw [Nat.pow_succ]; omega
theorem half_end (x j : Nat) (h1 : 2 ^ j ≤ x + 1) (h : (x + 1) / 2 ^ j ≤ 1) : j = kz x := by
  have hp := Nat.two_pow_pos j
  have h2 : x + 1 < 2 ^ (j + 1) := by
    rw [Nat.pow_succ]
    rcases Nat.lt_or_ge (x + 1) (2 ^ j * 2) with y | y
    · exact y
    · have : 2 ≤ (x + 1) / 2 ^ j := (Nat.le_div_iff_mul_le hp).2 (by omega)
      omega
  exact pow_unique j (kz x) (x + 1) h1 h2 (kz_le x) (kz_lt x)

end Go.Proofs.Ytifcfoipeocmiaa
