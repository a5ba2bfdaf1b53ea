/-
  Plain facts on counts: a number and one has so many bits; that many less one bits 0 stand ahead of it.
-/
import Derived.Test.YtifcfoipeocmiaaBitsPlain2
set_option linter.unusedVariables false
namespace Go.Proofs.Ytifcfoipeocmiaa.Bp

/-- How many bits 0 stand ahead of a count. -/
def kz (n : Nat) : Nat := Nat.log2 (n + 1)
/-- A count's bits. -/
def countBits (n : Nat) : List Bool := List.replicate (kz n) false ++ bitsOf (n + 1) (kz n + 1)
theorem kz_le (n : Nat) : 2 ^ kz n ≤ n + 1 := Nat.log2_self_le (by omega)
theorem kz_lt (n : Nat) : n + 1 < 2 ^ (kz n + 1) := Nat.lt_log2_self
theorem kz_63 (n : Nat) (h : n + 1 < 18446744073709551616) : kz n ≤ 63 := by
  rcases Nat.lt_or_ge 63 (kz n) with h' | h'
  · have h1 := kz_le n
    have h2 : (2 : Nat) ^ 64 ≤ 2 ^ kz n := Nat.pow_le_pow_right (by decide) h'
    have h3 : (2 : Nat) ^ 64 = 18446744073709551616 := by decide
    omega
  · exact h'
theorem countBits_length (n : Nat) : (countBits n).length = 2 * kz n + 1 := by simp [countBits, bitsOf_length]; omega
theorem bitsOf_zero (m : Nat) : bitsOf 0 m = List.replicate m false := by
  induction m with
  | zero => rfl
  | succ m ih => rw [bitsOf_succ, Nat.zero_div, ih, List.replicate_succ']; rfl
/-- A number between two powers has just so many bits. -/
theorem pow_unique (a b x : Nat) (h1 : 2 ^ a ≤ x) (h2 : x < 2 ^ (a + 1)) (h3 : 2 ^ b ≤ x) (h4 : x < 2 ^ (b + 1)) : a = b := by
  rcases Nat.lt_trichotomy a b with h | h | h
  · have : (2 : Nat) ^ (a + 1) ≤ 2 ^ b := Nat.pow_le_pow_right (by decide) h
    omega
  · exact h
  · have : (2 : Nat) ^ (b + 1) ≤ 2 ^ a := Nat.pow_le_pow_right (by decide) h
    omega

end Go.Proofs.Ytifcfoipeocmiaa.Bp
