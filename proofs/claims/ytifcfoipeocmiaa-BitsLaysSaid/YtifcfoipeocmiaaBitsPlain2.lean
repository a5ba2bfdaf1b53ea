/-
  Plain facts on numbers as bits.
-/
import Derived.Test.YtifcfoipeocmiaaBitsPlain
set_option linter.unusedVariables false
namespace Go.Proofs.Ytifcfoipeocmiaa.Bp

/-- The many lowest bits of a number, the highest first. -/
def bitsOf (n : Nat) : Nat → List Bool
  | 0 => []
  | m + 1 => bitsOf (n / 2) m ++ [n % 2 == 1]
theorem bitsOf_length (n m : Nat) : (bitsOf n m).length = m := by
  induction m generalizing n with
  | zero => rfl
  | succ m ih => simp [bitsOf, ih]
theorem bitsOf_succ (n m : Nat) : bitsOf n (m + 1) = bitsOf (n / 2) m ++ [n % 2 == 1] := rfl
/-- The first k + 1 of the bits: one more than the first k. -/
theorem bitsOf_next (n m k : Nat) (h : k < m) : bitsOf (n / 2 ^ (m - (k + 1))) (k + 1) = bitsOf (n / 2 ^ (m - k)) k ++ [n / 2 ^ (m - 1 - k) % 2 == 1] := by
  rw [bitsOf_succ, Nat.div_div_eq_div_mul, ← Nat.pow_succ, show (m - (k + 1)).succ = m - k by omega, show m - (k + 1) = m - 1 - k by omega]
theorem bn_mod (n : Nat) : bn (n % 2 == 1) = n % 2 := by
  have : n % 2 = 0 ∨ n % 2 = 1 := by omega
  rcases this with h | h <;> simp [h, bn]

end Go.Proofs.Ytifcfoipeocmiaa.Bp
