/-
  What was laid at a place is taken there again.
-/
import Derived.Test.YtifcfoipeocmiaaBitsPlain4
set_option linter.unusedVariables false
namespace Go.Proofs.Ytifcfoipeocmiaa
open Go.RowKit Bp

/-- From bit p on the bytes zs hold the bits more. -/
def Has (zs : List Nat) (p : Nat) (more : List Bool) : Prop := p + more.length ≤ 8 * zs.length ∧ ∀ i, i < more.length → rbit zs (p + i) = bitN more i

theorem has_pack (a more c : List Bool) (p : Nat) (hp : a.length = p) : Has (pack (a ++ more ++ c)) p more := by
  have hl : (a ++ more ++ c).length = p + more.length + c.length := by simp [← hp]; omega
  have hn : p + more.length ≤ 8 * nb (a ++ more ++ c).length := by rw [hl]; unfold nb; omega
  refine ⟨by rw [pack_length]; exact hn, fun i hi => ?_⟩
  rw [rbit_pack _ _ (by omega), bitN_at a more c p i hp hi]

theorem tk_has (zs : List Nat) (p m n : Nat) (h : ∀ i, i < m → rbit zs (p + i) = bitN (bitsOf n m) i) : tk zs p m = n % 2 ^ m := by
  induction m generalizing n with
  | zero => simp [tk, Nat.mod_one]
  | succ m ih =>
    have h1 := ih (n / 2) (fun i hi => by
      rw [h i (by omega), bitsOf_succ, bitN_left _ _ _ (by rw [bitsOf_length]; exact hi)])
    have h2 := h m (by omega)
    rw [bitN_bitsOf _ _ _ (by omega)] at h2
    have e : m + 1 - 1 - m = 0 := by omega
    rw [e, Nat.pow_zero, Nat.div_one] at h2
    rw [tk, h1, h2, Nat.pow_succ, Nat.mul_comm (2 ^ m) 2, Nat.mod_mul]
    omega
theorem Has.get {zs : List Nat} {p n m : Nat} (h : Has zs p (bitsOf n m)) : p + m ≤ 8 * zs.length ∧ tk zs p m = n % 2 ^ m := by
  obtain ⟨h1, h2⟩ := h
  rw [bitsOf_length] at h1 h2
  exact ⟨h1, tk_has zs p m n h2⟩
theorem Has.count {zs : List Nat} {p x : Nat} (hx : x + 1 < 18446744073709551616) (h : Has zs p (countBits x)) :
    Zs zs p (kz x) ∧ kz x ≤ 63 ∧ p + (2 * kz x + 1) ≤ 8 * zs.length ∧ tk zs (p + kz x) (kz x + 1) = x + 1 := by
  obtain ⟨h1, h2⟩ := h
  rw [countBits_length] at h1 h2
  have hk := kz_63 x hx
  refine ⟨⟨by omega, by omega, fun j hj => by rw [h2 j (by omega), count_zero x j hj], .inr (.inr (by rw [h2 _ (by omega), count_one]))⟩, hk, h1, ?_⟩
  have h3 : ∀ i, i < kz x + 1 → rbit zs (p + kz x + i) = bitN (bitsOf (x + 1) (kz x + 1)) i := fun i hi => by
    rw [Nat.add_assoc, h2 (kz x + i) (by omega)]
    unfold countBits
    have := bitN_right (List.replicate (kz x) false) (bitsOf (x + 1) (kz x + 1)) i
    simp only [List.length_replicate] at this
    exact this
  rw [tk_has zs (p + kz x) (kz x + 1) (x + 1) h3, Nat.mod_eq_of_lt (kz_lt x)]
/-- At the end of what was laid: fewer than 8 bits are left, and all are 0. -/
theorem zs_end (bs : List Bool) : Zs (pack bs) bs.length (8 * nb bs.length - bs.length) ∧ 8 * (pack bs).length < bs.length + 8 ∧ bs.length + (8 * nb bs.length - bs.length) = 8 * (pack bs).length ∧ bs.length ≤ 8 * (pack bs).length := by
  have h : bs.length ≤ 8 * nb bs.length ∧ 8 * nb bs.length < bs.length + 8 := by unfold nb; omega
  rw [pack_length]
  refine ⟨⟨by omega, by rw [pack_length]; omega, fun j hj => ?_, .inr (.inl (by rw [pack_length]; omega))⟩, h.2, by omega, h.1⟩
  rw [rbit_pack _ _ (by omega), bitN_ge _ _ (by omega)]

/-- Get at a place where a number was laid. -/
theorem get_has (B b : Nat) (v : Value) (zs : List Nat) (p n m : Nat) (M : Int) (w : World) (h : Rd B w b v zs p 0) (hm : m ≤ 64) (hh : Has zs p (bitsOf n m)) (hM : M = m) :
    Calls Try.prog 17 #[.pointer (some ⟨b, 0, none⟩), .int .i64 M] w fun e w' => e = .returned (.int .u64 ((n % 2 ^ m : Nat) : Int)) ∧ RdTo B w b v zs (p + m) 0 w' := by
  subst hM
  have := get_ok B b v zs p m w h hm hh.get.1
  rw [hh.get.2] at this
  exact this
/-- Count at a place where a count was laid. -/
theorem count_has (B b : Nat) (v : Value) (zs : List Nat) (p x : Nat) (w : World) (h : Rd B w b v zs p 0) (hx : x + 1 < 18446744073709551616) (hh : Has zs p (countBits x)) :
    Calls Try.prog 16 #[.pointer (some ⟨b, 0, none⟩)] w fun e w' => e = .returned (.int .u64 (x : Int)) ∧ RdTo B w b v zs (p + (2 * kz x + 1)) 0 w' := by
  obtain ⟨h1, h2, h3, h4⟩ := hh.count hx
  have := rcount_ok B b v zs p (kz x) w h h1 h2 h3
  rw [h4, Nat.add_sub_cancel] at this
  exact this
/-- End behind all that was laid. -/
theorem end_has (B b : Nat) (v : Value) (bs : List Bool) (w : World) (h : Rd B w b v (pack bs) bs.length 0) :
    Calls Try.prog 18 #[.pointer (some ⟨b, 0, none⟩)] w fun e w' => e = .returned (.int .i64 0) ∧ RdTo B w b v (pack bs) bs.length 0 w' := by
  obtain ⟨h1, h2, h3, h4⟩ := zs_end bs
  have := end_bit B b v (pack bs) bs.length _ w h h1 h2
  rw [if_neg (by omega)] at this
  exact this

end Go.Proofs.Ytifcfoipeocmiaa
