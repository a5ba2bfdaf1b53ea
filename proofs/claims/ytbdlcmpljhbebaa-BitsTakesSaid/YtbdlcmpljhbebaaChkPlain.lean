/-
  Plain facts on the check sum: a register of 16 bits that is shifted, linear over xor, one to one; and what follows for runs of other bits. No Go text here.
-/
import Init
set_option linter.unusedVariables false
namespace Go.Proofs.Ytbdlcmpljhbebaa.Ck

/-- The register moves left by one place; if a bit 1 falls out, it is xored with 1021. -/
def shN (r : Nat) : Nat := (2 * r % 65536) ^^^ (if r.testBit 15 then 4129 else 0)
theorem t4129 (i : Nat) (h : 16 ≤ i) : Nat.testBit 4129 i = false := Nat.testBit_lt_two_pow (Nat.lt_of_lt_of_le (by decide : 4129 < 2 ^ 16) (Nat.pow_le_pow_right (by decide) h))
theorem shN_bit (r i : Nat) : (shN r).testBit i = ((decide (i < 16) && decide (1 ≤ i) && r.testBit (i - 1)) ^^ (r.testBit 15 && Nat.testBit 4129 i)) := by
  unfold shN
  rw [Nat.testBit_xor, show (65536 : Nat) = 2 ^ 16 from rfl, Nat.testBit_mod_two_pow]
  congr 1
  · rw [show 2 * r = r <<< 1 by rw [Nat.shiftLeft_eq]; omega, Nat.testBit_shiftLeft, Bool.and_assoc]
  · cases r.testBit 15 <;> simp
theorem shN_xor (a b : Nat) : shN (a ^^^ b) = shN a ^^^ shN b := by
  apply Nat.eq_of_testBit_eq
  intro i
  rw [Nat.testBit_xor, shN_bit, shN_bit, shN_bit, Nat.testBit_xor, Nat.testBit_xor]
  cases a.testBit 15 <;> cases b.testBit 15 <;> cases a.testBit (i - 1) <;> cases b.testBit (i - 1) <;> cases decide (i < 16) <;> cases decide (1 ≤ i) <;> cases Nat.testBit 4129 i <;> rfl
theorem shN_lt (r : Nat) : shN r < 65536 := by
  rw [show (65536 : Nat) = 2 ^ 16 from rfl]
  apply Nat.lt_pow_two_of_testBit
  intro i hi
  rw [shN_bit, t4129 i hi, decide_eq_false (by omega : ¬ i < 16)]
  cases r.testBit 15 <;> simp
theorem shN_zero : shN 0 = 0 := by decide
theorem shN_small (r : Nat) (h : r < 32768) : shN r = 2 * r := by
  have ht : r.testBit 15 = false := Nat.testBit_lt_two_pow (by simpa using h)
  unfold shN
  rw [ht, if_neg (by simp), Nat.xor_zero, Nat.mod_eq_of_lt (by omega)]
theorem shN_ne (r : Nat) (h : r < 65536) (h0 : r ≠ 0) : shN r ≠ 0 := by
  intro e
  by_cases hs : r < 32768
  · rw [shN_small r hs] at e; omega
  · have ht : r.testBit 15 = true := by
      rw [Nat.testBit_eq_decide_div_mod_eq]
      have h15 : r / 2 ^ 15 = 1 := by
        rw [show (2 : Nat) ^ 15 = 32768 from rfl]
        omega
      rw [h15]; rfl
    have := shN_bit r 0
    rw [e, ht] at this
    simp at this

/-- So many times. -/
def it : Nat → Nat → Nat
  | 0, r => r
  | n + 1, r => it n (shN r)
theorem it_xor (n a b : Nat) : it n (a ^^^ b) = it n a ^^^ it n b := by
  induction n generalizing a b with
  | zero => rfl
  | succ n ih => rw [it, it, it, shN_xor, ih]
theorem it_lt (n r : Nat) (h : r < 65536) : it n r < 65536 := by
  induction n generalizing r with
  | zero => exact h
  | succ n ih => exact ih _ (shN_lt r)
theorem it_ne (n r : Nat) (h : r < 65536) (h0 : r ≠ 0) : it n r ≠ 0 := by
  induction n generalizing r with
  | zero => exact h0
  | succ n ih => exact ih _ (shN_lt r) (shN_ne r h h0)
theorem it_zero (n : Nat) : it n 0 = 0 := by
  induction n with
  | zero => rfl
  | succ n ih => rw [it, shN_zero, ih]
theorem it_add (m n r : Nat) : it (m + n) r = it n (it m r) := by
  induction m generalizing r with
  | zero => rw [Nat.zero_add, it]
  | succ m ih => rw [Nat.succ_add, it, it, ih]
theorem it_succ (n r : Nat) : it (n + 1) r = shN (it n r) := by rw [it_add n 1]; rfl
theorem it_small (n r : Nat) (h : r * 2 ^ n < 65536) : it n r = r * 2 ^ n := by
  induction n generalizing r with
  | zero => simp [it]
  | succ n ih =>
    rw [Nat.pow_succ] at h ⊢
    have hp : 0 < 2 ^ n := Nat.two_pow_pos n
    have e : r * (2 ^ n * 2) = 2 * r * 2 ^ n := by rw [Nat.mul_comm (2 ^ n) 2, ← Nat.mul_assoc, Nat.mul_comm r 2]
    rw [e] at h ⊢
    have hr : r < 32768 := by
      have : 2 * r * 1 ≤ 2 * r * 2 ^ n := Nat.mul_le_mul_left _ hp
      omega
    rw [it, shN_small r hr, ih _ h]

/-- A byte goes through the register. -/
def cb (r x : Nat) : Nat := it 8 (r ^^^ (x * 256))
/-- The register behind bytes, from r on. -/
def reg (r : Nat) (zs : List Nat) : Nat := zs.foldl cb r
/-- The check sum of bytes. -/
def crc (zs : List Nat) : Nat := reg 65535 zs
theorem reg_nil (r : Nat) : reg r [] = r := rfl
theorem reg_cons (r z : Nat) (zs : List Nat) : reg r (z :: zs) = reg (cb r z) zs := rfl
theorem reg_app (r : Nat) (a b : List Nat) : reg r (a ++ b) = reg (reg r a) b := by simp [reg, List.foldl_append]
theorem reg_snoc (r : Nat) (a : List Nat) (z : Nat) : reg r (a ++ [z]) = cb (reg r a) z := by rw [reg_app]; rfl
theorem byte_lt (x : Nat) (h : x ≤ 255) : x * 256 < 65536 := by omega
theorem cb_lt (r x : Nat) (h : r < 65536) (hx : x ≤ 255) : cb r x < 65536 := it_lt 8 _ (Nat.xor_lt_two_pow (n := 16) h (byte_lt x hx))
theorem reg_lt (r : Nat) (zs : List Nat) (h : r < 65536) (hz : ∀ z ∈ zs, z ≤ 255) : reg r zs < 65536 := by
  induction zs generalizing r with
  | nil => exact h
  | cons z zs ih => exact ih _ (cb_lt r z h (hz z (by simp))) (fun x hx => hz x (by simp [hx]))
theorem crc_lt (zs : List Nat) (hz : ∀ z ∈ zs, z ≤ 255) : crc zs < 65536 := reg_lt _ _ (by decide) hz
theorem mul256_xor (x y : Nat) : (x ^^^ y) * 256 = x * 256 ^^^ y * 256 := by
  have h : ∀ z : Nat, z * 256 = z <<< 8 := fun z => by rw [Nat.shiftLeft_eq]
  rw [h, h, h, Nat.shiftLeft_xor_distrib]
theorem cb_xor (r s x y : Nat) : cb (r ^^^ s) (x ^^^ y) = cb r x ^^^ cb s y := by
  unfold cb
  rw [← it_xor, mul256_xor]
  congr 1
  rw [Nat.xor_assoc, Nat.xor_assoc, ← Nat.xor_assoc s, Nat.xor_comm s, Nat.xor_assoc (x * 256)]
/-- Two lists of like length, xored. -/
def xr (a b : List Nat) : List Nat := List.zipWith (· ^^^ ·) a b
theorem reg_xor (r s : Nat) (a b : List Nat) (h : a.length = b.length) : reg (r ^^^ s) (xr a b) = reg r a ^^^ reg s b := by
  induction a generalizing r s b with
  | nil => cases b with
    | nil => rfl
    | cons _ _ => simp at h
  | cons x a ih => cases b with
    | nil => simp at h
    | cons y b =>
      show reg (cb (r ^^^ s) (x ^^^ y)) (xr a b) = _
      rw [cb_xor, ih _ _ _ (by simpa using h)]
      rfl
theorem crc_three (a b c : List Nat) (h1 : a.length = b.length) (h2 : b.length = c.length) : crc (xr (xr a b) c) = crc a ^^^ crc b ^^^ crc c := by
  have hl : (xr a b).length = c.length := by simp [xr]; omega
  have h := reg_xor (65535 ^^^ 65535) 65535 (xr a b) c hl
  rw [reg_xor 65535 65535 a b h1, Nat.xor_self, Nat.zero_xor] at h
  exact h

/-- A number's two bytes go through the register that holds it: nothing is left. -/
theorem reg_own (hi lo : Nat) (h1 : hi ≤ 255) (h2 : lo ≤ 255) : reg (hi * 256 + lo) [hi, lo] = 0 := by
  have e : hi * 256 + lo = (hi * 256) ^^^ lo := by
    have := Nat.shiftLeft_add_eq_or_of_lt (show lo < 2 ^ 8 by omega) hi
    rw [Nat.shiftLeft_eq, show (2 : Nat) ^ 8 = 256 from rfl] at this
    rw [this]
    apply Nat.eq_of_testBit_eq
    intro i
    rw [Nat.testBit_or, Nat.testBit_xor]
    by_cases hi8 : i < 8
    · have : (hi * 256).testBit i = false := by
        rw [show hi * 256 = hi <<< 8 by rw [Nat.shiftLeft_eq], Nat.testBit_shiftLeft]
        simp; omega
      rw [this]; simp
    · have : lo.testBit i = false := Nat.testBit_lt_two_pow (Nat.lt_of_lt_of_le (show lo < 2 ^ 8 by omega) (Nat.pow_le_pow_right (by decide) (by omega)))
      rw [this]; simp
  have c1 : cb (hi * 256 + lo) hi = lo * 256 := by
    unfold cb
    rw [e, Nat.xor_comm (hi * 256) lo, Nat.xor_assoc, Nat.xor_self, Nat.xor_zero, it_small 8 lo (by omega)]
  show cb (cb (hi * 256 + lo) hi) lo = 0
  rw [c1]
  unfold cb
  rw [Nat.xor_self, it_zero]
/-- What goes through no register but its own leaves something. -/
theorem cb_inj (r s x : Nat) (h1 : r < 65536) (h2 : s < 65536) (hx : x ≤ 255) (h : cb r x = cb s x) : r = s := by
  by_cases e : r = s
  · exact e
  · exfalso
    have hn : r ^^^ s ≠ 0 := fun h => e (by
      have h3 : r ^^^ s ^^^ s = 0 ^^^ s := by rw [h]
      rw [Nat.xor_assoc, Nat.xor_self, Nat.xor_zero, Nat.zero_xor] at h3
      exact h3)
    have := cb_xor r s x x
    rw [h, Nat.xor_self, Nat.xor_self] at this
    unfold cb at this
    rw [Nat.zero_mul, Nat.xor_zero] at this
    exact it_ne 8 _ (Nat.xor_lt_two_pow (n := 16) h1 h2) hn this
theorem reg_two (r hi lo : Nat) (hr : r < 65536) (h1 : hi ≤ 255) (h2 : lo ≤ 255) (h : reg r [hi, lo] = 0) : r = hi * 256 + lo := by
  have e := reg_own hi lo h1 h2
  rw [← h] at e
  have e2 := cb_inj _ _ lo (cb_lt _ hi (by omega) h1) (cb_lt _ hi hr h1) h2 e
  exact (cb_inj _ _ hi (by omega) hr h1 e2).symm

/-- Bits go through the register one by one. -/
def fb (r : Nat) (bs : List Bool) : Nat := bs.foldl (fun r b => shN (r ^^^ (if b then 32768 else 0))) r
theorem fb_cons (r : Nat) (b : Bool) (bs : List Bool) : fb r (b :: bs) = fb (shN (r ^^^ (if b then 32768 else 0))) bs := rfl
theorem fb_app (r : Nat) (a b : List Bool) : fb r (a ++ b) = fb (fb r a) b := by simp [fb, List.foldl_append]
theorem fb_zeros (r n : Nat) : fb r (List.replicate n false) = it n r := by
  induction n generalizing r with
  | zero => rfl
  | succ n ih => rw [List.replicate_succ, fb_cons, ih]; simp [it]
/-- Bits as a number, the first one the highest of 16. -/
def top : List Bool → Nat
  | [] => 0
  | b :: bs => (if b then 32768 else 0) + top bs / 2
theorem top_lt (bs : List Bool) : top bs < 65536 := by
  induction bs with
  | nil => decide
  | cons b bs ih => rw [top]; cases b <;> simp <;> omega
theorem top_mod (bs : List Bool) (n : Nat) (h : bs.length ≤ n) (hn : n ≤ 16) : top bs % 2 ^ (16 - n) = 0 := by
  induction bs generalizing n with
  | nil => simp [top]
  | cons b bs ih =>
    simp only [List.length_cons] at h
    have := ih (n - 1) (by omega) (by omega)
    rw [show 16 - (n - 1) = (16 - n) + 1 by omega, Nat.pow_succ] at this
    rw [top]
    have h2 : (if b = true then 32768 else 0) % 2 ^ (16 - n) = 0 := by
      cases b
      · simp
      · rw [if_pos rfl, show 32768 = 2 ^ (16 - n) * 2 ^ (n - 1) by rw [← Nat.pow_add, show 16 - n + (n - 1) = 15 by omega]]
        exact Nat.mul_mod_right _ _
    have h3 : top bs / 2 % 2 ^ (16 - n) = 0 := by
      have := Nat.mod_mul_left_div_self (top bs) 2 (2 ^ (16 - n))
      rw [← this, ‹top bs % (2 ^ (16 - n) * 2) = 0›]
    rw [Nat.add_mod, h2, h3]; simp
theorem top_xor (b : Bool) (bs : List Bool) : top (b :: bs) = (if b then 32768 else 0) ^^^ (top bs / 2) := by
  rw [top]
  cases b
  · simp
  · rw [if_pos rfl]
    have hl := top_lt bs
    have hlt : top bs / 2 < 2 ^ 15 := by omega
    have := Nat.shiftLeft_add_eq_or_of_lt hlt 1
    rw [Nat.shiftLeft_eq, Nat.one_mul, show (2 : Nat) ^ 15 = 32768 from rfl] at this
    rw [this]
    apply Nat.eq_of_testBit_eq
    intro i
    rw [Nat.testBit_or, Nat.testBit_xor]
    by_cases h : i < 15
    · have e : Nat.testBit 32768 i = false := by
        rw [show 32768 = 1 <<< 15 from rfl, Nat.testBit_shiftLeft]; simp; omega
      rw [e]; simp
    · have e : (top bs / 2).testBit i = false := Nat.testBit_lt_two_pow (Nat.lt_of_lt_of_le hlt (Nat.pow_le_pow_right (by decide) (by omega)))
      rw [e]; simp
/-- Up to 16 bits at once. -/
theorem fb_top (r : Nat) (bs : List Bool) (h : bs.length ≤ 16) : fb r bs = it bs.length (r ^^^ top bs) := by
  induction bs generalizing r with
  | nil => simp [fb, top, it]
  | cons b bs ih =>
    simp only [List.length_cons] at h
    have hm := top_mod bs 15 (by omega) (by omega)
    have hl := top_lt bs
    have hs : shN (top bs / 2) = top bs := by rw [shN_small _ (by omega)]; omega
    rw [fb_cons, ih _ (by omega), List.length_cons, it, top_xor, ← Nat.xor_assoc, shN_xor (r ^^^ _) (top bs / 2), hs]
theorem top_ne (bs : List Bool) (h : bs.length ≤ 16) (ht : true ∈ bs) : top bs ≠ 0 := by
  induction bs with
  | nil => simp at ht
  | cons b bs ih =>
    simp only [List.length_cons] at h
    cases b
    · simp at ht
      have h1 := ih (by omega) ht
      have h2 := top_mod bs 15 (by omega) (by omega)
      show (if false = true then 32768 else 0) + top bs / 2 ≠ 0
      simp
      omega
    · show (if true = true then 32768 else 0) + top bs / 2 ≠ 0
      simp
/-- A run of up to 16 bits, not all 0, leaves something in an empty register, whatever bits 0 stand around it. -/
theorem fb_run (i k : Nat) (bs : List Bool) (h : bs.length ≤ 16) (ht : true ∈ bs) : fb 0 (List.replicate i false ++ bs ++ List.replicate k false) ≠ 0 := by
  rw [fb_app, fb_app, fb_zeros _ k, fb_zeros 0 i, it_zero, fb_top 0 bs h, Nat.zero_xor]
  exact it_ne _ _ (it_lt _ _ (top_lt bs)) (it_ne _ _ (top_lt bs) (top_ne bs h ht))

end Go.Proofs.Ytbdlcmpljhbebaa.Ck
