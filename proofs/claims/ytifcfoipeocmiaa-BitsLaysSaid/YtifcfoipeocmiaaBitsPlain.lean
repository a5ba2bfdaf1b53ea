/-
  Plain facts on bits and bytes: what a list of bits is as bytes (the highest bit of a byte first), how that turns when one bit more is laid, and how a bit is read off a byte again. No Go text here.
-/
import Init
set_option linter.unusedVariables false
namespace Go.Proofs.Ytifcfoipeocmiaa.Bp

/-- A bit as a number. -/
def bn (x : Bool) : Nat := if x then 1 else 0
theorem bn_le (x : Bool) : bn x ≤ 1 := by cases x <;> simp [bn]
theorem bn_true : bn true = 1 := rfl
theorem bn_false : bn false = 0 := rfl
/-- The bit at a place, 0 behind the end. -/
def bitN (bs : List Bool) (i : Nat) : Nat := bn (bs.getD i false)
theorem bitN_le (bs : List Bool) (i : Nat) : bitN bs i ≤ 1 := bn_le _
/-- The byte at a place. -/
def byteAt (bs : List Bool) (i : Nat) : Nat :=
  128 * bitN bs (8 * i) + 64 * bitN bs (8 * i + 1) + 32 * bitN bs (8 * i + 2) + 16 * bitN bs (8 * i + 3) + 8 * bitN bs (8 * i + 4) + 4 * bitN bs (8 * i + 5) + 2 * bitN bs (8 * i + 6) + bitN bs (8 * i + 7)
/-- How many bytes so many bits fill. -/
def nb (n : Nat) : Nat := (n + 7) / 8
/-- The bytes of bits. -/
def pack (bs : List Bool) : List Nat := (List.range (nb bs.length)).map (byteAt bs)

theorem pack_length (bs : List Bool) : (pack bs).length = nb bs.length := by simp [pack]
theorem pack_nil : pack [] = [] := rfl
theorem byteAt_le (bs : List Bool) (i : Nat) : byteAt bs i ≤ 255 := by
  have h0 := bitN_le bs (8 * i); have h1 := bitN_le bs (8 * i + 1); have h2 := bitN_le bs (8 * i + 2); have h3 := bitN_le bs (8 * i + 3)
  have h4 := bitN_le bs (8 * i + 4); have h5 := bitN_le bs (8 * i + 5); have h6 := bitN_le bs (8 * i + 6); have h7 := bitN_le bs (8 * i + 7)
  unfold byteAt; omega
theorem pack_get (bs : List Bool) (i : Nat) (h : i < nb bs.length) : (pack bs)[i]? = some (byteAt bs i) := by
  simp [pack, h]
theorem pack_getD (bs : List Bool) (i : Nat) (h : i < nb bs.length) : (pack bs).getD i 0 = byteAt bs i := by
  simp [List.getD, pack_get bs i h]

theorem bitN_snoc_lt (bs : List Bool) (x : Bool) (i : Nat) (h : i < bs.length) : bitN (bs ++ [x]) i = bitN bs i := by
  simp [bitN, List.getD, List.getElem?_append_left h]
theorem bitN_snoc_eq (bs : List Bool) (x : Bool) : bitN (bs ++ [x]) bs.length = bn x := by
  simp [bitN, List.getD]
theorem bitN_ge (bs : List Bool) (i : Nat) (h : bs.length ≤ i) : bitN bs i = 0 := by
  simp [bitN, List.getD, List.getElem?_eq_none h, bn]
/-- What one bit more makes of a bit. -/
theorem bitN_snoc (bs : List Bool) (x : Bool) (i : Nat) : bitN (bs ++ [x]) i = bitN bs i + (if i = bs.length then bn x else 0) := by
  by_cases h1 : i < bs.length
  · rw [bitN_snoc_lt bs x i h1, if_neg (by omega)]; rfl
  · by_cases h2 : i = bs.length
    · subst h2; rw [bitN_snoc_eq, if_pos rfl, bitN_ge bs _ (Nat.le_refl _)]; omega
    · rw [if_neg h2, bitN_ge bs i (by omega), bitN_ge _ i (by simp; omega)]

/-- Two to the power of what is left of the byte. -/
def pw (p : Nat) : Nat := 2 ^ (7 - p)

theorem byteAt_snoc_other (bs : List Bool) (x : Bool) (i : Nat) (h : i ≠ bs.length / 8) : byteAt (bs ++ [x]) i = byteAt bs i := by
  unfold byteAt
  simp only [bitN_snoc]
  rw [if_neg (by omega), if_neg (by omega), if_neg (by omega), if_neg (by omega), if_neg (by omega), if_neg (by omega), if_neg (by omega), if_neg (by omega)]
  omega
theorem mod8_cases (n : Nat) : n % 8 = 0 ∨ n % 8 = 1 ∨ n % 8 = 2 ∨ n % 8 = 3 ∨ n % 8 = 4 ∨ n % 8 = 5 ∨ n % 8 = 6 ∨ n % 8 = 7 := by omega
theorem bitN_snoc_at (bs : List Bool) (x : Bool) (p j : Nat) (hp : bs.length % 8 = p) (hj : j < 8) : bitN (bs ++ [x]) (8 * (bs.length / 8) + j) = bitN bs (8 * (bs.length / 8) + j) + (if j = p then bn x else 0) := by
  rw [bitN_snoc]
  by_cases h : j = p
  · rw [if_pos h, if_pos (by omega)]
  · rw [if_neg h, if_neg (by omega)]
theorem byteAt_snoc_same (bs : List Bool) (x : Bool) : byteAt (bs ++ [x]) (bs.length / 8) = byteAt bs (bs.length / 8) + bn x * pw (bs.length % 8) := by
  have key : ∀ p, bs.length % 8 = p → byteAt (bs ++ [x]) (bs.length / 8) = byteAt bs (bs.length / 8) + (128 * (if 0 = p then bn x else 0) + 64 * (if 1 = p then bn x else 0) + 32 * (if 2 = p then bn x else 0) + 16 * (if 3 = p then bn x else 0) + 8 * (if 4 = p then bn x else 0) + 4 * (if 5 = p then bn x else 0) + 2 * (if 6 = p then bn x else 0) + (if 7 = p then bn x else 0)) := by
    intro p hp
    have a0 := bitN_snoc_at bs x p 0 hp (by omega)
    rw [Nat.add_zero] at a0
    unfold byteAt
    rw [a0, bitN_snoc_at bs x p 1 hp (by omega), bitN_snoc_at bs x p 2 hp (by omega), bitN_snoc_at bs x p 3 hp (by omega), bitN_snoc_at bs x p 4 hp (by omega), bitN_snoc_at bs x p 5 hp (by omega), bitN_snoc_at bs x p 6 hp (by omega), bitN_snoc_at bs x p 7 hp (by omega)]
    omega
  rcases mod8_cases bs.length with h | h | h | h | h | h | h | h <;> rw [key _ h, h] <;> simp [pw] <;> omega
/-- Behind the laid bits a byte's bits are 0. -/
theorem byteAt_room (bs : List Bool) : byteAt bs (bs.length / 8) % (2 * pw (bs.length % 8)) = 0 := by
  unfold byteAt
  have hz : ∀ j, bs.length ≤ j → bitN bs j = 0 := bitN_ge bs
  rcases mod8_cases bs.length with h | h | h | h | h | h | h | h <;> rw [h] <;>
    simp only [pw, show (2 : Nat) ^ (7 - 0) = 128 from rfl, show (2 : Nat) ^ (7 - 1) = 64 from rfl, show (2 : Nat) ^ (7 - 2) = 32 from rfl, show (2 : Nat) ^ (7 - 3) = 16 from rfl, show (2 : Nat) ^ (7 - 4) = 8 from rfl, show (2 : Nat) ^ (7 - 5) = 4 from rfl, show (2 : Nat) ^ (7 - 6) = 2 from rfl, show (2 : Nat) ^ (7 - 7) = 1 from rfl]
  · rw [hz _ (by omega), hz (8 * (bs.length / 8) + 1) (by omega), hz (8 * (bs.length / 8) + 2) (by omega), hz (8 * (bs.length / 8) + 3) (by omega), hz (8 * (bs.length / 8) + 4) (by omega), hz (8 * (bs.length / 8) + 5) (by omega), hz (8 * (bs.length / 8) + 6) (by omega), hz (8 * (bs.length / 8) + 7) (by omega)]
  · rw [hz (8 * (bs.length / 8) + 1) (by omega), hz (8 * (bs.length / 8) + 2) (by omega), hz (8 * (bs.length / 8) + 3) (by omega), hz (8 * (bs.length / 8) + 4) (by omega), hz (8 * (bs.length / 8) + 5) (by omega), hz (8 * (bs.length / 8) + 6) (by omega), hz (8 * (bs.length / 8) + 7) (by omega)]; omega
  · rw [hz (8 * (bs.length / 8) + 2) (by omega), hz (8 * (bs.length / 8) + 3) (by omega), hz (8 * (bs.length / 8) + 4) (by omega), hz (8 * (bs.length / 8) + 5) (by omega), hz (8 * (bs.length / 8) + 6) (by omega), hz (8 * (bs.length / 8) + 7) (by omega)]; omega
  · rw [hz (8 * (bs.length / 8) + 3) (by omega), hz (8 * (bs.length / 8) + 4) (by omega), hz (8 * (bs.length / 8) + 5) (by omega), hz (8 * (bs.length / 8) + 6) (by omega), hz (8 * (bs.length / 8) + 7) (by omega)]; omega
  · rw [hz (8 * (bs.length / 8) + 4) (by omega), hz (8 * (bs.length / 8) + 5) (by omega), hz (8 * (bs.length / 8) + 6) (by omega), hz (8 * (bs.length / 8) + 7) (by omega)]; omega
  · rw [hz (8 * (bs.length / 8) + 5) (by omega), hz (8 * (bs.length / 8) + 6) (by omega), hz (8 * (bs.length / 8) + 7) (by omega)]; omega
  · rw [hz (8 * (bs.length / 8) + 6) (by omega), hz (8 * (bs.length / 8) + 7) (by omega)]; omega
  · rw [hz (8 * (bs.length / 8) + 7) (by omega)]; omega

/-- One bit more at a byte's beginning: one byte more. -/
theorem pack_snoc_new (bs : List Bool) (x : Bool) (h : bs.length % 8 = 0) : pack (bs ++ [x]) = pack bs ++ [bn x * 128] := by
  have hn : nb (bs ++ [x]).length = nb bs.length + 1 := by simp [nb]; omega
  have hq : nb bs.length = bs.length / 8 := by simp [nb]; omega
  unfold pack
  rw [hn, List.range_succ, List.map_append]
  congr 1
  · apply List.map_congr_left
    intro i hi
    exact byteAt_snoc_other bs x i (by have := List.mem_range.1 hi; omega)
  · simp only [List.map_cons, List.map_nil]
    rw [hq, byteAt_snoc_same, h]
    have hr := byteAt_room bs
    have hz : byteAt bs (bs.length / 8) = 0 := by
      unfold byteAt
      rw [bitN_ge _ _ (by omega), bitN_ge _ (8 * (bs.length / 8) + 1) (by omega), bitN_ge _ (8 * (bs.length / 8) + 2) (by omega), bitN_ge _ (8 * (bs.length / 8) + 3) (by omega), bitN_ge _ (8 * (bs.length / 8) + 4) (by omega), bitN_ge _ (8 * (bs.length / 8) + 5) (by omega), bitN_ge _ (8 * (bs.length / 8) + 6) (by omega), bitN_ge _ (8 * (bs.length / 8) + 7) (by omega)]
    rw [hz]; simp [pw]
/-- One bit more within a byte. -/
theorem pack_snoc_in (bs : List Bool) (x : Bool) (h : bs.length % 8 ≠ 0) : pack (bs ++ [x]) = (pack bs).set (bs.length / 8) (byteAt bs (bs.length / 8) + bn x * pw (bs.length % 8)) := by
  have hn : nb (bs ++ [x]).length = nb bs.length := by simp [nb]; omega
  have hq : nb bs.length = bs.length / 8 + 1 := by simp [nb]; omega
  apply List.ext_getElem?
  intro i
  by_cases hi : i < nb bs.length
  · rw [pack_get _ _ (by omega)]
    by_cases he : i = bs.length / 8
    · subst he
      rw [byteAt_snoc_same, List.getElem?_set_self (by rw [pack_length]; omega)]
    · rw [byteAt_snoc_other _ _ _ he, List.getElem?_set_ne (by omega), pack_get _ _ hi]
  · rw [List.getElem?_eq_none (by rw [pack_length]; omega), List.getElem?_eq_none (by rw [List.length_set, pack_length]; omega)]

/-- A bit read off a byte. -/
theorem byteAt_bit (bs : List Bool) (k : Nat) : byteAt bs (k / 8) / pw (k % 8) % 2 = bitN bs k := by
  have h0 := bitN_le bs (8 * (k / 8)); have h1 := bitN_le bs (8 * (k / 8) + 1); have h2 := bitN_le bs (8 * (k / 8) + 2); have h3 := bitN_le bs (8 * (k / 8) + 3)
  have h4 := bitN_le bs (8 * (k / 8) + 4); have h5 := bitN_le bs (8 * (k / 8) + 5); have h6 := bitN_le bs (8 * (k / 8) + 6); have h7 := bitN_le bs (8 * (k / 8) + 7)
  have hk : ∀ j, k % 8 = j → k = 8 * (k / 8) + j := fun j hj => by omega
  have e : ∀ j, k % 8 = j → bitN bs k = bitN bs (8 * (k / 8) + j) := fun j hj => by rw [← hk j hj]
  unfold byteAt
  rcases mod8_cases k with h | h | h | h | h | h | h | h <;> rw [e _ h, h] <;>
    simp only [Nat.add_zero, pw, show (2 : Nat) ^ (7 - 0) = 128 from rfl, show (2 : Nat) ^ (7 - 1) = 64 from rfl, show (2 : Nat) ^ (7 - 2) = 32 from rfl, show (2 : Nat) ^ (7 - 3) = 16 from rfl, show (2 : Nat) ^ (7 - 4) = 8 from rfl, show (2 : Nat) ^ (7 - 5) = 4 from rfl, show (2 : Nat) ^ (7 - 6) = 2 from rfl, show (2 : Nat) ^ (7 - 7) = 1 from rfl] <;> omega

theorem lor_add (a q x : Nat) (h : a % (2 * 2 ^ q) = 0) (hx : x ≤ 1) : a ||| (x <<< q) = a + x * 2 ^ q := by
  have e : a = (a / (2 * 2 ^ q)) <<< (q + 1) := by
    rw [Nat.shiftLeft_eq, Nat.pow_succ, Nat.mul_comm (2 ^ q) 2]
    have := Nat.div_add_mod a (2 * 2 ^ q)
    rw [h, Nat.add_zero, Nat.mul_comm] at this
    exact this.symm
  have hlt : x <<< q < 2 ^ (q + 1) := by
    rw [Nat.shiftLeft_eq, Nat.pow_succ, Nat.mul_comm (2 ^ q) 2]
    have hp : 0 < 2 ^ q := Nat.two_pow_pos q
    calc x * 2 ^ q ≤ 1 * 2 ^ q := Nat.mul_le_mul_right _ hx
      _ < 2 * 2 ^ q := by omega
  have := Nat.shiftLeft_add_eq_or_of_lt hlt (a / (2 * 2 ^ q))
  rw [← e] at this
  rw [← this, Nat.shiftLeft_eq]

end Go.Proofs.Ytifcfoipeocmiaa.Bp
