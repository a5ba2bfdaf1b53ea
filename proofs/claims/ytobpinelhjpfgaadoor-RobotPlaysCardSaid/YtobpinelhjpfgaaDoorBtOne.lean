/-
  Plain facts on bits and bytes: what a list of bits is as bytes (the highest bit of a byte first), how that turns when one bit more is laid, and how a bit is read off a byte again. No Go text here.
  Plain facts on numbers as bits.
  Plain facts on counts: a number and one has so many bits; that many less one bits 0 stand ahead of it.
  The writer: one bit is laid.
  The writer: numbers and counts are laid.
  The writer's calls: Put, Len, Out.
-/
import Init
import Derived.Test.YtobpinelhjpfgaaDoorRows
import Derived.Test.YtobpinelhjpfgaaDoorFrame
import Derived.WalkKit
import Derived.WalkSpells
import Derived.WalkLawsBesides
import Derived.RegionTactic
import Derived.Maps.AppendAt
import Derived.Laws.BitsAllLaws
import Derived.Lib.Hide
import Derived.ChangeAlike
import Derived.Deep.DeepMust
import Derived.Laws.CopyOwn
set_option linter.unusedVariables false
section
namespace Go.Proofs.YtobpinelhjpfgaaDoor.Bp

/-- A bit as a number. -/
def bn (x : Bool) : Nat := if x then 1 else 0
theorem bn_le (x : Bool) : bn x ≤ 1 := by cases x <;> simp [bn]
theorem bn_true : bn true = 1 := rfl
theorem bn_false : bn false = 0 := rfl
/-- The bit at a place, 0 behind the end. -/
def bitN (bs : List Bool) (i : Nat) : Nat := bn (bs.getD i false)
theorem bitN_le (bs : List Bool) (i : Nat) : bitN bs i ≤ 1 := bn_le _
/-- The byte at a place. -/
def byteAt (bs : List Bool) (i : Nat) : Nat :=
  128 * bitN bs (8 * i) + 64 * bitN bs (8 * i + 1) + 32 * bitN bs (8 * i + 2) + 16 * bitN bs (8 * i + 3) + 8 * bitN bs (8 * i + 4) + 4 * bitN bs (8 * i + 5) + 2 * bitN bs (8 * i + 6) + bitN bs (8 * i + 7)
/-- How many bytes so many bits fill. -/
def nb (n : Nat) : Nat := (n + 7) / 8
/-- The bytes of bits. -/
def pack (bs : List Bool) : List Nat := (List.range (nb bs.length)).map (byteAt bs)

theorem pack_length (bs : List Bool) : (pack bs).length = nb bs.length := by simp [pack]
theorem pack_nil : pack [] = [] := rfl
theorem byteAt_le (bs : List Bool) (i : Nat) : byteAt bs i ≤ 255 := by
  have h0 := bitN_le bs (8 * i); have h1 := bitN_le bs (8 * i + 1); have h2 := bitN_le bs (8 * i + 2); have h3 := bitN_le bs (8 * i + 3)
  have h4 := bitN_le bs (8 * i + 4); have h5 := bitN_le bs (8 * i + 5); have h6 := bitN_le bs (8 * i + 6); have h7 := bitN_le bs (8 * i + 7)
  unfold byteAt; omega
theorem pack_get (bs : List Bool) (i : Nat) (h : i < nb bs.length) : (pack bs)[i]? = some (byteAt bs i) := by
  simp [pack, h]
theorem pack_getD (bs : List Bool) (i : Nat) (h : i < nb bs.length) : (pack bs).getD i 0 = byteAt bs i := by
  simp [List.getD, pack_get bs i h]

theorem bitN_snoc_lt (bs : List Bool) (x : Bool) (i : Nat) (h : i < bs.length) : bitN (bs ++ [x]) i = bitN bs i := by
  simp [bitN, List.getD, List.getElem?_append_left h]
theorem bitN_snoc_eq (bs : List Bool) (x : Bool) : bitN (bs ++ [x]) bs.length = bn x := by
  simp [bitN, List.getD]
theorem bitN_ge (bs : List Bool) (i : Nat) (h : bs.length ≤ i) : bitN bs i = 0 := by
  simp [bitN, List.getD, List.getElem?_eq_none h, bn]
/-- What one bit more makes of a bit. -/
theorem bitN_snoc (bs : List Bool) (x : Bool) (i : Nat) : bitN (bs ++ [x]) i = bitN bs i + (if i = bs.length then bn x else 0) := by
  by_cases h1 : i < bs.length
  · rw [bitN_snoc_lt bs x i h1, if_neg (by omega)]; rfl
  · by_cases h2 : i = bs.length
    · subst h2; rw [bitN_snoc_eq, if_pos rfl, bitN_ge bs _ (Nat.le_refl _)]; omega
    · rw [if_neg h2, bitN_ge bs i (by omega), bitN_ge _ i (by simp; omega)]

/-- Two to the power of what is left of the byte. -/
def pw (p : Nat) : Nat := 2 ^ (7 - p)

theorem byteAt_snoc_other (bs : List Bool) (x : Bool) (i : Nat) (h : i ≠ bs.length / 8) : byteAt (bs ++ [x]) i = byteAt bs i := by
  unfold byteAt
  simp only [bitN_snoc]
  rw [if_neg (by omega), if_neg (by omega), if_neg (by omega), if_neg (by omega), if_neg (by omega), if_neg (by omega), if_neg (by omega), if_neg (by omega)]
  omega
theorem mod8_cases (n : Nat) : n % 8 = 0 ∨ n % 8 = 1 ∨ n % 8 = 2 ∨ n % 8 = 3 ∨ n % 8 = 4 ∨ n % 8 = 5 ∨ n % 8 = 6 ∨ n % 8 = 7 := by omega
theorem bitN_snoc_at (bs : List Bool) (x : Bool) (p j : Nat) (hp : bs.length % 8 = p) (hj : j < 8) : bitN (bs ++ [x]) (8 * (bs.length / 8) + j) = bitN bs (8 * (bs.length / 8) + j) + (if j = p then bn x else 0) := by
  rw [bitN_snoc]
  by_cases h : j = p
  · rw [if_pos h, if_pos (by omega)]
  · rw [if_neg h, if_neg (by omega)]
theorem byteAt_snoc_same (bs : List Bool) (x : Bool) : byteAt (bs ++ [x]) (bs.length / 8) = byteAt bs (bs.length / 8) + bn x * pw (bs.length % 8) := by
  have key : ∀ p, bs.length % 8 = p → byteAt (bs ++ [x]) (bs.length / 8) = byteAt bs (bs.length / 8) + (128 * (if 0 = p then bn x else 0) + 64 * (if 1 = p then bn x else 0) + 32 * (if 2 = p then bn x else 0) + 16 * (if 3 = p then bn x else 0) + 8 * (if 4 = p then bn x else 0) + 4 * (if 5 = p then bn x else 0) + 2 * (if 6 = p then bn x else 0) + (if 7 = p then bn x else 0)) := by
    intro p hp
    have a0 := bitN_snoc_at bs x p 0 hp (by omega)
    rw [Nat.add_zero] at a0
    unfold byteAt
    rw [a0, bitN_snoc_at bs x p 1 hp (by omega), bitN_snoc_at bs x p 2 hp (by omega), bitN_snoc_at bs x p 3 hp (by omega), bitN_snoc_at bs x p 4 hp (by omega), bitN_snoc_at bs x p 5 hp (by omega), bitN_snoc_at bs x p 6 hp (by omega), bitN_snoc_at bs x p 7 hp (by omega)]
    omega
  rcases mod8_cases bs.length with h | h | h | h | h | h | h | h <;> rw [key _ h, h] <;> simp [pw] <;> omega
/-- Behind the laid bits a byte's bits are 0. -/
theorem byteAt_room (bs : List Bool) : byteAt bs (bs.length / 8) % (2 * pw (bs.length % 8)) = 0 := by
  unfold byteAt
  have hz : ∀ j, bs.length ≤ j → bitN bs j = 0 := bitN_ge bs
  rcases mod8_cases bs.length with h | h | h | h | h | h | h | h <;> rw [h] <;>
    simp only [pw, show (2 : Nat) ^ (7 - 0) = 128 from rfl, show (2 : Nat) ^ (7 - 1) = 64 from rfl, show (2 : Nat) ^ (7 - 2) = 32 from rfl, show (2 : Nat) ^ (7 - 3) = 16 from rfl, show (2 : Nat) ^ (7 - 4) = 8 from rfl, show (2 : Nat) ^ (7 - 5) = 4 from rfl, show (2 : Nat) ^ (7 - 6) = 2 from rfl, show (2 : Nat) ^ (7 - 7) = 1 from rfl]
  · rw [hz _ (by omega), hz (8 * (bs.length / 8) + 1) (by omega), hz (8 * (bs.length / 8) + 2) (by omega), hz (8 * (bs.length / 8) + 3) (by omega), hz (8 * (bs.length / 8) + 4) (by omega), hz (8 * (bs.length / 8) + 5) (by omega), hz (8 * (bs.length / 8) + 6) (by omega), hz (8 * (bs.length / 8) + 7) (by omega)]
  · rw [hz (8 * (bs.length / 8) + 1) (by omega), hz (8 * (bs.length / 8) + 2) (by omega), hz (8 * (bs.length / 8) + 3) (by omega), hz (8 * (bs.length / 8) + 4) (by omega), hz (8 * (bs.length / 8) + 5) (by omega), hz (8 * (bs.length / 8) + 6) (by omega), hz (8 * (bs.length / 8) + 7) (by omega)]; omega
  · rw [hz (8 * (bs.length / 8) + 2) (by omega), hz (8 * (bs.length / 8) + 3) (by omega), hz (8 * (bs.length / 8) + 4) (by omega), hz (8 * (bs.length / 8) + 5) (by omega), hz (8 * (bs.length / 8) + 6) (by omega), hz (8 * (bs.length / 8) + 7) (by omega)]; omega
  · rw [hz (8 * (bs.length / 8) + 3) (by omega), hz (8 * (bs.length / 8) + 4) (by omega), hz (8 * (bs.length / 8) + 5) (by omega), hz (8 * (bs.length / 8) + 6) (by omega), hz (8 * (bs.length / 8) + 7) (by omega)]; omega
  · rw [hz (8 * (bs.length / 8) + 4) (by omega), hz (8 * (bs.length / 8) + 5) (by omega), hz (8 * (bs.length / 8) + 6) (by omega), hz (8 * (bs.length / 8) + 7) (by omega)]; omega
  · rw [hz (8 * (bs.length / 8) + 5) (by omega), hz (8 * (bs.length / 8) + 6) (by omega), hz (8 * (bs.length / 8) + 7) (by omega)]; omega
  · rw [hz (8 * (bs.length / 8) + 6) (by omega), hz (8 * (bs.length / 8) + 7) (by omega)]; omega
  · rw [hz (8 * (bs.length / 8) + 7) (by omega)]; omega

/-- One bit more at a byte's beginning: one byte more. -/
theorem pack_snoc_new (bs : List Bool) (x : Bool) (h : bs.length % 8 = 0) : pack (bs ++ [x]) = pack bs ++ [bn x * 128] := by
  have hn : nb (bs ++ [x]).length = nb bs.length + 1 := by simp [nb]; omega
  have hq : nb bs.length = bs.length / 8 := by simp [nb]; omega
  unfold pack
  rw [hn, List.range_succ, List.map_append]
  congr 1
  · apply List.map_congr_left
    intro i hi
    exact byteAt_snoc_other bs x i (by have := List.mem_range.1 hi; omega)
  · simp only [List.map_cons, List.map_nil]
    rw [hq, byteAt_snoc_same, h]
    have hr := byteAt_room bs
    have hz : byteAt bs (bs.length / 8) = 0 := by
      unfold byteAt
      rw [bitN_ge _ _ (by omega), bitN_ge _ (8 * (bs.length / 8) + 1) (by omega), bitN_ge _ (8 * (bs.length / 8) + 2) (by omega), bitN_ge _ (8 * (bs.length / 8) + 3) (by omega), bitN_ge _ (8 * (bs.length / 8) + 4) (by omega), bitN_ge _ (8 * (bs.length / 8) + 5) (by omega), bitN_ge _ (8 * (bs.length / 8) + 6) (by omega), bitN_ge _ (8 * (bs.length / 8) + 7) (by omega)]
    rw [hz]; simp [pw]
/-- One bit more within a byte. -/
theorem pack_snoc_in (bs : List Bool) (x : Bool) (h : bs.length % 8 ≠ 0) : pack (bs ++ [x]) = (pack bs).set (bs.length / 8) (byteAt bs (bs.length / 8) + bn x * pw (bs.length % 8)) := by
  have hn : nb (bs ++ [x]).length = nb bs.length := by simp [nb]; omega
  have hq : nb bs.length = bs.length / 8 + 1 := by simp [nb]; omega
  apply List.ext_getElem?
  intro i
  by_cases hi : i < nb bs.length
  · rw [pack_get _ _ (by omega)]
    by_cases he : i = bs.length / 8
    · subst he
      rw [byteAt_snoc_same, List.getElem?_set_self (by rw [pack_length]; omega)]
    · rw [byteAt_snoc_other _ _ _ he, List.getElem?_set_ne (by omega), pack_get _ _ hi]
  · rw [List.getElem?_eq_none (by rw [pack_length]; omega), List.getElem?_eq_none (by rw [List.length_set, pack_length]; omega)]

/-- A bit read off a byte. -/
theorem byteAt_bit (bs : List Bool) (k : Nat) : byteAt bs (k / 8) / pw (k % 8) % 2 = bitN bs k := by
  have h0 := bitN_le bs (8 * (k / 8)); have h1 := bitN_le bs (8 * (k / 8) + 1); have h2 := bitN_le bs (8 * (k / 8) + 2); have h3 := bitN_le bs (8 * (k / 8) + 3)
  have h4 := bitN_le bs (8 * (k / 8) + 4); have h5 := bitN_le bs (8 * (k / 8) + 5); have h6 := bitN_le bs (8 * (k / 8) + 6); have h7 := bitN_le bs (8 * (k / 8) + 7)
  have hk : ∀ j, k % 8 = j → k = 8 * (k / 8) + j := fun j hj => by omega
  have e : ∀ j, k % 8 = j → bitN bs k = bitN bs (8 * (k / 8) + j) := fun j hj => by rw [← hk j hj]
  unfold byteAt
  rcases mod8_cases k with h | h | h | h | h | h | h | h <;> rw [e _ h, h] <;>
    simp only [Nat.add_zero, pw, show (2 : Nat) ^ (7 - 0) = 128 from rfl, show (2 : Nat) ^ (7 - 1) = 64 from rfl, show (2 : Nat) ^ (7 - 2) = 32 from rfl, show (2 : Nat) ^ (7 - 3) = 16 from rfl, show (2 : Nat) ^ (7 - 4) = 8 from rfl, show (2 : Nat) ^ (7 - 5) = 4 from rfl, show (2 : Nat) ^ (7 - 6) = 2 from rfl, show (2 : Nat) ^ (7 - 7) = 1 from rfl] <;> omega

theorem lor_add (a q x : Nat) (h : a % (2 * 2 ^ q) = 0) (hx : x ≤ 1) : a ||| (x <<< q) = a + x * 2 ^ q := by
  have e : a = (a / (2 * 2 ^ q)) <<< (q + 1) := by
    rw [Nat.shiftLeft_eq, Nat.pow_succ, Nat.mul_comm (2 ^ q) 2]
    have := Nat.div_add_mod a (2 * 2 ^ q)
    rw [h, Nat.add_zero, Nat.mul_comm] at this
    exact this.symm
  have hlt : x <<< q < 2 ^ (q + 1) := by
    rw [Nat.shiftLeft_eq, Nat.pow_succ, Nat.mul_comm (2 ^ q) 2]
    have hp : 0 < 2 ^ q := Nat.two_pow_pos q
    calc x * 2 ^ q ≤ 1 * 2 ^ q := Nat.mul_le_mul_right _ hx
      _ < 2 * 2 ^ q := by omega
  have := Nat.shiftLeft_add_eq_or_of_lt hlt (a / (2 * 2 ^ q))
  rw [← e] at this
  rw [← this, Nat.shiftLeft_eq]

end Go.Proofs.YtobpinelhjpfgaaDoor.Bp
end

section
namespace Go.Proofs.YtobpinelhjpfgaaDoor.Bp

/-- The many lowest bits of a number, the highest first. -/
def bitsOf (n : Nat) : Nat → List Bool
  | 0 => []
  | m + 1 => bitsOf (n / 2) m ++ [n % 2 == 1]
theorem bitsOf_length (n m : Nat) : (bitsOf n m).length = m := by
  induction m generalizing n with
  | zero => rfl
  | succ m ih => simp [bitsOf, ih]
theorem bitsOf_succ (n m : Nat) : bitsOf n (m + 1) = bitsOf (n / 2) m ++ [n % 2 == 1] := rfl
/-- The first k + 1 of the bits: one more than the first k. -/
theorem bitsOf_next (n m k : Nat) (h : k < m) : bitsOf (n / 2 ^ (m - (k + 1))) (k + 1) = bitsOf (n / 2 ^ (m - k)) k ++ [n / 2 ^ (m - 1 - k) % 2 == 1] := by
  rw [bitsOf_succ, Nat.div_div_eq_div_mul, ← Nat.pow_succ, show (m - (k + 1)).succ = m - k by omega, show m - (k + 1) = m - 1 - k by omega]
theorem bn_mod (n : Nat) : bn (n % 2 == 1) = n % 2 := by
  have : n % 2 = 0 ∨ n % 2 = 1 := by omega
  rcases this with h | h <;> simp [h, bn]

end Go.Proofs.YtobpinelhjpfgaaDoor.Bp
end

section
namespace Go.Proofs.YtobpinelhjpfgaaDoor.Bp

/-- How many bits 0 stand ahead of a count. -/
def kz (n : Nat) : Nat := Nat.log2 (n + 1)
/-- A count's bits. -/
def countBits (n : Nat) : List Bool := List.replicate (kz n) false ++ bitsOf (n + 1) (kz n + 1)
theorem kz_le (n : Nat) : 2 ^ kz n ≤ n + 1 := Nat.log2_self_le (by omega)
theorem kz_lt (n : Nat) : n + 1 < 2 ^ (kz n + 1) := Nat.lt_log2_self
theorem kz_63 (n : Nat) (h : n + 1 < 18446744073709551616) : kz n ≤ 63 := by
  rcases Nat.lt_or_ge 63 (kz n) with h' | h'
  · have h1 := kz_le n
    have h2 : (2 : Nat) ^ 64 ≤ 2 ^ kz n := Nat.pow_le_pow_right (by decide) h'
    have h3 : (2 : Nat) ^ 64 = 18446744073709551616 := by decide
    omega
  · exact h'
theorem countBits_length (n : Nat) : (countBits n).length = 2 * kz n + 1 := by simp [countBits, bitsOf_length]; omega
theorem bitsOf_zero (m : Nat) : bitsOf 0 m = List.replicate m false := by
  induction m with
  | zero => rfl
  | succ m ih => rw [bitsOf_succ, Nat.zero_div, ih, List.replicate_succ']; rfl
/-- A number between two powers has just so many bits. -/
theorem pow_unique (a b x : Nat) (h1 : 2 ^ a ≤ x) (h2 : x < 2 ^ (a + 1)) (h3 : 2 ^ b ≤ x) (h4 : x < 2 ^ (b + 1)) : a = b := by
  rcases Nat.lt_trichotomy a b with h | h | h
  · have : (2 : Nat) ^ (a + 1) ≤ 2 ^ b := Nat.pow_le_pow_right (by decide) h
    omega
  · exact h
  · have : (2 : Nat) ^ (b + 1) ≤ 2 ^ a := Nat.pow_le_pow_right (by decide) h
    omega

end Go.Proofs.YtobpinelhjpfgaaDoor.Bp
end

section
namespace Go.Proofs.YtobpinelhjpfgaaDoor
open Go.RowKit Bp

theorem Tryd.infoU8 : (Tryd.prog.info? 5).map (fun i => (i.zero, i.size, i.bytes)) = some (some (.int .u8 0), 1, 1) := by kernel_rfl

/-- The bytes' cells. -/
def bc (l : List Nat) : List Value := l.map fun n : Nat => Value.int .u8 (n : Int)
theorem bc_length (l : List Nat) : (bc l).length = l.length := by simp [bc]

/-- A writer lies in block b, its bytes at v, and has laid the bits bs. -/
structure Wr (w : World) (b : Nat) (v : Value) (bs : List Bool) : Prop where
  box : w.heap[b]? = some (.cells #[v, .int .i64 (bs.length : Int)] 153 (0, 0))
  row : w.ownsRow (b + 1) 5 1 v (nb bs.length) (bc (pack bs))
  few : bs.length ≤ 1048576
/-- The writer's blocks. -/
def WF (b : Nat) (v : Value) : Nat → Prop := fun k => k = b ∨ v.ownBlock = some k

theorem newWriter_any (w : World) :
    Calls Tryd.prog 86 #[] w fun e w' => e = .returned (.pointer (some ⟨w.heap.size, 0, none⟩)) ∧ w' = w.alloc (.cells #[.slice none 0 0, .int .i64 0] 153) := by
  go_enter Tryd.func86, Tryd.ntmps86
  go_wp2
  go_ret
  exact ⟨rfl, rfl⟩

theorem fitsWord_any (m : Int) (w : World) :
    Calls Tryd.prog 103 #[.int .i64 m] w fun e w' => e = .returned (.bool (decide (0 ≤ m) && decide (m ≤ 64))) ∧ w = w' := by
  by_cases h1 : 0 ≤ m <;> by_cases h2 : m ≤ 64 <;> go_enter Tryd.func103, Tryd.ntmps103 <;> go_wp2 <;> go_ret <;> exact ⟨by simp [h1, h2], rfl⟩

theorem hasRoom_any (b : Nat) (m n : Int) (w : World) (hc : w.cell? ⟨b, 1, none⟩ = some (.int .i64 n)) (h0 : 0 ≤ n) (h1 : n ≤ 1048576) :
    Calls Tryd.prog 108 #[.pointer (some ⟨b, 0, none⟩), .int .i64 m] w fun e w' => e = .returned (.bool (decide (m ≤ 1048576 - n))) ∧ w = w' := by
  go_enter Tryd.func108, Tryd.ntmps108
  go_wp2
  go_ret
  exact ⟨rfl, rfl⟩

theorem Wr.cells {w : World} {b : Nat} {v : Value} {bs : List Bool} (h : Wr w b v bs) :
    w.cell? ⟨b, 0, none⟩ = some v ∧ w.cell? ⟨b, 1, none⟩ = some (.int .i64 (bs.length : Int)) ∧ w.frozen? ⟨b, 0, none⟩ = false ∧ w.frozen? ⟨b, 1, none⟩ = false :=
  ⟨by rw [cell_of_row w b 0 _ _ _ h.box]; rfl, by rw [cell_of_row w b 1 _ _ _ h.box]; rfl, frozen_of_row w b 0 _ _ h.box, frozen_of_row w b 1 _ _ h.box⟩

/-- How a bit is laid at the beginning of a byte. -/
def LaidNew (w : World) (b n x : Nat) (v : Value) (ys : List Value) (w' : World) : Prop :=
  ∃ w1 g cap, w1.ownsRow (b + 1) 5 1 (.slice (some ⟨g, 0, none⟩) (n / 8 + 1) cap) (n / 8 + 1) (ys ++ [.int .u8 0]) ∧ (w.alloc (.cells #[.int .u8 0] 5)).grownBy w1 v.ownBlock ∧ b + 1 ≤ g ∧ (v.ownBlock = some g ∨ w.heap.size ≤ g) ∧
    w' = (((w1.setCell ⟨b, 0, none⟩ (.slice (some ⟨g, 0, none⟩) (n / 8 + 1) cap)).setCell ⟨g, n / 8, none⟩ (.int .u8 ((x * 128 : Nat) : Int))).setCell ⟨b, 1, none⟩ (.int .i64 ((n : Int) + 1))).drew

theorem or_new (x : Nat) (hx : x ≤ 1) : bits BinOp.or IntKind.u8 0 ((x : Int) * 128 % 256) = ((x * 128 : Nat) : Int) := by
  have : x = 0 ∨ x = 1 := by omega
  rcases this with rfl | rfl <;> decide

set_option maxHeartbeats 400000 in
theorem lay_new (b n : Nat) (x : Nat) (hx : x ≤ 1) (v : Value) (ys : List Value) (w : World) (hn : n % 8 = 0) (hlt : n < 1048576)
    (c0 : w.cell? ⟨b, 0, none⟩ = some v) (c1 : w.cell? ⟨b, 1, none⟩ = some (.int .i64 (n : Int))) (f0 : w.frozen? ⟨b, 0, none⟩ = false) (f1 : w.frozen? ⟨b, 1, none⟩ = false)
    (hb : b < w.heap.size) (hown : w.ownsRow (b + 1) 5 1 v (n / 8) ys) :
    Calls Tryd.prog 110 #[.pointer (some ⟨b, 0, none⟩), .int .u8 (x : Int)] w fun e w' => e = .returned (.tuple #[]) ∧ LaidNew w b n x v ys w' := by
  obtain ⟨i0, hi, hz0, hz1, hz2⟩ := info_parts Tryd.infoU8
  have ht : (((n : Int) % 8) == 0) = true := by rw [beq_iff_eq]; omega
  go_enter Tryd.func110, Tryd.ntmps110
  go_wp2_with (at_builtin; refine wpList_append_own_at _ rfl _ _ 35 rfl (b + 1) 5 i0 (.int .u8 0) 1 1 Tryd.underlying35 hi hz0 hz1 hz2 rfl (by decide) _ _ _ rfl (hown.alloc _) ⟨w.heap.size, 0, none⟩ 1 1 [.int .u8 0] rfl rfl ?c1 ?c2 ?c3 ?c4 ?c5 ?_)
  case c1 =>
    intro j u hj
    match j, hj with
    | 0, hj => simp at hj; subst hj; simp [Addr.add]
  case c2 => intro u hu; simp at hu; subst hu; rfl
  case c3 => unfold maxLen; omega
  case c4 => omega
  case c5 => simp; omega
  intro v' w1 hown' hgrow hne hat
  have hbr : some b ≠ v.ownBlock := fun e => by have := (hown.lt b e.symm).1; omega
  have hblk := grown_old hgrow hb hbr
  have d0 : w1.cell? ⟨b, 0, none⟩ = some v := (World.cell?_of_block (a := ⟨b, 0, none⟩) hblk).trans c0
  have d1 : w1.cell? ⟨b, 1, none⟩ = some (.int .i64 (n : Int)) := (World.cell?_of_block (a := ⟨b, 1, none⟩) hblk).trans c1
  have e0 : w1.frozen? ⟨b, 0, none⟩ = false := (World.frozen?_of_block (a := ⟨b, 0, none⟩) hblk).trans f0
  have e1 : w1.frozen? ⟨b, 1, none⟩ = false := (World.frozen?_of_block (a := ⟨b, 1, none⟩) hblk).trans f1
  obtain ⟨g, cap, hv', hbg⟩ : ∃ g cap, v' = .slice (some ⟨g, 0, none⟩) (n / 8 + 1) cap ∧ b + 1 ≤ g := by
    rcases hown'.2 with ⟨h, _⟩ | ⟨g, cap, cur, h, hg, _⟩
    · exact absurd h hne
    · exact ⟨g, cap, h, hg⟩
  subst hv'
  have hat' : v.ownBlock = some g ∨ w.heap.size ≤ g := by
    rcases hat with h | h
    · exact .inl h.symm
    · have : g = w.heap.size + 1 := by simpa [Value.ownBlock] using h
      exact .inr (by omega)
  have HAT := Lib.hid hat'
  clear hat hat'
  have d2 : w1.cell? ⟨g, n / 8, none⟩ = some (.int .u8 0) := by rw [hown'.cellAt _ (by omega)]; have := hown.1; simp at this; rw [List.getElem?_append_right (by omega)]; simp [this]
  have e2 : w1.frozen? ⟨g, n / 8, none⟩ = false := hown'.frozenAt _
  have hgb : ¬ g = b := by omega
  have hbg' : ¬ b = g := by omega
  have HO := Lib.hid hown'
  have HG := Lib.hid hgrow
  clear hown' hgrow hne hown hblk hbr c0 c1 f0 f1
  go_wp2
  have q0 : ((n : Int) / 8).toNat = n / 8 := by omega
  have q1 : (0 : Int) ≤ (n : Int) / 8 := by omega
  have q2 : (n : Int) / 8 < ((n / 8 + 1 : Nat) : Int) := by omega
  have q3 : (0 : Int) ≤ (n : Int) % 8 := by omega
  have q4 : (n : Int) % 8 ≤ 7 := by omega
  go_region
  go_wp2
  go_end0
  exact ⟨rfl, w1, g, cap, HO.out, HG.out, hbg, HAT.out, by rw [or_new x hx]⟩

/-- How a bit is laid within a byte. -/
def LaidIn (w : World) (b n x g y : Nat) (w' : World) : Prop :=
  w' = ((w.setCell ⟨g, n / 8, none⟩ (.int .u8 ((y + x * pw (n % 8) : Nat) : Int))).setCell ⟨b, 1, none⟩ (.int .i64 ((n : Int) + 1))).drew

theorem or_in (y x q : Nat) (hx : x ≤ 1) (hq : q ≤ 7) (hy : y % (2 * 2 ^ q) = 0) (hy2 : y ≤ 255) : bits BinOp.or IntKind.u8 (y : Int) ((x : Int) * 2 ^ q % 256) = ((y + x * 2 ^ q : Nat) : Int) := by
  have hp : (2 : Nat) ^ q ≤ 128 := by
    have : (2 : Nat) ^ q ≤ 2 ^ 7 := Nat.pow_le_pow_right (by decide) hq
    simpa using this
  have hxq : x * 2 ^ q ≤ 128 := by
    have := Nat.mul_le_mul_right (2 ^ q) hx
    omega
  have e : ((x : Int) * 2 ^ q % 256) = ((x * 2 ^ q : Nat) : Int) := by
    have : ((x * 2 ^ q : Nat) : Int) = (x : Int) * 2 ^ q := by simp
    rw [← this]; omega
  rw [e, u8_or_nat y (x * 2 ^ q) (by omega) (by omega), ← Nat.shiftLeft_eq, lor_add y q x hy hx, Nat.shiftLeft_eq]

set_option maxHeartbeats 400000 in
theorem lay_in (b n : Nat) (x y g cap : Nat) (hx : x ≤ 1) (w : World) (hn : n % 8 ≠ 0) (hlt : n < 1048576) (hy : y % (2 * pw (n % 8)) = 0) (hy2 : y ≤ 255)
    (c0 : w.cell? ⟨b, 0, none⟩ = some (.slice (some ⟨g, 0, none⟩) (n / 8 + 1) cap)) (c1 : w.cell? ⟨b, 1, none⟩ = some (.int .i64 (n : Int))) (f0 : w.frozen? ⟨b, 0, none⟩ = false) (f1 : w.frozen? ⟨b, 1, none⟩ = false)
    (hbg : b + 1 ≤ g) (d2 : w.cell? ⟨g, n / 8, none⟩ = some (.int .u8 (y : Int))) (e2 : w.frozen? ⟨g, n / 8, none⟩ = false) :
    Calls Tryd.prog 110 #[.pointer (some ⟨b, 0, none⟩), .int .u8 (x : Int)] w fun e w' => e = .returned (.tuple #[]) ∧ LaidIn w b n x g y w' := by
  have ht : (((n : Int) % 8) == 0) = false := by rw [beq_eq_false_iff_ne]; omega
  have hgb : ¬ g = b := by omega
  have hbg' : ¬ b = g := by omega
  have q0 : ((n : Int) / 8).toNat = n / 8 := by omega
  have q1 : (0 : Int) ≤ (n : Int) / 8 := by omega
  have q2 : (n : Int) / 8 < ((n / 8 + 1 : Nat) : Int) := by omega
  have q3 : (0 : Int) ≤ (n : Int) % 8 := by omega
  have q4 : (n : Int) % 8 ≤ 7 := by omega
  have HY := Lib.hid hy
  clear hy
  go_enter Tryd.func110, Tryd.ntmps110
  go_wp2
  go_region
  go_wp2
  go_end0
  exact ⟨rfl, by rw [or_in y x (7 - n % 8) hx (by omega) HY.out hy2]; rfl⟩

theorem bc_set (l : List Nat) (i y : Nat) : (bc l).set i (.int .u8 (y : Int)) = bc (l.set i y) := by simp [bc, List.map_set]
theorem bc_app (l k : List Nat) : bc (l ++ k) = bc l ++ bc k := by simp [bc]
theorem set_last (l : List Value) (a u : Value) (i : Nat) (h : i = l.length) : (l ++ [a]).set i u = l ++ [u] := by subst h; simp

theorem wr_new {w w' : World} {b : Nat} {v : Value} {bs : List Bool} (x : Bool) (h : Wr w b v bs) (hlt : bs.length < 1048576) (hn : bs.length % 8 = 0)
    (hl : LaidNew w b bs.length (bn x) v (bc (pack bs)) w') : ∃ v', Wr w' b v' (bs ++ [x]) ∧ Turn (WF b v) (WF b v') w w' := by
  obtain ⟨w1, g, cap, ho, hg, hbg, hgg, rfl⟩ := hl
  have hb : b < w.heap.size := lt_of_heap h.box
  have hbr : some b ≠ v.ownBlock := fun e => by have := (h.row.lt b e.symm).1; omega
  have hbox : w1.heap[b]? = some (.cells #[v, .int .i64 (bs.length : Int)] 153 (0, 0)) := (grown_old hg hb hbr).trans h.box
  refine ⟨.slice (some ⟨g, 0, none⟩) (bs.length / 8 + 1) cap, ⟨?_, ?_, by simp; omega⟩, ?_⟩
  · have s1 := heap_setCell_same w1 b 0 _ _ (.slice (some ⟨g, 0, none⟩) (bs.length / 8 + 1) cap) hbox
    have s2 := (heap_setCell_other (w1.setCell ⟨b, 0, none⟩ (.slice (some ⟨g, 0, none⟩) (bs.length / 8 + 1) cap)) ⟨g, bs.length / 8, none⟩ b (.int .u8 ((bn x * 128 : Nat) : Int)) (by simp; omega)).trans s1
    have s3 := heap_setCell_same _ b 1 _ _ (.int .i64 ((bs.length : Int) + 1)) s2
    show (((w1.setCell _ _).setCell _ _).setCell _ _).heap[b]? = _
    rw [s3]; simp
  · have r1 := ownsRow_setCell_below ho (a := ⟨b, 0, none⟩) (by simp) (.slice (some ⟨g, 0, none⟩) (bs.length / 8 + 1) cap)
    have r2 := (r1.stored (bs.length / 8) (.int .u8 ((bn x * 128 : Nat) : Int))).1
    have r3 := ownsRow_setCell_below r2 (a := ⟨b, 1, none⟩) (by simp) (.int .i64 ((bs.length : Int) + 1))
    have e1 : nb (bs ++ [x]).length = bs.length / 8 + 1 := by simp [nb]; omega
    rw [e1, pack_snoc_new bs x hn, bc_app]
    rw [set_last _ _ _ _ (by rw [bc_length, pack_length]; simp [nb]; omega)] at r3
    exact r3
  · have t1 : Turn (WF b v) (WF b v) w (w.alloc (.cells #[.int .u8 0] 5)) := Turn.alloc _ _
    have t2 : Turn (WF b v) (WF b v) (w.alloc (.cells #[.int .u8 0] 5)) w1 := Turn.grown hg (fun k hk => .inr hk)
    have t3 : Turn (WF b v) (WF b (.slice (some ⟨g, 0, none⟩) (bs.length / 8 + 1) cap)) w w1 := (t1.trans t2).sub fun k hk => by
      rcases hk with hk | hk
      · exact .inl (.inl hk)
      · have : k = g := by simpa [Value.ownBlock] using hk.symm
        subst this
        rcases hgg with e | e
        · exact .inl (.inr e)
        · exact .inr e
    have p1 : WF b (.slice (some ⟨g, 0, none⟩) (bs.length / 8 + 1) cap) b := .inl rfl
    have p2 : WF b (.slice (some ⟨g, 0, none⟩) (bs.length / 8 + 1) cap) g := .inr rfl
    exact (((t3.put _ p1).put _ p2).put _ p1).drew

theorem wr_in {w w' : World} {b g cap : Nat} {bs : List Bool} (x : Bool) (h : Wr w b (.slice (some ⟨g, 0, none⟩) (bs.length / 8 + 1) cap) bs) (hlt : bs.length < 1048576) (hn : bs.length % 8 ≠ 0) (hbg : b + 1 ≤ g)
    (hl : LaidIn w b bs.length (bn x) g (byteAt bs (bs.length / 8)) w') : Wr w' b (.slice (some ⟨g, 0, none⟩) (bs.length / 8 + 1) cap) (bs ++ [x]) ∧ Turn (WF b (.slice (some ⟨g, 0, none⟩) (bs.length / 8 + 1) cap)) (WF b (.slice (some ⟨g, 0, none⟩) (bs.length / 8 + 1) cap)) w w' := by
  unfold LaidIn at hl
  subst hl
  have e0 : nb bs.length = bs.length / 8 + 1 := by simp [nb]; omega
  have e1 : nb (bs ++ [x]).length = bs.length / 8 + 1 := by simp [nb]; omega
  refine ⟨⟨?_, ?_, by simp; omega⟩, ?_⟩
  · have s2 := (heap_setCell_other w ⟨g, bs.length / 8, none⟩ b (.int .u8 ((byteAt bs (bs.length / 8) + bn x * pw (bs.length % 8) : Nat) : Int)) (by simp; omega)).trans h.box
    have s3 := heap_setCell_same _ b 1 _ _ (.int .i64 ((bs.length : Int) + 1)) s2
    show ((w.setCell _ _).setCell _ _).heap[b]? = _
    rw [s3]; simp
  · have r0 := h.row
    rw [e0] at r0
    have r2 := (r0.stored (bs.length / 8) (.int .u8 ((byteAt bs (bs.length / 8) + bn x * pw (bs.length % 8) : Nat) : Int))).1
    have r3 := ownsRow_setCell_below r2 (a := ⟨b, 1, none⟩) (by simp) (.int .i64 ((bs.length : Int) + 1))
    rw [e1, pack_snoc_in bs x hn, ← bc_set]
    exact r3
  · have p1 : WF b (.slice (some ⟨g, 0, none⟩) (bs.length / 8 + 1) cap) b := .inl rfl
    have p2 : WF b (.slice (some ⟨g, 0, none⟩) (bs.length / 8 + 1) cap) g := .inr rfl
    exact (((Turn.refl _ w).put _ p2).put _ p1).drew

/-- A bit is laid. -/
theorem lay_any (b : Nat) (x : Bool) (v : Value) (bs : List Bool) (w : World) (h : Wr w b v bs) (hlt : bs.length < 1048576) :
    Calls Tryd.prog 110 #[.pointer (some ⟨b, 0, none⟩), .int .u8 (bn x : Int)] w fun e w' => e = .returned (.tuple #[]) ∧ ∃ v', Wr w' b v' (bs ++ [x]) ∧ Turn (WF b v) (WF b v') w w' := by
  obtain ⟨c0, c1, f0, f1⟩ := h.cells
  by_cases hn : bs.length % 8 = 0
  · have e0 : nb bs.length = bs.length / 8 := by simp [nb]; omega
    have r0 := h.row
    rw [e0] at r0
    refine (lay_new b bs.length (bn x) (bn_le x) v (bc (pack bs)) w hn hlt c0 c1 f0 f1 (lt_of_heap h.box) r0).mono ?_
    rintro e w' ⟨he, hl⟩
    exact ⟨he, wr_new x h hlt hn hl⟩
  · have e0 : nb bs.length = bs.length / 8 + 1 := by simp [nb]; omega
    have r0 := h.row
    rw [e0] at r0
    obtain ⟨g, cap, hv, hbg⟩ : ∃ g cap, v = .slice (some ⟨g, 0, none⟩) (bs.length / 8 + 1) cap ∧ b + 1 ≤ g := by
      rcases r0.2 with ⟨_, h⟩ | ⟨g, cap, cur, h, hg, _⟩
      · omega
      · exact ⟨g, cap, h, hg⟩
    subst hv
    have d2 : w.cell? ⟨g, bs.length / 8, none⟩ = some (.int .u8 (byteAt bs (bs.length / 8) : Int)) := by
      rw [r0.cellAt _ (by omega)]
      simp [bc, pack_get bs _ (show bs.length / 8 < nb bs.length by omega)]
    refine (lay_in b bs.length (bn x) (byteAt bs (bs.length / 8)) g cap (bn_le x) w hn hlt (byteAt_room bs) (byteAt_le _ _) c0 c1 f0 f1 hbg d2 (r0.frozenAt _)).mono ?_
    rintro e w' ⟨he, hl⟩
    exact ⟨he, _, wr_in x h hlt hn hbg hl⟩

end Go.Proofs.YtobpinelhjpfgaaDoor
end

section
namespace Go.Proofs.YtobpinelhjpfgaaDoor
open Go.RowKit Bp

/-- The method lay of the writer in block b, as a value. -/
def layOf (b : Nat) : Value := .func (.func 110) #[.pointer (some ⟨b, 0, none⟩)] #[]

theorem lay_bit (b : Nat) (y : Int) (x : Bool) (v : Value) (bs : List Bool) (w : World) (h : Wr w b v bs) (hlt : bs.length < 1048576) (hy : y = bn x) :
    Calls Tryd.prog 110 #[.pointer (some ⟨b, 0, none⟩), .int .u8 y] w fun e w' => e = .returned (.tuple #[]) ∧ ∃ v', Wr w' b v' (bs ++ [x]) ∧ Turn (WF b v) (WF b v') w w' := by
  subst hy; exact lay_any b x v bs w h hlt

/-- What laying bits comes to: the writer in block b holds them behind what it held. -/
def Lays (w : World) (b : Nat) (v : Value) (bs more : List Bool) (w' : World) : Prop := ∃ v', Wr w' b v' (bs ++ more) ∧ Turn (WF b v) (WF b v') w w'
theorem Lays.refl {w : World} {b : Nat} {v : Value} {bs : List Bool} (h : Wr w b v bs) : Lays w b v bs [] w := ⟨v, by simpa using h, Turn.refl _ _⟩

theorem low_bit (n q : Nat) (hn : n < 18446744073709551616) : bits BinOp.and IntKind.u64 ((n : Int) / 2 ^ q) 1 % 256 = (bn (n / 2 ^ q % 2 == 1) : Int) := by
  have e : ((n : Int) / 2 ^ q) = ((n / 2 ^ q : Nat) : Int) := by simp
  have hle : n / 2 ^ q ≤ n := Nat.div_le_self _ _
  have e2 := u64_and_nat (n / 2 ^ q) 1 (by omega) (by omega)
  rw [e, bn_mod]
  have e3 : ((1 : Nat) : Int) = 1 := rfl
  rw [e3] at e2
  rw [e2, Nat.and_one_is_mod]
  omega

set_option maxHeartbeats 400000 in
theorem spread_any (b n many : Nat) (v : Value) (bs : List Bool) (w : World) (h : Wr w b v bs) (hn : n < 18446744073709551616) (hm : many ≤ 64) (hlt : bs.length + many ≤ 1048576) :
    Calls Tryd.prog 109 #[.int .u64 (n : Int), .int .i64 (many : Int), .func (.func 110) #[.pointer (some ⟨b, 0, none⟩)] #[]] w fun e w' => e = .returned (.tuple #[]) ∧ Lays w b v bs (bitsOf n many) w' := by
  go_enter Tryd.func109, Tryd.ntmps109
  go_wp2
  go_loopw [6] (fun i wr => ∃ k : Nat, k ≤ many ∧ i = .int .i64 ((many : Int) - 1 - (k : Int)) ∧ Lays w b v bs (bitsOf (n / 2 ^ (many - k)) k) wr) (fun i _ => (intOf i + 1).toNat)
  case atStart => exact ⟨0, Nat.zero_le _, by simp, Lays.refl h⟩
  case round =>
    obtain ⟨k, hk, rfl, v1, hw1, ht1⟩ := hrel
    have hl1 : (bs ++ bitsOf (n / 2 ^ (many - k)) k).length = bs.length + k := by simp [bitsOf_length]
    have HL := Lib.hid hl1
    clear hl1
    by_cases hlt' : k < many
    · have hy := low_bit n (many - 1 - k) hn
      have HY := Lib.hid hy
      clear hy
      go_wp2_with fail
      refine (lay_bit b _ (n / 2 ^ (many - 1 - k) % 2 == 1) v1 _ wr hw1 (by rw [HL.out]; omega) HY.out).mono ?_
      rintro e w' ⟨rfl, v2, hw2, ht2⟩
      have R : Lays w b v bs (bitsOf (n / 2 ^ (many - (k + 1))) (k + 1)) w' := by
        refine ⟨v2, ?_, ht1.trans ht2⟩
        rw [bitsOf_next n many k hlt', ← List.append_assoc]
        exact hw2
      clear hw1 ht1 hw2 ht2 HY HL
      go_wp2
      go_roundw
      case rel => exact ⟨k + 1, by omega, by go_num, R⟩
      case measure => simp [intOf]; omega
    · have hkm : k = many := by omega
      subst hkm
      go_wp2
      go_end0
      refine ⟨rfl, v1, ?_, ht1⟩
      simpa using hw1

end Go.Proofs.YtobpinelhjpfgaaDoor
end

section
namespace Go.Proofs.YtobpinelhjpfgaaDoor
open Go.RowKit Bp

theorem put_arg (b : Nat) (n m : Int) (w : World) (hm : m < 0 ∨ 64 < m) :
    Calls Tryd.prog 81 #[.pointer (some ⟨b, 0, none⟩), .int .u64 n, .int .i64 m] w fun e w' => e = .returned (.int .i64 1) ∧ w = w' := by
  have hf : (decide (0 ≤ m) && decide (m ≤ 64)) = false := by
    rw [Bool.and_eq_false_iff]; rcases hm with h | h
    · exact .inl (by simpa using h)
    · exact .inr (by simpa using h)
  have hc := fitsWord_any m
  rw [hf] at hc
  have HC := Lib.hid hc
  clear hc hf
  go_enter Tryd.func81, Tryd.ntmps81
  go_wp2_with (go_at_call 103; refine (HC.out _).mono ?_; rintro e w' ⟨rfl, rfl⟩)
  go_ret
  exact ⟨rfl, rfl⟩

theorem put_long (b m : Nat) (n : Int) (v : Value) (bs : List Bool) (w : World) (h : Wr w b v bs) (hm : m ≤ 64) (hl : 1048576 < bs.length + m) :
    Calls Tryd.prog 81 #[.pointer (some ⟨b, 0, none⟩), .int .u64 n, .int .i64 (m : Int)] w fun e w' => e = .returned (.int .i64 4) ∧ w = w' := by
  have hf : (decide (0 ≤ (m : Int)) && decide ((m : Int) ≤ 64)) = true := by simp; omega
  have hc := fitsWord_any m
  rw [hf] at hc
  have HC := Lib.hid hc
  have hr : decide ((m : Int) ≤ 1048576 - (bs.length : Int)) = false := by simp; omega
  have hd := hasRoom_any b m bs.length w h.cells.2.1 (by omega) (by have := h.few; omega)
  rw [hr] at hd
  have HD := Lib.hid hd
  clear hc hf hd hr
  go_enter Tryd.func81, Tryd.ntmps81
  go_wp2_with (first | (go_at_call 103; refine (HC.out _).mono ?_; rintro e w' ⟨rfl, rfl⟩) | (go_at_call 108; refine HD.out.mono ?_; rintro e w' ⟨rfl, rfl⟩))
  go_ret
  exact ⟨rfl, rfl⟩

theorem put_ok (b n m : Nat) (v : Value) (bs : List Bool) (w : World) (h : Wr w b v bs) (hn : n < 18446744073709551616) (hm : m ≤ 64) (hl : bs.length + m ≤ 1048576) :
    Calls Tryd.prog 81 #[.pointer (some ⟨b, 0, none⟩), .int .u64 (n : Int), .int .i64 (m : Int)] w fun e w' => e = .returned (.int .i64 0) ∧ Lays w b v bs (bitsOf n m) w' := by
  have hf : (decide (0 ≤ (m : Int)) && decide ((m : Int) ≤ 64)) = true := by simp; omega
  have hc := fitsWord_any m
  rw [hf] at hc
  have HC := Lib.hid hc
  have hr : decide ((m : Int) ≤ 1048576 - (bs.length : Int)) = true := by simp; omega
  have hd := hasRoom_any b m bs.length w h.cells.2.1 (by omega) (by have := h.few; omega)
  rw [hr] at hd
  have HD := Lib.hid hd
  have HS := Lib.hid (spread_any b n m v bs w h hn hm hl)
  clear hc hf hd hr
  go_enter Tryd.func81, Tryd.ntmps81
  go_wp2_with (first | (go_at_call 103; refine (HC.out _).mono ?_; rintro e w' ⟨rfl, rfl⟩) | (go_at_call 108; refine HD.out.mono ?_; rintro e w' ⟨rfl, rfl⟩) | (go_at_call 109; refine HS.out.mono ?_; rintro e w' ⟨rfl, hL⟩))
  go_ret
  exact ⟨rfl, by assumption⟩


theorem Tryd.bytesNil (w : World) (a : Option Addr) (n c n' c' : Nat) : (binOp .eql 35 (.slice a n c) (.slice none n' c')).run Tryd.prog w = .ok (.bool a.isNone) w := Lib.run_eql_slice_nil w _ _ a n c n' c' Tryd.underlying35

/-- A copy of bytes: new memory, the same bytes. -/
theorem clone_nil (w : World) : Calls Tryd.prog 102 #[.slice none 0 0] w fun e w' => e = .returned (.slice none 0 0) ∧ w = w' := by
  have hq := Tryd.bytesNil
  go_enter Tryd.func102, Tryd.ntmps102
  go_wp2
  go_ret
  exact ⟨rfl, rfl⟩

theorem clone_any (a : Addr) (n cap : Nat) (xs : List Value) (w : World) (hl : xs.length = n) (hx : ∀ j u, xs[j]? = some u → w.cell? (a.add j) = some u) (h1 : ∀ u ∈ xs, u.oneCell' = true) (hn : n ≤ 1048576) :
    Calls Tryd.prog 102 #[.slice (some a) n cap] w fun e w' => ∃ v, e = .returned v ∧ w'.ownsRow w.heap.size 5 1 v n xs ∧ Below w.heap.size w w' := by
  obtain ⟨i0, hi, hz0, hz1, hz2⟩ := info_parts Tryd.infoU8
  have hq := Tryd.bytesNil
  have HX := Lib.hid hx
  have HL := Lib.hid hl
  have H1 := Lib.hid h1
  clear hx hl h1
  have ho : (w.alloc (.cells #[] 5)).ownsRow w.heap.size 5 1 (.slice (some ⟨w.heap.size, 0, none⟩) 0 0) 0 [] := World.ownsRow_made w #[] 0 (Nat.le_refl _) (Nat.zero_le _) rfl
  have HO := Lib.hid ho
  clear ho
  have hx' : ∀ j u, xs[j]? = some u → (w.alloc (.cells #[] 5)).cell? (a.add j) = some u := fun j u hj => by
    have := HX.out j u hj
    rw [World.cell?_alloc_lt _ _ _ (World.block_lt_of_cell? w _ this)]; exact this
  have HX' := Lib.hid hx'
  clear hx'
  go_enter Tryd.func102, Tryd.ntmps102
  go_wp2_with (at_builtin; refine wpList_append_own_at _ rfl _ _ 35 rfl w.heap.size 5 i0 (.int .u8 0) 1 1 Tryd.underlying35 hi hz0 hz1 hz2 rfl (by decide) _ _ _ rfl HO.out a n cap xs rfl (by rw [HL.out]; omega) HX'.out H1.out (by unfold maxLen; omega) (by omega) (by simp) ?_; intro v' w1 hown' hgrow hne hat)
  have R : w1.ownsRow w.heap.size 5 1 v' n xs := by simpa using hown'
  have hrow : ∀ k, (Value.slice (some ⟨w.heap.size, 0, none⟩) 0 0).ownBlock = some k → w.heap.size ≤ k := fun k hk => by
    have : w.heap.size = k := by simpa [Value.ownBlock] using hk
    omega
  have RB : Below w.heap.size w w1 := Below.grown (Below.alloc (Below.refl _ w) (Nat.le_refl _) _) hgrow (by simp) hrow
  clear hown' hgrow hne hat
  go_wp2
  go_ret
  exact ⟨v', rfl, R, RB⟩

/-- Out: the writer's bytes, in new memory. -/
theorem out_any (b : Nat) (v : Value) (bs : List Bool) (w : World) (h : Wr w b v bs) :
    Calls Tryd.prog 85 #[.pointer (some ⟨b, 0, none⟩)] w fun e w' => ∃ v', e = .returned v' ∧ w'.ownsRow w.heap.size 5 1 v' (nb bs.length) (bc (pack bs)) ∧ Below w.heap.size w w' := by
  have c0 := h.cells.1
  have hf := h.few
  have hn : nb bs.length ≤ 1048576 := by unfold nb; omega
  rcases h.row.2 with ⟨rfl, hz⟩ | ⟨g, cap, cur, rfl, hg, hh, hnc, hcm, hcs, htake⟩
  · have hp : bc (pack bs) = [] := List.eq_nil_of_length_eq_zero (by rw [bc_length, pack_length, hz])
    have HZ := Lib.hid hz
    have HP := Lib.hid hp
    have HC := Lib.hid (clone_nil w)
    clear hz hp hf hn h
    go_enter Tryd.func85, Tryd.ntmps85
    go_wp2_with (go_at_call 102; refine HC.out.mono ?_; rintro e w' ⟨rfl, rfl⟩)
    go_ret
    exact ⟨_, rfl, by rw [HZ.out, HP.out]; exact World.ownsRow_nil _ _ _ _, Below.refl _ _⟩
  · have hx := h.row.cells (g := g) rfl
    have h1 : ∀ u ∈ bc (pack bs), u.oneCell' = true := by
      intro u hu
      simp only [bc, List.mem_map] at hu
      obtain ⟨x, _, rfl⟩ := hu
      rfl
    have HC := Lib.hid (clone_any ⟨g, 0, none⟩ (nb bs.length) cap (bc (pack bs)) w (by rw [bc_length, pack_length]) hx h1 hn)
    clear hx h1 hf hn h hh hcs htake hnc hcm
    go_enter Tryd.func85, Tryd.ntmps85
    go_wp2_with (go_at_call 102; refine HC.out.mono ?_; rintro e w' ⟨v', rfl, hR, hB⟩)
    go_ret
    exact ⟨_, rfl, by assumption, by assumption⟩

end Go.Proofs.YtobpinelhjpfgaaDoor
end
