/-
  Plain facts on the check sum: a register of 16 bits that is shifted, linear over xor, one to one; and what follows for runs of other bits. No Go text here.
  Bytes that lie at a slice, of whatever make: cut, kept, read, told as a string.
  The check sum: contracts.
  Numbers of two bytes: laid and taken; cuts and copies of bytes.
-/
import Init
import Derived.Test.YtobpinelhjpfgaaDoorBtFiv
import Derived.Test.YtobpinelhjpfgaaDoorBtSix
set_option linter.unusedVariables false
set_option maxRecDepth 100000
section
namespace Go.Proofs.YtobpinelhjpfgaaDoor.Ck

/-- The register moves left by one place; if a bit 1 falls out, it is xored with 1021. -/
def shN (r : Nat) : Nat := (2 * r % 65536) ^^^ (if r.testBit 15 then 4129 else 0)
theorem t4129 (i : Nat) (h : 16 ≤ i) : Nat.testBit 4129 i = false := Nat.testBit_lt_two_pow (Nat.lt_of_lt_of_le (by decide : 4129 < 2 ^ 16) (Nat.pow_le_pow_right (by decide) h))
theorem shN_bit (r i : Nat) : (shN r).testBit i = ((decide (i < 16) && decide (1 ≤ i) && r.testBit (i - 1)) ^^ (r.testBit 15 && Nat.testBit 4129 i)) := by
  unfold shN
  rw [Nat.testBit_xor, show (65536 : Nat) = 2 ^ 16 from rfl, Nat.testBit_mod_two_pow]
  congr 1
  · rw [show 2 * r = r <<< 1 by rw [Nat.shiftLeft_eq]; omega, Nat.testBit_shiftLeft, Bool.and_assoc]
  · cases r.testBit 15 <;> simp
theorem shN_xor (a b : Nat) : shN (a ^^^ b) = shN a ^^^ shN b := by
  apply Nat.eq_of_testBit_eq
  intro i
  rw [Nat.testBit_xor, shN_bit, shN_bit, shN_bit, Nat.testBit_xor, Nat.testBit_xor]
  cases a.testBit 15 <;> cases b.testBit 15 <;> cases a.testBit (i - 1) <;> cases b.testBit (i - 1) <;> cases decide (i < 16) <;> cases decide (1 ≤ i) <;> cases Nat.testBit 4129 i <;> rfl
theorem shN_lt (r : Nat) : shN r < 65536 := by
  rw [show (65536 : Nat) = 2 ^ 16 from rfl]
  apply Nat.lt_pow_two_of_testBit
  intro i hi
  rw [shN_bit, t4129 i hi, decide_eq_false (by omega : ¬ i < 16)]
  cases r.testBit 15 <;> simp
theorem shN_zero : shN 0 = 0 := by decide
theorem shN_small (r : Nat) (h : r < 32768) : shN r = 2 * r := by
  have ht : r.testBit 15 = false := Nat.testBit_lt_two_pow (by simpa using h)
  unfold shN
  rw [ht, if_neg (by simp), Nat.xor_zero, Nat.mod_eq_of_lt (by omega)]
theorem shN_ne (r : Nat) (h : r < 65536) (h0 : r ≠ 0) : shN r ≠ 0 := by
  intro e
  by_cases hs : r < 32768
  · rw [shN_small r hs] at e; omega
  · have ht : r.testBit 15 = true := by
      rw [Nat.testBit_eq_decide_div_mod_eq]
      have h15 : r / 2 ^ 15 = 1 := by
        rw [show (2 : Nat) ^ 15 = 32768 from rfl]
        omega
      rw [h15]; rfl
    have := shN_bit r 0
    rw [e, ht] at this
    simp at this

/-- So many times. -/
def it : Nat → Nat → Nat
  | 0, r => r
  | n + 1, r => it n (shN r)
theorem it_xor (n a b : Nat) : it n (a ^^^ b) = it n a ^^^ it n b := by
  induction n generalizing a b with
  | zero => rfl
  | succ n ih => rw [it, it, it, shN_xor, ih]
theorem it_lt (n r : Nat) (h : r < 65536) : it n r < 65536 := by
  induction n generalizing r with
  | zero => exact h
  | succ n ih => exact ih _ (shN_lt r)
theorem it_ne (n r : Nat) (h : r < 65536) (h0 : r ≠ 0) : it n r ≠ 0 := by
  induction n generalizing r with
  | zero => exact h0
  | succ n ih => exact ih _ (shN_lt r) (shN_ne r h h0)
theorem it_zero (n : Nat) : it n 0 = 0 := by
  induction n with
  | zero => rfl
  | succ n ih => rw [it, shN_zero, ih]
theorem it_add (m n r : Nat) : it (m + n) r = it n (it m r) := by
  induction m generalizing r with
  | zero => rw [Nat.zero_add, it]
  | succ m ih => rw [Nat.succ_add, it, it, ih]
theorem it_succ (n r : Nat) : it (n + 1) r = shN (it n r) := by rw [it_add n 1]; rfl
theorem it_small (n r : Nat) (h : r * 2 ^ n < 65536) : it n r = r * 2 ^ n := by
  induction n generalizing r with
  | zero => simp [it]
  | succ n ih =>
    rw [Nat.pow_succ] at h ⊢
    have hp : 0 < 2 ^ n := Nat.two_pow_pos n
    have e : r * (2 ^ n * 2) = 2 * r * 2 ^ n := by rw [Nat.mul_comm (2 ^ n) 2, ← Nat.mul_assoc, Nat.mul_comm r 2]
    rw [e] at h ⊢
    have hr : r < 32768 := by
      have : 2 * r * 1 ≤ 2 * r * 2 ^ n := Nat.mul_le_mul_left _ hp
      omega
    rw [it, shN_small r hr, ih _ h]

/-- A byte goes through the register. -/
def cb (r x : Nat) : Nat := it 8 (r ^^^ (x * 256))
/-- The register behind bytes, from r on. -/
def reg (r : Nat) (zs : List Nat) : Nat := zs.foldl cb r
/-- The check sum of bytes. -/
def crc (zs : List Nat) : Nat := reg 65535 zs
theorem reg_nil (r : Nat) : reg r [] = r := rfl
theorem reg_cons (r z : Nat) (zs : List Nat) : reg r (z :: zs) = reg (cb r z) zs := rfl
theorem reg_app (r : Nat) (a b : List Nat) : reg r (a ++ b) = reg (reg r a) b := by simp [reg, List.foldl_append]
theorem reg_snoc (r : Nat) (a : List Nat) (z : Nat) : reg r (a ++ [z]) = cb (reg r a) z := by rw [reg_app]; rfl
theorem byte_lt (x : Nat) (h : x ≤ 255) : x * 256 < 65536 := by omega
theorem cb_lt (r x : Nat) (h : r < 65536) (hx : x ≤ 255) : cb r x < 65536 := it_lt 8 _ (Nat.xor_lt_two_pow (n := 16) h (byte_lt x hx))
theorem reg_lt (r : Nat) (zs : List Nat) (h : r < 65536) (hz : ∀ z ∈ zs, z ≤ 255) : reg r zs < 65536 := by
  induction zs generalizing r with
  | nil => exact h
  | cons z zs ih => exact ih _ (cb_lt r z h (hz z (by simp))) (fun x hx => hz x (by simp [hx]))
theorem crc_lt (zs : List Nat) (hz : ∀ z ∈ zs, z ≤ 255) : crc zs < 65536 := reg_lt _ _ (by decide) hz
theorem mul256_xor (x y : Nat) : (x ^^^ y) * 256 = x * 256 ^^^ y * 256 := by
  have h : ∀ z : Nat, z * 256 = z <<< 8 := fun z => by rw [Nat.shiftLeft_eq]
  rw [h, h, h, Nat.shiftLeft_xor_distrib]
theorem cb_xor (r s x y : Nat) : cb (r ^^^ s) (x ^^^ y) = cb r x ^^^ cb s y := by
  unfold cb
  rw [← it_xor, mul256_xor]
  congr 1
  rw [Nat.xor_assoc, Nat.xor_assoc, ← Nat.xor_assoc s, Nat.xor_comm s, Nat.xor_assoc (x * 256)]
/-- Two lists of like length, xored. -/
def xr (a b : List Nat) : List Nat := List.zipWith (· ^^^ ·) a b
theorem reg_xor (r s : Nat) (a b : List Nat) (h : a.length = b.length) : reg (r ^^^ s) (xr a b) = reg r a ^^^ reg s b := by
  induction a generalizing r s b with
  | nil => cases b with
    | nil => rfl
    | cons _ _ => simp at h
  | cons x a ih => cases b with
    | nil => simp at h
    | cons y b =>
      show reg (cb (r ^^^ s) (x ^^^ y)) (xr a b) = _
      rw [cb_xor, ih _ _ _ (by simpa using h)]
      rfl
theorem crc_three (a b c : List Nat) (h1 : a.length = b.length) (h2 : b.length = c.length) : crc (xr (xr a b) c) = crc a ^^^ crc b ^^^ crc c := by
  have hl : (xr a b).length = c.length := by simp [xr]; omega
  have h := reg_xor (65535 ^^^ 65535) 65535 (xr a b) c hl
  rw [reg_xor 65535 65535 a b h1, Nat.xor_self, Nat.zero_xor] at h
  exact h

/-- A number's two bytes go through the register that holds it: nothing is left. -/
theorem reg_own (hi lo : Nat) (h1 : hi ≤ 255) (h2 : lo ≤ 255) : reg (hi * 256 + lo) [hi, lo] = 0 := by
  have e : hi * 256 + lo = (hi * 256) ^^^ lo := by
    have := Nat.shiftLeft_add_eq_or_of_lt (show lo < 2 ^ 8 by omega) hi
    rw [Nat.shiftLeft_eq, show (2 : Nat) ^ 8 = 256 from rfl] at this
    rw [this]
    apply Nat.eq_of_testBit_eq
    intro i
    rw [Nat.testBit_or, Nat.testBit_xor]
    by_cases hi8 : i < 8
    · have : (hi * 256).testBit i = false := by
        rw [show hi * 256 = hi <<< 8 by rw [Nat.shiftLeft_eq], Nat.testBit_shiftLeft]
        simp; omega
      rw [this]; simp
    · have : lo.testBit i = false := Nat.testBit_lt_two_pow (Nat.lt_of_lt_of_le (show lo < 2 ^ 8 by omega) (Nat.pow_le_pow_right (by decide) (by omega)))
      rw [this]; simp
  have c1 : cb (hi * 256 + lo) hi = lo * 256 := by
    unfold cb
    rw [e, Nat.xor_comm (hi * 256) lo, Nat.xor_assoc, Nat.xor_self, Nat.xor_zero, it_small 8 lo (by omega)]
  show cb (cb (hi * 256 + lo) hi) lo = 0
  rw [c1]
  unfold cb
  rw [Nat.xor_self, it_zero]
/-- What goes through no register but its own leaves something. -/
theorem cb_inj (r s x : Nat) (h1 : r < 65536) (h2 : s < 65536) (hx : x ≤ 255) (h : cb r x = cb s x) : r = s := by
  by_cases e : r = s
  · exact e
  · exfalso
    have hn : r ^^^ s ≠ 0 := fun h => e (by
      have h3 : r ^^^ s ^^^ s = 0 ^^^ s := by rw [h]
      rw [Nat.xor_assoc, Nat.xor_self, Nat.xor_zero, Nat.zero_xor] at h3
      exact h3)
    have := cb_xor r s x x
    rw [h, Nat.xor_self, Nat.xor_self] at this
    unfold cb at this
    rw [Nat.zero_mul, Nat.xor_zero] at this
    exact it_ne 8 _ (Nat.xor_lt_two_pow (n := 16) h1 h2) hn this
theorem reg_two (r hi lo : Nat) (hr : r < 65536) (h1 : hi ≤ 255) (h2 : lo ≤ 255) (h : reg r [hi, lo] = 0) : r = hi * 256 + lo := by
  have e := reg_own hi lo h1 h2
  rw [← h] at e
  have e2 := cb_inj _ _ lo (cb_lt _ hi (by omega) h1) (cb_lt _ hi hr h1) h2 e
  exact (cb_inj _ _ hi (by omega) hr h1 e2).symm

/-- Bits go through the register one by one. -/
def fb (r : Nat) (bs : List Bool) : Nat := bs.foldl (fun r b => shN (r ^^^ (if b then 32768 else 0))) r
theorem fb_cons (r : Nat) (b : Bool) (bs : List Bool) : fb r (b :: bs) = fb (shN (r ^^^ (if b then 32768 else 0))) bs := rfl
theorem fb_app (r : Nat) (a b : List Bool) : fb r (a ++ b) = fb (fb r a) b := by simp [fb, List.foldl_append]
theorem fb_zeros (r n : Nat) : fb r (List.replicate n false) = it n r := by
  induction n generalizing r with
  | zero => rfl
  | succ n ih => rw [List.replicate_succ, fb_cons, ih]; simp [it]
/-- Bits as a number, the first one the highest of 16. -/
def top : List Bool → Nat
  | [] => 0
  | b :: bs => (if b then 32768 else 0) + top bs / 2
theorem top_lt (bs : List Bool) : top bs < 65536 := by
  induction bs with
  | nil => decide
  | cons b bs ih => rw [top]; cases b <;> simp <;> omega
theorem top_mod (bs : List Bool) (n : Nat) (h : bs.length ≤ n) (hn : n ≤ 16) : top bs % 2 ^ (16 - n) = 0 := by
  induction bs generalizing n with
  | nil => simp [top]
  | cons b bs ih =>
    simp only [List.length_cons] at h
    have := ih (n - 1) (by omega) (by omega)
    rw [show 16 - (n - 1) = (16 - n) + 1 by omega, Nat.pow_succ] at this
    rw [top]
    have h2 : (if b = true then 32768 else 0) % 2 ^ (16 - n) = 0 := by
      cases b
      · simp
      · rw [if_pos rfl, show 32768 = 2 ^ (16 - n) * 2 ^ (n - 1) by rw [← Nat.pow_add, show 16 - n + (n - 1) = 15 by omega]]
        exact Nat.mul_mod_right _ _
    have h3 : top bs / 2 % 2 ^ (16 - n) = 0 := by
      have := Nat.mod_mul_left_div_self (top bs) 2 (2 ^ (16 - n))
      rw [← this, ‹top bs % (2 ^ (16 - n) * 2) = 0›]
    rw [Nat.add_mod, h2, h3]; simp
theorem top_xor (b : Bool) (bs : List Bool) : top (b :: bs) = (if b then 32768 else 0) ^^^ (top bs / 2) := by
  rw [top]
  cases b
  · simp
  · rw [if_pos rfl]
    have hl := top_lt bs
    have hlt : top bs / 2 < 2 ^ 15 := by omega
    have := Nat.shiftLeft_add_eq_or_of_lt hlt 1
    rw [Nat.shiftLeft_eq, Nat.one_mul, show (2 : Nat) ^ 15 = 32768 from rfl] at this
    rw [this]
    apply Nat.eq_of_testBit_eq
    intro i
    rw [Nat.testBit_or, Nat.testBit_xor]
    by_cases h : i < 15
    · have e : Nat.testBit 32768 i = false := by
        rw [show 32768 = 1 <<< 15 from rfl, Nat.testBit_shiftLeft]; simp; omega
      rw [e]; simp
    · have e : (top bs / 2).testBit i = false := Nat.testBit_lt_two_pow (Nat.lt_of_lt_of_le hlt (Nat.pow_le_pow_right (by decide) (by omega)))
      rw [e]; simp
/-- Up to 16 bits at once. -/
theorem fb_top (r : Nat) (bs : List Bool) (h : bs.length ≤ 16) : fb r bs = it bs.length (r ^^^ top bs) := by
  induction bs generalizing r with
  | nil => simp [fb, top, it]
  | cons b bs ih =>
    simp only [List.length_cons] at h
    have hm := top_mod bs 15 (by omega) (by omega)
    have hl := top_lt bs
    have hs : shN (top bs / 2) = top bs := by rw [shN_small _ (by omega)]; omega
    rw [fb_cons, ih _ (by omega), List.length_cons, it, top_xor, ← Nat.xor_assoc, shN_xor (r ^^^ _) (top bs / 2), hs]
theorem top_ne (bs : List Bool) (h : bs.length ≤ 16) (ht : true ∈ bs) : top bs ≠ 0 := by
  induction bs with
  | nil => simp at ht
  | cons b bs ih =>
    simp only [List.length_cons] at h
    cases b
    · simp at ht
      have h1 := ih (by omega) ht
      have h2 := top_mod bs 15 (by omega) (by omega)
      show (if false = true then 32768 else 0) + top bs / 2 ≠ 0
      simp
      omega
    · show (if true = true then 32768 else 0) + top bs / 2 ≠ 0
      simp
/-- A run of up to 16 bits, not all 0, leaves something in an empty register, whatever bits 0 stand around it. -/
theorem fb_run (i k : Nat) (bs : List Bool) (h : bs.length ≤ 16) (ht : true ∈ bs) : fb 0 (List.replicate i false ++ bs ++ List.replicate k false) ≠ 0 := by
  rw [fb_app, fb_app, fb_zeros _ k, fb_zeros 0 i, it_zero, fb_top 0 bs h, Nat.zero_xor]
  exact it_ne _ _ (it_lt _ _ (top_lt bs)) (it_ne _ _ (top_lt bs) (top_ne bs h ht))

end Go.Proofs.YtobpinelhjpfgaaDoor.Ck
end

section
namespace Go.Proofs.YtobpinelhjpfgaaDoor
open Go.RowKit Bp Ck

/-- The bytes zs lie at the slice (A, n, cap), in blocks below B. -/
structure By (B : Nat) (w : World) (A : Option Addr) (n cap : Nat) (zs : List Nat) : Prop where
  len : zs.length = n
  le : n ≤ cap
  max : cap ≤ maxLen
  nil : A = none → cap = 0
  byte : ∀ z ∈ zs, z ≤ 255
  cell : 0 < n → ∃ g off, A = some ⟨g, off, none⟩ ∧ g < B ∧ ∀ j, j < n → w.cell? ⟨g, off + j, none⟩ = some (.int .u8 ((zs.getD j 0 : Nat) : Int))

theorem By.below {B : Nat} {w w' : World} {A : Option Addr} {n cap : Nat} {zs : List Nat} (h : By B w A n cap zs) (hb : Below B w w') : By B w' A n cap zs :=
  ⟨h.len, h.le, h.max, h.nil, h.byte, fun hn => by
    obtain ⟨g, off, hA, hg, hc⟩ := h.cell hn
    exact ⟨g, off, hA, hg, fun j hj => (hb.cell (p := ⟨g, off + j, none⟩) hg).trans (hc j hj)⟩⟩
theorem By.mono {B B' : Nat} {w : World} {A : Option Addr} {n cap : Nat} {zs : List Nat} (h : By B w A n cap zs) (hb : B ≤ B') : By B' w A n cap zs :=
  ⟨h.len, h.le, h.max, h.nil, h.byte, fun hn => by
    obtain ⟨g, off, hA, hg, hc⟩ := h.cell hn
    exact ⟨g, off, hA, by omega, hc⟩⟩
theorem By.drew {B : Nat} {w : World} {A : Option Addr} {n cap : Nat} {zs : List Nat} (h : By B w A n cap zs) : By B w.drew A n cap zs := h.below (Below.refl _ _).drew
theorem By.none_ (B : Nat) (w : World) : By B w none 0 0 [] := ⟨rfl, Nat.le_refl _, Nat.zero_le _, fun _ => rfl, by simp, fun h => by omega⟩
/-- What lies in a row of one's own. -/
theorem By.own {base : Nat} {w : World} {A : Option Addr} {n cap : Nat} {zs : List Nat} (h : w.ownsRow base 5 1 (.slice A n cap) n (bc zs)) (hz : ∀ z ∈ zs, z ≤ 255) : By w.heap.size w A n cap zs := by
  have hl : zs.length = n := by have := h.1; rw [bc_length] at this; omega
  rcases h.2 with ⟨e, h0⟩ | ⟨g, cap', cur, e, hg, hh, hnc, hcm, _⟩
  · simp only [Value.slice.injEq] at e
    obtain ⟨rfl, rfl, rfl⟩ := e
    exact ⟨hl, Nat.le_refl _, Nat.zero_le _, fun _ => rfl, hz, fun h => by omega⟩
  · simp only [Value.slice.injEq, true_and] at e
    obtain ⟨rfl, rfl⟩ := e
    refine ⟨hl, hnc, hcm, (fun e => by cases e), hz, fun hn => ⟨g, 0, rfl, lt_of_heap hh, fun j hj => ?_⟩⟩
    rw [Nat.zero_add, h.cellAt j (by omega)]
    simp [bc, List.getD, List.getElem?_eq_getElem (show j < zs.length by omega)]
theorem By.arg {w : World} {ao : Option Addr} {len cap : Nat} {f : Nat → Nat} (hA : ArgIn (fun z : Nat => Value.int .u8 (z : Int)) w ao len cap f) (hf : ∀ i, i < len → f i ≤ 255) (m : Nat) (hm : m ≤ len) :
    By w.heap.size w ao m cap (listOf f m) :=
  ⟨listOf_length f m, Nat.le_trans hm hA.le, hA.max, fun e => (hA.nil e).2, by
    intro z hz
    simp only [listOf, List.mem_map, List.mem_range] at hz
    obtain ⟨i, hi, rfl⟩ := hz
    exact hf i (by omega), fun hn => by
    obtain ⟨g, off, ha, hg, _⟩ := hA.cell 0 (by omega)
    refine ⟨g, off, ha, hg, fun j hj => ?_⟩
    obtain ⟨g', off', ha', hg', hc⟩ := hA.cell j (by omega)
    rw [ha] at ha'
    simp only [Option.some.injEq, Addr.mk.injEq, and_true] at ha'
    obtain ⟨rfl, rfl⟩ := ha'
    rw [hc]
    simp [listOf, List.getD, hj]⟩
theorem By.bytesAt {B : Nat} {w : World} {A : Option Addr} {n cap : Nat} {zs : List Nat} (h : By B w A n cap zs) : BytesAt w (.slice A n cap) zs := by
  cases A with
  | none =>
    have h1 := h.nil rfl
    have h2 := h.le
    have h3 := h.len
    have : zs = [] := List.eq_nil_of_length_eq_zero (by omega)
    subst this
    exact .inl ⟨by rw [h1, show n = 0 by omega], rfl⟩
  | some a =>
    refine .inr ⟨a, cap, by rw [h.len], fun j u hu => ?_⟩
    have hlt : j < n := by have := (List.getElem?_eq_some_iff.1 hu).1; rw [bc_length, h.len] at this; exact this
    obtain ⟨g, off, hA, hg, hc⟩ := h.cell (by omega)
    simp only [Option.some.injEq] at hA
    subst hA
    rw [plain_add, hc j hlt, ← hu]
    have hl := h.len
    simp [bc, List.getD, List.getElem?_eq_getElem (show j < zs.length by omega)]
/-- Where the cut l .. of room up to m lies. -/
def cutA (A : Option Addr) (l m : Nat) : Option Addr := if m = l then A else A.map (·.add l)
theorem By.cut {B : Nat} {w : World} {A : Option Addr} {n cap : Nat} {zs : List Nat} (h : By B w A n cap zs) (l e m : Nat) (h1 : l ≤ e) (h2 : e ≤ n) (h3 : e ≤ m) (h4 : m ≤ cap) :
    By B w (cutA A l m) (e - l) (m - l) ((zs.drop l).take (e - l)) := by
  have hl := h.len
  have hlen : ((zs.drop l).take (e - l)).length = e - l := by rw [List.length_take, List.length_drop]; omega
  refine ⟨hlen, by omega, by have := h.max; omega, fun e0 => ?_, fun z hz => h.byte z (List.mem_of_mem_drop (List.mem_of_mem_take hz)), fun hn => ?_⟩
  · unfold cutA at e0
    split at e0
    · omega
    · cases A with
      | none => have := h.nil rfl; omega
      | some a => cases e0
  · obtain ⟨g, off, hA, hg, hc⟩ := h.cell (by omega)
    subst hA
    unfold cutA
    rw [if_neg (by omega)]
    refine ⟨g, off + l, by simp [plain_add], hg, fun j hj => ?_⟩
    rw [Nat.add_assoc, hc (l + j) (by omega)]
    simp [List.getD, hj]
theorem By.take {B : Nat} {w : World} {A : Option Addr} {n cap : Nat} {zs : List Nat} (h : By B w A n cap zs) (e : Nat) (h2 : e ≤ n) : By B w A e cap (zs.take e) := by
  have hl := h.len
  refine ⟨by rw [List.length_take]; omega, by have := h.le; omega, h.max, h.nil, fun z hz => h.byte z (List.mem_of_mem_take hz), fun hn => ?_⟩
  obtain ⟨g, off, hA, hg, hc⟩ := h.cell (by omega)
  refine ⟨g, off, hA, hg, fun j hj => ?_⟩
  rw [hc j (by omega)]
  simp [List.getD, hj]
/-- The walk's own words for cuts. -/
theorem slice_l (A : Option Addr) (n cap l : Nat) (w : World) (h : l ≤ n) : (Instr.slice 35 (.slice A n cap) (some (.int .i64 (l : Int))) none none).run Tryd.prog w = .ok (.slice (cutA A l cap) (n - l) (cap - l)) w := by
  rw [run_slice_l w 35 A n cap Tryd.underlying35 .i64 (l : Int) (by omega) (by omega)]
  simp [go_sem, cutA, Tryd.sizeOf5]
theorem slice_h (A : Option Addr) (n cap e : Nat) (w : World) (h : e ≤ cap) : (Instr.slice 35 (.slice A n cap) none (some (.int .i64 (e : Int))) none).run Tryd.prog w = .ok (.slice A e cap) w := by
  rw [run_slice_h w 35 A n cap Tryd.underlying35 .i64 (e : Int) (by omega) (by omega)]
  cases A <;> simp [go_sem, Tryd.sizeOf5, Addr.add]
theorem slice_lh (A : Option Addr) (n cap l e : Nat) (w : World) (h0 : l ≤ e) (h : e ≤ cap) : (Instr.slice 35 (.slice A n cap) (some (.int .i64 (l : Int))) (some (.int .i64 (e : Int))) none).run Tryd.prog w = .ok (.slice (cutA A l cap) (e - l) (cap - l)) w := by
  rw [run_slice_lh w 35 A n cap Tryd.underlying35 .i64 .i64 (l : Int) (e : Int) (by omega) (by omega) (by omega)]
  simp [go_sem, cutA, Tryd.sizeOf5]
theorem slice_lhm (A : Option Addr) (n cap l e m : Nat) (w : World) (h0 : l ≤ e) (h1 : e ≤ m) (h : m ≤ cap) : (Instr.slice 35 (.slice A n cap) (some (.int .i64 (l : Int))) (some (.int .i64 (e : Int))) (some (.int .i64 (m : Int)))).run Tryd.prog w = .ok (.slice (cutA A l m) (e - l) (m - l)) w := by
  rw [run_slice_lhm w 35 A n cap Tryd.underlying35 .i64 .i64 .i64 (l : Int) (e : Int) (m : Int) (by omega) (by omega) (by omega) (by omega)]
  simp [go_sem, cutA, Tryd.sizeOf5]
/-- Told as a string. -/
theorem By.conv {B : Nat} {w : World} {A : Option Addr} {n cap : Nat} {zs : List Nat} (h : By B w A n cap zs) :
    (convert 35 9 (.slice A n cap)).run Tryd.prog w = .ok (.string (strOf zs)) w := by
  have hl := h.len
  rcases Nat.eq_zero_or_pos n with h0 | h0
  · subst h0
    have : zs = [] := List.eq_nil_of_length_eq_zero hl
    subst this
    cases A with
    | none => have := h.nil rfl; subst this; exact run_convert_bytes_nil w _ _ Tryd.underlying35 Tryd.underlying5 0 0 _ Tryd.underlying9
    | some a =>
      have hl0 : (loadCells a 0).run Tryd.prog w = .ok (([] : List Int).map (Value.int .u8)).toArray w := by
        have := run_loadCells_list (P := Tryd.prog) w a ([] : List Value) (fun j v hj => by simp at hj)
        simpa using this
      rw [run_convert_bytes_string w 35 9 5 _ 0 cap Tryd.underlying35 Tryd.underlying5 Tryd.underlying9, run_bytesToString w _ 0 cap [] hl0]
      rfl
  · obtain ⟨g, off, hA, hg, hc⟩ := h.cell h0
    subst hA
    refine run_convert_bytes_arg w _ _ Tryd.underlying35 Tryd.underlying5 g off n cap (zs.map fun n : Nat => (n : Int)) (by simpa using hl) (fun i hi => ?_) _ Tryd.underlying9
    rw [hc i hi]
    simp [List.getD, List.getElem?_eq_getElem (show i < zs.length by omega)]
end Go.Proofs.YtobpinelhjpfgaaDoor
end

section
namespace Go.Proofs.YtobpinelhjpfgaaDoor
open Go.RowKit Bp Ck

theorem and_top (r : Nat) (h : r < 65536) : bits BinOp.and IntKind.u16 (r : Int) 32768 = ((r / 32768 * 32768 : Nat) : Int) := by
  have := u16_and_nat r 32768 h (by omega)
  rw [show (((32768 : Nat) : Int)) = 32768 from rfl] at this
  rw [this, show (32768 : Nat) = 2 ^ 15 from rfl, nat_bit 15 r, show (2 : Nat) ^ 15 = 32768 from rfl]
  have : r / 32768 % 2 = r / 32768 := by omega
  rw [this]
theorem shN_hi (r : Nat) (h : r < 65536) (h2 : 32768 ≤ r) : shN r = (2 * r % 65536) ^^^ 4129 := by
  have ht : r.testBit 15 = true := by
    rw [Nat.testBit_eq_decide_div_mod_eq]
    have h15 : r / 2 ^ 15 = 1 := by rw [show (2 : Nat) ^ 15 = 32768 from rfl]; omega
    rw [h15]; rfl
  unfold shN
  rw [ht, if_pos rfl]

theorem ret_int {k : IntKind} {a b : Int} (h : a = b) : Ending.returned (.int k a) = .returned (.int k b) := by rw [h]
theorem shl1 (r : Nat) : IntKind.u16.wrap ((r : Int) * 2) = ((2 * r % 65536 : Nat) : Int) := by rw [IntKind.wrap_u16]; omega

theorem shift_any (r : Nat) (h : r < 65536) (w : World) :
    Calls Tryd.prog 117 #[.int .u16 (r : Int)] w fun e w' => e = .returned (.int .u16 ((shN r : Nat) : Int)) ∧ w = w' := by
  have ha := and_top r h
  by_cases h2 : 32768 ≤ r
  · have ht : (bits BinOp.and IntKind.u16 (r : Int) 32768 != 0) = true := by rw [ha, bne_iff_ne]; omega
    have hx := u16_xor_nat (2 * r % 65536) 4129 (by omega) (by omega)
    have HS := Lib.hid (shN_hi r h h2)
    have HX := Lib.hid hx
    clear ha hx
    go_enter Tryd.func117, Tryd.ntmps117
    go_wp2
    go_ret
    exact ⟨ret_int (by rw [HS.out, shl1]; exact HX.out), rfl⟩
  · have ht : (bits BinOp.and IntKind.u16 (r : Int) 32768 != 0) = false := by rw [ha, bne_eq_false_iff_eq]; omega
    have HS := Lib.hid (shN_small r (by omega))
    clear ha
    go_enter Tryd.func117, Tryd.ntmps117
    go_wp2
    go_ret
    exact ⟨ret_int (by rw [HS.out]; omega), rfl⟩

theorem crc_take (zs : List Nat) (k : Nat) (h : k < zs.length) : crc (zs.take (k + 1)) = cb (crc (zs.take k)) (zs.getD k 0) := by
  unfold crc
  rw [List.take_succ_eq_append_getElem h, reg_snoc]
  simp [List.getD, List.getElem?_eq_getElem h]
theorem getD_byte (zs : List Nat) (k : Nat) (hz : ∀ z ∈ zs, z ≤ 255) : zs.getD k 0 ≤ 255 := by
  rw [List.getD]
  rcases Nat.lt_or_ge k zs.length with h | h
  · rw [List.getElem?_eq_getElem h]; exact hz _ (List.getElem_mem h)
  · rw [List.getElem?_eq_none h]; simp
theorem take_byte (zs : List Nat) (k : Nat) (hz : ∀ z ∈ zs, z ≤ 255) : ∀ z ∈ zs.take k, z ≤ 255 := fun z h => hz z (List.mem_of_mem_take h)
theorem xor_in (c z : Nat) (hc : c < 65536) (hz : z ≤ 255) : bits BinOp.xor IntKind.u16 (c : Int) ((z : Int) * 256) = ((c ^^^ z * 256 : Nat) : Int) := by
  have := u16_xor_nat c (z * 256) hc (by omega)
  rw [show ((z * 256 : Nat) : Int) = (z : Int) * 256 by omega] at this
  exact this

set_option maxHeartbeats 1000000 in
theorem sum_any {B : Nat} {w : World} {A : Option Addr} {n cap : Nat} {zs : List Nat} (h : By B w A n cap zs) :
    Calls Tryd.prog 113 #[.slice A n cap] w fun e w' => e = .returned (.int .u16 ((crc zs : Nat) : Int)) ∧ w = w' := by
  have hl := Lib.hid h.len
  have hle := h.le
  have hmx := h.max
  unfold maxLen at hmx
  have HB := Lib.hid h.byte
  have HC := Lib.hid h.cell
  clear h
  go_enter Tryd.func113, Tryd.ntmps113
  go_wp2
  go_loop [3, 8] (fun r i => ∃ k : Nat, k ≤ n ∧ i = .int .i64 (k : Int) ∧ r = .int .u16 ((crc (zs.take k) : Nat) : Int)) (fun _ i => n - (intOf i).toNat)
  case atStart => exact ⟨0, Nat.zero_le _, rfl, rfl⟩
  case round =>
    obtain ⟨k, hk, rfl, rfl⟩ := hrel
    by_cases hlt : k < n
    · have HS : Hid (crc (zs.take (k + 1)) = cb (crc (zs.take k)) (zs.getD k 0)) := Lib.hid (crc_take zs k (by rw [hl.out]; exact hlt))
      have hc := crc_lt (zs.take k) (take_byte zs k HB.out)
      have hz := getD_byte zs k HB.out
      obtain ⟨g, off, rfl, hg, hcell⟩ := HC.out (by omega)
      have hck := hcell k hlt
      clear hcell
      generalize zs.getD k 0 = z at *
      generalize crc (zs.take k) = c at *
      have HX := Lib.hid (xor_in c z hc hz)
      have hlt0 := Nat.xor_lt_two_pow (n := 16) hc (byte_lt z hz)
      go_wp2
      rw [HX.out]
      go_loop [3, 17] (fun r j => ∃ m : Nat, m ≤ 8 ∧ j = .int .i64 (m : Int) ∧ r = .int .u16 ((it m (c ^^^ z * 256) : Nat) : Int)) (fun _ j => 8 - (intOf j).toNat)
      case atStart => exact ⟨0, Nat.zero_le _, rfl, rfl⟩
      case round =>
        obtain ⟨m, hm, rfl, rfl⟩ := hrel
        by_cases hm8 : m < 8
        · have hi := it_lt m _ hlt0
          have HI := Lib.hid (it_succ m (c ^^^ z * 256))
          generalize it m (c ^^^ z * 256) = q at *
          go_wp2_with (go_at_call 117; refine (shift_any q hi _).mono ?_; rintro e w' ⟨rfl, rfl⟩)
          go_round
          case rel => exact ⟨m + 1, by omega, by go_num, by rw [HI.out]⟩
          case measure => simp [intOf]; omega
        · obtain rfl : m = 8 := by omega
          have HI : Hid (crc (zs.take (k + 1)) = it 8 (c ^^^ z * 256)) := Lib.hid HS.out
          generalize it 8 (c ^^^ z * 256) = q at *
          go_wp2
          go_round
          case rel => exact ⟨k + 1, by omega, by go_num, by rw [HI.out]⟩
          case measure => simp [intOf]; omega
    · obtain rfl : k = n := by omega
      go_wp2
      go_ret
      exact ⟨ret_int (by rw [List.take_of_length_le (by rw [hl.out]; exact Nat.le_refl _)]), rfl⟩

end Go.Proofs.YtobpinelhjpfgaaDoor
end

section
namespace Go.Proofs.YtobpinelhjpfgaaDoor
open Go.RowKit Bp Ck

/-- A number's two bytes. -/
def tw (n : Nat) : List Nat := [n / 256, n % 256]
theorem byte_sum (m : Nat) (h : m ≤ 255) : 128 * (m / 128 % 2) + 64 * (m / 64 % 2) + 32 * (m / 32 % 2) + 16 * (m / 16 % 2) + 8 * (m / 8 % 2) + 4 * (m / 4 % 2) + 2 * (m / 2 % 2) + m % 2 = m := by omega
theorem pack_tw (n : Nat) (h : n < 65536) : pack (bitsOf n 16) = tw n := by
  have hl : nb (bitsOf n 16).length = 2 := by rw [bitsOf_length]; rfl
  have hb : ∀ i, i < 16 → bitN (bitsOf n 16) i = n / 2 ^ (15 - i) % 2 := fun i hi => by rw [bitN_bitsOf n 16 i hi]
  have b0 : byteAt (bitsOf n 16) 0 = n / 256 := by
    unfold byteAt
    rw [hb 0 (by omega), hb (8 * 0 + 1) (by omega), hb (8 * 0 + 2) (by omega), hb (8 * 0 + 3) (by omega), hb (8 * 0 + 4) (by omega), hb (8 * 0 + 5) (by omega), hb (8 * 0 + 6) (by omega), hb (8 * 0 + 7) (by omega)]
    have := byte_sum (n / 256) (by omega)
    rw [Nat.div_div_eq_div_mul, Nat.div_div_eq_div_mul, Nat.div_div_eq_div_mul, Nat.div_div_eq_div_mul, Nat.div_div_eq_div_mul, Nat.div_div_eq_div_mul, Nat.div_div_eq_div_mul] at this
    exact this
  have b1 : byteAt (bitsOf n 16) 1 = n % 256 := by
    unfold byteAt
    rw [hb 8 (by omega), hb (8 * 1 + 1) (by omega), hb (8 * 1 + 2) (by omega), hb (8 * 1 + 3) (by omega), hb (8 * 1 + 4) (by omega), hb (8 * 1 + 5) (by omega), hb (8 * 1 + 6) (by omega), hb (8 * 1 + 7) (by omega)]
    have e : ∀ k, n / 2 ^ (15 - k) % 2 = n / 2 ^ (15 - k) % 2 := fun _ => rfl
    show 128 * (n / 128 % 2) + 64 * (n / 64 % 2) + 32 * (n / 32 % 2) + 16 * (n / 16 % 2) + 8 * (n / 8 % 2) + 4 * (n / 4 % 2) + 2 * (n / 2 % 2) + n / 1 % 2 = n % 256
    omega
  unfold pack
  rw [hl, show List.range 2 = [0, 1] from rfl, List.map_cons, List.map_cons, List.map_nil, b0, b1]
  rfl
theorem tw_byte (n : Nat) (h : n < 65536) : ∀ z ∈ tw n, z ≤ 255 := by
  intro z hz
  simp only [tw, List.mem_cons, List.not_mem_nil, or_false] at hz
  rcases hz with rfl | rfl <;> omega
theorem has_tw (x y : Nat) (hx : x ≤ 255) (hy : y ≤ 255) : Has [x, y] 0 (bitsOf (256 * x + y) 16) := by
  refine ⟨by rw [bitsOf_length]; simp, fun i hi => ?_⟩
  rw [bitsOf_length] at hi
  rw [bitN_bitsOf _ _ _ hi, Nat.zero_add]
  have : i = 0 ∨ i = 1 ∨ i = 2 ∨ i = 3 ∨ i = 4 ∨ i = 5 ∨ i = 6 ∨ i = 7 ∨ i = 8 ∨ i = 9 ∨ i = 10 ∨ i = 11 ∨ i = 12 ∨ i = 13 ∨ i = 14 ∨ i = 15 := by omega
  rcases this with rfl | rfl | rfl | rfl | rfl | rfl | rfl | rfl | rfl | rfl | rfl | rfl | rfl | rfl | rfl | rfl <;> simp [rbit, pw, List.getD] <;> omega

theorem ownsRow_lower {w : World} {base base' : Nat} {e : TypeId} {size : Nat} {v : Value} {n : Nat} {xs : List Value} (h : w.ownsRow base e size v n xs) (hb : base' ≤ base) : w.ownsRow base' e size v n xs := by
  obtain ⟨h1, h2⟩ := h
  refine ⟨h1, ?_⟩
  rcases h2 with h2 | ⟨g, cap, cur, rfl, hg, r⟩
  · exact .inl h2
  · exact .inr ⟨g, cap, cur, rfl, by omega, r⟩

theorem lay16_any (n : Nat) (h : n < 65536) (w : World) :
    Calls Tryd.prog 112 #[.int .u16 (n : Int)] w fun e w' => ∃ g cap, e = .returned (.slice (some ⟨g, 0, none⟩) 2 cap) ∧ w'.ownsRow w.heap.size 5 1 (.slice (some ⟨g, 0, none⟩) 2 cap) 2 (bc (tw n)) ∧ Below w.heap.size w w' := by
  have HW := Lib.hid (wb_start w w (Below.refl _ _))
  go_enter Tryd.func112, Tryd.ntmps112
  go_wp2_with fail
  refine (newWriter_any _).mono ?_
  rintro e w1 ⟨rfl, rfl⟩
  go_wp2_with fail
  refine (wb_put _ n 16 _ _ w _ _ _ HW.out (by omega) (by omega) (by simp) rfl rfl).mono ?_
  rintro e w2 ⟨rfl, h2⟩
  have H2 := Lib.hid h2
  clear h2
  go_wp2_with fail
  refine (wb_out _ w _ _ _ H2.out).mono ?_
  rintro e w3 ⟨a, cap, rfl, ho, h3⟩
  have hb := h3.below
  have hs := H2.out.size
  rw [List.nil_append, bitsOf_length, pack_tw n h] at ho
  obtain ⟨g, cap', hv⟩ := shape_of ho (by decide)
  rw [List.nil_append, bitsOf_length]
  rw [hv] at ho ⊢
  have HO := Lib.hid (ownsRow_lower ho hs)
  have HB := Lib.hid hb
  clear ho hb h3 hs hv
  go_wp2
  go_ret
  exact ⟨g, cap', rfl, HO.out, HB.out⟩

theorem rb_at (b : Nat) (x y : Nat) (w0 w : World) (B : Nat) (h : Rb w0 B w b [x, y] 0 0) (hx : x ≤ 255) (hy : y ≤ 255) :
    Calls Tryd.prog 74 #[.pointer (some ⟨b, 0, none⟩), .int .i64 16] w fun e w' => e = .returned (.int .u64 ((256 * x + y : Nat) : Int)) ∧ Rb w0 B w' b [x, y] (0 + 16) 0 :=
  rb_get_small b [x, y] 0 (256 * x + y) 16 16 w0 w B h (by omega) (has_tw x y hx hy) rfl (by omega)

theorem take16_any {B : Nat} {w : World} {A : Option Addr} {cap x y : Nat} (h : By B w A 2 cap [x, y]) :
    Calls Tryd.prog 115 #[.slice A 2 cap] w fun e w' => e = .returned (.int .u16 ((256 * x + y : Nat) : Int)) ∧ Below w.heap.size w w' := by
  have hx : x ≤ 255 := h.byte x (by simp)
  have hy : y ≤ 255 := h.byte y (by simp)
  have HN := Lib.hid (rb_make _ _ w w (Below.refl _ _) h.bytesAt (by simp) h.byte)
  clear h
  obtain ⟨m, hm⟩ : ∃ m, m = 256 * x + y := ⟨_, rfl⟩
  have hmb : m < 65536 := by omega
  rw [← hm]
  have HM := Lib.hid hm
  clear hm
  go_enter Tryd.func115, Tryd.ntmps115
  go_wp2_with fail
  refine HN.out.mono ?_
  rintro e w1 ⟨rb, rfl, hR⟩
  have HR := Lib.hid hR
  clear hR HN
  go_wp2_with fail
  refine (rb_at rb x y w _ _ HR.out hx hy).mono ?_
  rintro e w2 ⟨rfl, hR2⟩
  have HB := Lib.hid hR2.below
  clear hR2 HR
  rw [← HM.out]
  go_wp2
  go_ret
  exact ⟨rfl, HB.out⟩

theorem frameLen_any {B : Nat} {w : World} {A : Option Addr} {n cap : Nat} {zs : List Nat} (h : By B w A n cap zs) (hn : 2 ≤ n) :
    Calls Tryd.prog 114 #[.slice A n cap] w fun e w' => e = .returned (.int .i64 ((256 * zs.getD 0 0 + zs.getD 1 0 + 4 : Nat) : Int)) ∧ Below w.heap.size w w' := by
  have hl := h.len
  have ht : zs.take 2 = [zs.getD 0 0, zs.getD 1 0] := by
    match zs, hl with
    | [], hl => simp at hl; omega
    | [a], hl => simp at hl; omega
    | a :: b :: r, _ => simp [List.getD]
  have hb := h.take 2 hn
  rw [ht] at hb
  have HT := Lib.hid (take16_any hb)
  have h0 := getD_byte zs 0 h.byte
  have h1 := getD_byte zs 1 h.byte
  have hs : ∀ wx, (Instr.slice 35 (.slice A n cap) none (some (.int .i64 2)) none).run Tryd.prog wx = .ok (.slice A 2 cap) wx := fun wx => slice_h A n cap 2 wx (by have := h.le; omega)
  clear ht hb h hl
  generalize zs.getD 0 0 = x at *
  generalize zs.getD 1 0 = y at *
  obtain ⟨m, hm⟩ : ∃ m, m = 256 * x + y := ⟨_, rfl⟩
  have hmb : m < 65536 := by omega
  rw [← hm] at HT ⊢
  clear hm
  go_enter Tryd.func114, Tryd.ntmps114
  go_wp2_with fail
  refine HT.out.mono ?_
  rintro e w1 ⟨rfl, hB⟩
  have HB := Lib.hid hB
  clear hB
  go_wp2
  go_ret
  exact ⟨ret_int (by omega), HB.out⟩

theorem cut_any (A : Option Addr) (n cap l e : Nat) (L E : Int) (w : World) (h0 : l ≤ e) (h1 : e ≤ cap) (hL : L = l) (hE : E = e) :
    Calls Tryd.prog 101 #[.slice A n cap, .int .i64 L, .int .i64 E] w fun x w' => x = .returned (.slice (cutA A l e) (e - l) (e - l)) ∧ w = w' := by
  subst hL hE
  have hs := fun wx => slice_lhm A n cap l e e wx h0 (Nat.le_refl _) h1
  go_enter Tryd.func101, Tryd.ntmps101
  go_wp2
  go_ret
  exact ⟨rfl, rfl⟩

theorem bclone_any {B : Nat} {w : World} {A : Option Addr} {n cap : Nat} {zs : List Nat} (h : By B w A n cap zs) (hn : 0 < n) (hf : n ≤ 1048576) :
    Calls Tryd.prog 68 #[.slice A n cap] w fun e w' => ∃ g c, e = .returned (.slice (some ⟨g, 0, none⟩) n c) ∧ w'.ownsRow w.heap.size 5 1 (.slice (some ⟨g, 0, none⟩) n c) n (bc zs) ∧ Below w.heap.size w w' := by
  obtain ⟨i0, hi, hz0, hz1, hz2⟩ := info_parts Tryd.infoU8
  have hq := Tryd.bytesNil
  have hat := h.bytesAt
  obtain ⟨g0, off, rfl, hg, _⟩ := h.cell hn
  rcases hat with ⟨e, _⟩ | ⟨a, c, e, hx⟩
  · cases e
  rw [h.len] at e
  simp only [Value.slice.injEq, Option.some.injEq, true_and] at e
  obtain ⟨rfl, rfl⟩ := e
  have HX := Lib.hid hx
  have HL := Lib.hid h.len
  clear hx h
  have ho : (w.alloc (.cells #[] 5)).ownsRow w.heap.size 5 1 (.slice (some ⟨w.heap.size, 0, none⟩) 0 0) 0 [] := World.ownsRow_made w #[] 0 (Nat.le_refl _) (Nat.zero_le _) rfl
  have HO := Lib.hid ho
  clear ho
  have hx' : ∀ j u, (bc zs)[j]? = some u → (w.alloc (.cells #[] 5)).cell? ((⟨g0, off, none⟩ : Addr).add j) = some u := fun j u hj => by
    have := HX.out j u hj
    rw [World.cell?_alloc_lt _ _ _ (World.block_lt_of_cell? w _ this)]; exact this
  have HX' := Lib.hid hx'
  clear hx'
  go_enter Tryd.func68, Tryd.ntmps68
  go_wp2_with (at_builtin; refine wpList_append_own_at _ rfl _ _ 35 rfl w.heap.size 5 i0 (.int .u8 0) 1 1 Tryd.underlying35 hi hz0 hz1 hz2 rfl (by decide) _ _ _ rfl HO.out ⟨g0, off, none⟩ n cap (bc zs) rfl (by rw [bc_length, HL.out]; omega) HX'.out (bc_one zs) (by unfold maxLen; omega) (by omega) (by simp) ?_; intro v' w1 hown' hgrow hne hat)
  have R : w1.ownsRow w.heap.size 5 1 v' n (bc zs) := by simpa using hown'
  have hrow : ∀ k, (Value.slice (some ⟨w.heap.size, 0, none⟩) 0 0).ownBlock = some k → w.heap.size ≤ k := fun k hk => by
    have : w.heap.size = k := by simpa [Value.ownBlock] using hk
    omega
  have RB : Below w.heap.size w w1 := Below.grown (Below.alloc (Below.refl _ w) (Nat.le_refl _) _) hgrow (by simp) hrow
  obtain ⟨g, c, hv⟩ := shape_of R hn
  rw [hv] at R ⊢
  have HR := Lib.hid R
  have HRB := Lib.hid RB
  clear hown' hgrow hne hat R RB hv
  go_wp2
  go_ret
  exact ⟨g, c, rfl, HR.out, HRB.out⟩

end Go.Proofs.YtobpinelhjpfgaaDoor
end
