/-
  Plain facts on a run of other bits in a frame.
-/
import Derived.Test.YtjjaomnlkpdeeaaCkThr
set_option linter.unusedVariables false
set_option maxRecDepth 100000
namespace Go.Proofs.Ytjjaomnlkpdeeaa
open Go.RowKit Bp Ck

theorem top8 (x : Nat) (h : x ≤ 255) : top (bitsOf x 8) = x * 256 := by
  have key : ∀ y : Fin 256, top (bitsOf y.val 8) = y.val * 256 := by decide +kernel
  exact key ⟨x, by omega⟩
theorem cb_bits (r x : Nat) (h : x ≤ 255) : cb r x = fb r (bitsOf x 8) := by
  rw [fb_top r _ (by rw [bitsOf_length]; omega), bitsOf_length, top8 x h]
  rfl
theorem reg_bits (r : Nat) (zs : List Nat) (h : ∀ z ∈ zs, z ≤ 255) : reg r zs = fb r (zs.flatMap fun z => bitsOf z 8) := by
  induction zs generalizing r with
  | nil => rfl
  | cons z zs ih =>
    rw [reg_cons, List.flatMap_cons, fb_app, cb_bits r z (h z (by simp)), ih _ (fun x hx => h x (by simp [hx]))]
theorem bits_back (b0 b1 b2 b3 b4 b5 b6 b7 : Bool) : bitsOf (128 * bn b0 + 64 * bn b1 + 32 * bn b2 + 16 * bn b3 + 8 * bn b4 + 4 * bn b5 + 2 * bn b6 + bn b7) 8 = [b0, b1, b2, b3, b4, b5, b6, b7] := by
  cases b0 <;> cases b1 <;> cases b2 <;> cases b3 <;> cases b4 <;> cases b5 <;> cases b6 <;> cases b7 <;> rfl
theorem bytes_bits (es : List Bool) (n : Nat) : ((List.range n).map (byteAt es)).flatMap (fun z => bitsOf z 8) = (List.range (8 * n)).map fun i => es.getD i false := by
  induction n with
  | zero => rfl
  | succ n ih =>
    rw [List.range_succ, List.map_append, List.flatMap_append, ih, show 8 * (n + 1) = 8 * n + 1 + 1 + 1 + 1 + 1 + 1 + 1 + 1 by omega]
    simp only [List.range_succ, List.map_append, List.map_cons, List.map_nil, List.flatMap_cons, List.flatMap_nil, List.append_nil, List.append_assoc, List.cons_append, List.nil_append]
    congr 1
    unfold byteAt bitN
    rw [bits_back]
theorem bits_zeros (es : List Bool) (m : Nat) (h : es.length ≤ m) : ((List.range m).map fun i => es.getD i false) = es ++ List.replicate (m - es.length) false := by
  apply List.ext_getElem?
  intro i
  by_cases hi : i < es.length
  · rw [List.getElem?_append_left hi, List.getElem?_map, List.getElem?_range (by omega)]
    simp [List.getD, List.getElem?_eq_getElem hi]
  · rw [List.getElem?_append_right (by omega), List.getElem?_map]
    by_cases hm : i < m
    · rw [List.getElem?_range hm, List.getElem?_replicate, if_pos (by omega)]
      simp [List.getD, List.getElem?_eq_none (show es.length ≤ i by omega)]
    · rw [List.getElem?_eq_none (by simp; omega), List.getElem?_replicate, if_neg (by omega)]
      rfl

/-- The other bits: none, then those of a number, the lowest first. -/
def oth (first bits k : Nat) : List Bool := List.replicate first false ++ (List.range k).map fun j => bits.testBit j
theorem oth_len (first bits k : Nat) : (oth first bits k).length = first + k := by simp [oth]
theorem oth_succ (first bits k : Nat) : oth first bits (k + 1) = oth first bits k ++ [bits.testBit k] := by
  unfold oth
  rw [List.range_succ, List.map_append, List.append_assoc]
  rfl
/-- Bytes of which these bits are others. -/
def fl (f : List Nat) (es : List Bool) : List Nat := (List.range f.length).map fun i => f.getD i 0 ^^^ byteAt es i
theorem fl_len (f : List Nat) (es : List Bool) : (fl f es).length = f.length := by simp [fl]
theorem fl_byte (f : List Nat) (es : List Bool) (h : ∀ z ∈ f, z ≤ 255) : ∀ z ∈ fl f es, z ≤ 255 := by
  intro z hz
  simp only [fl, List.mem_map, List.mem_range] at hz
  obtain ⟨i, hi, rfl⟩ := hz
  have h1 := getD_byte f i h
  have h2 := byteAt_le es i
  have : f.getD i 0 ^^^ byteAt es i < 2 ^ 8 := Nat.xor_lt_two_pow (by omega) (by omega)
  omega
theorem byteAt_none (first i : Nat) : byteAt (List.replicate first false) i = 0 := by
  have h : ∀ j, bitN (List.replicate first false) j = 0 := fun j => by
    unfold bitN
    rw [List.getD, List.getElem?_replicate]
    split <;> rfl
  unfold byteAt
  simp [h]
theorem fl_start (f : List Nat) (first bits : Nat) : fl f (oth first bits 0) = f := by
  apply List.ext_getElem
  · rw [fl_len]
  · intro i h1 h2
    simp [fl, oth, byteAt_none, List.getD, List.getElem?_eq_getElem h2]
theorem fl_false (f : List Nat) (es : List Bool) : fl f (es ++ [false]) = fl f es := by
  unfold fl
  apply List.map_congr_left
  intro i _
  by_cases h : i = es.length / 8
  · subst h; rw [byteAt_snoc_same, bn_false, Nat.zero_mul, Nat.add_zero]
  · rw [byteAt_snoc_other _ _ _ h]
theorem add_xor (a q : Nat) (h : a % (2 * 2 ^ q) = 0) : a + 2 ^ q = a ^^^ 2 ^ q := by
  have h1 := lor_add a q 1 h (Nat.le_refl _)
  rw [Nat.one_mul, Nat.shiftLeft_eq, Nat.one_mul] at h1
  rw [← h1]
  have hb : a.testBit q = false := by
    rw [Nat.testBit_eq_decide_div_mod_eq]
    have e : a = a / (2 * 2 ^ q) * (2 * 2 ^ q) := by
      have := Nat.div_add_mod a (2 * 2 ^ q)
      rw [h, Nat.add_zero, Nat.mul_comm] at this
      exact this.symm
    have hp : 0 < 2 ^ q := Nat.two_pow_pos q
    have e2 : a / 2 ^ q = a / (2 * 2 ^ q) * 2 := by
      conv => lhs; rw [e, ← Nat.mul_assoc]
      exact Nat.mul_div_cancel _ hp
    rw [e2]
    simp
  apply Nat.eq_of_testBit_eq
  intro i
  rw [Nat.testBit_or, Nat.testBit_xor, Nat.testBit_two_pow]
  by_cases hi : q = i
  · subst hi; rw [hb]; simp
  · simp [hi]
theorem fl_getD (f : List Nat) (es : List Bool) (i : Nat) (h : i < f.length) : (fl f es).getD i 0 = f.getD i 0 ^^^ byteAt es i := by
  rw [List.getD, List.getElem?_eq_getElem (by rw [fl_len]; exact h)]
  simp [fl]
theorem fl_true (f : List Nat) (es : List Bool) (h : es.length / 8 < f.length) : fl f (es ++ [true]) = (fl f es).set (es.length / 8) ((fl f es).getD (es.length / 8) 0 ^^^ pw (es.length % 8)) := by
  have hx : byteAt (es ++ [true]) (es.length / 8) = byteAt es (es.length / 8) ^^^ pw (es.length % 8) := by
    rw [byteAt_snoc_same, bn_true, Nat.one_mul]
    exact add_xor _ _ (byteAt_room es)
  apply List.ext_getElem
  · rw [List.length_set, fl_len, fl_len]
  · intro i h1 h2
    rw [fl_len] at h1
    by_cases hi : i = es.length / 8
    · subst hi
      rw [List.getElem_set_self]
      rw [fl_getD f es _ h, Nat.xor_assoc, ← hx]
      simp [fl]
    · rw [List.getElem_set_ne (by omega)]
      simp only [fl, List.getElem_map, List.getElem_range]
      rw [byteAt_snoc_other _ _ _ hi]

theorem fl_none (f : List Nat) (first bits k : Nat) (h : ∀ j, j < k → bits.testBit j = false) : fl f (oth first bits k) = f := by
  induction k with
  | zero => exact fl_start f first bits
  | succ k ih => rw [oth_succ, h k (by omega), fl_false]; exact ih (fun j hj => h j (by omega))
/-- A frame goes through the register without a rest. -/
theorem frm_reg (f : List Nat) (hb : ∀ z ∈ f, z ≤ 255) (h : isFrm f = true) : reg 65535 f = 0 := by
  obtain ⟨h1, h2, h3, h4⟩ := (isFrm_iff f).1 h
  have b2 := getD_byte f (f.length - 2) hb
  have b3 := getD_byte f (f.length - 1) hb
  have e : f = f.take (f.length - 2) ++ [f.getD (f.length - 2) 0, f.getD (f.length - 1) 0] := by
    rw [← cut_tail f h1, List.take_append_drop]
  rw [e, reg_app]
  have h5 : reg 65535 (f.take (f.length - 2)) = f.getD (f.length - 2) 0 * 256 + f.getD (f.length - 1) 0 := by
    rw [show reg 65535 (f.take (f.length - 2)) = crc (f.take (f.length - 2)) from rfl, h4]; omega
  rw [h5, reg_own _ _ b2 b3]
/-- A frame of which up to 16 neighbouring bits are others is none. -/
theorem noFrm_oth (f : List Nat) (first bits k : Nat) (hb : ∀ z ∈ f, z ≤ 255) (h : isFrm f = true) (hk : k ≤ 16) (hl : first + k ≤ 8 * f.length) (ht : ∃ j, j < k ∧ bits.testBit j = true) :
    isFrm (fl f (oth first bits k)) = false := by
  cases hf : isFrm (fl f (oth first bits k)) with
  | false => rfl
  | true =>
    exfalso
    have r1 := frm_reg f hb h
    have r2 := frm_reg _ (fl_byte f (oth first bits k) hb) hf
    have r3 := reg_xor 65535 65535 f (fl f (oth first bits k)) (fl_len _ _).symm
    rw [r1, r2, Nat.xor_self, Nat.xor_self] at r3
    have e : xr f (fl f (oth first bits k)) = (List.range f.length).map (byteAt (oth first bits k)) := by
      apply List.ext_getElem
      · simp [xr, fl_len]
      · intro i h1 h2
        have hi : i < f.length := by simpa using h2
        simp only [xr, fl, List.getElem_zipWith, List.getElem_map, List.getElem_range]
        rw [List.getD, List.getElem?_eq_getElem hi]
        simp [← Nat.xor_assoc]
    rw [e, reg_bits 0 _ (fun z hz => by
      simp only [List.mem_map, List.mem_range] at hz
      obtain ⟨i, _, rfl⟩ := hz
      exact byteAt_le _ _), bytes_bits, bits_zeros _ _ (by rw [oth_len]; exact hl)] at r3
    obtain ⟨j, hj, hjt⟩ := ht
    exact fb_run first _ ((List.range k).map fun j => bits.testBit j) (by simpa using hk) (List.mem_map.2 ⟨j, List.mem_range.2 hj, hjt⟩) r3

end Go.Proofs.Ytjjaomnlkpdeeaa
