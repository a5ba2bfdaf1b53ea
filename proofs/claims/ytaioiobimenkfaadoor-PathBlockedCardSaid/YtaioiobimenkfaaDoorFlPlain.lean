/-
  Floors, in plain words: lanes, docks, what is beside, what is reached, which floors are right.
-/
set_option linter.unusedVariables false
set_option maxRecDepth 100000
namespace Go.Proofs.YtaioiobimenkfaaDoor.Fl

def isL (c : Nat) : Bool := decide (97 ≤ c) && decide (c < 123)
def isD (c : Nat) : Bool := decide (48 ≤ c) && decide (c < 56)
def okc (c : Nat) : Bool := (c == 35) || isL c || isD c

/-- A string's bytes. -/
def at_ (s : ByteArray) (i : Nat) : Nat := (s.data.toList.getD i 0).toNat

/-- The cells beside one. -/
def up (W c : Nat) : List Nat := if 0 < c / W then [c - W] else []
def rt (W c : Nat) : List Nat := if c % W + 1 < W then [c + 1] else []
def dn (W H c : Nat) : List Nat := if c / W + 1 < H then [c + W] else []
def lf (W c : Nat) : List Nat := if 0 < c % W then [c - 1] else []
def side (W H c : Nat) : List Nat := up W c ++ rt W c ++ dn W H c ++ lf W c

/-- The cells whose bytes are so. -/
def pick (p : Nat → Bool) (z : Nat → Nat) (n : Nat) : List Nat := (List.range n).filter fun i => p (z i)

/-- b can be reached from a, through lanes. -/
def Rch (W H : Nat) (z : Nat → Nat) (a b : Nat) : Prop := ∀ S : Nat → Prop, S a → (∀ x y, S x → y ∈ side W H x → isL (z y) = true → S y) → S b
theorem Rch.refl (W H : Nat) (z : Nat → Nat) (a : Nat) : Rch W H z a a := fun S h _ => h
theorem Rch.step {W H : Nat} {z : Nat → Nat} {a b c : Nat} (h : Rch W H z a b) (hc : c ∈ side W H b) (hl : isL (z c) = true) : Rch W H z a c := fun S h0 hs => hs b c (h S h0 hs) hc hl
theorem Rch.trans {W H : Nat} {z : Nat → Nat} {a b c : Nat} (h : Rch W H z a b) (k : Rch W H z b c) : Rch W H z a c := fun S h0 hs => k S (h S h0 hs) hs

/-- The lanes are joined: each can be reached from the first. -/
def Joined (W H : Nat) (z : Nat → Nat) : Prop := ∃ a r, pick isL z (W * H) = a :: r ∧ ∀ l, l ∈ a :: r → Rch W H z a l
/-- A lane is beside a cell. -/
def ByLane (W H : Nat) (z : Nat → Nat) (c : Nat) : Prop := ∃ b, b ∈ side W H c ∧ isL (z b) = true
def docks (W H : Nat) (z : Nat → Nat) : List Nat := pick isD z (W * H)
def lanes (W H : Nat) (z : Nat → Nat) : List Nat := pick isL z (W * H)
def cnt (W H : Nat) (z : Nat → Nat) (r : Nat) : Nat := (pick (fun c => c == 48 + r) z (W * H)).length

/-- A floor that is right: its docks; all of it. -/
structure DocksOk (W H : Nat) (z : Nat → Nat) : Prop where
  one : 1 ≤ (docks W H z).length
  few : (docks W H z).length ≤ 8
  once : ∀ r, r < (docks W H z).length → cnt W H z r = 1
  near : ∀ d, d ∈ docks W H z → ByLane W H z d
structure RightN (W H : Nat) (z : Nat → Nat) : Prop where
  bytes : ∀ i, i < W * H → okc (z i) = true
  docks : DocksOk W H z
  lanes : Joined W H z
/-- A floor's sides are right, and it has so many cells. -/
structure Sides (W H : Nat) (s : ByteArray) : Prop where
  w1 : 1 ≤ W
  w2 : W ≤ 16
  h1 : 1 ≤ H
  h2 : H ≤ 16
  sz : s.size = W * H
/-- A floor, of any numbers, is right. -/
def Right (W H : Int) (s : ByteArray) : Prop := ∃ w h : Nat, W = w ∧ H = h ∧ Sides w h s ∧ RightN w h (at_ s)

theorem le_mul16 {W H : Nat} (h1 : W ≤ 16) (h2 : H ≤ 16) : W * H ≤ 256 := Nat.le_trans (Nat.mul_le_mul h1 h2) (by decide)
theorem Sides.le {W H : Nat} {s : ByteArray} (h : Sides W H s) : s.size ≤ 256 := by rw [h.sz]; exact le_mul16 h.w2 h.h2
theorem Sides.pos {W H : Nat} {s : ByteArray} (h : Sides W H s) : 1 ≤ W * H := Nat.mul_pos h.w1 h.h1

/-! ### What is beside -/
theorem mem_side {W H c b : Nat} : b ∈ side W H c ↔ (0 < c / W ∧ b = c - W) ∨ (c % W + 1 < W ∧ b = c + 1) ∨ (c / W + 1 < H ∧ b = c + W) ∨ (0 < c % W ∧ b = c - 1) := by
  unfold side up rt dn lf
  by_cases h1 : 0 < c / W <;> by_cases h2 : c % W + 1 < W <;> by_cases h3 : c / W + 1 < H <;> by_cases h4 : 0 < c % W <;> simp [h1, h2, h3, h4]

theorem le_div_mul {c W : Nat} (h : 0 < c / W) : W ≤ c := by
  rcases Nat.lt_or_ge c W with hc | hc
  · rw [Nat.div_eq_of_lt hc] at h; omega
  · exact hc
/-- The row and the place of a neighbour. -/
theorem side_at {W H c b : Nat} (hW : 1 ≤ W) (hc : c < W * H) (h : b ∈ side W H c) :
    (b / W + 1 = c / W ∧ b % W = c % W ∧ b + W = c) ∨ (b / W = c / W ∧ b % W = c % W + 1 ∧ b = c + 1) ∨ (b / W = c / W + 1 ∧ b % W = c % W ∧ b = c + W) ∨ (b / W = c / W ∧ b % W + 1 = c % W ∧ b + 1 = c) := by
  have e := Nat.div_add_mod c W
  have hm := Nat.mod_lt c hW
  rcases mem_side.1 h with ⟨h1, rfl⟩ | ⟨h1, rfl⟩ | ⟨h1, rfl⟩ | ⟨h1, rfl⟩
  · have hle := le_div_mul h1
    refine .inl ⟨?_, ?_, by omega⟩
    · have := Nat.sub_mul_div c W 1
      simp only [Nat.mul_one] at this
      rw [this]; omega
    · have h3 : (c - W + W) % W = (c - W) % W := Nat.add_mod_right _ _
      rw [Nat.sub_add_cancel hle] at h3
      exact h3.symm
  · refine .inr (.inl ⟨?_, ?_, rfl⟩)
    · rw [Nat.div_eq_of_lt_le (k := c / W)]
      · rw [Nat.mul_comm]; omega
      · rw [Nat.add_mul, Nat.one_mul, Nat.mul_comm]; omega
    · rw [Nat.add_mod, Nat.mod_eq_of_lt (a := 1) (by omega), Nat.mod_eq_of_lt (a := c % W + 1) h1]
  · refine .inr (.inr (.inl ⟨?_, Nat.add_mod_right _ _, rfl⟩))
    rw [Nat.add_div_right _ (by omega)]
  · have hc1 : 1 ≤ c := by
      rcases Nat.eq_zero_or_pos c with h0 | h0
      · subst h0; simp at h1
      · exact h0
    have h5 : (c - 1) / W = c / W := by
      refine Nat.div_eq_of_lt_le ?_ ?_
      · rw [Nat.mul_comm]; omega
      · rw [Nat.add_mul, Nat.one_mul, Nat.mul_comm]; omega
    refine .inr (.inr (.inr ⟨h5, ?_, by omega⟩))
    have e2 := Nat.div_add_mod (c - 1) W
    rw [h5] at e2
    omega
theorem lt_of_row {W H b : Nat} (hW : 1 ≤ W) (h : b / W < H) : b < W * H := by
  have e := Nat.div_add_mod b W
  have hm := Nat.mod_lt b hW
  have : W * (b / W) + W ≤ W * H := by
    rw [← Nat.mul_succ]; exact Nat.mul_le_mul_left _ h
  omega
theorem row_lt {W H b : Nat} (hW : 1 ≤ W) (h : b < W * H) : b / W < H := (Nat.div_lt_iff_lt_mul hW).2 (by rw [Nat.mul_comm]; exact h)
theorem side_lt {W H c b : Nat} (hW : 1 ≤ W) (hc : c < W * H) (h : b ∈ side W H c) : b < W * H := by
  have hr := row_lt hW hc
  apply lt_of_row hW
  rcases mem_side.1 h with ⟨h1, _⟩ | ⟨h1, _⟩ | ⟨h1, _⟩ | ⟨h1, _⟩ <;> rcases side_at hW hc h with ⟨h2, _, h4⟩ | ⟨h2, h3, h4⟩ | ⟨h2, _, h4⟩ | ⟨h2, h3, h4⟩ <;> omega
theorem side_sym {W H c b : Nat} (hW : 1 ≤ W) (hc : c < W * H) (h : b ∈ side W H c) : c ∈ side W H b := by
  have hb := side_lt hW hc h
  have hr := row_lt hW hc
  have hrb := row_lt hW hb
  have hm := Nat.mod_lt c hW
  have hmb := Nat.mod_lt b hW
  rw [mem_side]
  rcases side_at hW hc h with ⟨h2, h3, h4⟩ | ⟨h2, h3, h4⟩ | ⟨h2, h3, h4⟩ | ⟨h2, h3, h4⟩
  · exact .inr (.inr (.inl ⟨by omega, by omega⟩))
  · exact .inr (.inr (.inr ⟨by omega, by omega⟩))
  · exact .inl ⟨by rw [h2]; exact Nat.succ_pos _, by omega⟩
  · exact .inr (.inl ⟨by omega, by omega⟩)
theorem side_ne {W H c : Nat} (hW : 1 ≤ W) (hc : c < W * H) : c ∉ side W H c := fun h => by
  rcases side_at hW hc h with ⟨_, _, h⟩ | ⟨_, _, h⟩ | ⟨_, _, h⟩ | ⟨_, _, h⟩ <;> omega
theorem side_len (W H c : Nat) : (side W H c).length ≤ 4 := by
  unfold side up rt dn lf
  simp only [List.length_append]
  have : ∀ (p : Prop) [Decidable p] (x : Nat), (if p then [x] else []).length ≤ 1 := fun p _ x => by split <;> simp
  have h1 := this (0 < c / W) (c - W)
  have h2 := this (c % W + 1 < W) (c + 1)
  have h3 := this (c / W + 1 < H) (c + W)
  have h4 := this (0 < c % W) (c - 1)
  omega

/-! ### Cells that are picked -/
theorem mem_pick {p : Nat → Bool} {z : Nat → Nat} {n i : Nat} : i ∈ pick p z n ↔ i < n ∧ p (z i) = true := by simp [pick]
theorem pick_succ (p : Nat → Bool) (z : Nat → Nat) (n : Nat) : pick p z (n + 1) = pick p z n ++ if p (z n) = true then [n] else [] := by
  unfold pick
  rw [List.range_succ, List.filter_append]
  by_cases h : p (z n) = true <;> simp [h]
theorem pick_zero (p : Nat → Bool) (z : Nat → Nat) : pick p z 0 = [] := rfl
theorem pick_le (p : Nat → Bool) (z : Nat → Nat) (n : Nat) : (pick p z n).length ≤ n := by
  have := List.length_filter_le (fun i => p (z i)) (List.range n)
  simpa [pick] using this
theorem pick_nodup (p : Nat → Bool) (z : Nat → Nat) (n : Nat) : (pick p z n).Nodup := List.Nodup.sublist (List.filter_sublist) List.nodup_range
end Go.Proofs.YtaioiobimenkfaaDoor.Fl
