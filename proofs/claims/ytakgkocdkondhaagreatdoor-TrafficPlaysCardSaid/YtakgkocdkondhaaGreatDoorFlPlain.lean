/-
  Floors, in plain words: lanes, docks, what is beside, what is reached, which floors are right.
  How lanes are reached, in plain words: what is reached, what is missing still.
  How often each number stands among docks, in plain words.
  Cells that are on, spread over lanes until nothing is new, in plain words.
  The first lane; when a floor is right, in the document's order.
-/
set_option linter.unusedVariables false
set_option maxRecDepth 100000
section
namespace Go.Proofs.YtakgkocdkondhaaGreatDoor.Fl

def isL (c : Nat) : Bool := decide (97 ≤ c) && decide (c < 123)
def isD (c : Nat) : Bool := decide (48 ≤ c) && decide (c < 56)
def okc (c : Nat) : Bool := (c == 35) || isL c || isD c

/-- A string's bytes. -/
def at_ (s : ByteArray) (i : Nat) : Nat := (s.data.toList.getD i 0).toNat

/-- The cells beside one. -/
def up (W c : Nat) : List Nat := if 0 < c / W then [c - W] else []
def rt (W c : Nat) : List Nat := if c % W + 1 < W then [c + 1] else []
def dn (W H c : Nat) : List Nat := if c / W + 1 < H then [c + W] else []
def lf (W c : Nat) : List Nat := if 0 < c % W then [c - 1] else []
def side (W H c : Nat) : List Nat := up W c ++ rt W c ++ dn W H c ++ lf W c

/-- The cells whose bytes are so. -/
def pick (p : Nat → Bool) (z : Nat → Nat) (n : Nat) : List Nat := (List.range n).filter fun i => p (z i)

/-- b can be reached from a, through lanes. -/
def Rch (W H : Nat) (z : Nat → Nat) (a b : Nat) : Prop := ∀ S : Nat → Prop, S a → (∀ x y, S x → y ∈ side W H x → isL (z y) = true → S y) → S b
theorem Rch.refl (W H : Nat) (z : Nat → Nat) (a : Nat) : Rch W H z a a := fun S h _ => h
theorem Rch.step {W H : Nat} {z : Nat → Nat} {a b c : Nat} (h : Rch W H z a b) (hc : c ∈ side W H b) (hl : isL (z c) = true) : Rch W H z a c := fun S h0 hs => hs b c (h S h0 hs) hc hl
/-- The lanes are joined: each can be reached from the first. -/
def Joined (W H : Nat) (z : Nat → Nat) : Prop := ∃ a r, pick isL z (W * H) = a :: r ∧ ∀ l, l ∈ a :: r → Rch W H z a l
/-- A lane is beside a cell. -/
def ByLane (W H : Nat) (z : Nat → Nat) (c : Nat) : Prop := ∃ b, b ∈ side W H c ∧ isL (z b) = true
def docks (W H : Nat) (z : Nat → Nat) : List Nat := pick isD z (W * H)
def lanes (W H : Nat) (z : Nat → Nat) : List Nat := pick isL z (W * H)
def cnt (W H : Nat) (z : Nat → Nat) (r : Nat) : Nat := (pick (fun c => c == 48 + r) z (W * H)).length

/-- A floor that is right: its docks; all of it. -/
structure DocksOk (W H : Nat) (z : Nat → Nat) : Prop where
  one : 1 ≤ (docks W H z).length
  few : (docks W H z).length ≤ 8
  once : ∀ r, r < (docks W H z).length → cnt W H z r = 1
  near : ∀ d, d ∈ docks W H z → ByLane W H z d
structure RightN (W H : Nat) (z : Nat → Nat) : Prop where
  bytes : ∀ i, i < W * H → okc (z i) = true
  docks : DocksOk W H z
  lanes : Joined W H z
/-- A floor's sides are right, and it has so many cells. -/
structure Sides (W H : Nat) (s : ByteArray) : Prop where
  w1 : 1 ≤ W
  w2 : W ≤ 16
  h1 : 1 ≤ H
  h2 : H ≤ 16
  sz : s.size = W * H
/-- A floor, of any numbers, is right. -/
def Right (W H : Int) (s : ByteArray) : Prop := ∃ w h : Nat, W = w ∧ H = h ∧ Sides w h s ∧ RightN w h (at_ s)

theorem le_mul16 {W H : Nat} (h1 : W ≤ 16) (h2 : H ≤ 16) : W * H ≤ 256 := Nat.le_trans (Nat.mul_le_mul h1 h2) (by decide)
theorem Sides.le {W H : Nat} {s : ByteArray} (h : Sides W H s) : s.size ≤ 256 := by rw [h.sz]; exact le_mul16 h.w2 h.h2
/-! ### What is beside -/
theorem mem_side {W H c b : Nat} : b ∈ side W H c ↔ (0 < c / W ∧ b = c - W) ∨ (c % W + 1 < W ∧ b = c + 1) ∨ (c / W + 1 < H ∧ b = c + W) ∨ (0 < c % W ∧ b = c - 1) := by
  unfold side up rt dn lf
  by_cases h1 : 0 < c / W <;> by_cases h2 : c % W + 1 < W <;> by_cases h3 : c / W + 1 < H <;> by_cases h4 : 0 < c % W <;> simp [h1, h2, h3, h4]

theorem le_div_mul {c W : Nat} (h : 0 < c / W) : W ≤ c := by
  rcases Nat.lt_or_ge c W with hc | hc
  · rw [Nat.div_eq_of_lt hc] at h; omega
  · exact hc
/-- The row and the place of a neighbour. -/
theorem side_at {W H c b : Nat} (hW : 1 ≤ W) (hc : c < W * H) (h : b ∈ side W H c) :
    (b / W + 1 = c / W ∧ b % W = c % W ∧ b + W = c) ∨ (b / W = c / W ∧ b % W = c % W + 1 ∧ b = c + 1) ∨ (b / W = c / W + 1 ∧ b % W = c % W ∧ b = c + W) ∨ (b / W = c / W ∧ b % W + 1 = c % W ∧ b + 1 = c) := by
  have e := Nat.div_add_mod c W
  have hm := Nat.mod_lt c hW
  rcases mem_side.1 h with ⟨h1, rfl⟩ | ⟨h1, rfl⟩ | ⟨h1, rfl⟩ | ⟨h1, rfl⟩
  · have hle := le_div_mul h1
    refine .inl ⟨?_, ?_, by omega⟩
    · have := Nat.sub_mul_div c W 1
      simp only [Nat.mul_one] at this
      rw [this]; omega
    · have h3 : (c - W + W) % W = (c - W) % W := Nat.add_mod_right _ _
      rw [Nat.sub_add_cancel hle] at h3
      exact h3.symm
  · refine .inr (.inl ⟨?_, ?_, rfl⟩)
    · rw [Nat.div_eq_of_lt_le (k := c / W)]
      · rw [Nat.mul_comm]; omega
      · rw [Nat.add_mul, Nat.one_mul, Nat.mul_comm]; omega
    · rw [Nat.add_mod, Nat.mod_eq_of_lt (a := 1) (by omega), Nat.mod_eq_of_lt (a := c % W + 1) h1]
  · refine .inr (.inr (.inl ⟨?_, Nat.add_mod_right _ _, rfl⟩))
    rw [Nat.add_div_right _ (by omega)]
  · have hc1 : 1 ≤ c := by
      rcases Nat.eq_zero_or_pos c with h0 | h0
      · subst h0; simp at h1
      · exact h0
    have h5 : (c - 1) / W = c / W := by
      refine Nat.div_eq_of_lt_le ?_ ?_
      · rw [Nat.mul_comm]; omega
      · rw [Nat.add_mul, Nat.one_mul, Nat.mul_comm]; omega
    refine .inr (.inr (.inr ⟨h5, ?_, by omega⟩))
    have e2 := Nat.div_add_mod (c - 1) W
    rw [h5] at e2
    omega
theorem lt_of_row {W H b : Nat} (hW : 1 ≤ W) (h : b / W < H) : b < W * H := by
  have e := Nat.div_add_mod b W
  have hm := Nat.mod_lt b hW
  have : W * (b / W) + W ≤ W * H := by
    rw [← Nat.mul_succ]; exact Nat.mul_le_mul_left _ h
  omega
theorem row_lt {W H b : Nat} (hW : 1 ≤ W) (h : b < W * H) : b / W < H := (Nat.div_lt_iff_lt_mul hW).2 (by rw [Nat.mul_comm]; exact h)
theorem side_lt {W H c b : Nat} (hW : 1 ≤ W) (hc : c < W * H) (h : b ∈ side W H c) : b < W * H := by
  have hr := row_lt hW hc
  apply lt_of_row hW
  rcases mem_side.1 h with ⟨h1, _⟩ | ⟨h1, _⟩ | ⟨h1, _⟩ | ⟨h1, _⟩ <;> rcases side_at hW hc h with ⟨h2, _, h4⟩ | ⟨h2, h3, h4⟩ | ⟨h2, _, h4⟩ | ⟨h2, h3, h4⟩ <;> omega
theorem side_sym {W H c b : Nat} (hW : 1 ≤ W) (hc : c < W * H) (h : b ∈ side W H c) : c ∈ side W H b := by
  have hb := side_lt hW hc h
  have hr := row_lt hW hc
  have hrb := row_lt hW hb
  have hm := Nat.mod_lt c hW
  have hmb := Nat.mod_lt b hW
  rw [mem_side]
  rcases side_at hW hc h with ⟨h2, h3, h4⟩ | ⟨h2, h3, h4⟩ | ⟨h2, h3, h4⟩ | ⟨h2, h3, h4⟩
  · exact .inr (.inr (.inl ⟨by omega, by omega⟩))
  · exact .inr (.inr (.inr ⟨by omega, by omega⟩))
  · exact .inl ⟨by rw [h2]; exact Nat.succ_pos _, by omega⟩
  · exact .inr (.inl ⟨by omega, by omega⟩)
theorem side_len (W H c : Nat) : (side W H c).length ≤ 4 := by
  unfold side up rt dn lf
  simp only [List.length_append]
  have : ∀ (p : Prop) [Decidable p] (x : Nat), (if p then [x] else []).length ≤ 1 := fun p _ x => by split <;> simp
  have h1 := this (0 < c / W) (c - W)
  have h2 := this (c % W + 1 < W) (c + 1)
  have h3 := this (c / W + 1 < H) (c + W)
  have h4 := this (0 < c % W) (c - 1)
  omega

/-! ### Cells that are picked -/
theorem mem_pick {p : Nat → Bool} {z : Nat → Nat} {n i : Nat} : i ∈ pick p z n ↔ i < n ∧ p (z i) = true := by simp [pick]
theorem pick_succ (p : Nat → Bool) (z : Nat → Nat) (n : Nat) : pick p z (n + 1) = pick p z n ++ if p (z n) = true then [n] else [] := by
  unfold pick
  rw [List.range_succ, List.filter_append]
  by_cases h : p (z n) = true <;> simp [h]
theorem pick_le (p : Nat → Bool) (z : Nat → Nat) (n : Nat) : (pick p z n).length ≤ n := by
  have := List.length_filter_le (fun i => p (z i)) (List.range n)
  simpa [pick] using this
theorem pick_nodup (p : Nat → Bool) (z : Nat → Nat) (n : Nat) : (pick p z n).Nodup := List.Nodup.sublist (List.filter_sublist) List.nodup_range
end Go.Proofs.YtakgkocdkondhaaGreatDoor.Fl
end

section
namespace Go.Proofs.YtakgkocdkondhaaGreatDoor.Fl

/-- Of the lanes 'a :: r' those of R are reached, those of M are not yet; from the first i of R all was looked at; of the next one, d, so much of what is beside it. -/
structure Wv (W H : Nat) (z : Nat → Nat) (a : Nat) (r : List Nat) (i : Nat) (R M : List Nat) : Prop where
  nd : M.Nodup
  cover : ∀ x, x ∈ a :: r → x ∈ R ∨ x ∈ M
  apart : ∀ x, x ∈ R → x ∉ M
  len : R.length + M.length = (a :: r).length
  head : a ∈ R
  sub : ∀ x, x ∈ R → x ∈ a :: r
  subM : ∀ x, x ∈ M → x ∈ a :: r
  rch : ∀ x, x ∈ R → Rch W H z a x
  done : ∀ j, j < i → ∀ y, y ∈ side W H (R.getD j 0) → isL (z y) = true → y ∉ M

theorem Wv.start (W H : Nat) (z : Nat → Nat) (a : Nat) (r : List Nat) (h : (a :: r).Nodup) : Wv W H z a r 0 [a] r :=
  ⟨(List.nodup_cons.1 h).2, fun x hx => by simpa using hx, fun x hx => by obtain rfl := List.mem_singleton.1 hx; exact (List.nodup_cons.1 h).1, by simp; omega, by simp, fun x hx => by obtain rfl := List.mem_singleton.1 hx; simp, fun x hx => by simp [hx],
    fun x hx => by obtain rfl := List.mem_singleton.1 hx; exact Rch.refl _ _ _ _, fun j hj => by omega⟩

/-- Beside the i-th one that is reached, y is missing: now it is reached. -/
theorem Wv.step {W H : Nat} {z : Nat → Nat} {a : Nat} {r : List Nat} {i : Nat} {R M : List Nat} (h : Wv W H z a r i R M) (hl : ∀ x, x ∈ a :: r → isL (z x) = true) (hi : i < R.length) (y : Nat) (hy : y ∈ side W H (R.getD i 0)) (hm : y ∈ M) :
    Wv W H z a r i (R ++ [y]) (M.erase y) := by
  have hmi : R.getD i 0 ∈ R := by rw [List.getD, List.getElem?_eq_getElem hi]; exact List.getElem_mem hi
  refine ⟨h.nd.erase _, fun x hx => ?_, fun x hx hxm => ?_, ?_, by simp [h.head], fun x hx => ?_, fun x hx => h.subM x (List.mem_of_mem_erase hx), fun x hx => ?_, fun j hj y' hy' hl' hm' => ?_⟩
  · by_cases e : x = y
    · subst e; simp
    · rcases h.cover x hx with h1 | h1
      · exact .inl (by simp [h1])
      · exact .inr ((List.mem_erase_of_ne e).2 h1)
  · rcases List.mem_append.1 hx with h1 | h1
    · exact h.apart x h1 (List.mem_of_mem_erase hxm)
    · obtain rfl := List.mem_singleton.1 h1
      exact h.nd.not_mem_erase hxm
  · have := h.len
    have hp := List.length_pos_of_mem hm
    rw [List.length_append, List.length_erase_of_mem hm]
    simp only [List.length_singleton]
    omega
  · rcases List.mem_append.1 hx with h1 | h1
    · exact h.sub x h1
    · obtain rfl := List.mem_singleton.1 h1
      exact h.subM x hm
  · rcases List.mem_append.1 hx with h1 | h1
    · exact h.rch x h1
    · obtain rfl := List.mem_singleton.1 h1
      exact (h.rch _ hmi).step hy (hl x (h.subM x hm))
  · rw [List.getD, List.getElem?_append_left (by omega)] at hy'
    exact h.done j hj y' hy' hl' (List.mem_of_mem_erase hm')

/-- All that is beside the i-th one was looked at. -/
theorem Wv.next {W H : Nat} {z : Nat → Nat} {a : Nat} {r : List Nat} {i : Nat} {R M : List Nat} (h : Wv W H z a r i R M) (hd : ∀ y, y ∈ side W H (R.getD i 0) → y ∉ M) : Wv W H z a r (i + 1) R M :=
  ⟨h.nd, h.cover, h.apart, h.len, h.head, h.sub, h.subM, h.rch, fun j hj y hy hl => by
    rcases Nat.lt_succ_iff_lt_or_eq.1 hj with h1 | h1
    · exact h.done j h1 y hy hl
    · subst h1; exact hd y hy⟩

/-- At the end nothing is missing, just where the lanes are joined. -/
theorem Wv.finish {W H : Nat} {z : Nat → Nat} {a : Nat} {r : List Nat} {i : Nat} {R M : List Nat} (h : Wv W H z a r i R M) (hi : R.length ≤ i) (hW : 1 ≤ W) (hp : pick isL z (W * H) = a :: r) : M.length = 0 ↔ Joined W H z := by
  constructor
  · intro hm
    have hM : M = [] := List.eq_nil_of_length_eq_zero hm
    subst hM
    exact ⟨a, r, hp, fun l hl => by
      rcases h.cover l hl with h1 | h1
      · exact h.rch l h1
      · simp at h1⟩
  · rintro ⟨a', r', hp', hj⟩
    rw [hp] at hp'
    injection hp' with e1 e2
    subst e1 e2
    by_cases hm : M = []
    · subst hm; rfl
    · exfalso
      obtain ⟨x, hx⟩ := List.exists_mem_of_ne_nil M hm
      have hlane : ∀ y, y ∈ a :: r → y < W * H := fun y hy => (mem_pick.1 (by rw [hp]; exact hy)).1
      have := hj x (h.subM x hx) (fun y => y ∈ R) h.head (fun u v hu hv hl => by
        have hvl : v ∈ a :: r := by rw [← hp]; exact mem_pick.2 ⟨side_lt hW (hlane u (h.sub u hu)) hv, hl⟩
        obtain ⟨j, hj2, rfl⟩ := List.mem_iff_getElem.1 hu
        have hn := h.done j (by omega) v (by rw [List.getD, List.getElem?_eq_getElem hj2]; exact hv) hl
        rcases h.cover v hvl with h1 | h1
        · exact h1
        · exact absurd h1 hn)
      exact h.apart x this hx

theorem not_mem_take {l : List Nat} (h : l.Nodup) {k : Nat} (hk : k < l.length) : l.getD k 0 ∉ l.take k := by
  intro hx
  obtain ⟨j, hj, e⟩ := List.mem_iff_getElem.1 hx
  rw [List.length_take] at hj
  rw [List.getElem_take, List.getD, List.getElem?_eq_getElem hk] at e
  exact (List.pairwise_iff_getElem.1 h) j k (by omega) hk (by omega) e
theorem getD_mem {l : List Nat} {k : Nat} (hk : k < l.length) : l.getD k 0 ∈ l := by rw [List.getD, List.getElem?_eq_getElem hk]; exact List.getElem_mem hk
theorem mem_getD {l : List Nat} {x : Nat} (h : x ∈ l) : ∃ j, j < l.length ∧ l.getD j 0 = x := by
  obtain ⟨j, hj, e⟩ := List.mem_iff_getElem.1 h
  exact ⟨j, hj, by rw [List.getD, List.getElem?_eq_getElem hj]; exact e⟩
theorem getD_app {l m : List Nat} {k : Nat} (hk : k < l.length) : (l ++ m).getD k 0 = l.getD k 0 := by rw [List.getD, List.getD, List.getElem?_append_left hk]
end Go.Proofs.YtakgkocdkondhaaGreatDoor.Fl
end

section
namespace Go.Proofs.YtakgkocdkondhaaGreatDoor.Fl

def cn (z : Nat → Nat) (l : List Nat) (r : Nat) : Nat := (l.filter fun i => z i == 48 + r).length
theorem cn_snoc (z : Nat → Nat) (l : List Nat) (x r : Nat) : cn z (l ++ [x]) r = if z x = 48 + r then cn z l r + 1 else cn z l r := by
  unfold cn
  rw [List.filter_append, List.length_append]
  by_cases h : z x = 48 + r <;> simp [h]
theorem cn_cons (z : Nat → Nat) (l : List Nat) (x r : Nat) : cn z (x :: l) r = (if z x = 48 + r then 1 else 0) + cn z l r := by
  unfold cn
  by_cases h : z x = 48 + r
  · simp [h]; omega
  · simp [h]
theorem isD_of {c : Nat} (h : isD c = true) : ∃ r, r < 8 ∧ c = 48 + r := by
  unfold isD at h
  simp only [Bool.and_eq_true, decide_eq_true_eq] at h
  exact ⟨c - 48, by omega, by omega⟩
theorem isD_mk {r : Nat} (h : r < 8) : isD (48 + r) = true := by unfold isD; simp; omega
theorem cn_sum (z : Nat → Nat) (l : List Nat) (h : ∀ x, x ∈ l → isD (z x) = true) : cn z l 0 + cn z l 1 + cn z l 2 + cn z l 3 + cn z l 4 + cn z l 5 + cn z l 6 + cn z l 7 = l.length := by
  induction l with
  | nil => rfl
  | cons x l ih =>
    have := ih (fun y hy => h y (List.mem_cons_of_mem _ hy))
    obtain ⟨r, hr, e⟩ := isD_of (h x (by simp))
    simp only [cn_cons, List.length_cons, e]
    have hr8 : r = 0 ∨ r = 1 ∨ r = 2 ∨ r = 3 ∨ r = 4 ∨ r = 5 ∨ r = 6 ∨ r = 7 := by omega
    rcases hr8 with rfl | rfl | rfl | rfl | rfl | rfl | rfl | rfl <;> simp <;> omega
theorem pick_pick (p q : Nat → Bool) (z : Nat → Nat) (n : Nat) (h : ∀ c, q c = true → p c = true) : (pick p z n).filter (fun i => q (z i)) = pick q z n := by
  unfold pick
  rw [List.filter_filter]
  apply List.filter_congr
  intro i _
  cases hq : q (z i)
  · simp
  · simp [h _ hq]
theorem cn_docks (W H : Nat) (z : Nat → Nat) (r : Nat) (hr : r < 8) : cn z (docks W H z) r = cnt W H z r := by
  unfold cn docks cnt
  rw [pick_pick isD (fun c => c == 48 + r) z (W * H) (fun c hc => by rw [beq_iff_eq] at hc; rw [hc]; exact isD_mk hr)]
theorem docks_isD {W H : Nat} {z : Nat → Nat} {x : Nat} (h : x ∈ docks W H z) : x < W * H ∧ isD (z x) = true := mem_pick.1 h

/-- All was looked at: the docks are right where there is one. -/
theorem docks_all {W H : Nat} {z : Nat → Nat} (h : ∀ r, r < min (docks W H z).length 8 → cn z (docks W H z) r = 1) (hn : ∀ d, d ∈ docks W H z → ByLane W H z d) : DocksOk W H z ↔ 1 ≤ (docks W H z).length := by
  constructor
  · exact fun k => k.one
  · intro h1
    have h8 : (docks W H z).length ≤ 8 := by
      rcases Nat.lt_or_ge 8 (docks W H z).length with k | k
      · have hs := cn_sum z (docks W H z) (fun x hx => (docks_isD hx).2)
        have e : ∀ r, r < 8 → cn z (docks W H z) r = 1 := fun r hr => h r (by omega)
        rw [e 0 (by omega), e 1 (by omega), e 2 (by omega), e 3 (by omega), e 4 (by omega), e 5 (by omega), e 6 (by omega), e 7 (by omega)] at hs
        omega
      · exact k
    exact ⟨h1, h8, fun r hr => by rw [← cn_docks W H z r (by omega)]; exact h r (by omega), hn⟩
theorem docks_not {W H : Nat} {z : Nat → Nat} {r : Nat} (hr : r < min (docks W H z).length 8) (h : cn z (docks W H z) r ≠ 1) : ¬ DocksOk W H z := fun k => h (by rw [cn_docks W H z r (by omega)]; exact k.once r (by omega))

end Go.Proofs.YtakgkocdkondhaaGreatDoor.Fl
end

section
namespace Go.Proofs.YtakgkocdkondhaaGreatDoor.Fl

/-- How many of the first n are off. -/
def off (B : Nat → Bool) (n : Nat) : Nat := ((List.range n).filter fun x => !B x).length
def upd (B : Nat → Bool) (y : Nat) : Nat → Bool := fun x => if x = y then true else B x
theorem upd_same (B : Nat → Bool) (y : Nat) : upd B y y = true := by simp [upd]
theorem upd_other (B : Nat → Bool) {x y : Nat} (h : x ≠ y) : upd B y x = B x := by simp [upd, h]
theorem upd_le (B : Nat → Bool) (y x : Nat) (h : B x = true) : upd B y x = true := by
  unfold upd
  split
  · rfl
  · exact h
theorem off_succ (B : Nat → Bool) (n : Nat) : off B (n + 1) = off B n + if B n = true then 0 else 1 := by
  unfold off
  rw [List.range_succ, List.filter_append, List.length_append]
  cases h : B n <;> simp [h]
theorem off_upd (B : Nat → Bool) (y n : Nat) (hy : y < n) (h : B y = false) : off (upd B y) n + 1 = off B n := by
  induction n with
  | zero => omega
  | succ n ih =>
    rw [off_succ, off_succ]
    rcases Nat.lt_succ_iff_lt_or_eq.1 hy with k | k
    · rw [upd_other B (by omega : n ≠ y)]
      have := ih k
      omega
    · subst k
      have e : off (upd B y) y = off B y := by
        unfold off
        congr 1
        apply List.filter_congr
        intro x hx
        rw [upd_other B (by have := List.mem_range.1 hx; omega)]
      rw [e, upd_same, h]
      simp

/-- What is on can be reached from a; a is on. -/
structure Rs (W H : Nat) (z : Nat → Nat) (a n : Nat) (B : Nat → Bool) : Prop where
  head : B a = true
  rch : ∀ x, x < n → B x = true → Rch W H z a x
theorem Rs.add {W H : Nat} {z : Nat → Nat} {a n : Nat} {B : Nat → Bool} (h : Rs W H z a n B) {i y : Nat} (hi : i < n) (hb : B i = true) (hy : y ∈ side W H i) (hl : isL (z y) = true) : Rs W H z a n (upd B y) :=
  ⟨upd_le B y a h.head, fun x hx hb2 => by
    by_cases e : x = y
    · subst e; exact (h.rch i hi hb).step hy hl
    · rw [upd_other B e] at hb2; exact h.rch x hx hb2⟩
/-- Nothing new behind a whole pass: what is on is what can be reached. -/
theorem Rs.all {W H : Nat} {z : Nat → Nat} {a : Nat} {B : Nat → Bool} (h : Rs W H z a (W * H) B) (hW : 1 ≤ W) (ha : a < W * H) (hc : ∀ x, x < W * H → B x = true → ∀ y, y ∈ side W H x → isL (z y) = true → B y = true) (x : Nat) (hx : x < W * H) : B x = true ↔ Rch W H z a x := by
  constructor
  · exact h.rch x hx
  · intro k
    have := k (fun v => v < W * H ∧ B v = true) ⟨ha, h.head⟩ (fun u v hu hv hl => ⟨side_lt hW hu.1 hv, hc u hu.1 hu.2 v hv hl⟩)
    exact this.2

/-- Within a pass that began with o cells off: m tells whether something is new; if not, of the first i what is on was looked at. -/
structure Ps (W H : Nat) (z : Nat → Nat) (a n o i : Nat) (m : Bool) (B : Nat → Bool) : Prop where
  rs : Rs W H z a n B
  less : off B n + (if m = true then 1 else 0) ≤ o
  done : m = false → ∀ x, x < i → B x = true → ∀ y, y ∈ side W H x → isL (z y) = true → B y = true
theorem Ps.new {W H : Nat} {z : Nat → Nat} {a n o i : Nat} {m : Bool} {B : Nat → Bool} (h : Ps W H z a n o i m B) {y : Nat} (hi : i < n) (hb : B i = true) (hy : y ∈ side W H i) (hl : isL (z y) = true) (hn : y < n) (hf : B y = false) : Ps W H z a n o i true (upd B y) :=
  ⟨h.rs.add hi hb hy hl, by
    have h1 := off_upd B y n hn hf
    have h2 := h.less
    rw [if_pos rfl]
    omega, fun e => by cases e⟩
theorem Ps.next {W H : Nat} {z : Nat → Nat} {a n o i : Nat} {m : Bool} {B : Nat → Bool} (h : Ps W H z a n o i m B) (hd : m = false → B i = true → ∀ y, y ∈ side W H i → isL (z y) = true → B y = true) : Ps W H z a n o (i + 1) m B :=
  ⟨h.rs, h.less, fun e x hx => by
    rcases Nat.lt_succ_iff_lt_or_eq.1 hx with k | k
    · exact h.done e x k
    · subst k; exact hd e⟩

end Go.Proofs.YtakgkocdkondhaaGreatDoor.Fl
end

section
namespace Go.Proofs.YtakgkocdkondhaaGreatDoor.Fl

/-- The first lane of the first k cells, or -1. -/
def fstL (z : Nat → Nat) (k : Nat) : Int := match pick isL z k with | [] => -1 | x :: _ => (x : Int)
theorem fstL_no {z : Nat → Nat} {k : Nat} (h : isL (z k) = false) : fstL z (k + 1) = fstL z k := by
  unfold fstL
  rw [pick_succ, if_neg (by rw [h]; decide), List.append_nil]
theorem fstL_new {z : Nat → Nat} {k : Nat} (h : isL (z k) = true) (hn : fstL z k < 0) : fstL z (k + 1) = k := by
  unfold fstL at hn ⊢
  rw [pick_succ, if_pos h]
  cases hp : pick isL z k with
  | nil => rfl
  | cons x r => rw [hp] at hn; simp at hn; omega
theorem fstL_old {z : Nat → Nat} {k : Nat} (h : ¬ fstL z k < 0) : fstL z (k + 1) = fstL z k := by
  unfold fstL at h ⊢
  rw [pick_succ]
  cases hp : pick isL z k with
  | nil => rw [hp] at h; simp at h
  | cons x r => simp
theorem fstL_bd (z : Nat → Nat) (k : Nat) : -1 ≤ fstL z k ∧ fstL z k ≤ k := by
  unfold fstL
  cases hp : pick isL z k with
  | nil => simp
  | cons x r =>
    have := (mem_pick.1 (by rw [hp]; simp : x ∈ pick isL z k)).1
    simp
    omega
theorem fstL_some {z : Nat → Nat} {k : Nat} (h : ¬ fstL z k < 0) : ∃ a r, pick isL z k = a :: r ∧ fstL z k = (a : Int) := by
  unfold fstL at h ⊢
  cases hp : pick isL z k with
  | nil => rw [hp] at h; simp at h
  | cons x r => exact ⟨x, r, rfl, rfl⟩
theorem fstL_none {W H : Nat} {z : Nat → Nat} (h : fstL z (W * H) < 0) : ¬ Joined W H z := by
  rintro ⟨a, r, hp, _⟩
  unfold fstL at h
  rw [hp] at h
  simp at h
  omega
theorem not_both {c : Nat} (h : isD c = true) : isL c = false := by
  unfold isD at h
  simp only [Bool.and_eq_true, decide_eq_true_eq] at h
  unfold isL
  simp
  omega
/-- Is a lane among these? -/
def anyL (z : Nat → Nat) (l : List Nat) : Bool := l.any fun b => isL (z b)
theorem anyL_snoc (z : Nat → Nat) (l : List Nat) (b : Nat) : anyL z (l ++ [b]) = (anyL z l || isL (z b)) := by simp [anyL, List.any_append]
theorem anyL_iff (W H : Nat) (z : Nat → Nat) (c : Nat) : anyL z (side W H c) = true ↔ ByLane W H z c := by
  unfold anyL ByLane
  rw [List.any_eq_true]

end Go.Proofs.YtakgkocdkondhaaGreatDoor.Fl
end
