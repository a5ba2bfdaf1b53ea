/-
  Ways through a graph, in plain words: how far a cell is, a search that goes by what was found first, and the first of the shortest ways.
  A search that goes by what was found first: what it has found, where from, and what follows when nothing is left.
  The document's search: all cells so far away, then those one step further; and its way, by how far it is from there.
  Ways over a floor: the steps; what follows of how far cells are.
-/
import Derived.Test.YtellaeihcignaaaGreatDoorFlPlain
set_option linter.unusedVariables false
set_option maxRecDepth 100000
section
namespace Go.Proofs.YtellaeihcignaaaGreatDoor.Pt

/-- A way of so many steps. -/
inductive Wk (nx : Nat → List Nat) (a : Nat) : Nat → Nat → Prop
  | zero : Wk nx a 0 a
  | step {n b c : Nat} : Wk nx a n b → c ∈ nx b → Wk nx a (n + 1) c
theorem Wk.inv {nx : Nat → List Nat} {a n c : Nat} (h : Wk nx a n c) : (n = 0 ∧ c = a) ∨ ∃ m b, n = m + 1 ∧ Wk nx a m b ∧ c ∈ nx b := by
  cases h with
  | zero => exact .inl ⟨rfl, rfl⟩
  | step h1 h2 => exact .inr ⟨_, _, rfl, h1, h2⟩
theorem Wk.zero_eq {nx : Nat → List Nat} {a c : Nat} (h : Wk nx a 0 c) : c = a := by
  rcases h.inv with ⟨_, e⟩ | ⟨m, b, e, _⟩
  · exact e
  · omega
theorem Wk.succ_inv {nx : Nat → List Nat} {a n c : Nat} (h : Wk nx a (n + 1) c) : ∃ b, Wk nx a n b ∧ c ∈ nx b := by
  rcases h.inv with ⟨e, _⟩ | ⟨m, b, e, h1, h2⟩
  · omega
  · obtain rfl : n = m := by omega
    exact ⟨b, h1, h2⟩
theorem Wk.trans {nx : Nat → List Nat} {a b : Nat} {n : Nat} (h : Wk nx a n b) : ∀ {m c : Nat}, Wk nx b m c → Wk nx a (n + m) c := by
  intro m
  induction m with
  | zero => intro c k; rw [k.zero_eq]; exact h
  | succ m ih =>
    intro c k
    obtain ⟨d, k1, k2⟩ := k.succ_inv
    exact .step (ih k1) k2
theorem Wk.first {nx : Nat → List Nat} {a b : Nat} (h : b ∈ nx a) : Wk nx a 1 b := .step .zero h
theorem Wk.cons {nx : Nat → List Nat} {a b c n : Nat} (h : b ∈ nx a) (k : Wk nx b n c) : Wk nx a (n + 1) c := by
  have := (Wk.first h).trans k
  rwa [Nat.add_comm] at this
theorem Wk.uncons {nx : Nat → List Nat} {a : Nat} : ∀ {n c : Nat}, Wk nx a (n + 1) c → ∃ b, b ∈ nx a ∧ Wk nx b n c := by
  intro n
  induction n with
  | zero =>
    intro c h
    obtain ⟨b, h1, h2⟩ := h.succ_inv
    rw [h1.zero_eq] at h2
    exact ⟨c, h2, .zero⟩
  | succ n ih =>
    intro c h
    obtain ⟨d, h1, h2⟩ := h.succ_inv
    obtain ⟨b, k1, k2⟩ := ih h1
    exact ⟨b, k1, .step k2 h2⟩
theorem Wk.cut {nx : Nat → List Nat} {a : Nat} : ∀ {n c : Nat} (m : Nat), m ≤ n → Wk nx a n c → ∃ b, Wk nx a m b ∧ Wk nx b (n - m) c := by
  intro n
  induction n with
  | zero => intro c m hm h; obtain rfl : m = 0 := by omega
            exact ⟨c, h, .zero⟩
  | succ n ih =>
    intro c m hm h
    by_cases e : m = n + 1
    · subst e; exact ⟨c, h, by rw [Nat.sub_self]; exact .zero⟩
    · obtain ⟨d, h1, h2⟩ := h.succ_inv
      obtain ⟨b, k1, k2⟩ := ih m (by omega) h1
      refine ⟨b, k1, ?_⟩
      rw [show n + 1 - m = (n - m) + 1 by omega]
      exact .step k2 h2
theorem Wk.mono {nx ny : Nat → List Nat} {a : Nat} (hs : ∀ x y, y ∈ nx x → y ∈ ny x) : ∀ {n c : Nat}, Wk nx a n c → Wk ny a n c := by
  intro n
  induction n with
  | zero => intro c h; rw [h.zero_eq]; exact .zero
  | succ n ih =>
    intro c h
    obtain ⟨b, h1, h2⟩ := h.succ_inv
    exact .step (ih h1) (hs _ _ h2)

/-- A cell is just so many steps away. -/
def Lv (nx : Nat → List Nat) (a n c : Nat) : Prop := Wk nx a n c ∧ ∀ m, Wk nx a m c → n ≤ m
theorem Lv.uniq {nx : Nat → List Nat} {a n m c : Nat} (h : Lv nx a n c) (k : Lv nx a m c) : n = m := Nat.le_antisymm (h.2 _ k.1) (k.2 _ h.1)
theorem Lv.zero (nx : Nat → List Nat) (a : Nat) : Lv nx a 0 a := ⟨.zero, fun m _ => Nat.zero_le m⟩
/-- The cell ahead, on a shortest way. -/
theorem Lv.pred {nx : Nat → List Nat} {a n c : Nat} (h : Lv nx a (n + 1) c) : ∃ b, Lv nx a n b ∧ c ∈ nx b := by
  obtain ⟨b, h1, h2⟩ := h.1.succ_inv
  refine ⟨b, ⟨h1, fun m k => ?_⟩, h2⟩
  have := h.2 _ (.step k h2)
  omega
theorem lv_of {nx : Nat → List Nat} {a c : Nat} : ∀ n, Wk nx a n c → ∃ m, m ≤ n ∧ Lv nx a m c := by
  intro n
  induction n using Nat.strongRecOn with
  | ind n ih =>
    intro h
    by_cases hc : ∃ m, m < n ∧ Wk nx a m c
    · obtain ⟨m, h1, h2⟩ := hc
      obtain ⟨k, k1, k2⟩ := ih m h1 h2
      exact ⟨k, by omega, k2⟩
    · refine ⟨n, Nat.le_refl _, h, fun m k => ?_⟩
      rcases Nat.lt_or_ge m n with e | e
      · exact absurd ⟨m, e, k⟩ hc
      · exact e
/-- How far a cell is, as a number that is told. -/
def IsD (nx : Nat → List Nat) (a c : Nat) (x : Int) : Prop := (x = -1 ∧ ∀ n, ¬ Wk nx a n c) ∨ ∃ n : Nat, x = (n : Int) ∧ Lv nx a n c
theorem IsD.uniq {nx : Nat → List Nat} {a c : Nat} {x y : Int} (h : IsD nx a c x) (k : IsD nx a c y) : x = y := by
  rcases h with ⟨rfl, h⟩ | ⟨n, rfl, h⟩ <;> rcases k with ⟨rfl, k⟩ | ⟨m, rfl, k⟩
  · rfl
  · exact absurd k.1 (h m)
  · exact absurd h.1 (k n)
  · rw [h.uniq k]

theorem nodup_below : ∀ (N : Nat) (l : List Nat), l.Nodup → (∀ x, x ∈ l → x < N) → l.length ≤ N := by
  intro N
  induction N with
  | zero => intro l _ h; cases l with
    | nil => exact Nat.le_refl _
    | cons x l => exact absurd (h x (by simp)) (by omega)
  | succ N ih =>
    intro l hn h
    have h1 : (l.erase N).length ≤ N := by
      refine ih _ (hn.erase N) fun x hx => ?_
      have hx' := (List.Nodup.mem_erase_iff hn).1 hx
      have := h x hx'.2
      omega
    have h2 := List.length_erase (a := N) (l := l)
    split at h2 <;> omega
theorem wk_lt {nx : Nat → List Nat} {a N : Nat} (ha : a < N) (hN : ∀ x y, x < N → y ∈ nx x → y < N) : ∀ {n c : Nat}, Wk nx a n c → c < N := by
  intro n
  induction n with
  | zero => intro c h; rw [h.zero_eq]; exact ha
  | succ n ih =>
    intro c h
    obtain ⟨b, h1, h2⟩ := h.succ_inv
    exact hN b c (ih h1) h2
/-- All cells on the way are others: so there are as many cells. -/
theorem lv_cells {nx : Nat → List Nat} {a N : Nat} (ha : a < N) (hN : ∀ x y, x < N → y ∈ nx x → y < N) : ∀ n c, Lv nx a n c → ∃ l : List Nat, l.length = n + 1 ∧ l.Nodup ∧ ∀ x, x ∈ l → x < N ∧ ∃ m, m ≤ n ∧ Lv nx a m x := by
  intro n
  induction n with
  | zero =>
    intro c h
    refine ⟨[a], rfl, by simp, fun x hx => ?_⟩
    obtain rfl : x = a := by simpa using hx
    exact ⟨ha, 0, Nat.le_refl _, Lv.zero _ _⟩
  | succ n ih =>
    intro c h
    obtain ⟨b, h1, h2⟩ := h.pred
    obtain ⟨l, e, hn, hl⟩ := ih b h1
    refine ⟨c :: l, by simp [e], ?_, fun x hx => ?_⟩
    · rw [List.nodup_cons]
      refine ⟨fun hc => ?_, hn⟩
      obtain ⟨_, m, hm, k⟩ := hl c hc
      have := h.uniq k
      omega
    · rcases List.mem_cons.1 hx with rfl | hx
      · refine ⟨?_, n + 1, Nat.le_refl _, h⟩
        exact hN b x (wk_lt ha hN h1.1) h2
      · obtain ⟨h3, m, hm, k⟩ := hl x hx
        exact ⟨h3, m, by omega, k⟩
theorem lv_lt {nx : Nat → List Nat} {a N n c : Nat} (ha : a < N) (hN : ∀ x y, x < N → y ∈ nx x → y < N) (h : Lv nx a n c) : n < N := by
  obtain ⟨l, e, hn, hl⟩ := lv_cells ha hN n c h
  have := nodup_below N l hn (fun x hx => (hl x hx).1)
  omega
/-- The first of the ways of so many steps: each cell is the first from which the rest can be gone. -/
def Gr (nx : Nat → List Nat) (z : Nat) : Nat → List Nat → Prop
  | a, [] => a = z
  | a, x :: p => (∃ l1 l2, nx a = l1 ++ x :: l2 ∧ ∀ y, y ∈ l1 → ¬ Wk nx y p.length z) ∧ Gr nx z x p
theorem Gr.wk {nx : Nat → List Nat} {z : Nat} : ∀ {p : List Nat} {a : Nat}, Gr nx z a p → Wk nx a p.length z
  | [], a, h => by rw [show a = z from h]; exact .zero
  | x :: p, a, h => by
    obtain ⟨⟨l1, l2, e, _⟩, h2⟩ := h
    exact Wk.cons (by rw [e]; simp) h2.wk
theorem first_uniq {l1 l2 k1 k2 : List Nat} {x y : Nat} {P : Nat → Prop} (h : l1 ++ x :: l2 = k1 ++ y :: k2) (hx : P x) (hy : P y) (h1 : ∀ u, u ∈ l1 → ¬ P u) (h2 : ∀ u, u ∈ k1 → ¬ P u) : x = y := by
  induction l1 generalizing k1 with
  | nil =>
    cases k1 with
    | nil => simpa using (List.cons.inj h).1
    | cons u k1 =>
      obtain rfl : x = u := (List.cons.inj h).1
      exact absurd hx (h2 x (by simp))
  | cons u l1 ih =>
    cases k1 with
    | nil =>
      obtain rfl : u = y := (List.cons.inj h).1
      exact absurd hy (h1 u (by simp))
    | cons v k1 => exact ih (List.cons.inj h).2 (fun u hu => h1 u (by simp [hu])) (fun u hu => h2 u (by simp [hu]))
theorem Gr.uniq {nx : Nat → List Nat} {z : Nat} : ∀ {p q : List Nat} {a : Nat}, Gr nx z a p → Gr nx z a q → p.length = q.length → p = q
  | [], [], _, _, _, _ => rfl
  | [], _ :: _, _, _, _, h => by simp at h
  | _ :: _, [], _, _, _, h => by simp at h
  | x :: p, y :: q, a, hp, hq, h => by
    obtain ⟨⟨l1, l2, e1, f1⟩, g1⟩ := hp
    obtain ⟨⟨k1, k2, e2, f2⟩, g2⟩ := hq
    have hl : p.length = q.length := by simpa using h
    have hxy := first_uniq (P := fun u => Wk nx u p.length z) (e1.symm.trans e2) g1.wk (by rw [hl]; exact g2.wk) f1 (by rw [hl]; exact f2)
    subst hxy
    rw [g1.uniq g2 hl]
/-- It goes on at its end. -/
theorem Gr.last {nx : Nat → List Nat} {z : Nat} : ∀ {p : List Nat} {a : Nat}, Gr nx z a p → p ≠ [] → p.getLast? = some z
  | [], _, _, h => absurd rfl h
  | [x], a, h, _ => by have := h.2; simp [show x = z from this]
  | x :: y :: p, a, h, _ => by
    have := h.2.last (by simp)
    rw [List.getLast?_cons_cons]; exact this
end Go.Proofs.YtellaeihcignaaaGreatDoor.Pt
end

section
namespace Go.Proofs.YtellaeihcignaaaGreatDoor.Pt

/-- A cell that was found: the place of the one from which it was, and how far it is. -/
structure Nd where
  c : Nat
  p : Nat
  l : Nat
def nd (R : List Nd) (i : Nat) : Nd := R.getD i ⟨0, 0, 0⟩
theorem nd_old (R : List Nd) (x : Nd) {i : Nat} (h : i < R.length) : nd (R ++ [x]) i = nd R i := by
  unfold nd; rw [List.getD, List.getD, List.getElem?_append_left h]
theorem nd_new (R : List Nd) (x : Nd) : nd (R ++ [x]) R.length = x := by
  unfold nd; rw [List.getD, List.getElem?_append_right (Nat.le_refl _), Nat.sub_self]; rfl
/-- A cell is among those that were found. -/
def Fd (R : List Nd) (x : Nat) : Prop := ∃ i, i < R.length ∧ (nd R i).c = x
structure Bf (nx : Nat → List Nat) (N a : Nat) (R : List Nd) (k j : Nat) : Prop where
  r0 : 0 < R.length
  h0 : nd R 0 = ⟨a, 0, 0⟩
  inj : ∀ i i', i < R.length → i' < R.length → (nd R i).c = (nd R i').c → i = i'
  lt : ∀ i, i < R.length → (nd R i).c < N
  par : ∀ i, 0 < i → i < R.length → (nd R i).p < i ∧ (nd R i).l = (nd R (nd R i).p).l + 1
  le : ∀ i, i < R.length → (nd R i).p ≤ k
  mono : ∀ i i', i ≤ i' → i' < R.length → (nd R i).p ≤ (nd R i').p
  done : ∀ y, y < k → ∀ x, x ∈ nx (nd R y).c → ∃ i, i < R.length ∧ (nd R i).c = x ∧ (nd R i).p ≤ y
  now : ∀ x, x ∈ (nx (nd R k).c).take j → Fd R x
  ord : ∀ i, 0 < i → i < R.length → ∃ l1 l2, nx (nd R (nd R i).p).c = l1 ++ (nd R i).c :: l2 ∧ ∀ x, x ∈ l1 → ∃ i', i' < i ∧ (nd R i').c = x
  kle : k ≤ R.length
theorem Bf.start (nx : Nat → List Nat) (N a : Nat) (h : a < N) : Bf nx N a [⟨a, 0, 0⟩] 0 0 := by
  have e : ∀ i, i < 1 → i = 0 := fun i h => by omega
  refine ⟨by simp, rfl, ?_, ?_, ?_, ?_, ?_, ?_, ?_, ?_, by simp⟩
  · intro i i' h1 h2 _
    simp at h1 h2; omega
  · intro i h1
    obtain rfl := e i (by simpa using h1); exact h
  · intro i h1 h2; simp at h2; omega
  · intro i h1
    obtain rfl := e i (by simpa using h1); exact Nat.le_refl _
  · intro i i' h1 h2
    obtain rfl := e i' (by simpa using h2)
    obtain rfl := e i (by omega)
    exact Nat.le_refl _
  · intro y h1; omega
  · intro x hx; simp at hx
  · intro i h1 h2; simp at h2; omega
theorem Bf.skip {nx : Nat → List Nat} {N a k j : Nat} {R : List Nd} (h : Bf nx N a R k j) (hj : j < (nx (nd R k).c).length) (hf : Fd R ((nx (nd R k).c).getD j 0)) : Bf nx N a R k (j + 1) := by
  refine ⟨h.r0, h.h0, h.inj, h.lt, h.par, h.le, h.mono, h.done, ?_, h.ord, h.kle⟩
  intro x hx
  rw [List.take_succ_eq_append_getElem hj] at hx
  rcases List.mem_append.1 hx with hx | hx
  · exact h.now x hx
  · rw [List.getD, List.getElem?_eq_getElem hj] at hf
    obtain rfl : x = _ := by simpa using hx
    exact hf
theorem Bf.push {nx : Nat → List Nat} {N a k j : Nat} {R : List Nd} (h : Bf nx N a R k j) (hk : k < R.length) (hj : j < (nx (nd R k).c).length) (hf : ¬ Fd R ((nx (nd R k).c).getD j 0)) (hN : (nx (nd R k).c).getD j 0 < N) :
    Bf nx N a (R ++ [⟨(nx (nd R k).c).getD j 0, k, (nd R k).l + 1⟩]) k (j + 1) := by
  have hl : (R ++ [⟨(nx (nd R k).c).getD j 0, k, (nd R k).l + 1⟩] : List Nd).length = R.length + 1 := by simp
  have hj' := List.take_append_drop j (nx (nd R k).c)
  rw [List.drop_eq_getElem_cons hj] at hj'
  have hge : (nx (nd R k).c).getD j 0 = (nx (nd R k).c)[j] := by rw [List.getD, List.getElem?_eq_getElem hj]; rfl
  generalize hx : (nx (nd R k).c).getD j 0 = x at *
  have hold : ∀ i, i < R.length → nd (R ++ [⟨x, k, (nd R k).l + 1⟩]) i = nd R i := fun i hi => nd_old R _ hi
  have hnew : nd (R ++ [⟨x, k, (nd R k).l + 1⟩]) R.length = ⟨x, k, (nd R k).l + 1⟩ := nd_new R _
  generalize R ++ [⟨x, k, (nd R k).l + 1⟩] = R' at *
  have hc : ∀ i, i < R'.length → i < R.length ∨ i = R.length := fun i hi => by omega
  refine ⟨by omega, by rw [hold 0 h.r0]; exact h.h0, ?_, ?_, ?_, ?_, ?_, ?_, ?_, ?_, by have := h.kle; omega⟩
  · intro i i' h1 h2 e
    rcases hc i h1 with k1 | rfl <;> rcases hc i' h2 with k2 | rfl
    · rw [hold i k1, hold i' k2] at e; exact h.inj i i' k1 k2 e
    · rw [hold i k1, hnew] at e; exact absurd ⟨i, k1, e⟩ hf
    · rw [hnew, hold i' k2] at e; exact absurd ⟨i', k2, e.symm⟩ hf
    · rfl
  · intro i h1
    rcases hc i h1 with k1 | rfl
    · rw [hold i k1]; exact h.lt i k1
    · rw [hnew]; exact hN
  · intro i h0 h1
    rcases hc i h1 with k1 | rfl
    · obtain ⟨q1, q2⟩ := h.par i h0 k1
      rw [hold i k1, hold _ (by omega)]; exact ⟨q1, q2⟩
    · rw [hnew]; exact ⟨hk, by rw [hold k hk]⟩
  · intro i h1
    rcases hc i h1 with k1 | rfl
    · rw [hold i k1]; exact h.le i k1
    · rw [hnew]; exact Nat.le_refl _
  · intro i i' h1 h2
    rcases hc i' h2 with k2 | rfl
    · rw [hold i (by omega), hold i' k2]; exact h.mono i i' h1 k2
    · rw [hnew]
      rcases hc i (by omega) with k1 | rfl
      · rw [hold i k1]; exact h.le i k1
      · rw [hnew]; exact Nat.le_refl _
  · intro y h1 z hz
    rw [hold y (by omega)] at hz
    obtain ⟨i, q1, q2, q3⟩ := h.done y h1 z hz
    exact ⟨i, by omega, by rw [hold i q1]; exact q2, by rw [hold i q1]; exact q3⟩
  · intro z hz
    rw [hold k hk, List.take_succ_eq_append_getElem hj, ← hge] at hz
    rcases List.mem_append.1 hz with hz | hz
    · obtain ⟨i, q1, q2⟩ := h.now z hz
      exact ⟨i, by omega, by rw [hold i q1]; exact q2⟩
    · obtain rfl : z = x := by simpa using hz
      exact ⟨R.length, by omega, by rw [hnew]⟩
  · intro i h0 h1
    rcases hc i h1 with k1 | rfl
    · obtain ⟨l1, l2, q1, q2⟩ := h.ord i h0 k1
      have := h.par i h0 k1
      rw [hold i k1, hold _ (by omega)]
      refine ⟨l1, l2, q1, fun z hz => ?_⟩
      obtain ⟨i', q3, q4⟩ := q2 z hz
      exact ⟨i', q3, by rw [hold i' (by omega)]; exact q4⟩
    · rw [hnew]
      refine ⟨(nx (nd R k).c).take j, (nx (nd R k).c).drop (j + 1), ?_, fun z hz => ?_⟩
      · show nx (nd R' k).c = _ ++ x :: _
        rw [hold k hk, hge]
        exact hj'.symm
      · obtain ⟨i, q1, q2⟩ := h.now z hz
        exact ⟨i, q1, by rw [hold i q1]; exact q2⟩
theorem Bf.pop {nx : Nat → List Nat} {N a k j : Nat} {R : List Nd} (h : Bf nx N a R k j) (hk : k < R.length) (hj : (nx (nd R k).c).length ≤ j) : Bf nx N a R (k + 1) 0 := by
  refine ⟨h.r0, h.h0, h.inj, h.lt, h.par, fun i hi => Nat.le_succ_of_le (h.le i hi), h.mono, ?_, by simp, h.ord, hk⟩
  intro y hy x hx
  by_cases e : y = k
  · subst e
    obtain ⟨i, q1, q2⟩ := h.now x (by rw [List.take_of_length_le hj]; exact hx)
    exact ⟨i, q1, q2, h.le i q1⟩
  · exact h.done y (by omega) x hx
theorem Bf.lv_mono {nx : Nat → List Nat} {N a k j : Nat} {R : List Nd} (h : Bf nx N a R k j) : ∀ i' i, i ≤ i' → i' < R.length → (nd R i).l ≤ (nd R i').l := by
  intro i'
  induction i' using Nat.strongRecOn with
  | ind i' ih =>
    intro i h1 h2
    by_cases e : i = 0
    · subst e; rw [h.h0]; exact Nat.zero_le _
    · obtain ⟨a1, a2⟩ := h.par i (by omega) (by omega)
      obtain ⟨b1, b2⟩ := h.par i' (by omega) h2
      have := ih _ b1 _ (h.mono i i' h1 h2) (by omega)
      omega
/-- What is found next is one step further than what is gone from. -/
theorem Bf.lv_le {nx : Nat → List Nat} {N a k j : Nat} {R : List Nd} (h : Bf nx N a R k j) (hk : k < R.length) (i : Nat) (hi : i < R.length) : (nd R i).l ≤ (nd R k).l + 1 := by
  by_cases e : i = 0
  · subst e; rw [h.h0]; exact Nat.zero_le _
  · obtain ⟨a1, a2⟩ := h.par i (by omega) hi
    have := h.lv_mono k _ (h.le i hi) hk
    omega
theorem Bf.len {nx : Nat → List Nat} {N a k j : Nat} {R : List Nd} (h : Bf nx N a R k j) : R.length ≤ N := by
  have h1 : (R.map Nd.c).Nodup := by
    rw [List.nodup_iff_pairwise_ne, List.pairwise_iff_getElem]
    intro i i' hi hi' hlt e
    rw [List.getElem_map, List.getElem_map] at e
    have g : ∀ i (hi : i < R.length), R[i] = nd R i := fun i hi => by unfold nd; rw [List.getD, List.getElem?_eq_getElem hi]; rfl
    rw [g, g] at e
    have := h.inj i i' (by simpa using hi) (by simpa using hi') e
    omega
  have := nodup_below N _ h1 fun x hx => by
    obtain ⟨n, hn, rfl⟩ := List.mem_map.1 hx
    obtain ⟨i, hi, rfl⟩ := List.getElem_of_mem hn
    have := h.lt i hi
    unfold nd at this
    rwa [List.getD, List.getElem?_eq_getElem hi] at this
  simpa using this
/-- From the first cell each that was found can be reached, in as many steps. -/
theorem Bf.wk {nx : Nat → List Nat} {N a k j : Nat} {R : List Nd} (h : Bf nx N a R k j) : ∀ i, i < R.length → Wk nx a (nd R i).l (nd R i).c := by
  intro i
  induction i using Nat.strongRecOn with
  | ind i ih =>
    intro hi
    by_cases e : i = 0
    · subst e; rw [h.h0]; exact .zero
    · obtain ⟨a1, a2⟩ := h.par i (by omega) hi
      obtain ⟨l1, l2, q1, _⟩ := h.ord i (by omega) hi
      rw [a2]
      exact .step (ih _ a1 (by omega)) (by rw [q1]; simp)
/-- When nothing is left, each cell to which a way goes was found, no further. -/
theorem Bf.all {nx : Nat → List Nat} {N a j : Nat} {R : List Nd} (h : Bf nx N a R R.length j) : ∀ n c, Wk nx a n c → ∃ i, i < R.length ∧ (nd R i).c = c ∧ (nd R i).l ≤ n := by
  intro n
  induction n with
  | zero => intro c hc; rw [hc.zero_eq]; exact ⟨0, h.r0, by rw [h.h0], by rw [h.h0]; exact Nat.le_refl _⟩
  | succ n ih =>
    intro c hc
    obtain ⟨b, h1, h2⟩ := hc.succ_inv
    obtain ⟨y, y1, y2, y3⟩ := ih b h1
    obtain ⟨i, q1, q2, q3⟩ := h.done y y1 c (by rw [y2]; exact h2)
    refine ⟨i, q1, q2, ?_⟩
    by_cases e : i = 0
    · subst e; rw [h.h0]; exact Nat.zero_le _
    · obtain ⟨a1, a2⟩ := h.par i (by omega) q1
      have := h.lv_mono y _ q3 y1
      omega
theorem Bf.lv {nx : Nat → List Nat} {N a j : Nat} {R : List Nd} (h : Bf nx N a R R.length j) (i : Nat) (hi : i < R.length) : Lv nx a (nd R i).l (nd R i).c := by
  refine ⟨h.wk i hi, fun m hm => ?_⟩
  obtain ⟨i', q1, q2, q3⟩ := h.all m _ hm
  rw [h.inj i' i q1 hi q2] at q3
  exact q3
/-- How far each cell is, as it is marked. -/
structure Far (R : List Nd) (N : Nat) (F : List Int) : Prop where
  len : F.length = N
  at_ : ∀ i, i < R.length → F.getD (nd R i).c 0 = (nd R i).l
  no : ∀ c, c < N → ¬ Fd R c → F.getD c 0 = -1
theorem Far.isD {nx : Nat → List Nat} {N a j : Nat} {R : List Nd} {F : List Int} (hf : Far R N F) (h : Bf nx N a R R.length j) (c : Nat) (hc : c < N) : IsD nx a c (F.getD c 0) := by
  by_cases e : Fd R c
  · obtain ⟨i, hi, rfl⟩ := e
    exact .inr ⟨_, hf.at_ i hi, h.lv i hi⟩
  · refine .inl ⟨hf.no c hc e, fun n hn => ?_⟩
    obtain ⟨i, q1, q2, _⟩ := h.all n c hn
    exact e ⟨i, q1, q2⟩
theorem Far.start (a N : Nat) (h : a < N) : Far [⟨a, 0, 0⟩] N ((List.replicate N (-1)).set a 0) := by
  refine ⟨by simp, ?_, ?_⟩
  · intro i hi
    obtain rfl : i = 0 := by simp at hi; omega
    show ((List.replicate N (-1 : Int)).set a 0).getD a 0 = 0
    simp [List.getD, h]
  · intro c hc hn
    have : a ≠ c := fun e => hn ⟨0, by simp, e⟩
    simp [List.getD, this, hc]
theorem Far.push {R : List Nd} {N : Nat} {F : List Int} (h : Far R N F) (x : Nd) (hx : x.c < N) (hn : ¬ Fd R x.c) : Far (R ++ [x]) N (F.set x.c x.l) := by
  have hF := h.len
  refine ⟨by simpa using h.len, ?_, ?_⟩
  · intro i hi
    by_cases e : i < R.length
    · rw [nd_old R x e]
      have : x.c ≠ (nd R i).c := fun e' => hn ⟨i, e, e'.symm⟩
      have h2 := h.at_ i e
      simp only [List.getD, List.getElem?_set, this, if_false] at h2 ⊢
      exact h2
    · obtain rfl : i = R.length := by simp at hi; omega
      rw [nd_new]
      simp [List.getD, hF, hx]
  · intro c hc hnc
    have h1 : x.c ≠ c := fun e => hnc ⟨R.length, by simp, by rw [nd_new]; exact e⟩
    have h2 : ¬ Fd R c := fun ⟨i, q1, q2⟩ => hnc ⟨i, by simp; omega, by rw [nd_old R x q1]; exact q2⟩
    have h3 := h.no c hc h2
    simp only [List.getD, List.getElem?_set, h1, if_false] at h3 ⊢
    exact h3
/-- Whether a cell was found is told by its mark. -/
theorem Far.is {R : List Nd} {N : Nat} {F : List Int} (h : Far R N F) {c : Nat} (hc : c < N) : F.getD c 0 = -1 ↔ ¬ Fd R c := by
  refine ⟨fun e ⟨i, q1, q2⟩ => ?_, h.no c hc⟩
  have := h.at_ i q1
  rw [q2, e] at this
  omega

/-- From where each cell was found. -/
structure Ahd (R : List Nd) (N : Nat) (A : List Int) : Prop where
  len : A.length = N
  at_ : ∀ i, 0 < i → i < R.length → A.getD (nd R i).c 0 = (nd R (nd R i).p).c
theorem Ahd.start (a N : Nat) (A : List Int) (h : A.length = N) : Ahd [⟨a, 0, 0⟩] N A := ⟨h, fun i h1 h2 => by simp at h2; omega⟩
theorem Ahd.push {R : List Nd} {N : Nat} {A : List Int} (h : Ahd R N A) (x : Nd) (hx : x.c < N) (hn : ¬ Fd R x.c) (hp : x.p < R.length) (hpar : ∀ i, 0 < i → i < R.length → (nd R i).p < i) : Ahd (R ++ [x]) N (A.set x.c (nd R x.p).c) := by
  have hA := h.len
  refine ⟨by simpa using h.len, ?_⟩
  intro i h0 hi
  by_cases e : i < R.length
  · rw [nd_old R x e, nd_old R x (by have := hpar i h0 e; omega)]
    have : x.c ≠ (nd R i).c := fun e' => hn ⟨i, e, e'.symm⟩
    have h2 := h.at_ i h0 e
    simp only [List.getD, List.getElem?_set, this, if_false] at h2 ⊢
    exact h2
  · obtain rfl : i = R.length := by simp at hi; omega
    rw [nd_new, nd_old R x hp]
    simp [List.getD, hA, hx]
/-- The way that is told from its end. -/
def back (A : List Int) : Nat → Nat → List Nat
  | 0, _ => []
  | n + 1, c => back A n (A.getD c 0).toNat ++ [c]
theorem back_length (A : List Int) : ∀ n c, (back A n c).length = n
  | 0, _ => rfl
  | n + 1, c => by simp [back, back_length A n]
/-- The place so many steps ahead. -/
def anc (R : List Nd) : Nat → Nat → Nat
  | 0, i => i
  | r + 1, i => anc R r (nd R i).p
theorem anc_succ (R : List Nd) : ∀ r i, anc R (r + 1) i = (nd R (anc R r i)).p
  | 0, _ => rfl
  | r + 1, i => anc_succ R r (nd R i).p
theorem Bf.anc_lv {nx : Nat → List Nat} {N a k j : Nat} {R : List Nd} (h : Bf nx N a R k j) : ∀ r i, i < R.length → r ≤ (nd R i).l → anc R r i < R.length ∧ (nd R (anc R r i)).l + r = (nd R i).l := by
  intro r
  induction r with
  | zero => intro i hi _; exact ⟨hi, rfl⟩
  | succ r ih =>
    intro i hi hr
    have h0 : 0 < i := by
      rcases Nat.eq_zero_or_pos i with e | e
      · subst e; rw [h.h0] at hr; simp at hr
      · exact e
    obtain ⟨a1, a2⟩ := h.par i h0 hi
    obtain ⟨q1, q2⟩ := ih _ (by omega : (nd R i).p < R.length) (by omega)
    exact ⟨q1, by show (nd R (anc R r (nd R i).p)).l + (r + 1) = _; omega⟩
theorem Bf.ahead {nx : Nat → List Nat} {N a j : Nat} {R : List Nd} (h : Bf nx N a R R.length j) : ∀ r i t x, t < R.length → r ≤ (nd R t).l → i < anc R r t → Wk nx (nd R i).c r x → ∃ i', i' < t ∧ (nd R i').c = x := by
  intro r
  induction r with
  | zero => intro i t x ht _ hi hw; rw [hw.zero_eq]; exact ⟨i, hi, rfl⟩
  | succ r ih =>
    intro i t x ht hr hi hw
    have h0 : 0 < t := by
      rcases Nat.eq_zero_or_pos t with e | e
      · subst e; rw [h.h0] at hr; simp at hr
      · exact e
    obtain ⟨a1, a2⟩ := h.par t h0 ht
    obtain ⟨b, w1, w2⟩ := hw.succ_inv
    obtain ⟨y, y1, y2⟩ := ih i (nd R t).p b (by omega) (by omega) hi w1
    obtain ⟨i', q1, q2, q3⟩ := h.done y (by omega) x (by rw [y2]; exact w2)
    refine ⟨i', ?_, q2⟩
    rcases Nat.lt_or_ge i' t with e | e
    · exact e
    · have := h.mono t i' e q1
      omega
theorem back_cons {nx : Nat → List Nat} {N a k j : Nat} {R : List Nd} {A : List Int} (h : Bf nx N a R k j) (hA : Ahd R N A) : ∀ r t, t < R.length → r < (nd R t).l → back A (r + 1) (nd R t).c = (nd R (anc R r t)).c :: back A r (nd R t).c := by
  intro r
  induction r with
  | zero => intro t ht hr; rfl
  | succ r ih =>
    intro t ht hr
    have h0 : 0 < t := by
      rcases Nat.eq_zero_or_pos t with e | e
      · subst e; rw [h.h0] at hr; simp at hr
      · exact e
    obtain ⟨a1, a2⟩ := h.par t h0 ht
    have e : (A.getD (nd R t).c 0).toNat = (nd R (nd R t).p).c := by rw [hA.at_ t h0 ht]; rfl
    have := ih (nd R t).p (by omega) (by omega)
    show back A (r + 1) (A.getD (nd R t).c 0).toNat ++ [(nd R t).c] = (nd R (anc R r (nd R t).p)).c :: (back A r (A.getD (nd R t).c 0).toNat ++ [(nd R t).c])
    rw [e, this]; rfl
/-- The way that is told from its end is the first of the shortest. -/
theorem Bf.gr {nx : Nat → List Nat} {N a j : Nat} {R : List Nd} {A : List Int} (h : Bf nx N a R R.length j) (hA : Ahd R N A) (t : Nat) (ht : t < R.length) : ∀ r, r ≤ (nd R t).l → Gr nx (nd R t).c (nd R (anc R r t)).c (back A r (nd R t).c) := by
  intro r
  induction r with
  | zero => intro _; exact rfl
  | succ r ih =>
    intro hr
    obtain ⟨u1, u2⟩ := h.anc_lv r t ht (by omega)
    have h0 : 0 < anc R r t := by
      rcases Nat.eq_zero_or_pos (anc R r t) with e | e
      · rw [e, h.h0] at u2; simp at u2; omega
      · exact e
    rw [back_cons h hA r t ht (by omega), anc_succ]
    refine ⟨?_, ih (by omega)⟩
    obtain ⟨l1, l2, q1, q2⟩ := h.ord _ h0 u1
    refine ⟨l1, l2, q1, fun y hy hw => ?_⟩
    rw [back_length] at hw
    obtain ⟨i, i1, i2⟩ := q2 y hy
    obtain ⟨i', k1, k2⟩ := h.ahead r i t _ ht (by omega) i1 (by rw [i2]; exact hw)
    have := h.inj i' t (by omega) ht k2
    omega
theorem Bf.way {nx : Nat → List Nat} {N a j : Nat} {R : List Nd} {A F : List Int} (h : Bf nx N a R R.length j) (hA : Ahd R N A) (hF : Far R N F) {c n : Nat} (hc : c < N) (hn : F.getD c 0 = (n : Int)) : Gr nx c a (back A n c) ∧ Lv nx a n c := by
  have hd : Fd R c := by
    by_cases e : Fd R c
    · exact e
    · rw [hF.no c hc e] at hn; omega
  obtain ⟨i, hi, rfl⟩ := hd
  have e := hF.at_ i hi
  obtain rfl : n = (nd R i).l := by omega
  have := h.gr hA i hi _ (Nat.le_refl _)
  obtain ⟨u1, u2⟩ := h.anc_lv (nd R i).l i hi (Nat.le_refl _)
  have h0 : anc R (nd R i).l i = 0 := by
    rcases Nat.eq_zero_or_pos (anc R (nd R i).l i) with e | e
    · exact e
    · have := h.par _ e u1; omega
  rw [h0, h.h0] at this
  exact ⟨this, h.lv i hi⟩
end Go.Proofs.YtellaeihcignaaaGreatDoor.Pt
end

section
namespace Go.Proofs.YtellaeihcignaaaGreatDoor.Pt

theorem getD_set_ne {α : Type} {l : List α} {i j : Nat} {x d : α} (h : i ≠ j) : (l.set i x).getD j d = l.getD j d := by
  simp [List.getD, h]
theorem getD_set_eq {α : Type} {l : List α} {i : Nat} {x d : α} (h : i < l.length) : (l.set i x).getD i d = x := by
  simp [List.getD, h]

structure Rd (nx : Nat → List Nat) (N a n i k : Nat) (d : List Int) : Prop where
  len : d.length = N
  low : ∀ c, c < N → d.getD c 0 ≠ -1 → ∃ m : Nat, d.getD c 0 = m ∧ Lv nx a m c ∧ m ≤ n + 1
  all : ∀ c, c < N → ∀ m, m ≤ n → Lv nx a m c → d.getD c 0 = m
  seen : ∀ b, b < i → d.getD b 0 = n → ∀ x, x ∈ nx b → d.getD x 0 ≠ -1
  now : ∀ x, x ∈ (nx i).take k → d.getD x 0 ≠ -1
theorem Rd.start (nx : Nat → List Nat) (N a : Nat) (h : a < N) : Rd nx N a 0 0 0 ((List.replicate N (-1)).set a 0) := by
  have hr : ∀ c, c < N → a ≠ c → ((List.replicate N (-1 : Int)).set a 0).getD c 0 = -1 := fun c hc hn => by
    rw [getD_set_ne hn]; simp [List.getD, hc]
  have ha : ((List.replicate N (-1 : Int)).set a 0).getD a 0 = 0 := getD_set_eq (by simpa using h)
  refine ⟨by simp, ?_, ?_, fun b hb => by omega, by simp⟩
  · intro c hc hn
    by_cases e : a = c
    · subst e; exact ⟨0, ha, Lv.zero _ _, by omega⟩
    · exact absurd (hr c hc e) hn
  · intro c hc m hm hl
    obtain rfl : m = 0 := by omega
    rw [hl.1.zero_eq]; exact ha
theorem Rd.sign {nx : Nat → List Nat} {N a n i k : Nat} {d : List Int} (h : Rd nx N a n i k d) {c : Nat} (hc : c < N) : d.getD c 0 < 0 ↔ d.getD c 0 = -1 := by
  refine ⟨fun hl => ?_, fun e => by omega⟩
  by_cases e : d.getD c 0 = -1
  · exact e
  · obtain ⟨m, hm, _⟩ := h.low c hc e; omega
theorem Rd.old {nx : Nat → List Nat} {N a n i k : Nat} {d : List Int} (h : Rd nx N a n i k d) (hk : k < (nx i).length) (hx : d.getD ((nx i).getD k 0) 0 ≠ -1) : Rd nx N a n i (k + 1) d := by
  refine ⟨h.len, h.low, h.all, h.seen, ?_⟩
  intro x hm
  rw [List.take_succ_eq_append_getElem hk] at hm
  rcases List.mem_append.1 hm with hm | hm
  · exact h.now x hm
  · have hge : (nx i).getD k 0 = (nx i)[k] := by rw [List.getD, List.getElem?_eq_getElem hk]; rfl
    rw [hge] at hx
    obtain rfl : x = _ := by simpa using hm
    exact hx
theorem Rd.new {nx : Nat → List Nat} {N a n i k : Nat} {d : List Int} (h : Rd nx N a n i k d) (hi : i < N) (hd : d.getD i 0 = n) (hk : k < (nx i).length) (hN : (nx i).getD k 0 < N) (hx : d.getD ((nx i).getD k 0) 0 = -1) : Rd nx N a n i (k + 1) (d.set ((nx i).getD k 0) ((n : Int) + 1)) := by
  have hmem : (nx i).getD k 0 ∈ nx i := by rw [List.getD, List.getElem?_eq_getElem hk]; exact List.getElem_mem hk
  have hge : (nx i).getD k 0 = (nx i)[k] := by rw [List.getD, List.getElem?_eq_getElem hk]; rfl
  have hlen := h.len
  generalize hz : (nx i).getD k 0 = z at *
  have hzz : (d.set z ((n : Int) + 1)).getD z 0 = (n : Int) + 1 := getD_set_eq (by omega)
  have hno : ∀ c, c ≠ z → (d.set z ((n : Int) + 1)).getD c 0 = d.getD c 0 := fun c hc => getD_set_ne (fun e => hc e.symm)
  have hlv : Lv nx a n i := by
    obtain ⟨m, h1, h2, _⟩ := h.low i hi (by omega)
    obtain rfl : m = n := by omega
    exact h2
  have hz1 : Lv nx a (n + 1) z := by
    refine ⟨.step hlv.1 hmem, fun m hm => ?_⟩
    obtain ⟨m', h1, h2⟩ := lv_of m hm
    rcases Nat.lt_or_ge n m' with e | e
    · omega
    · have := h.all z hN m' e h2
      omega
  have hne : ∀ c, d.getD c 0 ≠ -1 → (d.set z ((n : Int) + 1)).getD c 0 ≠ -1 := fun c hc => by
    by_cases e : c = z
    · subst e; exact absurd hx hc
    · rw [hno c e]; exact hc
  refine ⟨by simpa using h.len, ?_, ?_, ?_, ?_⟩
  · intro c hc hn
    by_cases e : c = z
    · subst e; exact ⟨n + 1, by rw [hzz]; simp, hz1, Nat.le_refl _⟩
    · rw [hno c e] at hn ⊢; exact h.low c hc hn
  · intro c hc m hm hl
    by_cases e : c = z
    · subst e
      have := h.all c hc m hm hl
      omega
    · rw [hno c e]; exact h.all c hc m hm hl
  · intro b hb hbn x hxm
    by_cases e : b = z
    · subst e; rw [hzz] at hbn; omega
    · rw [hno b e] at hbn
      exact hne x (h.seen b hb hbn x hxm)
  · intro x hxm
    rw [List.take_succ_eq_append_getElem hk, ← hge] at hxm
    rcases List.mem_append.1 hxm with hm | hm
    · exact hne x (h.now x hm)
    · obtain rfl : x = z := by simpa using hm
      rw [hzz]; omega
theorem Rd.next {nx : Nat → List Nat} {N a n i k : Nat} {d : List Int} (h : Rd nx N a n i k d) (hk : (nx i).length ≤ k) : Rd nx N a n (i + 1) 0 d := by
  refine ⟨h.len, h.low, h.all, ?_, by simp⟩
  intro b hb hbn x hx
  by_cases e : b = i
  · subst e; exact h.now x (by rw [List.take_of_length_le hk]; exact hx)
  · exact h.seen b (by omega) hbn x hx
theorem Rd.past {nx : Nat → List Nat} {N a n i k : Nat} {d : List Int} (h : Rd nx N a n i k d) (hd : d.getD i 0 ≠ n) : Rd nx N a n (i + 1) 0 d := by
  refine ⟨h.len, h.low, h.all, ?_, by simp⟩
  intro b hb hbn x hx
  by_cases e : b = i
  · subst e; exact absurd hbn hd
  · exact h.seen b (by omega) hbn x hx
theorem Rd.round {nx : Nat → List Nat} {N a n i k : Nat} {d : List Int} (h : Rd nx N a n i k d) (hi : N ≤ i) (ha : a < N) (hN : ∀ x y, x < N → y ∈ nx x → y < N) : Rd nx N a (n + 1) 0 0 d := by
  refine ⟨h.len, ?_, ?_, fun b hb => by omega, by simp⟩
  · intro c hc hn
    obtain ⟨m, h1, h2, h3⟩ := h.low c hc hn
    exact ⟨m, h1, h2, by omega⟩
  · intro c hc m hm hl
    by_cases e : m ≤ n
    · exact h.all c hc m e hl
    · obtain rfl : m = n + 1 := by omega
      obtain ⟨b, h1, h2⟩ := hl.pred
      have hb := wk_lt ha hN h1.1
      have := h.all b hb n (Nat.le_refl _) h1
      have := h.seen b (by omega) this c h2
      obtain ⟨m', k1, k2, _⟩ := h.low c hc this
      rw [k1, k2.uniq hl]
theorem Rd.isD {nx : Nat → List Nat} {N a n i k : Nat} {d : List Int} (h : Rd nx N a n i k d) (hn : N ≤ n) (ha : a < N) (hN : ∀ x y, x < N → y ∈ nx x → y < N) (c : Nat) (hc : c < N) : IsD nx a c (d.getD c 0) := by
  by_cases e : d.getD c 0 = -1
  · refine .inl ⟨e, fun m hm => ?_⟩
    obtain ⟨m', h1, h2⟩ := lv_of m hm
    have := lv_lt ha hN h2
    have := h.all c hc m' (by omega) h2
    omega
  · obtain ⟨m, h1, h2, _⟩ := h.low c hc e
    exact .inr ⟨m, h1, h2⟩

/-- What is far as the document's way asks it: of a cell that can't be left, of the aim, of another one. -/
def IsFar (nx ny : Nat → List Nat) (cell z : Nat) (out : Prop) (x : Int) : Prop := (cell = z ∧ x = 0) ∨ (cell ≠ z ∧ ¬ out ∧ nx cell = [] ∧ x = -1) ∨ (cell ≠ z ∧ out ∧ IsD ny cell z x)
theorem far_iff {nx ny : Nat → List Nat} {a cell z i r : Nat} {out : Prop} {x : Int} (h : IsFar nx ny cell z out x) (hz : Lv nx a (i + 1 + r) z) (hc : Wk nx a (i + 1) cell)
    (h1 : cell ≠ a → ∀ b, b ≠ a → ∀ y, y ∈ nx b → y ∈ ny b) (h2 : ∀ b y, y ∈ ny b → y ∈ nx b) (h3 : cell = a → nx = ny) : x = (r : Int) ↔ Wk nx cell r z := by
  rcases h with ⟨rfl, rfl⟩ | ⟨h0, _, hn, rfl⟩ | ⟨h0, _, hd⟩
  · have := hz.2 _ hc
    obtain rfl : r = 0 := by omega
    exact ⟨fun _ => .zero, fun _ => rfl⟩
  · refine ⟨fun e => by omega, fun hw => ?_⟩
    cases r with
    | zero => exact absurd hw.zero_eq.symm h0
    | succ r =>
      obtain ⟨b, h4, _⟩ := hw.uncons
      rw [hn] at h4; cases h4
  · by_cases e : cell = a
    · obtain rfl := h3 e
      subst e
      refine ⟨fun hx => ?_, fun hw => ?_⟩
      · rcases hd with ⟨e, _⟩ | ⟨n, e, hl⟩
        · omega
        · have := hl.uniq hz; omega
      · have := hz.2 _ hw; omega
    · have hto : ∀ m, m ≤ r → ∀ y, Wk nx cell m y → Wk nx y (r - m) z → Wk ny cell m y := by
        intro m
        induction m with
        | zero => intro _ y hw _; rw [hw.zero_eq]; exact .zero
        | succ m ih =>
          intro hm y hw hrest
          obtain ⟨b, k1, k2⟩ := hw.succ_inv
          have hb : Wk nx b (r - m) z := by
            rw [show r - m = (r - (m + 1)) + 1 by omega]
            exact Wk.cons k2 hrest
          refine .step (ih (by omega) b k1 hb) ?_
          refine h1 e b (fun eb => ?_) y k2
          subst eb
          have := hz.2 _ hb
          omega
      have hxr : ∀ n : Nat, Lv ny cell n z → r ≤ n := fun n hn => by
        have := hz.2 _ (hc.trans (hn.1.mono h2))
        omega
      refine ⟨fun hx => ?_, fun hw => ?_⟩
      · rcases hd with ⟨e, _⟩ | ⟨n, e, hl⟩
        · omega
        · obtain rfl : n = r := by omega
          exact hl.1.mono h2
      · have hw' := hto r (Nat.le_refl _) z hw (by rw [Nat.sub_self]; exact .zero)
        rcases hd with ⟨_, hn⟩ | ⟨n, e, hl⟩
        · exact absurd hw' (hn r)
        · have := hl.2 _ hw'
          have := hxr n hl
          omega

/-- The document's way, as far as it was told. -/
structure Go (nx : Nat → List Nat) (a z n : Nat) (out : List Nat) (at_ i : Nat) : Prop where
  wk : Wk nx at_ n z
  here : Wk nx a i at_
  there : Lv nx a (i + n) z
  pre : ∀ p, p.length = n → Gr nx z at_ p → Gr nx z a (out ++ p)
theorem Go.start {nx : Nat → List Nat} {a z n : Nat} (h : Lv nx a n z) : Go nx a z n [] a 0 := ⟨h.1, .zero, by rwa [Nat.zero_add], fun p _ h => h⟩
theorem Go.some {nx : Nat → List Nat} {a z n at_ i : Nat} {out : List Nat} (h : Go nx a z (n + 1) out at_ i) : ∃ k, k < (nx at_).length ∧ Wk nx ((nx at_).getD k 0) n z := by
  obtain ⟨b, h1, h2⟩ := h.wk.uncons
  obtain ⟨k, hk, rfl⟩ := List.getElem_of_mem h1
  exact ⟨k, hk, by rw [List.getD, List.getElem?_eq_getElem hk]; exact h2⟩
theorem Go.step {nx : Nat → List Nat} {a z n at_ i k : Nat} {out : List Nat} (h : Go nx a z (n + 1) out at_ i) (hk : k < (nx at_).length) (hw : Wk nx ((nx at_).getD k 0) n z) (hb : ∀ j, j < k → ¬ Wk nx ((nx at_).getD j 0) n z) :
    Go nx a z n (out ++ [(nx at_).getD k 0]) ((nx at_).getD k 0) (i + 1) := by
  have hge : (nx at_).getD k 0 = (nx at_)[k] := by rw [List.getD, List.getElem?_eq_getElem hk]; rfl
  have hj' := List.take_append_drop k (nx at_)
  rw [List.drop_eq_getElem_cons hk] at hj'
  refine ⟨hw, .step h.here (by rw [hge]; exact List.getElem_mem hk), by have := h.there; rwa [show i + 1 + n = i + (n + 1) by omega], fun p hp hg => ?_⟩
  rw [List.append_assoc]
  refine h.pre _ (by simp [hp]) ⟨⟨(nx at_).take k, (nx at_).drop (k + 1), by rw [hge]; exact hj'.symm, fun y hy => ?_⟩, hg⟩
  obtain ⟨j, hj, rfl⟩ := List.getElem_of_mem hy
  rw [List.length_take] at hj
  rw [List.getElem_take, show ([].append p).length = n from hp]
  have := hb j (by omega)
  rwa [List.getD, List.getElem?_eq_getElem (by omega : j < (nx at_).length)] at this
theorem Go.finish {nx : Nat → List Nat} {a z at_ i : Nat} {out : List Nat} (h : Go nx a z 0 out at_ i) : Gr nx z a out := by
  have := h.pre [] rfl h.wk.zero_eq.symm
  rwa [List.append_nil] at this
end Go.Proofs.YtellaeihcignaaaGreatDoor.Pt
end

section
namespace Go.Proofs.YtellaeihcignaaaGreatDoor.Pt
open Fl

/-- What is near to a cell. -/
def nr (W H : Nat) (z : Nat → Nat) (c : Nat) : List Nat := (side W H c).filter fun b => z b != 35
/-- Can a cell be left? -/
def outB (z : Nat → Nat) (a c : Nat) : Bool := c == a || isL (z c)
/-- The steps out of a cell, of a way that begins at a. -/
def nx5 (W H : Nat) (z : Nat → Nat) (a : Nat) (B : Nat → Bool) (c : Nat) : List Nat := if outB z a c = true then (nr W H z c).filter (fun b => !B b) else []
theorem mem_nr {W H c y : Nat} {z : Nat → Nat} : y ∈ nr W H z c ↔ y ∈ side W H c ∧ z y ≠ 35 := by simp [nr]
theorem outB_iff {z : Nat → Nat} {a c : Nat} : outB z a c = true ↔ c = a ∨ isL (z c) = true := by simp [outB]
theorem mem_nx5 {W H a c y : Nat} {z : Nat → Nat} {B : Nat → Bool} : y ∈ nx5 W H z a B c ↔ (c = a ∨ isL (z c) = true) ∧ y ∈ nr W H z c ∧ B y = false := by
  unfold nx5
  split
  · rename_i h
    rw [outB_iff] at h
    simp [h]
  · rename_i h
    rw [outB_iff] at h
    simp [h]
theorem nx5_no {W H a c : Nat} {z : Nat → Nat} {B : Nat → Bool} (h : outB z a c = false) : nx5 W H z a B c = [] := by unfold nx5; rw [h]; rfl
theorem nx5_yes {W H a c : Nat} {z : Nat → Nat} {B : Nat → Bool} (h : outB z a c = true) : nx5 W H z a B c = (nr W H z c).filter (fun b => !B b) := by unfold nx5; rw [h]; rfl
theorem nr_lt {W H c y : Nat} {z : Nat → Nat} (hW : 1 ≤ W) (hc : c < W * H) (h : y ∈ nr W H z c) : y < W * H := side_lt hW hc (mem_nr.1 h).1
theorem nr_len (W H c : Nat) (z : Nat → Nat) : (nr W H z c).length ≤ 4 := Nat.le_trans (List.length_filter_le _ _) (side_len W H c)
theorem nx5_lt {W H a : Nat} {z : Nat → Nat} {B : Nat → Bool} (hW : 1 ≤ W) : ∀ x y, x < W * H → y ∈ nx5 W H z a B x → y < W * H := fun x y hx h => nr_lt hW hx (mem_nx5.1 h).2.1
theorem nx5_len (W H a c : Nat) (z : Nat → Nat) (B : Nat → Bool) : (nx5 W H z a B c).length ≤ 4 := by
  unfold nx5
  split
  · exact Nat.le_trans (List.length_filter_le _ _) (nr_len _ _ _ _)
  · exact Nat.zero_le _
theorem nx5_congr {W H a : Nat} {z : Nat → Nat} {B C : Nat → Bool} (h : ∀ y, y < W * H → B y = C y) (hW : 1 ≤ W) {c : Nat} (hc : c < W * H) : nx5 W H z a B c = nx5 W H z a C c := by
  unfold nx5
  split
  · exact List.filter_congr fun y hy => by rw [h y (nr_lt hW hc hy)]
  · rfl
/-- As the document's way asks it. -/
theorem far_floor {W H a cell t i r : Nat} {z : Nat → Nat} {B : Nat → Bool} {x : Int} (h : IsFar (nx5 W H z a B) (nx5 W H z cell B) cell t (outB z a cell = true) x) (hz : Lv (nx5 W H z a B) a (i + 1 + r) t) (hc : Wk (nx5 W H z a B) a (i + 1) cell) :
    x = (r : Int) ↔ Wk (nx5 W H z a B) cell r t := by
  by_cases ho : outB z a cell = true
  · refine far_iff h hz hc ?_ ?_ ?_
    · intro hn b hb y hy
      obtain ⟨h1, h2⟩ := mem_nx5.1 hy
      refine mem_nx5.2 ⟨.inr ?_, h2⟩
      rcases h1 with e | e
      · exact absurd e hb
      · exact e
    · intro b y hy
      obtain ⟨h1, h2⟩ := mem_nx5.1 hy
      refine mem_nx5.2 ⟨?_, h2⟩
      rcases h1 with rfl | e
      · exact outB_iff.1 ho
      · exact .inr e
    · intro e; rw [e]
  · rcases h with ⟨h0, h1⟩ | ⟨h0, h1, h2, h3⟩ | ⟨h0, h1, h2⟩
    · subst h0 h1
      have := hz.2 _ hc
      obtain rfl : r = 0 := by omega
      exact ⟨fun _ => .zero, fun _ => rfl⟩
    · subst h3
      refine ⟨fun e => by omega, fun hw => ?_⟩
      cases r with
      | zero => exact absurd hw.zero_eq.symm h0
      | succ r =>
        obtain ⟨b, h4, _⟩ := hw.uncons
        rw [h2] at h4; cases h4
    · exact absurd h1 ho

/-- With more cells blocked no way is shorter. -/
theorem blocked_le {W H a c : Nat} {z : Nat → Nat} {B C : Nat → Bool} {x y : Int} (h : ∀ b, B b = true → C b = true) (hx : IsD (nx5 W H z a B) a c x) (hy : IsD (nx5 W H z a C) a c y) (h0 : 0 ≤ y) : 0 ≤ x ∧ x ≤ y := by
  rcases hy with ⟨e, _⟩ | ⟨m, rfl, hm⟩
  · omega
  · have hw : Wk (nx5 W H z a B) a m c := hm.1.mono fun p q hq => by
      obtain ⟨h1, h2, h3⟩ := mem_nx5.1 hq
      refine mem_nx5.2 ⟨h1, h2, ?_⟩
      cases e : B q
      · rfl
      · rw [h q e] at h3; cases h3
    rcases hx with ⟨_, hn⟩ | ⟨n, rfl, hn⟩
    · exact absurd hw (hn m)
    · have := hn.2 _ hw; omega

/-- Neighbours differ by one step at most. -/
theorem step_le {W H a c b : Nat} {z : Nat → Nat} {B : Nat → Bool} {x y : Int} (hx : IsD (nx5 W H z a B) a c x) (hy : IsD (nx5 W H z a B) a b y) (h0 : 0 ≤ x) (hb : b ∈ nx5 W H z a B c) : 0 ≤ y ∧ y ≤ x + 1 := by
  rcases hx with ⟨e, _⟩ | ⟨m, rfl, hm⟩
  · omega
  · have hw := Wk.step hm.1 hb
    rcases hy with ⟨_, hn⟩ | ⟨n, rfl, hn⟩
    · exact absurd hw (hn _)
    · have := hn.2 _ hw; omega
/-- What is away has a neighbour one step nearer. -/
theorem step_near {W H a c : Nat} {z : Nat → Nat} {B : Nat → Bool} {x : Int} (hW : 1 ≤ W) (ha : a < W * H) (haw : z a ≠ 35) (hx : IsD (nx5 W H z a B) a c x) (h0 : 0 < x) : ∃ b, b ∈ nr W H z c ∧ b < W * H ∧ IsD (nx5 W H z a B) a b (x - 1) := by
  rcases hx with ⟨e, _⟩ | ⟨m, rfl, hm⟩
  · omega
  · cases m with
    | zero => simp at h0
    | succ m =>
      obtain ⟨b, h1, h2⟩ := hm.pred
      have hb := wk_lt ha (nx5_lt hW) h1.1
      obtain ⟨h3, h4, _⟩ := mem_nx5.1 h2
      refine ⟨b, mem_nr.2 ⟨side_sym hW hb (mem_nr.1 h4).1, ?_⟩, hb, .inr ⟨m, by omega, h1⟩⟩
      rcases h3 with rfl | h3
      · exact haw
      · intro e; rw [e] at h3; revert h3; decide
theorem isD_zero {nx : Nat → List Nat} {a c : Nat} {x : Int} (h : IsD nx a c x) : x = 0 ↔ c = a := by
  rcases h with ⟨rfl, hn⟩ | ⟨n, rfl, hn⟩
  · refine ⟨fun e => by omega, fun e => ?_⟩
    subst e; exact absurd .zero (hn 0)
  · refine ⟨fun e => ?_, fun e => ?_⟩
    · obtain rfl : n = 0 := by omega
      exact hn.1.zero_eq
    · subst e
      have := hn.2 _ .zero; omega

/-! ### Between lanes -/
theorem nx5_lane {W H a : Nat} {z : Nat → Nat} {B : Nat → Bool} (ha : isL (z a) = true) (c : Nat) : nx5 W H z a B c = if isL (z c) = true then (nr W H z c).filter (fun b => !B b) else [] := by
  unfold nx5
  have : outB z a c = isL (z c) := by
    unfold outB
    by_cases e : c = a
    · subst e; simp [ha]
    · rw [beq_eq_false_iff_ne.2 e]; rfl
  rw [this]
theorem nx5_same {W H a b : Nat} {z : Nat → Nat} {B : Nat → Bool} (ha : isL (z a) = true) (hb : isL (z b) = true) : nx5 W H z a B = nx5 W H z b B := by
  funext c; rw [nx5_lane ha, nx5_lane hb]
theorem wk_lane {W H a b n : Nat} {z : Nat → Nat} {B : Nat → Bool} (ha : isL (z a) = true) (h : Wk (nx5 W H z a B) a n b) : ∀ c, c ∈ nx5 W H z a B b → isL (z b) = true := fun c hc => by
  rw [nx5_lane ha] at hc
  split at hc
  · assumption
  · cases hc
theorem wk_back {W H a : Nat} {z : Nat → Nat} (hW : 1 ≤ W) (haN : a < W * H) (ha : isL (z a) = true) : ∀ {n b : Nat}, isL (z b) = true → Wk (nx5 W H z a fun _ => false) a n b → Wk (nx5 W H z a fun _ => false) b n a := by
  intro n
  induction n with
  | zero => intro b _ h; rw [h.zero_eq]; exact .zero
  | succ n ih =>
    intro b hb h
    obtain ⟨d, h1, h2⟩ := h.succ_inv
    have hd := wk_lane ha h1 b h2
    have hdN := wk_lt haN (nx5_lt hW) h1
    obtain ⟨_, h3, _⟩ := mem_nx5.1 h2
    have h4 : d ∈ nx5 W H z a (fun _ => false) b := mem_nx5.2 ⟨.inr hb, mem_nr.2 ⟨side_sym hW hdN (mem_nr.1 h3).1, fun e => by rw [e] at hd; revert hd; decide⟩, rfl⟩
    exact Wk.cons h4 (ih hd h1)
theorem back_same {W H a b : Nat} {z : Nat → Nat} {x y : Int} (hW : 1 ≤ W) (haN : a < W * H) (hbN : b < W * H) (ha : isL (z a) = true) (hb : isL (z b) = true) (hx : IsD (nx5 W H z a fun _ => false) a b x) (hy : IsD (nx5 W H z b fun _ => false) b a y) : x = y := by
  rw [nx5_same hb ha] at hy
  have h1 : ∀ n, Wk (nx5 W H z a fun _ => false) a n b → Wk (nx5 W H z a fun _ => false) b n a := fun n h => wk_back hW haN ha hb h
  have h2 : ∀ n, Wk (nx5 W H z a fun _ => false) b n a → Wk (nx5 W H z a fun _ => false) a n b := fun n h => by
    rw [nx5_same ha hb] at h ⊢
    exact wk_back hW hbN hb ha h
  refine IsD.uniq hx ?_
  rcases hy with ⟨rfl, hn⟩ | ⟨n, rfl, hn⟩
  · exact .inl ⟨rfl, fun n h => hn n (h1 n h)⟩
  · exact .inr ⟨n, rfl, h2 n hn.1, fun m hm => hn.2 m (h1 m hm)⟩
theorem lanes_reach {W H a b : Nat} {z : Nat → Nat} (hW : 1 ≤ W) (hJ : Joined W H z) (haN : a < W * H) (hbN : b < W * H) (ha : isL (z a) = true) (hb : isL (z b) = true) : ∃ n, Wk (nx5 W H z a fun _ => false) a n b := by
  obtain ⟨f, r, hp, hr⟩ := hJ
  have hall : ∀ c, c < W * H → isL (z c) = true → ∃ n, Wk (nx5 W H z a fun _ => false) f n c := fun c hc hl => by
    have hm : c ∈ f :: r := by rw [← hp]; exact mem_pick.2 ⟨hc, hl⟩
    have hf : isL (z f) = true := (mem_pick.1 (by rw [hp]; simp : f ∈ pick isL z (W * H))).2
    have := hr c hm (fun y => isL (z y) = true ∧ ∃ n, Wk (nx5 W H z a fun _ => false) f n y) ⟨hf, 0, .zero⟩ (fun x y ⟨hx, n, hn⟩ hy hly => ⟨hly, n + 1, .step hn (mem_nx5.2 ⟨.inr hx, mem_nr.2 ⟨hy, fun e => by rw [e] at hly; revert hly; decide⟩, rfl⟩)⟩)
    exact this.2
  have hfm : f ∈ pick isL z (W * H) := by rw [hp]; simp
  obtain ⟨hfN, hf⟩ := mem_pick.1 hfm
  obtain ⟨n, hn⟩ := hall a haN ha
  obtain ⟨m, hm⟩ := hall b hbN hb
  rw [nx5_same ha hf] at hn hm ⊢
  exact ⟨n + m, (wk_back hW hfN hf ha hn).trans hm⟩
theorem lanes_pos {W H a b : Nat} {z : Nat → Nat} {x : Int} (hW : 1 ≤ W) (hJ : Joined W H z) (haN : a < W * H) (hbN : b < W * H) (ha : isL (z a) = true) (hb : isL (z b) = true) (hx : IsD (nx5 W H z a fun _ => false) a b x) : 0 ≤ x := by
  obtain ⟨n, hn⟩ := lanes_reach hW hJ haN hbN ha hb
  rcases hx with ⟨_, h⟩ | ⟨m, rfl, _⟩
  · exact absurd hn (h n)
  · omega
theorem lanes_tri {W H a b c : Nat} {z : Nat → Nat} {x y u : Int} (hW : 1 ≤ W) (hJ : Joined W H z) (haN : a < W * H) (hbN : b < W * H) (hcN : c < W * H) (ha : isL (z a) = true) (hb : isL (z b) = true) (hc : isL (z c) = true)
    (hx : IsD (nx5 W H z a fun _ => false) a b x) (hy : IsD (nx5 W H z b fun _ => false) b c y) (hu : IsD (nx5 W H z a fun _ => false) a c u) : u ≤ x + y := by
  have h1 := lanes_pos hW hJ haN hbN ha hb hx
  have h2 := lanes_pos hW hJ hbN hcN hb hc hy
  rw [nx5_same hb ha] at hy
  rcases hx with ⟨e, _⟩ | ⟨n, rfl, hn⟩
  · omega
  · rcases hy with ⟨e, _⟩ | ⟨m, rfl, hm⟩
    · omega
    · have hw := hn.1.trans hm.1
      rcases hu with ⟨rfl, _⟩ | ⟨k, rfl, hk⟩
      · omega
      · have := hk.2 _ hw; omega

/-! ### Ways as lists -/
/-- Whether cells are a way: each a step from the one ahead. -/
def chI (nx : Nat → List Nat) : Nat → List Int → Bool
  | _, [] => true
  | a, x :: p => (nx a).any (fun y => ((y : Int) == x)) && chI nx x.toNat p
theorem chI_snoc (nx : Nat → List Nat) : ∀ (p : List Int) (a : Nat) (x : Int), chI nx a (p ++ [x]) = (chI nx a p && (nx ((p.getLast?.map Int.toNat).getD a)).any (fun y => ((y : Int) == x)))
  | [], a, x => by simp [chI]
  | [y], a, x => by simp [chI]
  | y :: v :: p, a, x => by
    have := chI_snoc nx (v :: p) y.toNat x
    show (_ && chI nx y.toNat ((v :: p) ++ [x])) = _
    rw [this, ← Bool.and_assoc]
    congr 3
theorem gr_chI {nx : Nat → List Nat} {z : Nat} : ∀ {p : List Nat} {a : Nat}, Gr nx z a p → chI nx a (p.map fun x : Nat => (x : Int)) = true
  | [], _, _ => rfl
  | x :: p, a, h => by
    obtain ⟨⟨l1, l2, e, _⟩, h2⟩ := h
    show ((nx a).any (fun y => ((y : Int) == (x : Int))) && chI nx ((x : Int)).toNat (p.map fun x : Nat => (x : Int))) = true
    rw [show ((x : Int)).toNat = x from rfl, gr_chI h2, Bool.and_true, e]
    simp
/-- A shortest way has no cell twice. -/
theorem gr_levels {nx : Nat → List Nat} {a z : Nat} : ∀ {p : List Nat} {b i : Nat}, Gr nx z b p → Wk nx a i b → Lv nx a (i + p.length) z → ∀ j, j < p.length → Lv nx a (i + 1 + j) (p.getD j 0)
  | [], _, _, _, _, _, j, h => by simp at h
  | x :: p, b, i, hg, hw, hz, j, hj => by
    obtain ⟨⟨l1, l2, e, _⟩, h2⟩ := hg
    have hx : Wk nx a (i + 1) x := .step hw (by rw [e]; simp)
    have hz' : Lv nx a (i + 1 + p.length) z := by
      have := hz; rw [List.length_cons] at this
      rwa [show i + 1 + p.length = i + (p.length + 1) by omega]
    cases j with
    | zero =>
      refine ⟨hx, fun m hm => ?_⟩
      have := hz'.2 _ (hm.trans h2.wk)
      omega
    | succ j =>
      have := gr_levels h2 hx hz' j (by simpa using hj)
      rw [show i + 1 + (j + 1) = i + 1 + 1 + j by omega]
      exact this
theorem way_distinct {nx : Nat → List Nat} {a z : Nat} {p : List Nat} (hg : Gr nx z a p) (hz : Lv nx a p.length z) : (a :: p).Nodup := by
  have hl := gr_levels hg .zero (by rwa [Nat.zero_add])
  rw [List.nodup_cons]
  constructor
  · intro hm
    obtain ⟨j, hj, e⟩ := List.getElem_of_mem hm
    have := hl j hj
    rw [List.getD, List.getElem?_eq_getElem hj, Option.getD_some, e] at this
    have := this.uniq (Lv.zero nx a)
    omega
  · rw [List.nodup_iff_pairwise_ne, List.pairwise_iff_getElem]
    intro i j hi hj hlt e
    have h1 := hl i hi
    have h2 := hl j hj
    rw [List.getD, List.getElem?_eq_getElem hi, Option.getD_some] at h1
    rw [List.getD, List.getElem?_eq_getElem hj, Option.getD_some, ← e] at h2
    have := h1.uniq h2
    omega
end Go.Proofs.YtellaeihcignaaaGreatDoor.Pt
end
