/-
  Ways through a graph, in plain words: how far a cell is, a search that goes by what was found first, and the first of the shortest ways.
-/
set_option linter.unusedVariables false
set_option maxRecDepth 100000
namespace Go.Proofs.YtaioiobimenkfaaDoor.Pt

/-- A way of so many steps. -/
inductive Wk (nx : Nat → List Nat) (a : Nat) : Nat → Nat → Prop
  | zero : Wk nx a 0 a
  | step {n b c : Nat} : Wk nx a n b → c ∈ nx b → Wk nx a (n + 1) c
theorem Wk.inv {nx : Nat → List Nat} {a n c : Nat} (h : Wk nx a n c) : (n = 0 ∧ c = a) ∨ ∃ m b, n = m + 1 ∧ Wk nx a m b ∧ c ∈ nx b := by
  cases h with
  | zero => exact .inl ⟨rfl, rfl⟩
  | step h1 h2 => exact .inr ⟨_, _, rfl, h1, h2⟩
theorem Wk.zero_eq {nx : Nat → List Nat} {a c : Nat} (h : Wk nx a 0 c) : c = a := by
  rcases h.inv with ⟨_, e⟩ | ⟨m, b, e, _⟩
  · exact e
  · omega
theorem Wk.succ_inv {nx : Nat → List Nat} {a n c : Nat} (h : Wk nx a (n + 1) c) : ∃ b, Wk nx a n b ∧ c ∈ nx b := by
  rcases h.inv with ⟨e, _⟩ | ⟨m, b, e, h1, h2⟩
  · omega
  · obtain rfl : n = m := by omega
    exact ⟨b, h1, h2⟩
theorem Wk.trans {nx : Nat → List Nat} {a b : Nat} {n : Nat} (h : Wk nx a n b) : ∀ {m c : Nat}, Wk nx b m c → Wk nx a (n + m) c := by
  intro m
  induction m with
  | zero => intro c k; rw [k.zero_eq]; exact h
  | succ m ih =>
    intro c k
    obtain ⟨d, k1, k2⟩ := k.succ_inv
    exact .step (ih k1) k2
theorem Wk.first {nx : Nat → List Nat} {a b : Nat} (h : b ∈ nx a) : Wk nx a 1 b := .step .zero h
theorem Wk.cons {nx : Nat → List Nat} {a b c n : Nat} (h : b ∈ nx a) (k : Wk nx b n c) : Wk nx a (n + 1) c := by
  have := (Wk.first h).trans k
  rwa [Nat.add_comm] at this
theorem Wk.uncons {nx : Nat → List Nat} {a : Nat} : ∀ {n c : Nat}, Wk nx a (n + 1) c → ∃ b, b ∈ nx a ∧ Wk nx b n c := by
  intro n
  induction n with
  | zero =>
    intro c h
    obtain ⟨b, h1, h2⟩ := h.succ_inv
    rw [h1.zero_eq] at h2
    exact ⟨c, h2, .zero⟩
  | succ n ih =>
    intro c h
    obtain ⟨d, h1, h2⟩ := h.succ_inv
    obtain ⟨b, k1, k2⟩ := ih h1
    exact ⟨b, k1, .step k2 h2⟩
theorem Wk.cut {nx : Nat → List Nat} {a : Nat} : ∀ {n c : Nat} (m : Nat), m ≤ n → Wk nx a n c → ∃ b, Wk nx a m b ∧ Wk nx b (n - m) c := by
  intro n
  induction n with
  | zero => intro c m hm h; obtain rfl : m = 0 := by omega
            exact ⟨c, h, .zero⟩
  | succ n ih =>
    intro c m hm h
    by_cases e : m = n + 1
    · subst e; exact ⟨c, h, by rw [Nat.sub_self]; exact .zero⟩
    · obtain ⟨d, h1, h2⟩ := h.succ_inv
      obtain ⟨b, k1, k2⟩ := ih m (by omega) h1
      refine ⟨b, k1, ?_⟩
      rw [show n + 1 - m = (n - m) + 1 by omega]
      exact .step k2 h2
theorem Wk.mono {nx ny : Nat → List Nat} {a : Nat} (hs : ∀ x y, y ∈ nx x → y ∈ ny x) : ∀ {n c : Nat}, Wk nx a n c → Wk ny a n c := by
  intro n
  induction n with
  | zero => intro c h; rw [h.zero_eq]; exact .zero
  | succ n ih =>
    intro c h
    obtain ⟨b, h1, h2⟩ := h.succ_inv
    exact .step (ih h1) (hs _ _ h2)

/-- A cell is just so many steps away. -/
def Lv (nx : Nat → List Nat) (a n c : Nat) : Prop := Wk nx a n c ∧ ∀ m, Wk nx a m c → n ≤ m
theorem Lv.uniq {nx : Nat → List Nat} {a n m c : Nat} (h : Lv nx a n c) (k : Lv nx a m c) : n = m := Nat.le_antisymm (h.2 _ k.1) (k.2 _ h.1)
theorem Lv.zero (nx : Nat → List Nat) (a : Nat) : Lv nx a 0 a := ⟨.zero, fun m _ => Nat.zero_le m⟩
/-- The cell ahead, on a shortest way. -/
theorem Lv.pred {nx : Nat → List Nat} {a n c : Nat} (h : Lv nx a (n + 1) c) : ∃ b, Lv nx a n b ∧ c ∈ nx b := by
  obtain ⟨b, h1, h2⟩ := h.1.succ_inv
  refine ⟨b, ⟨h1, fun m k => ?_⟩, h2⟩
  have := h.2 _ (.step k h2)
  omega
theorem lv_of {nx : Nat → List Nat} {a c : Nat} : ∀ n, Wk nx a n c → ∃ m, m ≤ n ∧ Lv nx a m c := by
  intro n
  induction n using Nat.strongRecOn with
  | ind n ih =>
    intro h
    by_cases hc : ∃ m, m < n ∧ Wk nx a m c
    · obtain ⟨m, h1, h2⟩ := hc
      obtain ⟨k, k1, k2⟩ := ih m h1 h2
      exact ⟨k, by omega, k2⟩
    · refine ⟨n, Nat.le_refl _, h, fun m k => ?_⟩
      rcases Nat.lt_or_ge m n with e | e
      · exact absurd ⟨m, e, k⟩ hc
      · exact e
/-- How far a cell is, as a number that is told. -/
def IsD (nx : Nat → List Nat) (a c : Nat) (x : Int) : Prop := (x = -1 ∧ ∀ n, ¬ Wk nx a n c) ∨ ∃ n : Nat, x = (n : Int) ∧ Lv nx a n c
theorem IsD.uniq {nx : Nat → List Nat} {a c : Nat} {x y : Int} (h : IsD nx a c x) (k : IsD nx a c y) : x = y := by
  rcases h with ⟨rfl, h⟩ | ⟨n, rfl, h⟩ <;> rcases k with ⟨rfl, k⟩ | ⟨m, rfl, k⟩
  · rfl
  · exact absurd k.1 (h m)
  · exact absurd h.1 (k n)
  · rw [h.uniq k]

theorem nodup_below : ∀ (N : Nat) (l : List Nat), l.Nodup → (∀ x, x ∈ l → x < N) → l.length ≤ N := by
  intro N
  induction N with
  | zero => intro l _ h; cases l with
    | nil => exact Nat.le_refl _
    | cons x l => exact absurd (h x (by simp)) (by omega)
  | succ N ih =>
    intro l hn h
    have h1 : (l.erase N).length ≤ N := by
      refine ih _ (hn.erase N) fun x hx => ?_
      have hx' := (List.Nodup.mem_erase_iff hn).1 hx
      have := h x hx'.2
      omega
    have h2 := List.length_erase (a := N) (l := l)
    split at h2 <;> omega
theorem wk_lt {nx : Nat → List Nat} {a N : Nat} (ha : a < N) (hN : ∀ x y, x < N → y ∈ nx x → y < N) : ∀ {n c : Nat}, Wk nx a n c → c < N := by
  intro n
  induction n with
  | zero => intro c h; rw [h.zero_eq]; exact ha
  | succ n ih =>
    intro c h
    obtain ⟨b, h1, h2⟩ := h.succ_inv
    exact hN b c (ih h1) h2
/-- All cells on the way are others: so there are as many cells. -/
theorem lv_cells {nx : Nat → List Nat} {a N : Nat} (ha : a < N) (hN : ∀ x y, x < N → y ∈ nx x → y < N) : ∀ n c, Lv nx a n c → ∃ l : List Nat, l.length = n + 1 ∧ l.Nodup ∧ ∀ x, x ∈ l → x < N ∧ ∃ m, m ≤ n ∧ Lv nx a m x := by
  intro n
  induction n with
  | zero =>
    intro c h
    refine ⟨[a], rfl, by simp, fun x hx => ?_⟩
    obtain rfl : x = a := by simpa using hx
    exact ⟨ha, 0, Nat.le_refl _, Lv.zero _ _⟩
  | succ n ih =>
    intro c h
    obtain ⟨b, h1, h2⟩ := h.pred
    obtain ⟨l, e, hn, hl⟩ := ih b h1
    refine ⟨c :: l, by simp [e], ?_, fun x hx => ?_⟩
    · rw [List.nodup_cons]
      refine ⟨fun hc => ?_, hn⟩
      obtain ⟨_, m, hm, k⟩ := hl c hc
      have := h.uniq k
      omega
    · rcases List.mem_cons.1 hx with rfl | hx
      · refine ⟨?_, n + 1, Nat.le_refl _, h⟩
        exact hN b x (wk_lt ha hN h1.1) h2
      · obtain ⟨h3, m, hm, k⟩ := hl x hx
        exact ⟨h3, m, by omega, k⟩
theorem lv_lt {nx : Nat → List Nat} {a N n c : Nat} (ha : a < N) (hN : ∀ x y, x < N → y ∈ nx x → y < N) (h : Lv nx a n c) : n < N := by
  obtain ⟨l, e, hn, hl⟩ := lv_cells ha hN n c h
  have := nodup_below N l hn (fun x hx => (hl x hx).1)
  omega
/-- The first of the ways of so many steps: each cell is the first from which the rest can be gone. -/
def Gr (nx : Nat → List Nat) (z : Nat) : Nat → List Nat → Prop
  | a, [] => a = z
  | a, x :: p => (∃ l1 l2, nx a = l1 ++ x :: l2 ∧ ∀ y, y ∈ l1 → ¬ Wk nx y p.length z) ∧ Gr nx z x p
theorem Gr.wk {nx : Nat → List Nat} {z : Nat} : ∀ {p : List Nat} {a : Nat}, Gr nx z a p → Wk nx a p.length z
  | [], a, h => by rw [show a = z from h]; exact .zero
  | x :: p, a, h => by
    obtain ⟨⟨l1, l2, e, _⟩, h2⟩ := h
    exact Wk.cons (by rw [e]; simp) h2.wk
theorem first_uniq {l1 l2 k1 k2 : List Nat} {x y : Nat} {P : Nat → Prop} (h : l1 ++ x :: l2 = k1 ++ y :: k2) (hx : P x) (hy : P y) (h1 : ∀ u, u ∈ l1 → ¬ P u) (h2 : ∀ u, u ∈ k1 → ¬ P u) : x = y := by
  induction l1 generalizing k1 with
  | nil =>
    cases k1 with
    | nil => simpa using (List.cons.inj h).1
    | cons u k1 =>
      obtain rfl : x = u := (List.cons.inj h).1
      exact absurd hx (h2 x (by simp))
  | cons u l1 ih =>
    cases k1 with
    | nil =>
      obtain rfl : u = y := (List.cons.inj h).1
      exact absurd hy (h1 u (by simp))
    | cons v k1 => exact ih (List.cons.inj h).2 (fun u hu => h1 u (by simp [hu])) (fun u hu => h2 u (by simp [hu]))
theorem Gr.uniq {nx : Nat → List Nat} {z : Nat} : ∀ {p q : List Nat} {a : Nat}, Gr nx z a p → Gr nx z a q → p.length = q.length → p = q
  | [], [], _, _, _, _ => rfl
  | [], _ :: _, _, _, _, h => by simp at h
  | _ :: _, [], _, _, _, h => by simp at h
  | x :: p, y :: q, a, hp, hq, h => by
    obtain ⟨⟨l1, l2, e1, f1⟩, g1⟩ := hp
    obtain ⟨⟨k1, k2, e2, f2⟩, g2⟩ := hq
    have hl : p.length = q.length := by simpa using h
    have hxy := first_uniq (P := fun u => Wk nx u p.length z) (e1.symm.trans e2) g1.wk (by rw [hl]; exact g2.wk) f1 (by rw [hl]; exact f2)
    subst hxy
    rw [g1.uniq g2 hl]
/-- It goes on at its end. -/
theorem Gr.last {nx : Nat → List Nat} {z : Nat} : ∀ {p : List Nat} {a : Nat}, Gr nx z a p → p ≠ [] → p.getLast? = some z
  | [], _, _, h => absurd rfl h
  | [x], a, h, _ => by have := h.2; simp [show x = z from this]
  | x :: y :: p, a, h, _ => by
    have := h.2.last (by simp)
    rw [List.getLast?_cons_cons]; exact this
end Go.Proofs.YtaioiobimenkfaaDoor.Pt
