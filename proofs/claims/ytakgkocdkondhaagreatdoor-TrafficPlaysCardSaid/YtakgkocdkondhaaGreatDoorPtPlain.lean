/-
  Ways through a graph, in plain words: how far a cell is, a search that goes by what was found first, and the first of the shortest ways.
  A search that goes by what was found first: what it has found, where from, and what follows when nothing is left.
  The document's search: all cells so far away, then those one step further; and its way, by how far it is from there.
  Ways over a floor: the steps; what follows of how far cells are.
-/
import Derived.Test.YtakgkocdkondhaaGreatDoorFlPlain
set_option linter.unusedVariables false
set_option maxRecDepth 100000
section
namespace Go.Proofs.YtakgkocdkondhaaGreatDoor.Pt

/-- A way of so many steps. -/
inductive Wk (nx : Nat → List Nat) (a : Nat) : Nat → Nat → Prop
  | zero : Wk nx a 0 a
  | step {n b c : Nat} : Wk nx a n b → c ∈ nx b → Wk nx a (n + 1) c
theorem Wk.inv {nx : Nat → List Nat} {a n c : Nat} (h : Wk nx a n c) : (n = 0 ∧ c = a) ∨ ∃ m b, n = m + 1 ∧ Wk nx a m b ∧ c ∈ nx b := by
  cases h with
  | zero => exact .inl ⟨rfl, rfl⟩
  | step h1 h2 => exact .inr ⟨_, _, rfl, h1, h2⟩
theorem Wk.zero_eq {nx : Nat → List Nat} {a c : Nat} (h : Wk nx a 0 c) : c = a := by
  rcases h.inv with ⟨_, e⟩ | ⟨m, b, e, _⟩
  · exact e
  · omega
theorem Wk.succ_inv {nx : Nat → List Nat} {a n c : Nat} (h : Wk nx a (n + 1) c) : ∃ b, Wk nx a n b ∧ c ∈ nx b := by
  rcases h.inv with ⟨e, _⟩ | ⟨m, b, e, h1, h2⟩
  · omega
  · obtain rfl : n = m := by omega
    exact ⟨b, h1, h2⟩
theorem Wk.trans {nx : Nat → List Nat} {a b : Nat} {n : Nat} (h : Wk nx a n b) : ∀ {m c : Nat}, Wk nx b m c → Wk nx a (n + m) c := by
  intro m
  induction m with
  | zero => intro c k; rw [k.zero_eq]; exact h
  | succ m ih =>
    intro c k
    obtain ⟨d, k1, k2⟩ := k.succ_inv
    exact .step (ih k1) k2
theorem Wk.first {nx : Nat → List Nat} {a b : Nat} (h : b ∈ nx a) : Wk nx a 1 b := .step .zero h
theorem Wk.cons {nx : Nat → List Nat} {a b c n : Nat} (h : b ∈ nx a) (k : Wk nx b n c) : Wk nx a (n + 1) c := by
  have := (Wk.first h).trans k
  rwa [Nat.add_comm] at this
theorem Wk.uncons {nx : Nat → List Nat} {a : Nat} : ∀ {n c : Nat}, Wk nx a (n + 1) c → ∃ b, b ∈ nx a ∧ Wk nx b n c := by
  intro n
  induction n with
  | zero =>
    intro c h
    obtain ⟨b, h1, h2⟩ := h.succ_inv
    rw [h1.zero_eq] at h2
    exact ⟨c, h2, .zero⟩
  | succ n ih =>
    intro c h
    obtain ⟨d, h1, h2⟩ := h.succ_inv
    obtain ⟨b, k1, k2⟩ := ih h1
    exact ⟨b, k1, .step k2 h2⟩
theorem Wk.mono {nx ny : Nat → List Nat} {a : Nat} (hs : ∀ x y, y ∈ nx x → y ∈ ny x) : ∀ {n c : Nat}, Wk nx a n c → Wk ny a n c := by
  intro n
  induction n with
  | zero => intro c h; rw [h.zero_eq]; exact .zero
  | succ n ih =>
    intro c h
    obtain ⟨b, h1, h2⟩ := h.succ_inv
    exact .step (ih h1) (hs _ _ h2)

/-- A cell is just so many steps away. -/
def Lv (nx : Nat → List Nat) (a n c : Nat) : Prop := Wk nx a n c ∧ ∀ m, Wk nx a m c → n ≤ m
theorem Lv.uniq {nx : Nat → List Nat} {a n m c : Nat} (h : Lv nx a n c) (k : Lv nx a m c) : n = m := Nat.le_antisymm (h.2 _ k.1) (k.2 _ h.1)
theorem Lv.zero (nx : Nat → List Nat) (a : Nat) : Lv nx a 0 a := ⟨.zero, fun m _ => Nat.zero_le m⟩
/-- The cell ahead, on a shortest way. -/
theorem Lv.pred {nx : Nat → List Nat} {a n c : Nat} (h : Lv nx a (n + 1) c) : ∃ b, Lv nx a n b ∧ c ∈ nx b := by
  obtain ⟨b, h1, h2⟩ := h.1.succ_inv
  refine ⟨b, ⟨h1, fun m k => ?_⟩, h2⟩
  have := h.2 _ (.step k h2)
  omega
theorem lv_of {nx : Nat → List Nat} {a c : Nat} : ∀ n, Wk nx a n c → ∃ m, m ≤ n ∧ Lv nx a m c := by
  intro n
  induction n using Nat.strongRecOn with
  | ind n ih =>
    intro h
    by_cases hc : ∃ m, m < n ∧ Wk nx a m c
    · obtain ⟨m, h1, h2⟩ := hc
      obtain ⟨k, k1, k2⟩ := ih m h1 h2
      exact ⟨k, by omega, k2⟩
    · refine ⟨n, Nat.le_refl _, h, fun m k => ?_⟩
      rcases Nat.lt_or_ge m n with e | e
      · exact absurd ⟨m, e, k⟩ hc
      · exact e
/-- How far a cell is, as a number that is told. -/
def IsD (nx : Nat → List Nat) (a c : Nat) (x : Int) : Prop := (x = -1 ∧ ∀ n, ¬ Wk nx a n c) ∨ ∃ n : Nat, x = (n : Int) ∧ Lv nx a n c
theorem IsD.uniq {nx : Nat → List Nat} {a c : Nat} {x y : Int} (h : IsD nx a c x) (k : IsD nx a c y) : x = y := by
  rcases h with ⟨rfl, h⟩ | ⟨n, rfl, h⟩ <;> rcases k with ⟨rfl, k⟩ | ⟨m, rfl, k⟩
  · rfl
  · exact absurd k.1 (h m)
  · exact absurd h.1 (k n)
  · rw [h.uniq k]

theorem nodup_below : ∀ (N : Nat) (l : List Nat), l.Nodup → (∀ x, x ∈ l → x < N) → l.length ≤ N := by
  intro N
  induction N with
  | zero => intro l _ h; cases l with
    | nil => exact Nat.le_refl _
    | cons x l => exact absurd (h x (by simp)) (by omega)
  | succ N ih =>
    intro l hn h
    have h1 : (l.erase N).length ≤ N := by
      refine ih _ (hn.erase N) fun x hx => ?_
      have hx' := (List.Nodup.mem_erase_iff hn).1 hx
      have := h x hx'.2
      omega
    have h2 := List.length_erase (a := N) (l := l)
    split at h2 <;> omega
theorem wk_lt {nx : Nat → List Nat} {a N : Nat} (ha : a < N) (hN : ∀ x y, x < N → y ∈ nx x → y < N) : ∀ {n c : Nat}, Wk nx a n c → c < N := by
  intro n
  induction n with
  | zero => intro c h; rw [h.zero_eq]; exact ha
  | succ n ih =>
    intro c h
    obtain ⟨b, h1, h2⟩ := h.succ_inv
    exact hN b c (ih h1) h2
/-- All cells on the way are others: so there are as many cells. -/
theorem lv_cells {nx : Nat → List Nat} {a N : Nat} (ha : a < N) (hN : ∀ x y, x < N → y ∈ nx x → y < N) : ∀ n c, Lv nx a n c → ∃ l : List Nat, l.length = n + 1 ∧ l.Nodup ∧ ∀ x, x ∈ l → x < N ∧ ∃ m, m ≤ n ∧ Lv nx a m x := by
  intro n
  induction n with
  | zero =>
    intro c h
    refine ⟨[a], rfl, by simp, fun x hx => ?_⟩
    obtain rfl : x = a := by simpa using hx
    exact ⟨ha, 0, Nat.le_refl _, Lv.zero _ _⟩
  | succ n ih =>
    intro c h
    obtain ⟨b, h1, h2⟩ := h.pred
    obtain ⟨l, e, hn, hl⟩ := ih b h1
    refine ⟨c :: l, by simp [e], ?_, fun x hx => ?_⟩
    · rw [List.nodup_cons]
      refine ⟨fun hc => ?_, hn⟩
      obtain ⟨_, m, hm, k⟩ := hl c hc
      have := h.uniq k
      omega
    · rcases List.mem_cons.1 hx with rfl | hx
      · refine ⟨?_, n + 1, Nat.le_refl _, h⟩
        exact hN b x (wk_lt ha hN h1.1) h2
      · obtain ⟨h3, m, hm, k⟩ := hl x hx
        exact ⟨h3, m, by omega, k⟩
theorem lv_lt {nx : Nat → List Nat} {a N n c : Nat} (ha : a < N) (hN : ∀ x y, x < N → y ∈ nx x → y < N) (h : Lv nx a n c) : n < N := by
  obtain ⟨l, e, hn, hl⟩ := lv_cells ha hN n c h
  have := nodup_below N l hn (fun x hx => (hl x hx).1)
  omega
/-- The first of the ways of so many steps: each cell is the first from which the rest can be gone. -/
def Gr (nx : Nat → List Nat) (z : Nat) : Nat → List Nat → Prop
  | a, [] => a = z
  | a, x :: p => (∃ l1 l2, nx a = l1 ++ x :: l2 ∧ ∀ y, y ∈ l1 → ¬ Wk nx y p.length z) ∧ Gr nx z x p
theorem Gr.wk {nx : Nat → List Nat} {z : Nat} : ∀ {p : List Nat} {a : Nat}, Gr nx z a p → Wk nx a p.length z
  | [], a, h => by rw [show a = z from h]; exact .zero
  | x :: p, a, h => by
    obtain ⟨⟨l1, l2, e, _⟩, h2⟩ := h
    exact Wk.cons (by rw [e]; simp) h2.wk
theorem first_uniq {l1 l2 k1 k2 : List Nat} {x y : Nat} {P : Nat → Prop} (h : l1 ++ x :: l2 = k1 ++ y :: k2) (hx : P x) (hy : P y) (h1 : ∀ u, u ∈ l1 → ¬ P u) (h2 : ∀ u, u ∈ k1 → ¬ P u) : x = y := by
  induction l1 generalizing k1 with
  | nil =>
    cases k1 with
    | nil => simpa using (List.cons.inj h).1
    | cons u k1 =>
      obtain rfl : x = u := (List.cons.inj h).1
      exact absurd hx (h2 x (by simp))
  | cons u l1 ih =>
    cases k1 with
    | nil =>
      obtain rfl : u = y := (List.cons.inj h).1
      exact absurd hy (h1 u (by simp))
    | cons v k1 => exact ih (List.cons.inj h).2 (fun u hu => h1 u (by simp [hu])) (fun u hu => h2 u (by simp [hu]))
theorem Gr.uniq {nx : Nat → List Nat} {z : Nat} : ∀ {p q : List Nat} {a : Nat}, Gr nx z a p → Gr nx z a q → p.length = q.length → p = q
  | [], [], _, _, _, _ => rfl
  | [], _ :: _, _, _, _, h => by simp at h
  | _ :: _, [], _, _, _, h => by simp at h
  | x :: p, y :: q, a, hp, hq, h => by
    obtain ⟨⟨l1, l2, e1, f1⟩, g1⟩ := hp
    obtain ⟨⟨k1, k2, e2, f2⟩, g2⟩ := hq
    have hl : p.length = q.length := by simpa using h
    have hxy := first_uniq (P := fun u => Wk nx u p.length z) (e1.symm.trans e2) g1.wk (by rw [hl]; exact g2.wk) f1 (by rw [hl]; exact f2)
    subst hxy
    rw [g1.uniq g2 hl]
end Go.Proofs.YtakgkocdkondhaaGreatDoor.Pt
end

section
namespace Go.Proofs.YtakgkocdkondhaaGreatDoor.Pt

/-- A cell that was found: the place of the one from which it was, and how far it is. -/
structure Nd where
  c : Nat
  p : Nat
  l : Nat
def nd (R : List Nd) (i : Nat) : Nd := R.getD i ⟨0, 0, 0⟩
/-- A cell is among those that were found. -/
def Fd (R : List Nd) (x : Nat) : Prop := ∃ i, i < R.length ∧ (nd R i).c = x
structure Bf (nx : Nat → List Nat) (N a : Nat) (R : List Nd) (k j : Nat) : Prop where
  r0 : 0 < R.length
  h0 : nd R 0 = ⟨a, 0, 0⟩
  inj : ∀ i i', i < R.length → i' < R.length → (nd R i).c = (nd R i').c → i = i'
  lt : ∀ i, i < R.length → (nd R i).c < N
  par : ∀ i, 0 < i → i < R.length → (nd R i).p < i ∧ (nd R i).l = (nd R (nd R i).p).l + 1
  le : ∀ i, i < R.length → (nd R i).p ≤ k
  mono : ∀ i i', i ≤ i' → i' < R.length → (nd R i).p ≤ (nd R i').p
  done : ∀ y, y < k → ∀ x, x ∈ nx (nd R y).c → ∃ i, i < R.length ∧ (nd R i).c = x ∧ (nd R i).p ≤ y
  now : ∀ x, x ∈ (nx (nd R k).c).take j → Fd R x
  ord : ∀ i, 0 < i → i < R.length → ∃ l1 l2, nx (nd R (nd R i).p).c = l1 ++ (nd R i).c :: l2 ∧ ∀ x, x ∈ l1 → ∃ i', i' < i ∧ (nd R i').c = x
  kle : k ≤ R.length
/-- How far each cell is, as it is marked. -/
structure Far (R : List Nd) (N : Nat) (F : List Int) : Prop where
  len : F.length = N
  at_ : ∀ i, i < R.length → F.getD (nd R i).c 0 = (nd R i).l
  no : ∀ c, c < N → ¬ Fd R c → F.getD c 0 = -1
/-- From where each cell was found. -/
structure Ahd (R : List Nd) (N : Nat) (A : List Int) : Prop where
  len : A.length = N
  at_ : ∀ i, 0 < i → i < R.length → A.getD (nd R i).c 0 = (nd R (nd R i).p).c
/-- The way that is told from its end. -/
def back (A : List Int) : Nat → Nat → List Nat
  | 0, _ => []
  | n + 1, c => back A n (A.getD c 0).toNat ++ [c]
/-- The place so many steps ahead. -/
def anc (R : List Nd) : Nat → Nat → Nat
  | 0, i => i
  | r + 1, i => anc R r (nd R i).p
end Go.Proofs.YtakgkocdkondhaaGreatDoor.Pt
end

section
namespace Go.Proofs.YtakgkocdkondhaaGreatDoor.Pt

theorem getD_set_ne {α : Type} {l : List α} {i j : Nat} {x d : α} (h : i ≠ j) : (l.set i x).getD j d = l.getD j d := by
  simp [List.getD, h]
theorem getD_set_eq {α : Type} {l : List α} {i : Nat} {x d : α} (h : i < l.length) : (l.set i x).getD i d = x := by
  simp [List.getD, h]

structure Rd (nx : Nat → List Nat) (N a n i k : Nat) (d : List Int) : Prop where
  len : d.length = N
  low : ∀ c, c < N → d.getD c 0 ≠ -1 → ∃ m : Nat, d.getD c 0 = m ∧ Lv nx a m c ∧ m ≤ n + 1
  all : ∀ c, c < N → ∀ m, m ≤ n → Lv nx a m c → d.getD c 0 = m
  seen : ∀ b, b < i → d.getD b 0 = n → ∀ x, x ∈ nx b → d.getD x 0 ≠ -1
  now : ∀ x, x ∈ (nx i).take k → d.getD x 0 ≠ -1
theorem Rd.start (nx : Nat → List Nat) (N a : Nat) (h : a < N) : Rd nx N a 0 0 0 ((List.replicate N (-1)).set a 0) := by
  have hr : ∀ c, c < N → a ≠ c → ((List.replicate N (-1 : Int)).set a 0).getD c 0 = -1 := fun c hc hn => by
    rw [getD_set_ne hn]; simp [List.getD, hc]
  have ha : ((List.replicate N (-1 : Int)).set a 0).getD a 0 = 0 := getD_set_eq (by simpa using h)
  refine ⟨by simp, ?_, ?_, fun b hb => by omega, by simp⟩
  · intro c hc hn
    by_cases e : a = c
    · subst e; exact ⟨0, ha, Lv.zero _ _, by omega⟩
    · exact absurd (hr c hc e) hn
  · intro c hc m hm hl
    obtain rfl : m = 0 := by omega
    rw [hl.1.zero_eq]; exact ha
theorem Rd.sign {nx : Nat → List Nat} {N a n i k : Nat} {d : List Int} (h : Rd nx N a n i k d) {c : Nat} (hc : c < N) : d.getD c 0 < 0 ↔ d.getD c 0 = -1 := by
  refine ⟨fun hl => ?_, fun e => by omega⟩
  by_cases e : d.getD c 0 = -1
  · exact e
  · obtain ⟨m, hm, _⟩ := h.low c hc e; omega
theorem Rd.old {nx : Nat → List Nat} {N a n i k : Nat} {d : List Int} (h : Rd nx N a n i k d) (hk : k < (nx i).length) (hx : d.getD ((nx i).getD k 0) 0 ≠ -1) : Rd nx N a n i (k + 1) d := by
  refine ⟨h.len, h.low, h.all, h.seen, ?_⟩
  intro x hm
  rw [List.take_succ_eq_append_getElem hk] at hm
  rcases List.mem_append.1 hm with hm | hm
  · exact h.now x hm
  · have hge : (nx i).getD k 0 = (nx i)[k] := by rw [List.getD, List.getElem?_eq_getElem hk]; rfl
    rw [hge] at hx
    obtain rfl : x = _ := by simpa using hm
    exact hx
theorem Rd.new {nx : Nat → List Nat} {N a n i k : Nat} {d : List Int} (h : Rd nx N a n i k d) (hi : i < N) (hd : d.getD i 0 = n) (hk : k < (nx i).length) (hN : (nx i).getD k 0 < N) (hx : d.getD ((nx i).getD k 0) 0 = -1) : Rd nx N a n i (k + 1) (d.set ((nx i).getD k 0) ((n : Int) + 1)) := by
  have hmem : (nx i).getD k 0 ∈ nx i := by rw [List.getD, List.getElem?_eq_getElem hk]; exact List.getElem_mem hk
  have hge : (nx i).getD k 0 = (nx i)[k] := by rw [List.getD, List.getElem?_eq_getElem hk]; rfl
  have hlen := h.len
  generalize hz : (nx i).getD k 0 = z at *
  have hzz : (d.set z ((n : Int) + 1)).getD z 0 = (n : Int) + 1 := getD_set_eq (by omega)
  have hno : ∀ c, c ≠ z → (d.set z ((n : Int) + 1)).getD c 0 = d.getD c 0 := fun c hc => getD_set_ne (fun e => hc e.symm)
  have hlv : Lv nx a n i := by
    obtain ⟨m, h1, h2, _⟩ := h.low i hi (by omega)
    obtain rfl : m = n := by omega
    exact h2
  have hz1 : Lv nx a (n + 1) z := by
    refine ⟨.step hlv.1 hmem, fun m hm => ?_⟩
    obtain ⟨m', h1, h2⟩ := lv_of m hm
    rcases Nat.lt_or_ge n m' with e | e
    · omega
    · have := h.all z hN m' e h2
      omega
  have hne : ∀ c, d.getD c 0 ≠ -1 → (d.set z ((n : Int) + 1)).getD c 0 ≠ -1 := fun c hc => by
    by_cases e : c = z
    · subst e; exact absurd hx hc
    · rw [hno c e]; exact hc
  refine ⟨by simpa using h.len, ?_, ?_, ?_, ?_⟩
  · intro c hc hn
    by_cases e : c = z
    · subst e; exact ⟨n + 1, by rw [hzz]; simp, hz1, Nat.le_refl _⟩
    · rw [hno c e] at hn ⊢; exact h.low c hc hn
  · intro c hc m hm hl
    by_cases e : c = z
    · subst e
      have := h.all c hc m hm hl
      omega
    · rw [hno c e]; exact h.all c hc m hm hl
  · intro b hb hbn x hxm
    by_cases e : b = z
    · subst e; rw [hzz] at hbn; omega
    · rw [hno b e] at hbn
      exact hne x (h.seen b hb hbn x hxm)
  · intro x hxm
    rw [List.take_succ_eq_append_getElem hk, ← hge] at hxm
    rcases List.mem_append.1 hxm with hm | hm
    · exact hne x (h.now x hm)
    · obtain rfl : x = z := by simpa using hm
      rw [hzz]; omega
theorem Rd.next {nx : Nat → List Nat} {N a n i k : Nat} {d : List Int} (h : Rd nx N a n i k d) (hk : (nx i).length ≤ k) : Rd nx N a n (i + 1) 0 d := by
  refine ⟨h.len, h.low, h.all, ?_, by simp⟩
  intro b hb hbn x hx
  by_cases e : b = i
  · subst e; exact h.now x (by rw [List.take_of_length_le hk]; exact hx)
  · exact h.seen b (by omega) hbn x hx
theorem Rd.past {nx : Nat → List Nat} {N a n i k : Nat} {d : List Int} (h : Rd nx N a n i k d) (hd : d.getD i 0 ≠ n) : Rd nx N a n (i + 1) 0 d := by
  refine ⟨h.len, h.low, h.all, ?_, by simp⟩
  intro b hb hbn x hx
  by_cases e : b = i
  · subst e; exact absurd hbn hd
  · exact h.seen b (by omega) hbn x hx
theorem Rd.round {nx : Nat → List Nat} {N a n i k : Nat} {d : List Int} (h : Rd nx N a n i k d) (hi : N ≤ i) (ha : a < N) (hN : ∀ x y, x < N → y ∈ nx x → y < N) : Rd nx N a (n + 1) 0 0 d := by
  refine ⟨h.len, ?_, ?_, fun b hb => by omega, by simp⟩
  · intro c hc hn
    obtain ⟨m, h1, h2, h3⟩ := h.low c hc hn
    exact ⟨m, h1, h2, by omega⟩
  · intro c hc m hm hl
    by_cases e : m ≤ n
    · exact h.all c hc m e hl
    · obtain rfl : m = n + 1 := by omega
      obtain ⟨b, h1, h2⟩ := hl.pred
      have hb := wk_lt ha hN h1.1
      have := h.all b hb n (Nat.le_refl _) h1
      have := h.seen b (by omega) this c h2
      obtain ⟨m', k1, k2, _⟩ := h.low c hc this
      rw [k1, k2.uniq hl]
theorem Rd.isD {nx : Nat → List Nat} {N a n i k : Nat} {d : List Int} (h : Rd nx N a n i k d) (hn : N ≤ n) (ha : a < N) (hN : ∀ x y, x < N → y ∈ nx x → y < N) (c : Nat) (hc : c < N) : IsD nx a c (d.getD c 0) := by
  by_cases e : d.getD c 0 = -1
  · refine .inl ⟨e, fun m hm => ?_⟩
    obtain ⟨m', h1, h2⟩ := lv_of m hm
    have := lv_lt ha hN h2
    have := h.all c hc m' (by omega) h2
    omega
  · obtain ⟨m, h1, h2, _⟩ := h.low c hc e
    exact .inr ⟨m, h1, h2⟩

/-- What is far as the document's way asks it: of a cell that can't be left, of the aim, of another one. -/
def IsFar (nx ny : Nat → List Nat) (cell z : Nat) (out : Prop) (x : Int) : Prop := (cell = z ∧ x = 0) ∨ (cell ≠ z ∧ ¬ out ∧ nx cell = [] ∧ x = -1) ∨ (cell ≠ z ∧ out ∧ IsD ny cell z x)
theorem far_iff {nx ny : Nat → List Nat} {a cell z i r : Nat} {out : Prop} {x : Int} (h : IsFar nx ny cell z out x) (hz : Lv nx a (i + 1 + r) z) (hc : Wk nx a (i + 1) cell)
    (h1 : cell ≠ a → ∀ b, b ≠ a → ∀ y, y ∈ nx b → y ∈ ny b) (h2 : ∀ b y, y ∈ ny b → y ∈ nx b) (h3 : cell = a → nx = ny) : x = (r : Int) ↔ Wk nx cell r z := by
  rcases h with ⟨rfl, rfl⟩ | ⟨h0, _, hn, rfl⟩ | ⟨h0, _, hd⟩
  · have := hz.2 _ hc
    obtain rfl : r = 0 := by omega
    exact ⟨fun _ => .zero, fun _ => rfl⟩
  · refine ⟨fun e => by omega, fun hw => ?_⟩
    cases r with
    | zero => exact absurd hw.zero_eq.symm h0
    | succ r =>
      obtain ⟨b, h4, _⟩ := hw.uncons
      rw [hn] at h4; cases h4
  · by_cases e : cell = a
    · obtain rfl := h3 e
      subst e
      refine ⟨fun hx => ?_, fun hw => ?_⟩
      · rcases hd with ⟨e, _⟩ | ⟨n, e, hl⟩
        · omega
        · have := hl.uniq hz; omega
      · have := hz.2 _ hw; omega
    · have hto : ∀ m, m ≤ r → ∀ y, Wk nx cell m y → Wk nx y (r - m) z → Wk ny cell m y := by
        intro m
        induction m with
        | zero => intro _ y hw _; rw [hw.zero_eq]; exact .zero
        | succ m ih =>
          intro hm y hw hrest
          obtain ⟨b, k1, k2⟩ := hw.succ_inv
          have hb : Wk nx b (r - m) z := by
            rw [show r - m = (r - (m + 1)) + 1 by omega]
            exact Wk.cons k2 hrest
          refine .step (ih (by omega) b k1 hb) ?_
          refine h1 e b (fun eb => ?_) y k2
          subst eb
          have := hz.2 _ hb
          omega
      have hxr : ∀ n : Nat, Lv ny cell n z → r ≤ n := fun n hn => by
        have := hz.2 _ (hc.trans (hn.1.mono h2))
        omega
      refine ⟨fun hx => ?_, fun hw => ?_⟩
      · rcases hd with ⟨e, _⟩ | ⟨n, e, hl⟩
        · omega
        · obtain rfl : n = r := by omega
          exact hl.1.mono h2
      · have hw' := hto r (Nat.le_refl _) z hw (by rw [Nat.sub_self]; exact .zero)
        rcases hd with ⟨_, hn⟩ | ⟨n, e, hl⟩
        · exact absurd hw' (hn r)
        · have := hl.2 _ hw'
          have := hxr n hl
          omega

/-- The document's way, as far as it was told. -/
structure Go (nx : Nat → List Nat) (a z n : Nat) (out : List Nat) (at_ i : Nat) : Prop where
  wk : Wk nx at_ n z
  here : Wk nx a i at_
  there : Lv nx a (i + n) z
  pre : ∀ p, p.length = n → Gr nx z at_ p → Gr nx z a (out ++ p)
theorem Go.start {nx : Nat → List Nat} {a z n : Nat} (h : Lv nx a n z) : Go nx a z n [] a 0 := ⟨h.1, .zero, by rwa [Nat.zero_add], fun p _ h => h⟩
theorem Go.some {nx : Nat → List Nat} {a z n at_ i : Nat} {out : List Nat} (h : Go nx a z (n + 1) out at_ i) : ∃ k, k < (nx at_).length ∧ Wk nx ((nx at_).getD k 0) n z := by
  obtain ⟨b, h1, h2⟩ := h.wk.uncons
  obtain ⟨k, hk, rfl⟩ := List.getElem_of_mem h1
  exact ⟨k, hk, by rw [List.getD, List.getElem?_eq_getElem hk]; exact h2⟩
theorem Go.step {nx : Nat → List Nat} {a z n at_ i k : Nat} {out : List Nat} (h : Go nx a z (n + 1) out at_ i) (hk : k < (nx at_).length) (hw : Wk nx ((nx at_).getD k 0) n z) (hb : ∀ j, j < k → ¬ Wk nx ((nx at_).getD j 0) n z) :
    Go nx a z n (out ++ [(nx at_).getD k 0]) ((nx at_).getD k 0) (i + 1) := by
  have hge : (nx at_).getD k 0 = (nx at_)[k] := by rw [List.getD, List.getElem?_eq_getElem hk]; rfl
  have hj' := List.take_append_drop k (nx at_)
  rw [List.drop_eq_getElem_cons hk] at hj'
  refine ⟨hw, .step h.here (by rw [hge]; exact List.getElem_mem hk), by have := h.there; rwa [show i + 1 + n = i + (n + 1) by omega], fun p hp hg => ?_⟩
  rw [List.append_assoc]
  refine h.pre _ (by simp [hp]) ⟨⟨(nx at_).take k, (nx at_).drop (k + 1), by rw [hge]; exact hj'.symm, fun y hy => ?_⟩, hg⟩
  obtain ⟨j, hj, rfl⟩ := List.getElem_of_mem hy
  rw [List.length_take] at hj
  rw [List.getElem_take, show ([].append p).length = n from hp]
  have := hb j (by omega)
  rwa [List.getD, List.getElem?_eq_getElem (by omega : j < (nx at_).length)] at this
theorem Go.finish {nx : Nat → List Nat} {a z at_ i : Nat} {out : List Nat} (h : Go nx a z 0 out at_ i) : Gr nx z a out := by
  have := h.pre [] rfl h.wk.zero_eq.symm
  rwa [List.append_nil] at this
end Go.Proofs.YtakgkocdkondhaaGreatDoor.Pt
end

section
namespace Go.Proofs.YtakgkocdkondhaaGreatDoor.Pt
open Fl

/-- What is near to a cell. -/
def nr (W H : Nat) (z : Nat → Nat) (c : Nat) : List Nat := (side W H c).filter fun b => z b != 35
/-- Can a cell be left? -/
def outB (z : Nat → Nat) (a c : Nat) : Bool := c == a || isL (z c)
/-- The steps out of a cell, of a way that begins at a. -/
def nx5 (W H : Nat) (z : Nat → Nat) (a : Nat) (B : Nat → Bool) (c : Nat) : List Nat := if outB z a c = true then (nr W H z c).filter (fun b => !B b) else []
theorem mem_nr {W H c y : Nat} {z : Nat → Nat} : y ∈ nr W H z c ↔ y ∈ side W H c ∧ z y ≠ 35 := by simp [nr]
theorem outB_iff {z : Nat → Nat} {a c : Nat} : outB z a c = true ↔ c = a ∨ isL (z c) = true := by simp [outB]
theorem mem_nx5 {W H a c y : Nat} {z : Nat → Nat} {B : Nat → Bool} : y ∈ nx5 W H z a B c ↔ (c = a ∨ isL (z c) = true) ∧ y ∈ nr W H z c ∧ B y = false := by
  unfold nx5
  split
  · rename_i h
    rw [outB_iff] at h
    simp [h]
  · rename_i h
    rw [outB_iff] at h
    simp [h]
theorem nx5_no {W H a c : Nat} {z : Nat → Nat} {B : Nat → Bool} (h : outB z a c = false) : nx5 W H z a B c = [] := by unfold nx5; rw [h]; rfl
theorem nx5_yes {W H a c : Nat} {z : Nat → Nat} {B : Nat → Bool} (h : outB z a c = true) : nx5 W H z a B c = (nr W H z c).filter (fun b => !B b) := by unfold nx5; rw [h]; rfl
theorem nr_lt {W H c y : Nat} {z : Nat → Nat} (hW : 1 ≤ W) (hc : c < W * H) (h : y ∈ nr W H z c) : y < W * H := side_lt hW hc (mem_nr.1 h).1
theorem nr_len (W H c : Nat) (z : Nat → Nat) : (nr W H z c).length ≤ 4 := Nat.le_trans (List.length_filter_le _ _) (side_len W H c)
theorem nx5_lt {W H a : Nat} {z : Nat → Nat} {B : Nat → Bool} (hW : 1 ≤ W) : ∀ x y, x < W * H → y ∈ nx5 W H z a B x → y < W * H := fun x y hx h => nr_lt hW hx (mem_nx5.1 h).2.1
theorem nx5_len (W H a c : Nat) (z : Nat → Nat) (B : Nat → Bool) : (nx5 W H z a B c).length ≤ 4 := by
  unfold nx5
  split
  · exact Nat.le_trans (List.length_filter_le _ _) (nr_len _ _ _ _)
  · exact Nat.zero_le _
/-- As the document's way asks it. -/
theorem far_floor {W H a cell t i r : Nat} {z : Nat → Nat} {B : Nat → Bool} {x : Int} (h : IsFar (nx5 W H z a B) (nx5 W H z cell B) cell t (outB z a cell = true) x) (hz : Lv (nx5 W H z a B) a (i + 1 + r) t) (hc : Wk (nx5 W H z a B) a (i + 1) cell) :
    x = (r : Int) ↔ Wk (nx5 W H z a B) cell r t := by
  by_cases ho : outB z a cell = true
  · refine far_iff h hz hc ?_ ?_ ?_
    · intro hn b hb y hy
      obtain ⟨h1, h2⟩ := mem_nx5.1 hy
      refine mem_nx5.2 ⟨.inr ?_, h2⟩
      rcases h1 with e | e
      · exact absurd e hb
      · exact e
    · intro b y hy
      obtain ⟨h1, h2⟩ := mem_nx5.1 hy
      refine mem_nx5.2 ⟨?_, h2⟩
      rcases h1 with rfl | e
      · exact outB_iff.1 ho
      · exact .inr e
    · intro e; rw [e]
  · rcases h with ⟨h0, h1⟩ | ⟨h0, h1, h2, h3⟩ | ⟨h0, h1, h2⟩
    · subst h0 h1
      have := hz.2 _ hc
      obtain rfl : r = 0 := by omega
      exact ⟨fun _ => .zero, fun _ => rfl⟩
    · subst h3
      refine ⟨fun e => by omega, fun hw => ?_⟩
      cases r with
      | zero => exact absurd hw.zero_eq.symm h0
      | succ r =>
        obtain ⟨b, h4, _⟩ := hw.uncons
        rw [h2] at h4; cases h4
    · exact absurd h1 ho

/-! ### Between lanes -/
/-! ### Ways as lists -/
/-- Whether cells are a way: each a step from the one ahead. -/
def chI (nx : Nat → List Nat) : Nat → List Int → Bool
  | _, [] => true
  | a, x :: p => (nx a).any (fun y => ((y : Int) == x)) && chI nx x.toNat p
end Go.Proofs.YtakgkocdkondhaaGreatDoor.Pt
end
