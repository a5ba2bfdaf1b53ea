/-
  A search that goes by what was found first: what it has found, where from, and what follows when nothing is left.
-/
import Derived.Test.YtaioiobimenkfaaDoorPtPlain
set_option linter.unusedVariables false
set_option maxRecDepth 100000
namespace Go.Proofs.YtaioiobimenkfaaDoor.Pt

/-- A cell that was found: the place of the one from which it was, and how far it is. -/
structure Nd where
  c : Nat
  p : Nat
  l : Nat
def nd (R : List Nd) (i : Nat) : Nd := R.getD i ⟨0, 0, 0⟩
theorem nd_old (R : List Nd) (x : Nd) {i : Nat} (h : i < R.length) : nd (R ++ [x]) i = nd R i := by
  unfold nd; rw [List.getD, List.getD, List.getElem?_append_left h]
theorem nd_new (R : List Nd) (x : Nd) : nd (R ++ [x]) R.length = x := by
  unfold nd; rw [List.getD, List.getElem?_append_right (Nat.le_refl _), Nat.sub_self]; rfl
/-- A cell is among those that were found. -/
def Fd (R : List Nd) (x : Nat) : Prop := ∃ i, i < R.length ∧ (nd R i).c = x
structure Bf (nx : Nat → List Nat) (N a : Nat) (R : List Nd) (k j : Nat) : Prop where
  r0 : 0 < R.length
  h0 : nd R 0 = ⟨a, 0, 0⟩
  inj : ∀ i i', i < R.length → i' < R.length → (nd R i).c = (nd R i').c → i = i'
  lt : ∀ i, i < R.length → (nd R i).c < N
  par : ∀ i, 0 < i → i < R.length → (nd R i).p < i ∧ (nd R i).l = (nd R (nd R i).p).l + 1
  le : ∀ i, i < R.length → (nd R i).p ≤ k
  mono : ∀ i i', i ≤ i' → i' < R.length → (nd R i).p ≤ (nd R i').p
  done : ∀ y, y < k → ∀ x, x ∈ nx (nd R y).c → ∃ i, i < R.length ∧ (nd R i).c = x ∧ (nd R i).p ≤ y
  now : ∀ x, x ∈ (nx (nd R k).c).take j → Fd R x
  ord : ∀ i, 0 < i → i < R.length → ∃ l1 l2, nx (nd R (nd R i).p).c = l1 ++ (nd R i).c :: l2 ∧ ∀ x, x ∈ l1 → ∃ i', i' < i ∧ (nd R i').c = x
  kle : k ≤ R.length
theorem Bf.start (nx : Nat → List Nat) (N a : Nat) (h : a < N) : Bf nx N a [⟨a, 0, 0⟩] 0 0 := by
  have e : ∀ i, i < 1 → i = 0 := fun i h => by omega
  refine ⟨by simp, rfl, ?_, ?_, ?_, ?_, ?_, ?_, ?_, ?_, by simp⟩
  · intro i i' h1 h2 _
    simp at h1 h2; omega
  · intro i h1
    obtain rfl := e i (by simpa using h1); exact h
  · intro i h1 h2; simp at h2; omega
  · intro i h1
    obtain rfl := e i (by simpa using h1); exact Nat.le_refl _
  · intro i i' h1 h2
    obtain rfl := e i' (by simpa using h2)
    obtain rfl := e i (by omega)
    exact Nat.le_refl _
  · intro y h1; omega
  · intro x hx; simp at hx
  · intro i h1 h2; simp at h2; omega
theorem Bf.skip {nx : Nat → List Nat} {N a k j : Nat} {R : List Nd} (h : Bf nx N a R k j) (hj : j < (nx (nd R k).c).length) (hf : Fd R ((nx (nd R k).c).getD j 0)) : Bf nx N a R k (j + 1) := by
  refine ⟨h.r0, h.h0, h.inj, h.lt, h.par, h.le, h.mono, h.done, ?_, h.ord, h.kle⟩
  intro x hx
  rw [List.take_succ_eq_append_getElem hj] at hx
  rcases List.mem_append.1 hx with hx | hx
  · exact h.now x hx
  · rw [List.getD, List.getElem?_eq_getElem hj] at hf
    obtain rfl : x = _ := by simpa using hx
    exact hf
theorem Bf.push {nx : Nat → List Nat} {N a k j : Nat} {R : List Nd} (h : Bf nx N a R k j) (hk : k < R.length) (hj : j < (nx (nd R k).c).length) (hf : ¬ Fd R ((nx (nd R k).c).getD j 0)) (hN : (nx (nd R k).c).getD j 0 < N) :
    Bf nx N a (R ++ [⟨(nx (nd R k).c).getD j 0, k, (nd R k).l + 1⟩]) k (j + 1) := by
  have hl : (R ++ [⟨(nx (nd R k).c).getD j 0, k, (nd R k).l + 1⟩] : List Nd).length = R.length + 1 := by simp
  have hj' := List.take_append_drop j (nx (nd R k).c)
  rw [List.drop_eq_getElem_cons hj] at hj'
  have hge : (nx (nd R k).c).getD j 0 = (nx (nd R k).c)[j] := by rw [List.getD, List.getElem?_eq_getElem hj]; rfl
  generalize hx : (nx (nd R k).c).getD j 0 = x at *
  have hold : ∀ i, i < R.length → nd (R ++ [⟨x, k, (nd R k).l + 1⟩]) i = nd R i := fun i hi => nd_old R _ hi
  have hnew : nd (R ++ [⟨x, k, (nd R k).l + 1⟩]) R.length = ⟨x, k, (nd R k).l + 1⟩ := nd_new R _
  generalize R ++ [⟨x, k, (nd R k).l + 1⟩] = R' at *
  have hc : ∀ i, i < R'.length → i < R.length ∨ i = R.length := fun i hi => by omega
  refine ⟨by omega, by rw [hold 0 h.r0]; exact h.h0, ?_, ?_, ?_, ?_, ?_, ?_, ?_, ?_, by have := h.kle; omega⟩
  · intro i i' h1 h2 e
    rcases hc i h1 with k1 | rfl <;> rcases hc i' h2 with k2 | rfl
    · rw [hold i k1, hold i' k2] at e; exact h.inj i i' k1 k2 e
    · rw [hold i k1, hnew] at e; exact absurd ⟨i, k1, e⟩ hf
    · rw [hnew, hold i' k2] at e; exact absurd ⟨i', k2, e.symm⟩ hf
    · rfl
  · intro i h1
    rcases hc i h1 with k1 | rfl
    · rw [hold i k1]; exact h.lt i k1
    · rw [hnew]; exact hN
  · intro i h0 h1
    rcases hc i h1 with k1 | rfl
    · obtain ⟨q1, q2⟩ := h.par i h0 k1
      rw [hold i k1, hold _ (by omega)]; exact ⟨q1, q2⟩
    · rw [hnew]; exact ⟨hk, by rw [hold k hk]⟩
  · intro i h1
    rcases hc i h1 with k1 | rfl
    · rw [hold i k1]; exact h.le i k1
    · rw [hnew]; exact Nat.le_refl _
  · intro i i' h1 h2
    rcases hc i' h2 with k2 | rfl
    · rw [hold i (by omega), hold i' k2]; exact h.mono i i' h1 k2
    · rw [hnew]
      rcases hc i (by omega) with k1 | rfl
      · rw [hold i k1]; exact h.le i k1
      · rw [hnew]; exact Nat.le_refl _
  · intro y h1 z hz
    rw [hold y (by omega)] at hz
    obtain ⟨i, q1, q2, q3⟩ := h.done y h1 z hz
    exact ⟨i, by omega, by rw [hold i q1]; exact q2, by rw [hold i q1]; exact q3⟩
  · intro z hz
    rw [hold k hk, List.take_succ_eq_append_getElem hj, ← hge] at hz
    rcases List.mem_append.1 hz with hz | hz
    · obtain ⟨i, q1, q2⟩ := h.now z hz
      exact ⟨i, by omega, by rw [hold i q1]; exact q2⟩
    · obtain rfl : z = x := by simpa using hz
      exact ⟨R.length, by omega, by rw [hnew]⟩
  · intro i h0 h1
    rcases hc i h1 with k1 | rfl
    · obtain ⟨l1, l2, q1, q2⟩ := h.ord i h0 k1
      have := h.par i h0 k1
      rw [hold i k1, hold _ (by omega)]
      refine ⟨l1, l2, q1, fun z hz => ?_⟩
      obtain ⟨i', q3, q4⟩ := q2 z hz
      exact ⟨i', q3, by rw [hold i' (by omega)]; exact q4⟩
    · rw [hnew]
      refine ⟨(nx (nd R k).c).take j, (nx (nd R k).c).drop (j + 1), ?_, fun z hz => ?_⟩
      · show nx (nd R' k).c = _ ++ x :: _
        rw [hold k hk, hge]
        exact hj'.symm
      · obtain ⟨i, q1, q2⟩ := h.now z hz
        exact ⟨i, q1, by rw [hold i q1]; exact q2⟩
theorem Bf.pop {nx : Nat → List Nat} {N a k j : Nat} {R : List Nd} (h : Bf nx N a R k j) (hk : k < R.length) (hj : (nx (nd R k).c).length ≤ j) : Bf nx N a R (k + 1) 0 := by
  refine ⟨h.r0, h.h0, h.inj, h.lt, h.par, fun i hi => Nat.le_succ_of_le (h.le i hi), h.mono, ?_, by simp, h.ord, hk⟩
  intro y hy x hx
  by_cases e : y = k
  · subst e
    obtain ⟨i, q1, q2⟩ := h.now x (by rw [List.take_of_length_le hj]; exact hx)
    exact ⟨i, q1, q2, h.le i q1⟩
  · exact h.done y (by omega) x hx
theorem Bf.lv_mono {nx : Nat → List Nat} {N a k j : Nat} {R : List Nd} (h : Bf nx N a R k j) : ∀ i' i, i ≤ i' → i' < R.length → (nd R i).l ≤ (nd R i').l := by
  intro i'
  induction i' using Nat.strongRecOn with
  | ind i' ih =>
    intro i h1 h2
    by_cases e : i = 0
    · subst e; rw [h.h0]; exact Nat.zero_le _
    · obtain ⟨a1, a2⟩ := h.par i (by omega) (by omega)
      obtain ⟨b1, b2⟩ := h.par i' (by omega) h2
      have := ih _ b1 _ (h.mono i i' h1 h2) (by omega)
      omega
/-- What is found next is one step further than what is gone from. -/
theorem Bf.lv_le {nx : Nat → List Nat} {N a k j : Nat} {R : List Nd} (h : Bf nx N a R k j) (hk : k < R.length) (i : Nat) (hi : i < R.length) : (nd R i).l ≤ (nd R k).l + 1 := by
  by_cases e : i = 0
  · subst e; rw [h.h0]; exact Nat.zero_le _
  · obtain ⟨a1, a2⟩ := h.par i (by omega) hi
    have := h.lv_mono k _ (h.le i hi) hk
    omega
theorem Bf.len {nx : Nat → List Nat} {N a k j : Nat} {R : List Nd} (h : Bf nx N a R k j) : R.length ≤ N := by
  have h1 : (R.map Nd.c).Nodup := by
    rw [List.nodup_iff_pairwise_ne, List.pairwise_iff_getElem]
    intro i i' hi hi' hlt e
    rw [List.getElem_map, List.getElem_map] at e
    have g : ∀ i (hi : i < R.length), R[i] = nd R i := fun i hi => by unfold nd; rw [List.getD, List.getElem?_eq_getElem hi]; rfl
    rw [g, g] at e
    have := h.inj i i' (by simpa using hi) (by simpa using hi') e
    omega
  have := nodup_below N _ h1 fun x hx => by
    obtain ⟨n, hn, rfl⟩ := List.mem_map.1 hx
    obtain ⟨i, hi, rfl⟩ := List.getElem_of_mem hn
    have := h.lt i hi
    unfold nd at this
    rwa [List.getD, List.getElem?_eq_getElem hi] at this
  simpa using this
/-- From the first cell each that was found can be reached, in as many steps. -/
theorem Bf.wk {nx : Nat → List Nat} {N a k j : Nat} {R : List Nd} (h : Bf nx N a R k j) : ∀ i, i < R.length → Wk nx a (nd R i).l (nd R i).c := by
  intro i
  induction i using Nat.strongRecOn with
  | ind i ih =>
    intro hi
    by_cases e : i = 0
    · subst e; rw [h.h0]; exact .zero
    · obtain ⟨a1, a2⟩ := h.par i (by omega) hi
      obtain ⟨l1, l2, q1, _⟩ := h.ord i (by omega) hi
      rw [a2]
      exact .step (ih _ a1 (by omega)) (by rw [q1]; simp)
/-- When nothing is left, each cell to which a way goes was found, no further. -/
theorem Bf.all {nx : Nat → List Nat} {N a j : Nat} {R : List Nd} (h : Bf nx N a R R.length j) : ∀ n c, Wk nx a n c → ∃ i, i < R.length ∧ (nd R i).c = c ∧ (nd R i).l ≤ n := by
  intro n
  induction n with
  | zero => intro c hc; rw [hc.zero_eq]; exact ⟨0, h.r0, by rw [h.h0], by rw [h.h0]; exact Nat.le_refl _⟩
  | succ n ih =>
    intro c hc
    obtain ⟨b, h1, h2⟩ := hc.succ_inv
    obtain ⟨y, y1, y2, y3⟩ := ih b h1
    obtain ⟨i, q1, q2, q3⟩ := h.done y y1 c (by rw [y2]; exact h2)
    refine ⟨i, q1, q2, ?_⟩
    by_cases e : i = 0
    · subst e; rw [h.h0]; exact Nat.zero_le _
    · obtain ⟨a1, a2⟩ := h.par i (by omega) q1
      have := h.lv_mono y _ q3 y1
      omega
theorem Bf.lv {nx : Nat → List Nat} {N a j : Nat} {R : List Nd} (h : Bf nx N a R R.length j) (i : Nat) (hi : i < R.length) : Lv nx a (nd R i).l (nd R i).c := by
  refine ⟨h.wk i hi, fun m hm => ?_⟩
  obtain ⟨i', q1, q2, q3⟩ := h.all m _ hm
  rw [h.inj i' i q1 hi q2] at q3
  exact q3
/-- How far each cell is, as it is marked. -/
structure Far (R : List Nd) (N : Nat) (F : List Int) : Prop where
  len : F.length = N
  at_ : ∀ i, i < R.length → F.getD (nd R i).c 0 = (nd R i).l
  no : ∀ c, c < N → ¬ Fd R c → F.getD c 0 = -1
theorem Far.isD {nx : Nat → List Nat} {N a j : Nat} {R : List Nd} {F : List Int} (hf : Far R N F) (h : Bf nx N a R R.length j) (c : Nat) (hc : c < N) : IsD nx a c (F.getD c 0) := by
  by_cases e : Fd R c
  · obtain ⟨i, hi, rfl⟩ := e
    exact .inr ⟨_, hf.at_ i hi, h.lv i hi⟩
  · refine .inl ⟨hf.no c hc e, fun n hn => ?_⟩
    obtain ⟨i, q1, q2, _⟩ := h.all n c hn
    exact e ⟨i, q1, q2⟩
theorem Far.start (a N : Nat) (h : a < N) : Far [⟨a, 0, 0⟩] N ((List.replicate N (-1)).set a 0) := by
  refine ⟨by simp, ?_, ?_⟩
  · intro i hi
    obtain rfl : i = 0 := by simp at hi; omega
    show ((List.replicate N (-1 : Int)).set a 0).getD a 0 = 0
    simp [List.getD, h]
  · intro c hc hn
    have : a ≠ c := fun e => hn ⟨0, by simp, e⟩
    simp [List.getD, this, hc]
theorem Far.push {R : List Nd} {N : Nat} {F : List Int} (h : Far R N F) (x : Nd) (hx : x.c < N) (hn : ¬ Fd R x.c) : Far (R ++ [x]) N (F.set x.c x.l) := by
  have hF := h.len
  refine ⟨by simpa using h.len, ?_, ?_⟩
  · intro i hi
    by_cases e : i < R.length
    · rw [nd_old R x e]
      have : x.c ≠ (nd R i).c := fun e' => hn ⟨i, e, e'.symm⟩
      have h2 := h.at_ i e
      simp only [List.getD, List.getElem?_set, this, if_false] at h2 ⊢
      exact h2
    · obtain rfl : i = R.length := by simp at hi; omega
      rw [nd_new]
      simp [List.getD, hF, hx]
  · intro c hc hnc
    have h1 : x.c ≠ c := fun e => hnc ⟨R.length, by simp, by rw [nd_new]; exact e⟩
    have h2 : ¬ Fd R c := fun ⟨i, q1, q2⟩ => hnc ⟨i, by simp; omega, by rw [nd_old R x q1]; exact q2⟩
    have h3 := h.no c hc h2
    simp only [List.getD, List.getElem?_set, h1, if_false] at h3 ⊢
    exact h3
/-- Whether a cell was found is told by its mark. -/
theorem Far.is {R : List Nd} {N : Nat} {F : List Int} (h : Far R N F) {c : Nat} (hc : c < N) : F.getD c 0 = -1 ↔ ¬ Fd R c := by
  refine ⟨fun e ⟨i, q1, q2⟩ => ?_, h.no c hc⟩
  have := h.at_ i q1
  rw [q2, e] at this
  omega

/-- From where each cell was found. -/
structure Ahd (R : List Nd) (N : Nat) (A : List Int) : Prop where
  len : A.length = N
  at_ : ∀ i, 0 < i → i < R.length → A.getD (nd R i).c 0 = (nd R (nd R i).p).c
theorem Ahd.start (a N : Nat) (A : List Int) (h : A.length = N) : Ahd [⟨a, 0, 0⟩] N A := ⟨h, fun i h1 h2 => by simp at h2; omega⟩
theorem Ahd.push {R : List Nd} {N : Nat} {A : List Int} (h : Ahd R N A) (x : Nd) (hx : x.c < N) (hn : ¬ Fd R x.c) (hp : x.p < R.length) (hpar : ∀ i, 0 < i → i < R.length → (nd R i).p < i) : Ahd (R ++ [x]) N (A.set x.c (nd R x.p).c) := by
  have hA := h.len
  refine ⟨by simpa using h.len, ?_⟩
  intro i h0 hi
  by_cases e : i < R.length
  · rw [nd_old R x e, nd_old R x (by have := hpar i h0 e; omega)]
    have : x.c ≠ (nd R i).c := fun e' => hn ⟨i, e, e'.symm⟩
    have h2 := h.at_ i h0 e
    simp only [List.getD, List.getElem?_set, this, if_false] at h2 ⊢
    exact h2
  · obtain rfl : i = R.length := by simp at hi; omega
    rw [nd_new, nd_old R x hp]
    simp [List.getD, hA, hx]
/-- The way that is told from its end. -/
def back (A : List Int) : Nat → Nat → List Nat
  | 0, _ => []
  | n + 1, c => back A n (A.getD c 0).toNat ++ [c]
theorem back_length (A : List Int) : ∀ n c, (back A n c).length = n
  | 0, _ => rfl
  | n + 1, c => by simp [back, back_length A n]
/-- The place so many steps ahead. -/
def anc (R : List Nd) : Nat → Nat → Nat
  | 0, i => i
  | r + 1, i => anc R r (nd R i).p
theorem anc_succ (R : List Nd) : ∀ r i, anc R (r + 1) i = (nd R (anc R r i)).p
  | 0, _ => rfl
  | r + 1, i => anc_succ R r (nd R i).p
theorem Bf.anc_lv {nx : Nat → List Nat} {N a k j : Nat} {R : List Nd} (h : Bf nx N a R k j) : ∀ r i, i < R.length → r ≤ (nd R i).l → anc R r i < R.length ∧ (nd R (anc R r i)).l + r = (nd R i).l := by
  intro r
  induction r with
  | zero => intro i hi _; exact ⟨hi, rfl⟩
  | succ r ih =>
    intro i hi hr
    have h0 : 0 < i := by
      rcases Nat.eq_zero_or_pos i with e | e
      · subst e; rw [h.h0] at hr; simp at hr
      · exact e
    obtain ⟨a1, a2⟩ := h.par i h0 hi
    obtain ⟨q1, q2⟩ := ih _ (by omega : (nd R i).p < R.length) (by omega)
    exact ⟨q1, by show (nd R (anc R r (nd R i).p)).l + (r + 1) = _; omega⟩
theorem Bf.ahead {nx : Nat → List Nat} {N a j : Nat} {R : List Nd} (h : Bf nx N a R R.length j) : ∀ r i t x, t < R.length → r ≤ (nd R t).l → i < anc R r t → Wk nx (nd R i).c r x → ∃ i', i' < t ∧ (nd R i').c = x := by
  intro r
  induction r with
  | zero => intro i t x ht _ hi hw; rw [hw.zero_eq]; exact ⟨i, hi, rfl⟩
  | succ r ih =>
    intro i t x ht hr hi hw
    have h0 : 0 < t := by
      rcases Nat.eq_zero_or_pos t with e | e
      · subst e; rw [h.h0] at hr; simp at hr
      · exact e
    obtain ⟨a1, a2⟩ := h.par t h0 ht
    obtain ⟨b, w1, w2⟩ := hw.succ_inv
    obtain ⟨y, y1, y2⟩ := ih i (nd R t).p b (by omega) (by omega) hi w1
    obtain ⟨i', q1, q2, q3⟩ := h.done y (by omega) x (by rw [y2]; exact w2)
    refine ⟨i', ?_, q2⟩
    rcases Nat.lt_or_ge i' t with e | e
    · exact e
    · have := h.mono t i' e q1
      omega
theorem back_cons {nx : Nat → List Nat} {N a k j : Nat} {R : List Nd} {A : List Int} (h : Bf nx N a R k j) (hA : Ahd R N A) : ∀ r t, t < R.length → r < (nd R t).l → back A (r + 1) (nd R t).c = (nd R (anc R r t)).c :: back A r (nd R t).c := by
  intro r
  induction r with
  | zero => intro t ht hr; rfl
  | succ r ih =>
    intro t ht hr
    have h0 : 0 < t := by
      rcases Nat.eq_zero_or_pos t with e | e
      · subst e; rw [h.h0] at hr; simp at hr
      · exact e
    obtain ⟨a1, a2⟩ := h.par t h0 ht
    have e : (A.getD (nd R t).c 0).toNat = (nd R (nd R t).p).c := by rw [hA.at_ t h0 ht]; rfl
    have := ih (nd R t).p (by omega) (by omega)
    show back A (r + 1) (A.getD (nd R t).c 0).toNat ++ [(nd R t).c] = (nd R (anc R r (nd R t).p)).c :: (back A r (A.getD (nd R t).c 0).toNat ++ [(nd R t).c])
    rw [e, this]; rfl
/-- The way that is told from its end is the first of the shortest. -/
theorem Bf.gr {nx : Nat → List Nat} {N a j : Nat} {R : List Nd} {A : List Int} (h : Bf nx N a R R.length j) (hA : Ahd R N A) (t : Nat) (ht : t < R.length) : ∀ r, r ≤ (nd R t).l → Gr nx (nd R t).c (nd R (anc R r t)).c (back A r (nd R t).c) := by
  intro r
  induction r with
  | zero => intro _; exact rfl
  | succ r ih =>
    intro hr
    obtain ⟨u1, u2⟩ := h.anc_lv r t ht (by omega)
    have h0 : 0 < anc R r t := by
      rcases Nat.eq_zero_or_pos (anc R r t) with e | e
      · rw [e, h.h0] at u2; simp at u2; omega
      · exact e
    rw [back_cons h hA r t ht (by omega), anc_succ]
    refine ⟨?_, ih (by omega)⟩
    obtain ⟨l1, l2, q1, q2⟩ := h.ord _ h0 u1
    refine ⟨l1, l2, q1, fun y hy hw => ?_⟩
    rw [back_length] at hw
    obtain ⟨i, i1, i2⟩ := q2 y hy
    obtain ⟨i', k1, k2⟩ := h.ahead r i t _ ht (by omega) i1 (by rw [i2]; exact hw)
    have := h.inj i' t (by omega) ht k2
    omega
theorem Bf.way {nx : Nat → List Nat} {N a j : Nat} {R : List Nd} {A F : List Int} (h : Bf nx N a R R.length j) (hA : Ahd R N A) (hF : Far R N F) {c n : Nat} (hc : c < N) (hn : F.getD c 0 = (n : Int)) : Gr nx c a (back A n c) ∧ Lv nx a n c := by
  have hd : Fd R c := by
    by_cases e : Fd R c
    · exact e
    · rw [hF.no c hc e] at hn; omega
  obtain ⟨i, hi, rfl⟩ := hd
  have e := hF.at_ i hi
  obtain rfl : n = (nd R i).l := by omega
  have := h.gr hA i hi _ (Nat.le_refl _)
  obtain ⟨u1, u2⟩ := h.anc_lv (nd R i).l i hi (Nat.le_refl _)
  have h0 : anc R (nd R i).l i = 0 := by
    rcases Nat.eq_zero_or_pos (anc R (nd R i).l i) with e | e
    · exact e
    · have := h.par _ e u1; omega
  rw [h0, h.h0] at this
  exact ⟨this, h.lv i hi⟩
end Go.Proofs.YtaioiobimenkfaaDoor.Pt
