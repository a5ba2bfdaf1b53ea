/-
  How lanes are reached, in plain words: what is reached, what is missing still.
-/
import Derived.Test.YtaioiobimenkfaaDoorFlPlain
set_option linter.unusedVariables false
set_option maxRecDepth 100000
namespace Go.Proofs.YtaioiobimenkfaaDoor.Fl

/-- Of the lanes 'a :: r' those of R are reached, those of M are not yet; from the first i of R all was looked at; of the next one, d, so much of what is beside it. -/
structure Wv (W H : Nat) (z : Nat → Nat) (a : Nat) (r : List Nat) (i : Nat) (R M : List Nat) : Prop where
  nd : M.Nodup
  cover : ∀ x, x ∈ a :: r → x ∈ R ∨ x ∈ M
  apart : ∀ x, x ∈ R → x ∉ M
  len : R.length + M.length = (a :: r).length
  head : a ∈ R
  sub : ∀ x, x ∈ R → x ∈ a :: r
  subM : ∀ x, x ∈ M → x ∈ a :: r
  rch : ∀ x, x ∈ R → Rch W H z a x
  done : ∀ j, j < i → ∀ y, y ∈ side W H (R.getD j 0) → isL (z y) = true → y ∉ M

theorem Wv.start (W H : Nat) (z : Nat → Nat) (a : Nat) (r : List Nat) (h : (a :: r).Nodup) : Wv W H z a r 0 [a] r :=
  ⟨(List.nodup_cons.1 h).2, fun x hx => by simpa using hx, fun x hx => by obtain rfl := List.mem_singleton.1 hx; exact (List.nodup_cons.1 h).1, by simp; omega, by simp, fun x hx => by obtain rfl := List.mem_singleton.1 hx; simp, fun x hx => by simp [hx],
    fun x hx => by obtain rfl := List.mem_singleton.1 hx; exact Rch.refl _ _ _ _, fun j hj => by omega⟩

/-- Beside the i-th one that is reached, y is missing: now it is reached. -/
theorem Wv.step {W H : Nat} {z : Nat → Nat} {a : Nat} {r : List Nat} {i : Nat} {R M : List Nat} (h : Wv W H z a r i R M) (hl : ∀ x, x ∈ a :: r → isL (z x) = true) (hi : i < R.length) (y : Nat) (hy : y ∈ side W H (R.getD i 0)) (hm : y ∈ M) :
    Wv W H z a r i (R ++ [y]) (M.erase y) := by
  have hmi : R.getD i 0 ∈ R := by rw [List.getD, List.getElem?_eq_getElem hi]; exact List.getElem_mem hi
  refine ⟨h.nd.erase _, fun x hx => ?_, fun x hx hxm => ?_, ?_, by simp [h.head], fun x hx => ?_, fun x hx => h.subM x (List.mem_of_mem_erase hx), fun x hx => ?_, fun j hj y' hy' hl' hm' => ?_⟩
  · by_cases e : x = y
    · subst e; simp
    · rcases h.cover x hx with h1 | h1
      · exact .inl (by simp [h1])
      · exact .inr ((List.mem_erase_of_ne e).2 h1)
  · rcases List.mem_append.1 hx with h1 | h1
    · exact h.apart x h1 (List.mem_of_mem_erase hxm)
    · obtain rfl := List.mem_singleton.1 h1
      exact h.nd.not_mem_erase hxm
  · have := h.len
    have hp := List.length_pos_of_mem hm
    rw [List.length_append, List.length_erase_of_mem hm]
    simp only [List.length_singleton]
    omega
  · rcases List.mem_append.1 hx with h1 | h1
    · exact h.sub x h1
    · obtain rfl := List.mem_singleton.1 h1
      exact h.subM x hm
  · rcases List.mem_append.1 hx with h1 | h1
    · exact h.rch x h1
    · obtain rfl := List.mem_singleton.1 h1
      exact (h.rch _ hmi).step hy (hl x (h.subM x hm))
  · rw [List.getD, List.getElem?_append_left (by omega)] at hy'
    exact h.done j hj y' hy' hl' (List.mem_of_mem_erase hm')

/-- All that is beside the i-th one was looked at. -/
theorem Wv.next {W H : Nat} {z : Nat → Nat} {a : Nat} {r : List Nat} {i : Nat} {R M : List Nat} (h : Wv W H z a r i R M) (hd : ∀ y, y ∈ side W H (R.getD i 0) → y ∉ M) : Wv W H z a r (i + 1) R M :=
  ⟨h.nd, h.cover, h.apart, h.len, h.head, h.sub, h.subM, h.rch, fun j hj y hy hl => by
    rcases Nat.lt_succ_iff_lt_or_eq.1 hj with h1 | h1
    · exact h.done j h1 y hy hl
    · subst h1; exact hd y hy⟩

/-- At the end nothing is missing, just where the lanes are joined. -/
theorem Wv.finish {W H : Nat} {z : Nat → Nat} {a : Nat} {r : List Nat} {i : Nat} {R M : List Nat} (h : Wv W H z a r i R M) (hi : R.length ≤ i) (hW : 1 ≤ W) (hp : pick isL z (W * H) = a :: r) : M.length = 0 ↔ Joined W H z := by
  constructor
  · intro hm
    have hM : M = [] := List.eq_nil_of_length_eq_zero hm
    subst hM
    exact ⟨a, r, hp, fun l hl => by
      rcases h.cover l hl with h1 | h1
      · exact h.rch l h1
      · simp at h1⟩
  · rintro ⟨a', r', hp', hj⟩
    rw [hp] at hp'
    injection hp' with e1 e2
    subst e1 e2
    by_cases hm : M = []
    · subst hm; rfl
    · exfalso
      obtain ⟨x, hx⟩ := List.exists_mem_of_ne_nil M hm
      have hlane : ∀ y, y ∈ a :: r → y < W * H := fun y hy => (mem_pick.1 (by rw [hp]; exact hy)).1
      have := hj x (h.subM x hx) (fun y => y ∈ R) h.head (fun u v hu hv hl => by
        have hvl : v ∈ a :: r := by rw [← hp]; exact mem_pick.2 ⟨side_lt hW (hlane u (h.sub u hu)) hv, hl⟩
        obtain ⟨j, hj2, rfl⟩ := List.mem_iff_getElem.1 hu
        have hn := h.done j (by omega) v (by rw [List.getD, List.getElem?_eq_getElem hj2]; exact hv) hl
        rcases h.cover v hvl with h1 | h1
        · exact h1
        · exact absurd h1 hn)
      exact h.apart x this hx

theorem not_mem_take {l : List Nat} (h : l.Nodup) {k : Nat} (hk : k < l.length) : l.getD k 0 ∉ l.take k := by
  intro hx
  obtain ⟨j, hj, e⟩ := List.mem_iff_getElem.1 hx
  rw [List.length_take] at hj
  rw [List.getElem_take, List.getD, List.getElem?_eq_getElem hk] at e
  exact (List.pairwise_iff_getElem.1 h) j k (by omega) hk (by omega) e
theorem getD_mem {l : List Nat} {k : Nat} (hk : k < l.length) : l.getD k 0 ∈ l := by rw [List.getD, List.getElem?_eq_getElem hk]; exact List.getElem_mem hk
theorem mem_getD {l : List Nat} {x : Nat} (h : x ∈ l) : ∃ j, j < l.length ∧ l.getD j 0 = x := by
  obtain ⟨j, hj, e⟩ := List.mem_iff_getElem.1 h
  exact ⟨j, hj, by rw [List.getD, List.getElem?_eq_getElem hj]; exact e⟩
theorem getD_app {l m : List Nat} {k : Nat} (hk : k < l.length) : (l ++ m).getD k 0 = l.getD k 0 := by rw [List.getD, List.getD, List.getElem?_append_left hk]
end Go.Proofs.YtaioiobimenkfaaDoor.Fl
