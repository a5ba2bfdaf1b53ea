/-
  Layer 12, plain: those that wait, in the order in which they came; who goes next; what Add, Take and Drop do.
-/
import Derived.Test.YtgeahckblgpnmaaRows
set_option linter.unusedVariables false
namespace Go.Proofs.Ytgeahckblgpnmaa
namespace Ag

/-- One that waits: its number, its priority, how often it was bypassed. -/
abbrev Wr := Int × Int × Int
def wat (L : List Wr) (i : Nat) : Wr := L.getD i (0, 0, 0)
theorem wat_get {L : List Wr} {i : Nat} (h : i < L.length) : wat L i = L[i] := by simp [wat, List.getD, h]
theorem wat_mem {L : List Wr} {i : Nat} (h : i < L.length) : wat L i ∈ L := by rw [wat_get h]; exact List.getElem_mem _
def due (s : Int) (x : Wr) : Prop := s * (5 - x.2.1) ≤ x.2.2
instance (s : Int) (x : Wr) : Decidable (due s x) := by unfold due; exact inferInstance
/-- The place of the first of the highest priority, of the first so many. -/
def hi (L : List Wr) : Nat → Int
  | 0 => -1
  | n + 1 => if hi L n < 0 ∨ (wat L (hi L n).toNat).2.1 < (wat L n).2.1 then (n : Int) else hi L n
theorem hi_rng (L : List Wr) : ∀ n, -1 ≤ hi L n ∧ hi L n < n ∧ (0 < n → 0 ≤ hi L n)
  | 0 => ⟨by simp [hi], by simp [hi], fun h => by omega⟩
  | n + 1 => by
    have ih := hi_rng L n
    rw [hi]
    split
    · exact ⟨by omega, by omega, fun _ => by omega⟩
    · rename_i h
      exact ⟨ih.1, by omega, fun _ => by omega⟩
theorem hi_top (L : List Wr) : ∀ n j, j < n → (wat L j).2.1 ≤ (wat L (hi L n).toNat).2.1
  | 0, j, h => by omega
  | n + 1, j, h => by
    have ih := hi_top L n
    have r := hi_rng L n
    rw [hi]
    split
    · rename_i q
      rw [Int.toNat_natCast]
      by_cases e : j = n
      · subst e; exact Int.le_refl _
      · have h1 := ih j (by omega)
        rcases q with q | q
        · have := r.2.2 (by omega); omega
        · omega
    · rename_i q
      by_cases e : j = n
      · subst e; omega
      · exact ih j (by omega)
theorem hi_first (L : List Wr) : ∀ n j, ((j : Nat) : Int) < hi L n → (wat L j).2.1 < (wat L (hi L n).toNat).2.1
  | 0, j, h => by simp [hi] at h; omega
  | n + 1, j, h => by
    have ih := hi_first L n
    have r := hi_rng L n
    rw [hi] at h ⊢
    split at h
    · rename_i q
      rw [if_pos q, Int.toNat_natCast]
      have h1 := hi_top L n j (by omega)
      rcases q with q | q
      · have := r.2.2 (by omega); omega
      · omega
    · rename_i q
      rw [if_neg q]
      exact ih j h
/-- The place of the one that goes next; -1: none waits. -/
def nx (s : Int) (L : List Wr) : Int := match L.findIdx? (fun x => decide (due s x)) with
  | some i => (i : Int)
  | none => hi L L.length
theorem nx_due {s : Int} {L : List Wr} {k : Nat} (hk : k < L.length) (hd : due s (wat L k)) (hf : ∀ j, j < k → ¬ due s (wat L j)) : nx s L = k := by
  have : L.findIdx? (fun x => decide (due s x)) = some k := List.findIdx?_eq_some_iff_getElem.2 ⟨hk, by rw [← wat_get hk]; exact decide_eq_true hd, fun j hj => by
    rw [← wat_get (by omega)]
    have := hf j hj
    simpa using this⟩
  unfold nx; rw [this]
theorem nx_hi {s : Int} {L : List Wr} (hf : ∀ j, j < L.length → ¬ due s (wat L j)) : nx s L = hi L L.length := by
  have : L.findIdx? (fun x => decide (due s x)) = none := List.findIdx?_eq_none_iff.2 fun x hx => by
    obtain ⟨j, hj, rfl⟩ := List.getElem_of_mem hx
    have := hf j hj
    rw [wat_get hj] at this
    exact decide_eq_false this
  unfold nx; rw [this]
theorem nx_cases (s : Int) (L : List Wr) : (∃ k : Nat, nx s L = k ∧ k < L.length ∧ due s (wat L k) ∧ ∀ j, j < k → ¬ due s (wat L j)) ∨ ((∀ j, j < L.length → ¬ due s (wat L j)) ∧ nx s L = hi L L.length) := by
  cases h : L.findIdx? (fun x => decide (due s x)) with
  | some k =>
    obtain ⟨hk, hc, hn⟩ := List.findIdx?_eq_some_iff_getElem.1 h
    refine .inl ⟨k, by unfold nx; rw [h], hk, by rw [wat_get hk]; exact of_decide_eq_true hc, fun j hj => ?_⟩
    have := hn j hj
    rw [wat_get (by omega)]
    simpa using this
  | none =>
    refine .inr ⟨fun j hj => ?_, by unfold nx; rw [h]⟩
    have := List.findIdx?_eq_none_iff.1 h _ (wat_mem hj)
    exact of_decide_eq_false this
theorem nx_rng (s : Int) (L : List Wr) : -1 ≤ nx s L ∧ nx s L < L.length ∧ (L ≠ [] → 0 ≤ nx s L) := by
  rcases nx_cases s L with ⟨k, h, hk, _⟩ | ⟨_, h⟩
  · rw [h]; exact ⟨by omega, by omega, fun _ => by omega⟩
  · rw [h]
    have r := hi_rng L L.length
    exact ⟨r.1, r.2.1, fun e => r.2.2 (List.length_pos_iff.2 e)⟩
theorem nx_nil (s : Int) : nx s [] = -1 := rfl
/-- Nobody ahead of the one that goes next is due. -/
theorem nx_nd {s : Int} {L : List Wr} {j : Nat} (h : (j : Int) < nx s L) : ¬ due s (wat L j) := by
  rcases nx_cases s L with ⟨k, h1, hk, _, h2⟩ | ⟨h1, h2⟩
  · exact h2 j (by omega)
  · have r := hi_rng L L.length
    exact h1 j (by omega)
theorem due_of_nx {s : Int} {L : List Wr} {j : Nat} (hj : j < L.length) (hd : due s (wat L j)) : due s (wat L (nx s L).toNat) ∧ nx s L ≤ j := by
  rcases nx_cases s L with ⟨k, h1, hk, h2, h3⟩ | ⟨h1, h2⟩
  · rw [h1, Int.toNat_natCast]
    refine ⟨h2, ?_⟩
    rcases Nat.lt_or_ge j k with q | q
    · exact absurd hd (h3 j q)
    · omega
  · exact absurd hd (h1 j hj)
theorem top_of_nx {s : Int} {L : List Wr} (hn : ∀ j, j < L.length → ¬ due s (wat L j)) {j : Nat} (hj : j < L.length) : (wat L j).2.1 ≤ (wat L (nx s L).toNat).2.1 := by
  rw [nx_hi hn]; exact hi_top L _ j hj
/-- Of the first so many Bypass goes up by one. -/
def up (x : Wr) : Wr := (x.1, x.2.1, x.2.2 + 1)
def bump (i : Nat) (L : List Wr) : List Wr := (L.take i).map up ++ L.drop i
def out (i : Nat) (L : List Wr) : List Wr := L.take i ++ L.drop (i + 1)
theorem bump_zero (L : List Wr) : bump 0 L = L := by simp [bump]
theorem bump_len (i : Nat) (L : List Wr) : (bump i L).length = L.length := by simp [bump]; omega
theorem out_len {i : Nat} {L : List Wr} (h : i < L.length) : (out i L).length + 1 = L.length := by simp [out]; omega
theorem out_sub (i : Nat) (L : List Wr) : (out i L).Sublist L := by
  conv => rhs; rw [← List.take_append_drop i L]
  exact List.Sublist.append (List.Sublist.refl _) (List.drop_sublist_drop_left L (by omega : i ≤ i + 1))
theorem bump_get {i j : Nat} {L : List Wr} (h : i ≤ L.length) : wat (bump i L) j = if j < i then up (wat L j) else wat L j := by
  unfold wat bump
  simp only [List.getD, List.getElem?_append, List.length_map, List.length_take, Nat.min_eq_left h]
  split
  · rename_i q
    rw [List.getElem?_map, List.getElem?_take, if_pos q, List.getElem?_eq_getElem (by omega)]
    rfl
  · rename_i q
    rw [List.getElem?_drop, show i + (j - i) = j by omega]
theorem bump_succ {i : Nat} {L : List Wr} (h : i < L.length) : bump (i + 1) L = (bump i L).set i (up (wat L i)) := by
  unfold bump
  rw [List.take_succ_eq_append_getElem h, List.map_append, List.set_append_right _ _ (by simp; omega), List.append_assoc]
  congr 1
  have e : i - ((L.take i).map up).length = 0 := by simp; omega
  rw [e, List.drop_eq_getElem_cons h, wat_get h]
  rfl
/-- A queue as it can be. -/
structure Qi (s : Int) (d : Nat) (L : List Wr) : Prop where
  s0 : 0 ≤ s
  s1 : s ≤ 1000
  few : L.length ≤ 64
  ids : L.Pairwise fun x y => x.1 < y.1
  old : ∀ x ∈ L, 0 ≤ x.1 ∧ x.1 < d
  prio : ∀ x ∈ L, 0 ≤ x.2.1 ∧ x.2.1 ≤ 5
  byp : ∀ x ∈ L, 0 ≤ x.2.2 ∧ x.2.2 ≤ s * (5 - x.2.1)
  falls : L.Pairwise fun x y => y.2.2 ≤ x.2.2
theorem Qi.nil {s : Int} (h0 : 0 ≤ s) (h1 : s ≤ 1000) : Qi s 0 [] := ⟨h0, h1, by simp, List.Pairwise.nil, by simp, by simp, by simp, List.Pairwise.nil⟩
/-- No number is very great. -/
theorem Qi.small {s : Int} {d : Nat} {L : List Wr} (h : Qi s d L) {x : Wr} (hx : x ∈ L) : 0 ≤ s * (5 - x.2.1) ∧ s * (5 - x.2.1) ≤ 5000 := by
  have h0 := h.s0
  have h1 := h.s1
  have hp := h.prio x hx
  have a1 : 0 ≤ s * (5 - x.2.1) := Int.mul_nonneg h0 (by omega)
  have a2 : s * (5 - x.2.1) ≤ 1000 * (5 - x.2.1) := Int.mul_le_mul_of_nonneg_right h1 (by omega)
  exact ⟨a1, by omega⟩
def adE (p : Int) (L : List Wr) : Int := if p < 0 ∨ 5 < p then 1 else if 64 ≤ L.length then 4 else 0
def adN (p : Int) (d : Nat) (L : List Wr) : Int := if p < 0 ∨ 5 < p then 0 else if 64 ≤ L.length then 0 else (d : Int)
def adD (p : Int) (d : Nat) (L : List Wr) : Nat := if adE p L = 0 then d + 1 else d
def adL (p : Int) (d : Nat) (L : List Wr) : List Wr := if adE p L = 0 then L ++ [((d : Int), p, 0)] else L
theorem adE_zero {p : Int} {L : List Wr} : adE p L = 0 ↔ (0 ≤ p ∧ p ≤ 5) ∧ L.length < 64 := by
  unfold adE
  split
  · constructor
    · intro h; omega
    · intro h; omega
  · split
    · constructor
      · intro h; omega
      · intro h; omega
    · constructor
      · intro h; omega
      · intro h; rfl
theorem Qi.add {s : Int} {d : Nat} {L : List Wr} (h : Qi s d L) (p : Int) : Qi s (adD p d L) (adL p d L) := by
  unfold adD adL
  split
  · rename_i e
    obtain ⟨⟨h1, h2⟩, h3⟩ := adE_zero.1 e
    have hs : 0 ≤ s * (5 - p) := Int.mul_nonneg h.s0 (by omega)
    refine ⟨h.s0, h.s1, by simp; omega, ?_, ?_, ?_, ?_, ?_⟩
    · rw [List.pairwise_append]
      exact ⟨h.ids, List.pairwise_singleton _ _, fun x hx y hy => by rw [List.mem_singleton.1 hy]; exact (h.old x hx).2⟩
    · intro x hx
      rcases List.mem_append.1 hx with q | q
      · have := h.old x q; omega
      · rw [List.mem_singleton.1 q]; exact ⟨by show (0 : Int) ≤ (d : Int); omega, by show (d : Int) < ((d + 1 : Nat) : Int); omega⟩
    · intro x hx
      rcases List.mem_append.1 hx with q | q
      · exact h.prio x q
      · rw [List.mem_singleton.1 q]; exact ⟨h1, h2⟩
    · intro x hx
      rcases List.mem_append.1 hx with q | q
      · exact h.byp x q
      · rw [List.mem_singleton.1 q]; exact ⟨Int.le_refl _, hs⟩
    · rw [List.pairwise_append]
      exact ⟨h.falls, List.pairwise_singleton _ _, fun x hx y hy => by rw [List.mem_singleton.1 hy]; exact (h.byp x hx).1⟩
  · exact h
theorem Qi.sub {s : Int} {d : Nat} {L M : List Wr} (h : Qi s d L) (hs : M.Sublist L) : Qi s d M :=
  ⟨h.s0, h.s1, Nat.le_trans hs.length_le h.few, h.ids.sublist hs, fun x hx => h.old x (hs.subset hx), fun x hx => h.prio x (hs.subset hx), fun x hx => h.byp x (hs.subset hx), h.falls.sublist hs⟩
theorem mem_bump {i : Nat} {L : List Wr} {x : Wr} (h : x ∈ bump i L) : (∃ j, j < i ∧ j < L.length ∧ x = up (wat L j)) ∨ x ∈ L := by
  unfold bump at h
  rcases List.mem_append.1 h with q | q
  · obtain ⟨y, hy, rfl⟩ := List.mem_map.1 q
    obtain ⟨j, hj, rfl⟩ := List.getElem_of_mem hy
    rw [List.length_take] at hj
    refine .inl ⟨j, by omega, by omega, ?_⟩
    rw [List.getElem_take, wat_get (by omega)]
  · exact .inr (List.mem_of_mem_drop q)
theorem Qi.bump {s : Int} {d : Nat} {L : List Wr} (h : Qi s d L) {i : Nat} (hn : ∀ j, j < i → ¬ due s (wat L j)) : Qi s d (bump i L) := by
  have hL := List.take_append_drop i L
  refine ⟨h.s0, h.s1, by rw [bump_len]; exact h.few, ?_, ?_, ?_, ?_, ?_⟩
  · have := h.ids
    rw [← hL, List.pairwise_append] at this
    unfold Ag.bump
    rw [List.pairwise_append, List.pairwise_map]
    refine ⟨this.1, this.2.1, fun x hx y hy => ?_⟩
    obtain ⟨z, hz, rfl⟩ := List.mem_map.1 hx
    exact this.2.2 z hz y hy
  · intro x hx
    rcases mem_bump hx with ⟨j, h1, h2, rfl⟩ | q
    · have := h.old _ (wat_mem h2); exact this
    · exact h.old x q
  · intro x hx
    rcases mem_bump hx with ⟨j, h1, h2, rfl⟩ | q
    · have := h.prio _ (wat_mem h2); exact this
    · exact h.prio x q
  · intro x hx
    rcases mem_bump hx with ⟨j, h1, h2, rfl⟩ | q
    · have a := h.byp _ (wat_mem h2)
      have b := hn j h1
      unfold due at b
      exact ⟨by show 0 ≤ (wat L j).2.2 + 1; omega, by show (wat L j).2.2 + 1 ≤ s * (5 - (wat L j).2.1); omega⟩
    · exact h.byp x q
  · have := h.falls
    rw [← hL, List.pairwise_append] at this
    unfold Ag.bump
    rw [List.pairwise_append, List.pairwise_map]
    refine ⟨this.1.imp (fun {a b} q => by show b.2.2 + 1 ≤ a.2.2 + 1; omega), this.2.1, fun x hx y hy => ?_⟩
    obtain ⟨z, hz, rfl⟩ := List.mem_map.1 hx
    have := this.2.2 z hz y hy
    show y.2.2 ≤ z.2.2 + 1
    omega
/-- What Next answers; what Take leaves. -/
def nxN (s : Int) (L : List Wr) : Int := if nx s L < 0 then 0 else (wat L (nx s L).toNat).1
def nxB (s : Int) (L : List Wr) : Bool := !decide (nx s L < 0)
def tkL (s : Int) (L : List Wr) : List Wr := if nx s L < 0 then L else out (nx s L).toNat (bump (nx s L).toNat L)
theorem Qi.take {s : Int} {d : Nat} {L : List Wr} (h : Qi s d L) : Qi s d (tkL s L) := by
  unfold tkL
  split
  · exact h
  · exact (h.bump (fun j hj => nx_nd (by omega))).sub (out_sub _ _)
theorem nxB_iff {s : Int} {L : List Wr} : nxB s L = true ↔ L ≠ [] := by
  have r := nx_rng s L
  unfold nxB
  constructor
  · rintro h rfl; simp [nx_nil] at h
  · intro h; have := r.2.2 h; simp; omega
/-- The place of a number. -/
def pl (n : Int) (L : List Wr) : Int := match L.findIdx? (fun x => x.1 == n) with
  | some i => (i : Int)
  | none => -1
theorem pl_some {n : Int} {L : List Wr} {k : Nat} (hk : k < L.length) (hd : (wat L k).1 = n) (hf : ∀ j, j < k → (wat L j).1 ≠ n) : pl n L = k := by
  have : L.findIdx? (fun x => x.1 == n) = some k := List.findIdx?_eq_some_iff_getElem.2 ⟨hk, by rw [← wat_get hk]; simpa using hd, fun j hj => by
    rw [← wat_get (by omega)]
    have := hf j hj
    simpa using this⟩
  unfold pl; rw [this]
theorem pl_none {n : Int} {L : List Wr} (hf : ∀ j, j < L.length → (wat L j).1 ≠ n) : pl n L = -1 := by
  have : L.findIdx? (fun x => x.1 == n) = none := List.findIdx?_eq_none_iff.2 fun x hx => by
    obtain ⟨j, hj, rfl⟩ := List.getElem_of_mem hx
    have := hf j hj
    rw [wat_get hj] at this
    simpa using this
  unfold pl; rw [this]
theorem pl_cases (n : Int) (L : List Wr) : (∃ k : Nat, pl n L = k ∧ k < L.length ∧ (wat L k).1 = n ∧ ∀ j, j < k → (wat L j).1 ≠ n) ∨ ((∀ j, j < L.length → (wat L j).1 ≠ n) ∧ pl n L = -1) := by
  cases h : L.findIdx? (fun x => x.1 == n) with
  | some k =>
    obtain ⟨hk, hc, hn⟩ := List.findIdx?_eq_some_iff_getElem.1 h
    refine .inl ⟨k, by unfold pl; rw [h], hk, by rw [wat_get hk]; simpa using hc, fun j hj => ?_⟩
    have := hn j hj
    rw [wat_get (by omega)]
    simpa using this
  | none =>
    refine .inr ⟨fun j hj => ?_, by unfold pl; rw [h]⟩
    have := List.findIdx?_eq_none_iff.1 h _ (wat_mem hj)
    simpa using this
def drB (n : Int) (L : List Wr) : Bool := !decide (pl n L < 0)
def drL (n : Int) (L : List Wr) : List Wr := if pl n L < 0 then L else out (pl n L).toNat L
theorem Qi.drop {s : Int} {d : Nat} {L : List Wr} (h : Qi s d L) (n : Int) : Qi s d (drL n L) := by
  unfold drL
  split
  · exact h
  · exact h.sub (out_sub _ _)
theorem adD_le (p : Int) (d : Nat) (L : List Wr) : d ≤ adD p d L ∧ adD p d L ≤ d + 1 := by unfold adD; split <;> omega
/-- An act. -/
def acD (k : Nat) (n : Int) (d : Nat) (L : List Wr) : Nat := if k % 3 = 0 then adD n d L else d
def acL (s : Int) (k : Nat) (n : Int) (d : Nat) (L : List Wr) : List Wr := if k % 3 = 0 then adL n d L else if k % 3 = 1 then tkL s L else drL n L
theorem Qi.act {s : Int} {d : Nat} {L : List Wr} (h : Qi s d L) (k : Nat) (n : Int) : Qi s (acD k n d L) (acL s k n d L) := by
  unfold acD acL
  split
  · exact h.add n
  · split
    · exact h.take
    · exact h.drop n
end Ag
end Go.Proofs.Ytgeahckblgpnmaa
