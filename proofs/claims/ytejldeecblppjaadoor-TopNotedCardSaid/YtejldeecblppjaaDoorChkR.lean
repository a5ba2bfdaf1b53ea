/-
  Plain facts on frames laid one behind the other, the last one cut off.
-/
import Derived.Test.YtejldeecblppjaaDoorChkQ
set_option linter.unusedVariables false
set_option maxRecDepth 100000
namespace Go.Proofs.YtejldeecblppjaaDoor
open Go.RowKit Bp Ck

/-- The first k lists, framed. -/
def frs (ls : List (List Nat)) (k : Nat) : List (List Nat) := (ls.take k).map frm
/-- As many bytes as they are. -/
def fln (ls : List (List Nat)) (k : Nat) : Nat := (frs ls k).flatten.length
theorem frs_zero (ls : List (List Nat)) : frs ls 0 = [] := rfl
theorem frs_succ (ls : List (List Nat)) (k : Nat) (h : k < ls.length) : frs ls (k + 1) = frs ls k ++ [frm (ls.getD k [])] := by
  unfold frs
  rw [List.take_succ_eq_append_getElem h, List.map_append]
  simp [List.getD, List.getElem?_eq_getElem h]
theorem frs_len (ls : List (List Nat)) (k : Nat) (h : k ≤ ls.length) : (frs ls k).length = k := by
  unfold frs; rw [List.length_map, List.length_take]; omega
theorem fln_succ (ls : List (List Nat)) (k : Nat) (h : k < ls.length) : fln ls (k + 1) = fln ls k + ((ls.getD k []).length + 4) := by
  unfold fln
  rw [frs_succ ls k h, sum_snoc, frm_len]
theorem fln_zero (ls : List (List Nat)) : fln ls 0 = 0 := rfl
theorem fln_mono (ls : List (List Nat)) (j k : Nat) (h : j ≤ k) (hk : k ≤ ls.length) : fln ls j ≤ fln ls k := by
  induction k with
  | zero => have : j = 0 := by omega
            subst this; exact Nat.le_refl _
  | succ k ih =>
    rcases Nat.lt_or_ge j (k + 1) with hj | hj
    · have := ih (by omega) (by omega)
      rw [fln_succ ls k (by omega)]; omega
    · have : j = k + 1 := by omega
      subst this; exact Nat.le_refl _
theorem fln_le (ls : List (List Nat)) (k : Nat) (hk : k ≤ ls.length) (h : ∀ i, i < k → (ls.getD i []).length ≤ 1000) : fln ls k ≤ 1004 * k := by
  induction k with
  | zero => simp [fln_zero]
  | succ k ih =>
    have := ih (by omega) (fun i hi => h i (by omega))
    have := h k (by omega)
    rw [fln_succ ls k (by omega)]; omega
theorem frs_inn (ls : List (List Nat)) (k : Nat) : (frs ls k).map inn = ls.take k := by
  unfold frs
  rw [List.map_map]
  conv => rhs; rw [← List.map_id (ls.take k)]
  apply List.map_congr_left
  intro z _
  exact inn_frm z
theorem frs_each (ls : List (List Nat)) (k : Nat) (h : ∀ i, i < k → (ls.getD i []).length ≤ 1000) (hk : k ≤ ls.length) : ∀ f ∈ frs ls k, isFrm f = true := by
  intro f hf
  unfold frs at hf
  obtain ⟨z, hz, rfl⟩ := List.mem_map.1 hf
  obtain ⟨i, hi, rfl⟩ := List.getElem_of_mem hz
  have hik : i < k := by rw [List.length_take] at hi; omega
  have := h i hik
  rw [List.getD, List.getElem?_eq_getElem (by omega)] at this
  simp only [Option.getD_some] at this
  rw [List.getElem_take]
  exact isFrm_frm _ this
theorem frs_byte (ls : List (List Nat)) (k : Nat) (h : ∀ i, i < k → (ls.getD i []).length ≤ 1000) (hb : ∀ i, i < k → ∀ z ∈ ls.getD i [], z ≤ 255) (hk : k ≤ ls.length) : ∀ z ∈ (frs ls k).flatten, z ≤ 255 := by
  intro z hz
  obtain ⟨f, hf, hzf⟩ := List.mem_flatten.1 hz
  unfold frs at hf
  obtain ⟨y, hy, rfl⟩ := List.mem_map.1 hf
  obtain ⟨i, hi, rfl⟩ := List.getElem_of_mem hy
  have hik : i < k := by rw [List.length_take] at hi; omega
  have h1 := h i hik
  have h2 := hb i hik
  rw [List.getD, List.getElem?_eq_getElem (by omega)] at h1 h2
  simp only [Option.getD_some] at h1 h2
  rw [List.getElem_take] at hzf
  exact frm_byte _ h2 (by omega) z hzf
theorem frs_more (ls : List (List Nat)) (j k : Nat) (h : j ≤ k) (hk : k ≤ ls.length) : ∃ r, (frs ls k).flatten = (frs ls j).flatten ++ r ∧ (j < k → ∃ q, r = frm (ls.getD j []) ++ q) := by
  induction k with
  | zero =>
    have : j = 0 := by omega
    subst this
    exact ⟨[], by simp, fun h => by omega⟩
  | succ k ih =>
    rcases Nat.lt_or_ge j (k + 1) with hj | hj
    · obtain ⟨r, e, he⟩ := ih (by omega) (by omega)
      refine ⟨r ++ frm (ls.getD k []), by rw [frs_succ ls k (by omega), List.flatten_append, e]; simp, fun _ => ?_⟩
      rcases Nat.lt_or_ge j k with hj2 | hj2
      · obtain ⟨q, rfl⟩ := he hj2
        exact ⟨q ++ frm (ls.getD k []), by simp⟩
      · have : j = k := by omega
        subst this
        have : r = [] := by
          have := congrArg List.length e
          rw [List.length_append] at this
          exact List.eq_nil_of_length_eq_zero (by omega)
        subst this
        exact ⟨[], by simp⟩
    · have : j = k + 1 := by omega
      subst this
      exact ⟨[], by simp, fun h => by omega⟩
/-- A beginning of a frame, shorter than it, begins with none. -/
theorem ahd_short (f : List Nat) (h : isFrm f = true) (k : Nat) (hk : k < f.length) : isFrm (ahd (f.take k)) = false := by
  obtain ⟨h1, h2, h3, _⟩ := (isFrm_iff f).1 h
  have hl : (f.take k).length = k := by rw [List.length_take]; omega
  by_cases h4 : k < 4
  · exact noFrm_short _ (by omega)
  · have g : ∀ i, i < 2 → (f.take k).getD i 0 = f.getD i 0 := fun i hi => by simp [List.getD, show i < k by omega]
    exact noFrm_cut _ (by rw [g 0 (by omega), g 1 (by omega), hl]; omega)
/-- Frames, the last one cut off, are scanned as they were laid. -/
theorem scn_cut (ls : List (List Nat)) (K j k : Nat) (hK : K ≤ ls.length) (h : ∀ i, i < K → (ls.getD i []).length ≤ 1000) (hj : j ≤ K) (h1 : fln ls j ≤ k) (h2 : k ≤ fln ls K) (h3 : j < K → k < fln ls (j + 1)) :
    Scn ((frs ls K).flatten.take k) (frs ls j) := by
  obtain ⟨r, e, he⟩ := frs_more ls j K hj hK
  refine ⟨frs_each ls j (fun i hi => h i (by omega)) (by omega), r.take (k - fln ls j), ?_, ?_⟩
  · rw [e, List.take_append]
    have : (frs ls j).flatten.take k = (frs ls j).flatten := List.take_of_length_le h1
    rw [this]
    rfl
  · rcases Nat.lt_or_ge j K with hjK | hjK
    · obtain ⟨q, rfl⟩ := he hjK
      have h5 := h3 hjK
      rw [fln_succ ls j (by omega)] at h5
      have hfl : (frm (ls.getD j [])).length = (ls.getD j []).length + 4 := frm_len _
      rw [List.take_append_of_le_length (by omega)]
      exact ahd_short _ (isFrm_frm _ (h j hjK)) _ (by omega)
    · have : j = K := by omega
      subst this
      rw [show k - fln ls j = 0 by omega, List.take_zero]
      decide

end Go.Proofs.YtejldeecblppjaaDoor
