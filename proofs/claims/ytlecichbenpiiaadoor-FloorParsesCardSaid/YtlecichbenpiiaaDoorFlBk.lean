/-
  A floor's text and its rows: the lists.
-/
import Derived.Test.YtlecichbenpiiaaDoorFlPlain6
import Derived.Test.YtlecichbenpiiaaDoorFlT
set_option linter.unusedVariables false
namespace Go.Proofs.YtlecichbenpiiaaDoor.Fl

/-- Rows as a text: a byte 10 behind each. -/
def flat (R : List (List UInt8)) : List UInt8 := (R.map (· ++ [10])).flatten
theorem flat_app (R S : List (List UInt8)) : flat (R ++ S) = flat R ++ flat S := by simp [flat]
theorem flat_one (r : List UInt8) : flat [r] = r ++ [10] := by simp [flat]
theorem flat_cons (r : List UInt8) (R : List (List UInt8)) : flat (r :: R) = r ++ 10 :: flat R := by simp [flat]

theorem take_drop_take (l : List UInt8) (s i : Nat) (h : s ≤ i) : l.take s ++ (l.drop s).take (i - s) = l.take i := by
  rw [← List.take_add]
  congr 1
  omega
theorem rd_flat (l : List UInt8) (i : Nat) (hi : i ≤ l.length) : flat (rd l i).1 = l.take (rd l i).2 := by
  induction i with
  | zero => simp [rd, flat]
  | succ i ih =>
    have h := ih (by omega)
    have hle := rd_le l i
    have hlt : i < l.length := by omega
    have hg : l.getD i 0 = l[i] := by rw [List.getD, List.getElem?_eq_getElem hlt]; rfl
    rw [rd]
    split
    · rename_i e
      show flat ((rd l i).1 ++ [_]) = l.take (i + 1)
      rw [flat_app, h, flat_one, ← List.append_assoc, take_drop_take _ _ _ hle, List.take_succ_eq_append_getElem hlt, ← hg, e]
    · exact h
theorem rd_free (l : List UInt8) (i : Nat) (hi : i ≤ l.length) : (∀ x, x ∈ (rd l i).1 → (10 : UInt8) ∉ x) ∧ (10 : UInt8) ∉ (l.drop (rd l i).2).take (i - (rd l i).2) := by
  induction i with
  | zero => simp [rd]
  | succ i ih =>
    obtain ⟨h1, h2⟩ := ih (by omega)
    have hle := rd_le l i
    have hlt : i < l.length := by omega
    have hg : l.getD i 0 = l[i] := by rw [List.getD, List.getElem?_eq_getElem hlt]; rfl
    rw [rd]
    split
    · refine ⟨fun x hx => ?_, by simp⟩
      rcases List.mem_append.1 hx with k | k
      · exact h1 x k
      · rw [List.mem_singleton] at k
        rw [k]; exact h2
    · rename_i e
      refine ⟨h1, ?_⟩
      have h3 : i + 1 - (rd l i).2 = (i - (rd l i).2) + 1 := by omega
      rw [h3, List.take_succ_eq_append_getElem (by rw [List.length_drop]; omega), List.getElem_drop, List.mem_append, not_or]
      refine ⟨h2, fun k => e ?_⟩
      rw [List.mem_singleton] at k
      rw [hg, k]
      congr 1
      omega
theorem rowsL_free (l : List UInt8) : ∀ x, x ∈ rowsL l → (10 : UInt8) ∉ x := by
  obtain ⟨h1, h2⟩ := rd_free l l.length (Nat.le_refl _)
  rw [List.take_of_length_le (by rw [List.length_drop]; exact Nat.le_refl _)] at h2
  intro x hx
  unfold rowsL at hx
  split at hx
  · rcases List.mem_append.1 hx with k | k
    · exact h1 x k
    · rw [List.mem_singleton] at k
      rw [k]; exact h2
  · exact h1 x hx
theorem rowsL_flat (l : List UInt8) : flat (rowsL l) = l ∨ flat (rowsL l) = l ++ [10] := by
  have h := rd_flat l l.length (Nat.le_refl _)
  unfold rowsL
  split
  · right
    rw [flat_app, flat_one, h, ← List.append_assoc, List.take_append_drop]
  · left
    rw [h, List.take_of_length_le (by omega)]

theorem ten_split (r : List UInt8) : ∀ (r' a b : List UInt8), (10 : UInt8) ∉ r → (10 : UInt8) ∉ r' → r ++ 10 :: a = r' ++ 10 :: b → r = r' ∧ a = b := by
  induction r with
  | nil =>
    intro r' a b h1 h2 h
    cases r' with
    | nil => simp at h; exact ⟨rfl, h⟩
    | cons c r' =>
      simp only [List.nil_append, List.cons_append, List.cons.injEq] at h
      exact absurd (by rw [h.1]; simp) h2
  | cons c r ih =>
    intro r' a b h1 h2 h
    cases r' with
    | nil =>
      simp only [List.nil_append, List.cons_append, List.cons.injEq] at h
      exact absurd (by rw [← h.1]; simp) h1
    | cons d r' =>
      simp only [List.cons_append, List.cons.injEq] at h
      rw [List.mem_cons, not_or] at h1 h2
      obtain ⟨e1, e2⟩ := ih r' a b h1.2 h2.2 h.2
      exact ⟨by rw [h.1, e1], e2⟩
theorem flat_inj (R : List (List UInt8)) : ∀ S, (∀ x, x ∈ R → (10 : UInt8) ∉ x) → (∀ x, x ∈ S → (10 : UInt8) ∉ x) → flat R = flat S → R = S := by
  induction R with
  | nil =>
    intro S _ _ h
    cases S with
    | nil => rfl
    | cons s S => rw [flat_cons] at h; simp [flat] at h
  | cons r R ih =>
    intro S h1 h2 h
    cases S with
    | nil => rw [flat_cons] at h; simp [flat] at h
    | cons s S =>
      rw [flat_cons, flat_cons] at h
      obtain ⟨e1, e2⟩ := ten_split r s _ _ (h1 r (by simp)) (h2 s (by simp)) h
      rw [e1, ih S (fun x hx => h1 x (by simp [hx])) (fun x hx => h2 x (by simp [hx])) e2]
theorem rowsL_of_flat (R : List (List UInt8)) (hR : ∀ x, x ∈ R → (10 : UInt8) ∉ x) : rowsL (flat R) = R := by
  have h := rd_flat (flat R) (flat R).length (Nat.le_refl _)
  have hf := rowsL_free (flat R)
  by_cases e : (rd (flat R) (flat R).length).2 < (flat R).length
  · exfalso
    have h1 : rowsL (flat R) = (rd (flat R) (flat R).length).1 ++ [(flat R).drop (rd (flat R) (flat R).length).2] := by unfold rowsL; rw [if_pos e]
    have h2 : flat (rowsL (flat R)) = flat (R ++ [[]]) := by
      rw [h1, flat_app, flat_one, h, ← List.append_assoc, List.take_append_drop, flat_app, flat_one]
      rfl
    have h3 := flat_inj _ _ hf (by
      intro x hx
      rcases List.mem_append.1 hx with k | k
      · exact hR x k
      · rw [List.mem_singleton] at k; rw [k]; simp) h2
    rw [h1] at h3
    have h4 := List.append_inj_right' h3 rfl
    simp only [List.cons.injEq, and_true] at h4
    rw [List.drop_eq_nil_iff] at h4
    omega
  · have h1 : rowsL (flat R) = (rd (flat R) (flat R).length).1 := by unfold rowsL; rw [if_neg e]
    apply flat_inj _ _ hf hR
    rw [h1, h, List.take_of_length_le (by omega)]

/-! ### a floor's rows -/
def rowsN (W : Nat) (l : List UInt8) (y : Nat) : List (List UInt8) := (List.range y).map fun i => (l.drop (i * W)).take W
theorem rowsN_succ (W : Nat) (l : List UInt8) (y : Nat) : rowsN W l (y + 1) = rowsN W l y ++ [(l.drop (y * W)).take W] := by
  unfold rowsN; rw [List.range_succ, List.map_append]; rfl
theorem flat_rowsN (W : Nat) (l : List UInt8) (y : Nat) : flat (rowsN W l y) = txt W l y := by
  induction y with
  | zero => simp [rowsN, flat, txt]
  | succ y ih => rw [rowsN_succ, flat_app, ih, flat_one, txt, List.append_assoc]
theorem rowsN_flatten (W : Nat) (l : List UInt8) (y : Nat) : (rowsN W l y).flatten = l.take (y * W) := by
  induction y with
  | zero => simp [rowsN]
  | succ y ih =>
    rw [rowsN_succ, List.flatten_append, ih]
    simp only [List.flatten_cons, List.flatten_nil, List.append_nil]
    rw [Nat.succ_mul, List.take_add]
theorem rowsN_len (W : Nat) (l : List UInt8) (y : Nat) : (rowsN W l y).length = y := by simp [rowsN]
theorem rowsN_at (W : Nat) (l : List UInt8) (y j : Nat) (h : j < y) : (rowsN W l y).getD j [] = (l.drop (j * W)).take W := by
  rw [List.getD, List.getElem?_eq_getElem (by rw [rowsN_len]; exact h)]
  simp [rowsN]
/-- Rows of one length are what is cut out of them. -/
theorem rows_cutN (n : Nat) (R : List (List UInt8)) (m : List UInt8) (h : ∀ x, x ∈ R → x.length = n) : rowsN n (R.flatten ++ m) R.length = R := by
  induction R with
  | nil => simp [rowsN]
  | cons r R ih =>
    have hr := h r (by simp)
    have hi := ih (fun x hx => h x (by simp [hx]))
    have h0 : rowsN n ((r :: R).flatten ++ m) (R.length + 1) = r :: rowsN n (R.flatten ++ m) R.length := by
      unfold rowsN
      rw [List.range_succ_eq_map, List.map_cons, List.map_map]
      congr 1
      · simp [← hr]
      · apply List.map_congr_left
        intro i _
        show ((((r :: R).flatten ++ m)).drop ((i + 1) * n)).take n = _
        rw [List.flatten_cons, List.append_assoc, Nat.succ_mul, Nat.add_comm, ← List.drop_drop, ← hr, List.drop_left]
    rw [List.length_cons, h0, hi]

theorem len_list (c : ByteArray) : c.data.toList.length = c.size := by show c.data.toList.length = c.data.size; simp
theorem okc_ten {c : UInt8} (h : okc c.toNat = true) : c ≠ 10 := by
  rintro rfl
  revert h
  decide
theorem data_okc {s : ByteArray} {n : Nat} (hn : s.size = n) (h : ∀ i, i < n → okc (at_ s i) = true) : ∀ c, c ∈ s.data.toList → okc c.toNat = true := by
  intro c hc
  obtain ⟨i, hi, rfl⟩ := List.getElem_of_mem hc
  have hs := len_list s
  have := h i (by omega)
  unfold at_ at this
  rw [List.getD, List.getElem?_eq_getElem hi] at this
  exact this
/-- A right floor's text is parsed as that floor. -/
theorem back_floor {W0 H0 : Int} {c : ByteArray} (hR : Right W0 H0 c) {W H : Int} {c' : ByteArray} {row : Nat} {err : Int} (h : POut (rowsL (sTxt W0 H0 c)) W H c' row err) :
    W = W0 ∧ H = H0 ∧ c' = c ∧ row = 0 ∧ err = 0 := by
  have hR0 := hR
  obtain ⟨a, b, rfl, rfl, hS, hN⟩ := hR
  have hall := data_okc hS.sz hN.bytes
  have hlen : c.data.toList.length = a * b := by rw [← hS.sz]; exact len_list c
  have e1 : rowsL (sTxt (a : Int) (b : Int) c) = rowsN a c.data.toList b := by
    show rowsL (txt a c.data.toList b) = _
    rw [← flat_rowsN]
    apply rowsL_of_flat
    intro x hx h10
    unfold rowsN at hx
    rw [List.mem_map] at hx
    obtain ⟨i, _, rfl⟩ := hx
    exact okc_ten (hall _ (List.mem_of_mem_drop (List.mem_of_mem_take h10))) rfl
  rw [e1] at h
  have hl := rowsN_len a c.data.toList b
  have hrow : ∀ j, j < b → (((c.data.toList.drop (j * a)).take a).length = a) := fun j hj => by
    rw [List.length_take, List.length_drop, hlen]
    have h2 : (j + 1) * a ≤ b * a := Nat.mul_le_mul_right a hj
    rw [Nat.succ_mul, Nat.mul_comm b a] at h2
    omega
  have hw : w0 (rowsN a c.data.toList b) = a := by
    unfold w0
    rw [rowsN_at _ _ _ _ hS.h1]
    exact hrow 0 hS.h1
  have hc : cells (rowsN a c.data.toList b) = c := by
    unfold cells
    rw [rowsN_flatten, List.take_of_length_le (by rw [hlen, Nat.mul_comm]; exact Nat.le_refl _)]
  have hb : ∀ j, j < b → bad (rowsN a c.data.toList b) j = false := fun j hj => by
    unfold bad rowOk
    rw [hw, rowsN_at _ _ _ _ hj, hrow j hj]
    have h16 := hS.h2
    have w1 := hS.w1
    have w2 := hS.w2
    have h3 : (((c.data.toList.drop (j * a)).take a).all fun c => okc c.toNat) = true := by
      rw [List.all_eq_true]
      intro x hx
      exact hall x (List.mem_of_mem_drop (List.mem_of_mem_take hx))
    rw [h3]
    simp
    omega
  rcases h with ⟨a1, a2, _⟩ | ⟨a1, a2, rfl, rfl, rfl, rfl, rfl⟩ | ⟨a1, a2, _⟩
  · rw [hl] at a1
    rw [hb _ a1] at a2
    cases a2
  · exact ⟨by rw [hw], by rw [hl], hc, rfl, rfl⟩
  · rw [hw, hl, hc] at a2
    exact absurd hR0 a2
/-- A parsed text is its floor's text, or so but for the last byte 10. -/
theorem back_text {l : List UInt8} {W H : Int} {c : ByteArray} {row : Nat} {err : Int} (he : err = 0) (h : POut (rowsL l) W H c row err) : Right W H c ∧ (sTxt W H c = l ∨ sTxt W H c = l ++ [10]) := by
  rcases h with ⟨_, _, _, _, _, _, e⟩ | ⟨a1, a2, rfl, rfl, rfl, rfl, _⟩ | ⟨_, _, _, _, _, _, e⟩
  · omega
  · refine ⟨a2, ?_⟩
    have hall : ∀ x, x ∈ rowsL l → x.length = w0 (rowsL l) := fun x hx => by
      obtain ⟨i, hi, rfl⟩ := List.getElem_of_mem hx
      have h1 := a1 i hi
      unfold bad rowOk at h1
      rw [List.getD, List.getElem?_eq_getElem hi] at h1
      simp at h1
      exact h1.2.1.2
    have e1 := rows_cutN _ _ [] hall
    rw [List.append_nil] at e1
    have e2 : sTxt (w0 (rowsL l) : Int) ((rowsL l).length : Int) (cells (rowsL l)) = flat (rowsL l) := by
      show txt (w0 (rowsL l)) (cells (rowsL l)).data.toList (rowsL l).length = _
      rw [← flat_rowsN]
      show flat (rowsN (w0 (rowsL l)) (rowsL l).flatten (rowsL l).length) = _
      rw [e1]
    rw [e2]
    exact rowsL_flat l
  · omega
theorem sTxt_len {W H : Int} {c : ByteArray} (hR : Right W H c) : (sTxt W H c).length ≤ 272 := by
  obtain ⟨a, b, rfl, rfl, hS, hN⟩ := hR
  have hlen : c.data.toList.length = a * b := by rw [← hS.sz]; exact len_list c
  show (txt a c.data.toList b).length ≤ 272
  rw [txt_len _ _ _ (by rw [hlen, Nat.mul_comm]; exact Nat.le_refl _)]
  exact Nat.le_trans (Nat.mul_le_mul hS.h2 (Nat.succ_le_succ hS.w2)) (by decide)
end Go.Proofs.YtlecichbenpiiaaDoor.Fl
