/-
  Rows of a text, in plain words: cut at each byte 10; the document's rows; so many pieces at most; what a text is parsed as.
-/
import Derived.Test.YtokjnmgbgflgnaaGreatDoorFlPlain
import Derived.Lib.Split
import Derived.Lib.Strings
set_option linter.unusedVariables false
set_option maxRecDepth 100000
namespace Go.Proofs.YtokjnmgbgflgnaaGreatDoor.Fl
open Go

/-- Cut at each byte 10; 'cur' stands ahead already. -/
def cutA (cur : List UInt8) : List UInt8 → List (List UInt8)
  | [] => [cur]
  | c :: l => if c = 10 then cur :: cutA [] l else cutA (cur ++ [c]) l
def cut10 (l : List UInt8) : List (List UInt8) := cutA [] l
theorem cutA_nl (cur m : List UInt8) : cutA cur (m ++ [10]) = cutA cur m ++ [[]] := by
  induction m generalizing cur with
  | nil => simp [cutA]
  | cons c m ih =>
    simp only [List.cons_append, cutA]
    split
    · rw [ih]; rfl
    · rw [ih]
theorem cutA_last (cur m : List UInt8) (c : UInt8) (h : c ≠ 10) : ∃ L p, cutA cur (m ++ [c]) = L ++ [p ++ [c]] := by
  induction m generalizing cur with
  | nil => exact ⟨[], cur, by simp [cutA, h]⟩
  | cons d m ih =>
    simp only [List.cons_append, cutA]
    split
    · obtain ⟨L, p, e⟩ := ih []
      exact ⟨cur :: L, p, by rw [e]; rfl⟩
    · exact ih _
theorem cutA_free (cur l : List UInt8) (h : (10 : UInt8) ∉ l) : cutA cur l = [cur ++ l] := by
  induction l generalizing cur with
  | nil => simp [cutA]
  | cons c l ih =>
    simp only [List.mem_cons, not_or] at h
    rw [cutA, if_neg (fun e => h.1 e.symm), ih _ h.2]
    simp
theorem cutA_at (cur p q : List UInt8) (h : (10 : UInt8) ∉ p) : cutA cur (p ++ 10 :: q) = (cur ++ p) :: cut10 q := by
  induction p generalizing cur with
  | nil => simp [cutA, cut10]
  | cons c p ih =>
    simp only [List.mem_cons, not_or] at h
    rw [List.cons_append, cutA, if_neg (fun e => h.1 e.symm), ih _ h.2]
    simp
theorem cutA_pos (cur l : List UInt8) : 1 ≤ (cutA cur l).length := by
  induction l generalizing cur with
  | nil => simp [cutA]
  | cons c l ih =>
    rw [cutA]
    split
    · simp
    · exact ih _
theorem cutA_le (cur l : List UInt8) : (cutA cur l).length ≤ l.length + 1 := by
  induction l generalizing cur with
  | nil => simp [cutA]
  | cons c l ih =>
    rw [cutA]
    split
    · have := ih []
      simp; omega
    · have := ih (cur ++ [c])
      simp; omega

/-- The document's rows, the first i bytes looked at: those that are done, where the next one begins. -/
def rd (l : List UInt8) : Nat → List (List UInt8) × Nat
  | 0 => ([], 0)
  | i + 1 => if l.getD i 0 = 10 then ((rd l i).1 ++ [(l.drop (rd l i).2).take (i - (rd l i).2)], i + 1) else rd l i
theorem rd_le (l : List UInt8) (i : Nat) : (rd l i).2 ≤ i := by
  induction i with
  | zero => simp [rd]
  | succ i ih => rw [rd]; split <;> omega
theorem rd_len (l : List UInt8) (i : Nat) : (rd l i).1.length ≤ i := by
  induction i with
  | zero => simp [rd]
  | succ i ih =>
    rw [rd]
    split
    · simp; omega
    · omega
def rowsL (l : List UInt8) : List (List UInt8) := if (rd l l.length).2 < l.length then (rd l l.length).1 ++ [l.drop (rd l l.length).2] else (rd l l.length).1
theorem rd_cut (l : List UInt8) (i : Nat) (hi : i ≤ l.length) : cut10 l = (rd l i).1 ++ cutA ((l.drop (rd l i).2).take (i - (rd l i).2)) (l.drop i) := by
  induction i with
  | zero => simp [rd, cut10]
  | succ i ih =>
    have hlt : i < l.length := by omega
    have h := ih (by omega)
    have hle := rd_le l i
    rw [List.drop_eq_getElem_cons hlt, cutA] at h
    have hg : l.getD i 0 = l[i] := by rw [List.getD, List.getElem?_eq_getElem hlt]; rfl
    rw [rd, hg]
    by_cases e : l[i] = 10
    · rw [if_pos e] at h ⊢
      rw [h]
      simp
    · rw [if_neg e] at h ⊢
      rw [h]
      congr 2
      have h2 : i + 1 - (rd l i).2 = (i - (rd l i).2) + 1 := by omega
      rw [h2, List.take_succ_eq_append_getElem (by rw [List.length_drop]; omega), List.getElem_drop]
      congr 3
      omega
theorem rows_cut (l : List UInt8) : cut10 l = (rd l l.length).1 ++ [l.drop (rd l l.length).2] := by
  have h := rd_cut l l.length (Nat.le_refl _)
  rw [List.drop_length, cutA] at h
  rw [h, List.take_of_length_le (by rw [List.length_drop]; exact Nat.le_refl _)]
def trim (l : List UInt8) : List UInt8 := Lib.trimSuffix l [10]
theorem trim_snoc (m : List UInt8) : trim (m ++ [10]) = m := by
  unfold trim Lib.trimSuffix Lib.hasSuffix
  rw [if_pos (by rw [List.isSuffixOf_iff_suffix]; exact ⟨m, rfl⟩)]
  simp
theorem trim_other (m : List UInt8) (c : UInt8) (h : c ≠ 10) : trim (m ++ [c]) = m ++ [c] := by
  unfold trim Lib.trimSuffix Lib.hasSuffix
  rw [if_neg]
  rw [List.isSuffixOf_iff_suffix]
  rintro ⟨t, e⟩
  have := List.append_inj_right' e rfl
  simp at this
  exact h this.symm
theorem rows_trim (l : List UInt8) (h : l ≠ []) : rowsL l = cut10 (trim l) := by
  have hc := rows_cut l
  unfold rowsL
  rcases List.eq_nil_or_concat l with rfl | ⟨m, c, rfl⟩
  · exact absurd rfl h
  · rw [List.concat_eq_append] at hc ⊢
    by_cases e : c = 10
    · subst e
      rw [trim_snoc]
      have h2 : cut10 (m ++ [10]) = cut10 m ++ [[]] := cutA_nl [] m
      rw [h2] at hc
      have h3 := List.append_inj_right' hc rfl
      have h4 := List.append_inj_left' hc rfl
      simp only [List.cons.injEq, and_true] at h3
      have h5 : (m ++ [10]).length ≤ (rd (m ++ [10]) (m ++ [10]).length).2 := by
        rw [← List.drop_eq_nil_iff]; exact h3.symm
      rw [if_neg (by omega), ← h4]
    · rw [trim_other m c e]
      obtain ⟨L, p, h2⟩ := cutA_last [] m c e
      have h2' : cut10 (m ++ [c]) = L ++ [p ++ [c]] := h2
      rw [h2'] at hc
      have h3 := List.append_inj_right' hc rfl
      simp only [List.cons.injEq, and_true] at h3
      rw [if_pos, h2', ← hc]
      apply Nat.lt_of_not_le
      intro k
      rw [List.drop_eq_nil_iff.2 k] at h3
      simp at h3

/-! ### so many pieces at most -/
theorem index_free (l : List UInt8) (h : Lib.index l [10] = -1) : (10 : UInt8) ∉ l := by
  induction l with
  | nil => simp
  | cons c l ih =>
    unfold Lib.index at h
    by_cases e : [10].isPrefixOf (c :: l) = true
    · rw [if_pos e] at h; cases h
    · rw [if_neg e] at h
      have hc : c ≠ 10 := by rintro rfl; exact e (by simp [List.isPrefixOf])
      by_cases k : (Lib.index l [10] == -1) = true
      · rw [List.mem_cons, not_or]
        exact ⟨fun e => hc e.symm, ih (by simpa using k)⟩
      · rw [if_neg k] at h
        have := Lib.index_ge l [10]
        have k' : Lib.index l [10] ≠ -1 := by simpa using k
        omega
theorem index_hit (l : List UInt8) (i : Nat) (h : Lib.index l [10] = i) : l = l.take i ++ 10 :: l.drop (i + 1) ∧ (10 : UInt8) ∉ l.take i := by
  induction l generalizing i with
  | nil => unfold Lib.index at h; simp at h
  | cons c l ih =>
    unfold Lib.index at h
    by_cases e : [10].isPrefixOf (c :: l) = true
    · rw [if_pos e] at h
      obtain rfl : i = 0 := by omega
      have hc : c = 10 := by have e2 := e; simp [List.isPrefixOf] at e2; exact e2.symm
      subst hc
      simp
    · rw [if_neg e] at h
      have hc : c ≠ 10 := by rintro rfl; exact e (by simp [List.isPrefixOf])
      by_cases k : (Lib.index l [10] == -1) = true
      · rw [if_pos k] at h; omega
      · rw [if_neg k] at h
        obtain ⟨j, rfl⟩ : ∃ j, i = j + 1 := ⟨i - 1, by have := Lib.index_ge l [10]; have k' : Lib.index l [10] ≠ -1 := by simpa using k
                                                       omega⟩
        obtain ⟨h1, h2⟩ := ih j (by omega)
        refine ⟨?_, ?_⟩
        · simp only [List.take_succ_cons, List.drop_succ_cons, List.cons_append]
          exact congrArg _ h1
        · rw [List.take_succ_cons, List.mem_cons, not_or]
          exact ⟨fun e => hc e.symm, h2⟩
/-- The pieces are those of the cut, but for the last one. -/
theorem pieces_cut (k : Nat) (l : List UInt8) : (Lib.splitK [10] 0 k l).length = min (k + 1) (cut10 l).length ∧ (∀ i, i < k → (Lib.splitK [10] 0 k l)[i]? = (cut10 l)[i]?) ∧ ((cut10 l).length ≤ k + 1 → Lib.splitK [10] 0 k l = cut10 l) := by
  induction k generalizing l with
  | zero =>
    have h1 := cutA_pos [] l
    refine ⟨by simp [Lib.splitK, cut10]; omega, fun i hi => by omega, fun h => ?_⟩
    by_cases e : (10 : UInt8) ∈ l
    · exfalso
      obtain ⟨i, hi⟩ : ∃ i : Nat, Lib.index l [10] = i := by
        have h2 := Lib.index_ge l [10]
        rcases Int.lt_or_le (Lib.index l [10]) 0 with h3 | h3
        · exact absurd e (index_free l (by omega))
        · exact ⟨(Lib.index l [10]).toNat, by omega⟩
      obtain ⟨h4, h5⟩ := index_hit l i hi
      have h6 : cut10 l = ([] ++ l.take i) :: cut10 (l.drop (i + 1)) := by
        have := cutA_at [] (l.take i) (l.drop (i + 1)) h5
        rw [← h4] at this
        exact this
      rw [h6] at h
      have := cutA_pos [] (l.drop (i + 1))
      have h9 : (cutA [] (l.drop (i + 1))).length + 1 ≤ 0 + 1 := h
      omega
    · have h7 : cut10 l = [[] ++ l] := cutA_free [] l e
      rw [h7]
      rfl
  | succ k ih =>
    unfold Lib.splitK
    by_cases e : (Lib.index l [10] == -1) = true
    · rw [if_pos e]
      have h7 : cut10 l = [[] ++ l] := cutA_free [] l (index_free l (by simpa using e))
      rw [h7]
      refine ⟨by simp, fun i hi => rfl, fun _ => rfl⟩
    · rw [if_neg e]
      obtain ⟨i, hi⟩ : ∃ i : Nat, Lib.index l [10] = i := by
        have h2 := Lib.index_ge l [10]
        have h3 : Lib.index l [10] ≠ -1 := by simpa using e
        exact ⟨(Lib.index l [10]).toNat, by omega⟩
      obtain ⟨h4, h5⟩ := index_hit l i hi
      have h6 : cut10 l = l.take i :: cut10 (l.drop (i + 1)) := by
        have := cutA_at [] (l.take i) (l.drop (i + 1)) h5
        rw [← h4] at this
        exact this
      rw [hi, Int.toNat_natCast, h6]
      obtain ⟨a1, a2, a3⟩ := ih (l.drop (i + 1))
      refine ⟨?_, fun j hj => ?_, fun h => ?_⟩
      · simp only [List.length_cons, List.length_nil, Nat.zero_add, Nat.add_zero] at a1 ⊢
        rw [a1]
        omega
      · cases j with
        | zero => rfl
        | succ j => simp only [List.getElem?_cons_succ]; exact a2 j (by omega)
      · simp only [List.length_cons] at h
        have := a3 (by omega)
        show l.take (i + 0) :: _ = _
        rw [Nat.add_zero]
        exact congrArg _ this

/-! ### what a text is parsed as -/
def w0 (R : List (List UInt8)) : Nat := (R.getD 0 []).length
def rowOk (n : Nat) (p : List UInt8) : Bool := decide (1 ≤ p.length) && decide (p.length ≤ 16) && decide (p.length = n) && p.all fun c => okc c.toNat
def bad (R : List (List UInt8)) (i : Nat) : Bool := decide (16 ≤ i) || !rowOk (w0 R) (R.getD i [])
def cells (R : List (List UInt8)) : ByteArray := ⟨R.flatten.toArray⟩
/-- The outcome. -/
def POut (R : List (List UInt8)) (W H : Int) (c : ByteArray) (row : Nat) (err : Int) : Prop :=
  (row < R.length ∧ bad R row = true ∧ (∀ j, j < row → bad R j = false) ∧ W = 0 ∧ H = 0 ∧ c = ⟨#[]⟩ ∧ err = 30) ∨
  ((∀ j, j < R.length → bad R j = false) ∧ Right (w0 R) R.length (cells R) ∧ W = w0 R ∧ H = R.length ∧ c = cells R ∧ row = 0 ∧ err = 0) ∨
  ((∀ j, j < R.length → bad R j = false) ∧ ¬ Right (w0 R) R.length (cells R) ∧ W = 0 ∧ H = 0 ∧ c = ⟨#[]⟩ ∧ row = R.length ∧ err = 30)
theorem POut.one {R : List (List UInt8)} {W H W' H' : Int} {c c' : ByteArray} {row row' : Nat} {err err' : Int} (h : POut R W H c row err) (k : POut R W' H' c' row' err') : W = W' ∧ H = H' ∧ c = c' ∧ row = row' ∧ err = err' := by
  rcases h with ⟨a1, a2, a3, rfl, rfl, rfl, rfl⟩ | ⟨a1, a2, rfl, rfl, rfl, rfl, rfl⟩ | ⟨a1, a2, rfl, rfl, rfl, rfl, rfl⟩ <;> rcases k with ⟨b1, b2, b3, rfl, rfl, rfl, rfl⟩ | ⟨b1, b2, rfl, rfl, rfl, rfl, rfl⟩ | ⟨b1, b2, rfl, rfl, rfl, rfl, rfl⟩
  · refine ⟨rfl, rfl, rfl, ?_, rfl⟩
    rcases Nat.lt_trichotomy row row' with x | x | x
    · have := b3 row x; rw [a2] at this; cases this
    · exact x
    · have := a3 row' x; rw [b2] at this; cases this
  · have := b1 row a1; rw [a2] at this; cases this
  · have := b1 row a1; rw [a2] at this; cases this
  · have := a1 row' b1; rw [b2] at this; cases this
  · exact ⟨rfl, rfl, rfl, rfl, rfl⟩
  · exact absurd a2 b2
  · have := a1 row' b1; rw [b2] at this; cases this
  · exact absurd b2 a2
  · exact ⟨rfl, rfl, rfl, rfl, rfl⟩
/-- Rows that are the document's but for what lies behind 16 of them. -/
theorem POut.of {R R' : List (List UInt8)} (h1 : R'.length = min 17 R.length) (h2 : ∀ i, i < 16 → R'[i]? = R[i]?) (h3 : R.length ≤ 17 → R' = R) {W H : Int} {c : ByteArray} {row : Nat} {err : Int} (h : POut R' W H c row err) : POut R W H c row err := by
  have hw : w0 R' = w0 R := by unfold w0; rw [List.getD, List.getD, h2 0 (by omega)]
  have hb : ∀ i, i ≤ 16 → bad R' i = bad R i := by
    intro i hi
    unfold bad
    rcases Nat.lt_or_ge i 16 with k | k
    · rw [hw, List.getD, List.getD, h2 i k]
    · rw [decide_eq_true k]; rfl
  rcases Nat.lt_or_ge 17 R.length with k | k
  · have hl : R'.length = 17 := by omega
    rcases h with ⟨a1, a2, a3, r⟩ | ⟨a1, r⟩ | ⟨a1, r⟩
    · exact .inl ⟨by omega, by rw [← hb row (by omega)]; exact a2, fun j hj => by rw [← hb j (by omega)]; exact a3 j hj, r⟩
    · have := a1 16 (by omega)
      unfold bad at this
      simp at this
    · have := a1 16 (by omega)
      unfold bad at this
      simp at this
  · rw [h3 k] at h; exact h
theorem POut.nil {W H : Int} {c : ByteArray} {row : Nat} {err : Int} (h : POut [[]] W H c row err) : POut [] W H c row err := by
  have hb : bad [[]] 0 = true := rfl
  have hr : ¬ Right (w0 []) (([] : List (List UInt8)).length) (cells []) := by
    rintro ⟨a, b, e1, e2, h, _⟩
    have := h.w1
    have e : w0 [] = 0 := rfl
    rw [e] at e1
    omega
  rcases h with ⟨a1, a2, a3, r⟩ | ⟨a1, r⟩ | ⟨a1, r⟩
  · have : row = 0 := by simpa using a1
    subst this
    obtain ⟨rfl, rfl, rfl, rfl⟩ := r
    exact .inr (.inr ⟨fun j hj => by simp at hj, hr, rfl, rfl, rfl, rfl, rfl⟩)
  · have := a1 0 (by simp); rw [hb] at this; cases this
  · have := a1 0 (by simp); rw [hb] at this; cases this

end Go.Proofs.YtokjnmgbgflgnaaGreatDoor.Fl
