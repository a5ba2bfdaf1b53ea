/-
  Layer 6: plain facts: the document's table, row by row.
-/
import Derived.Test.YtinkpeliinofoaaDoorWnP
set_option linter.unusedVariables false
namespace Go.Proofs.YtinkpeliinofoaaDoor
namespace Wn
theorem ord_mem {f : Int} : ∀ {L : List (Int × Int)}, Ordw f L → ∀ q ∈ L, f < q.2
  | [], _, q, hq => by simp at hq
  | p :: r, ⟨h1, h2, h3, h4⟩, q, hq => by
    rcases List.mem_cons.1 hq with rfl | hq
    · omega
    · have := ord_mem h4 q hq
      omega
theorem fg_flt {f : Int} (m : Int) : ∀ {L : List (Int × Int)}, Ordw f L → L.filter (fun p => decide (m < p.2)) = fg L m
  | [], _ => rfl
  | p :: r, ⟨h1, h2, h3, h4⟩ => by
    by_cases hp : p.2 ≤ m
    · have e : plc (p :: r) m = plc r m + 1 := by simp [plc, hp]
      have hd : decide (m < p.2) = false := decide_eq_false (by omega)
      unfold fg
      rw [e, List.drop_succ_cons, List.filter_cons, hd]
      exact fg_flt m h4
    · have e : plc (p :: r) m = 0 := by simp [plc, hp]
      unfold fg
      rw [e, List.drop_zero]
      refine List.filter_eq_self.2 fun q hq => decide_eq_true ?_
      rcases List.mem_cons.1 hq with rfl | hq
      · omega
      · have := ord_mem h4 q hq
        omega
/-- The windows of a cell among rows. -/
def tkn (R : List (Int × Int × Int)) (x : Int) : List (Int × Int) := (R.filter fun r => decide (r.1 = x)).map fun r => r.2
theorem tkn_cons (r : Int × Int × Int) (R : List (Int × Int × Int)) (x : Int) : tkn (r :: R) x = if r.1 = x then r.2 :: tkn R x else tkn R x := by
  unfold tkn
  rw [List.filter_cons]
  by_cases h : r.1 = x <;> simp [h]
theorem tkn_app (R S : List (Int × Int × Int)) (x : Int) : tkn (R ++ S) x = tkn R x ++ tkn S x := by simp [tkn]
/-- Does a window meet one of some? -/
def meets (L : List (Int × Int)) (a b : Int) : Bool := L.any fun p => decide (p.1 < b) && decide (a < p.2)
/-- Is a row passed by, for a window of a cell? -/
def pst (x a : Int) (r : Int × Int × Int) : Bool := !decide (r.1 = x) || decide (r.2.1 < a)
def rins (R : List (Int × Int × Int)) (x a b : Int) : List (Int × Int × Int) := R.takeWhile (pst x a) ++ (x, a, b) :: R.dropWhile (pst x a)
def rtk (R : List (Int × Int × Int)) (x a b : Int) : Int × List (Int × Int × Int) :=
  if rgt a b = false then (1, R) else if meets (tkn R x) a b = true then (3, R) else if 4096 ≤ (tkn R x).length then (4, R) else (0, rins R x a b)
def rdr (R : List (Int × Int × Int)) (x a b : Int) : Int × List (Int × Int × Int) := if (x, a, b) ∈ R then (0, R.erase (x, a, b)) else (2, R)
def rfg (R : List (Int × Int × Int)) (m : Int) : List (Int × Int × Int) := R.filter fun r => decide (m < r.2.2)
theorem rins_other {x y a b : Int} (h : y ≠ x) : ∀ R, tkn (rins R x a b) y = tkn R y
  | [] => by
    have h' : ¬ x = y := fun e => h (Eq.symm e)
    simp [rins, tkn, h']
  | r :: R => by
    have ih := rins_other (a := a) (b := b) h R
    unfold rins at ih ⊢
    rw [List.takeWhile_cons, List.dropWhile_cons]
    split
    · rw [List.cons_append, tkn_cons, tkn_cons, ih]
    · rw [List.nil_append, tkn_cons, if_neg (fun e => h (Eq.symm e))]
theorem rins_same {x a b : Int} : ∀ R, tkn (rins R x a b) x = (tkn R x).takeWhile (fun p => decide (p.1 < a)) ++ (a, b) :: (tkn R x).dropWhile (fun p => decide (p.1 < a))
  | [] => by simp [rins, tkn]
  | r :: R => by
    have ih := rins_same (x := x) (a := a) (b := b) R
    unfold rins at ih ⊢
    rw [List.takeWhile_cons, List.dropWhile_cons]
    by_cases h : r.1 = x
    · by_cases h2 : r.2.1 < a
      · have hp : pst x a r = true := by simp [pst, h2]
        rw [if_pos hp, if_pos hp, List.cons_append, tkn_cons, if_pos h, tkn_cons, if_pos h, ih, List.takeWhile_cons, List.dropWhile_cons]
        simp [h2]
      · have hp : ¬ pst x a r = true := by simp [pst, h, h2]
        rw [if_neg hp, if_neg hp, List.nil_append, tkn_cons, if_pos rfl, tkn_cons, if_pos h, List.takeWhile_cons, List.dropWhile_cons]
        simp [h2]
    · have hp : pst x a r = true := by simp [pst, h]
      rw [if_pos hp, if_pos hp, List.cons_append, tkn_cons, if_neg h, tkn_cons, if_neg h, ih]
theorem meets_low {f a b : Int} : ∀ {L : List (Int × Int)}, Ordw f L → b ≤ f → meets L a b = false
  | [], _, _ => rfl
  | p :: r, ⟨h1, h2, h3, h4⟩, h => by
    have ih := meets_low (a := a) h4 (by omega : b ≤ p.2)
    unfold meets at ih ⊢
    rw [List.any_cons, ih]
    have : ¬ p.1 < b := by omega
    simp [this]
theorem meets_plc {a b : Int} (hab : a < b) : ∀ {L : List (Int × Int)} {f : Int}, Ordw f L → meets L a b = decide (plc L a < L.length ∧ (L.getD (plc L a) (0, 0)).1 < b)
  | [], _, _ => by simp [meets, plc]
  | p :: r, f, ⟨h1, h2, h3, h4⟩ => by
    by_cases hp : p.2 ≤ a
    · have ih := meets_plc hab h4
      have e : plc (p :: r) a = plc r a + 1 := by simp [plc, hp]
      rw [e]
      unfold meets at ih ⊢
      rw [List.any_cons, ih]
      have : ¬ a < p.2 := by omega
      simp [this]
    · have e : plc (p :: r) a = 0 := by simp [plc, hp]
      rw [e]
      have h5 : a < p.2 := by omega
      by_cases hb : p.1 < b
      · simp [meets, hb, h5]
      · have := meets_low (a := a) (b := b) h4 (by omega)
        unfold meets at this ⊢
        rw [List.any_cons, this]
        simp [hb]
theorem ins_meets {a b : Int} (hab : a < b) : ∀ {L : List (Int × Int)} {f : Int}, Ordw f L → meets L a b = false → insAt L (plc L a) (a, b) = L.takeWhile (fun p => decide (p.1 < a)) ++ (a, b) :: L.dropWhile (fun p => decide (p.1 < a))
  | [], _, _, _ => rfl
  | p :: r, f, ⟨h1, h2, h3, h4⟩, hm => by
    have hm' : meets r a b = false := by
      unfold meets at hm ⊢
      rw [List.any_cons, Bool.or_eq_false_iff] at hm
      exact hm.2
    have hm0 : ¬ (p.1 < b ∧ a < p.2) := by
      unfold meets at hm
      rw [List.any_cons, Bool.or_eq_false_iff] at hm
      intro h
      simp [h.1, h.2] at hm
    by_cases hp : p.2 ≤ a
    · have e : plc (p :: r) a = plc r a + 1 := by simp [plc, hp]
      have ih := ins_meets hab h4 hm'
      have hpa : p.1 < a := by omega
      rw [e, List.takeWhile_cons, List.dropWhile_cons]
      unfold insAt at ih ⊢
      simp only [hpa, decide_true, if_true]
      rw [List.take_succ_cons, List.drop_succ_cons, List.cons_append, List.cons_append, ih, List.cons_append]
    · have e : plc (p :: r) a = 0 := by simp [plc, hp]
      have hpa : ¬ p.1 < a := by omega
      rw [e, List.takeWhile_cons, List.dropWhile_cons]
      simp [insAt, hpa]
/-- Take is the document's. -/
theorem rtk_tk {R : List (Int × Int × Int)} {T : Int → List (Int × Int)} (hT : ∀ y, tkn R y = T y) (hO : ∀ y, Ordw 0 (T y)) (x a b : Int) : (rtk R x a b).1 = (tk (T x) a b).1 ∧ ∀ y, tkn (rtk R x a b).2 y = upd T x (tk (T x) a b).2 y := by
  have same : ∀ y, tkn R y = upd T x (T x) y := fun y => by
    unfold upd
    split
    · rename_i h; rw [h]; exact hT x
    · exact hT y
  unfold rtk tk
  by_cases hr : rgt a b = false
  · rw [if_pos hr, if_pos hr]
    exact ⟨rfl, same⟩
  · have hab : a < b := by
      have : rgt a b = true := by simpa using hr
      unfold rgt at this
      simp at this
      omega
    rw [if_neg hr, if_neg hr, hT x, meets_plc hab (hO x)]
    by_cases hm : plc (T x) a < (T x).length ∧ ((T x).getD (plc (T x) a) (0, 0)).1 < b
    · rw [if_pos hm, if_pos (decide_eq_true hm)]
      exact ⟨rfl, same⟩
    · have hm2 : meets (T x) a b = false := by rw [meets_plc hab (hO x)]; exact decide_eq_false hm
      rw [if_neg hm, if_neg (by simpa using hm)]
      by_cases hl : 4096 ≤ (T x).length
      · rw [if_pos hl, if_pos hl]
        exact ⟨rfl, same⟩
      · rw [if_neg hl, if_neg hl]
        refine ⟨rfl, fun y => ?_⟩
        by_cases hy : y = x
        · subst hy
          show tkn (rins R y a b) y = upd T y (insAt (T y) (plc (T y) a) (a, b)) y
          rw [upd_same, rins_same, hT y, ins_meets hab (hO y) hm2]
        · show tkn (rins R x a b) y = upd T x _ y
          rw [upd_other _ _ hy, rins_other hy, hT y]
theorem rdr_other {x y a b : Int} (h : y ≠ x) : ∀ R, tkn (R.erase (x, a, b)) y = tkn R y
  | [] => rfl
  | r :: R => by
    rw [List.erase_cons]
    split
    · rename_i he
      have he : r = (x, a, b) := by simpa using he
      rw [tkn_cons, if_neg]
      rw [he]; exact fun e => h (Eq.symm e)
    · rw [tkn_cons, tkn_cons, rdr_other h R]
theorem rdr_same {x a b : Int} : ∀ R, tkn (R.erase (x, a, b)) x = (tkn R x).erase (a, b)
  | [] => rfl
  | r :: R => by
    rw [List.erase_cons]
    by_cases he : r = (x, a, b)
    · subst he
      rw [if_pos (by simp), tkn_cons, if_pos rfl, List.erase_cons]
      simp
    · rw [if_neg (by simpa using he), tkn_cons, tkn_cons, rdr_same R]
      by_cases hx : r.1 = x
      · rw [if_pos hx, if_pos hx, List.erase_cons, if_neg]
        intro h
        have h : r.2 = (a, b) := by simpa using h
        exact he (by rw [← h, ← hx])
      · rw [if_neg hx, if_neg hx]
theorem mem_tkn {R : List (Int × Int × Int)} {x a b : Int} : (x, a, b) ∈ R ↔ (a, b) ∈ tkn R x := by
  unfold tkn
  rw [List.mem_map]
  constructor
  · intro h; exact ⟨(x, a, b), List.mem_filter.2 ⟨h, by simp⟩, rfl⟩
  · rintro ⟨r, hr, he⟩
    obtain ⟨h1, h2⟩ := List.mem_filter.1 hr
    have h2 : r.1 = x := by simpa using h2
    rw [← h2, ← he]; exact h1
theorem dr_erase {a b : Int} : ∀ {L : List (Int × Int)} {f : Int}, Ordw f L → dr L a b = if (a, b) ∈ L then (0, L.erase (a, b)) else (2, L)
  | [], _, _ => by simp [dr, plc]
  | p :: r, f, ⟨h1, h2, h3, h4⟩ => by
    have ih := dr_erase (a := a) (b := b) h4
    by_cases hp : p.2 ≤ a
    · have e : plc (p :: r) a = plc r a + 1 := by simp [plc, hp]
      have hne : ¬ p = (a, b) := fun q => by rw [q] at hp h2; simp at hp h2; omega
      have hne2 : ¬ (a, b) = p := fun q => hne q.symm
      unfold dr at ih ⊢
      have he : (p :: r).erase (a, b) = p :: r.erase (a, b) := by rw [List.erase_cons, if_neg (by simpa using hne)]
      rw [e, List.getD_cons_succ, he]
      by_cases hq : plc r a < r.length ∧ r.getD (plc r a) (0, 0) = (a, b)
      · rw [if_pos hq] at ih
        rw [if_pos ⟨by simpa using hq.1, hq.2⟩]
        by_cases hm : (a, b) ∈ r
        · rw [if_pos hm] at ih
          rw [if_pos (List.mem_cons_of_mem _ hm)]
          have := congrArg Prod.snd ih
          simp only [List.take_succ_cons, List.drop_succ_cons, List.cons_append] at this ⊢
          rw [this]
        · rw [if_neg hm] at ih
          cases ih
      · rw [if_neg hq] at ih
        rw [if_neg (fun q => hq ⟨by simpa using q.1, q.2⟩)]
        by_cases hm : (a, b) ∈ r
        · rw [if_pos hm] at ih; cases ih
        · rw [if_neg]
          rw [List.mem_cons]
          exact fun q => q.elim hne2 hm
    · have e : plc (p :: r) a = 0 := by simp [plc, hp]
      unfold dr
      rw [e]
      by_cases hq : p = (a, b)
      · subst hq
        simp
      · have hq2 : ¬ (a, b) = p := fun q => hq q.symm
        rw [if_neg (by simp [hq]), if_neg]
        rw [List.mem_cons]
        rintro (q | q)
        · exact hq2 q
        · obtain ⟨t, ht, hte⟩ := List.getElem_of_mem q
          have := h4.least t ht
          rw [List.getD_eq_getElem?_getD, List.getElem?_eq_getElem ht, hte] at this
          simp at this
          omega
theorem rdr_dr {R : List (Int × Int × Int)} {T : Int → List (Int × Int)} (hT : ∀ y, tkn R y = T y) (hO : ∀ y, Ordw 0 (T y)) (x a b : Int) : (rdr R x a b).1 = (dr (T x) a b).1 ∧ ∀ y, tkn (rdr R x a b).2 y = upd T x (dr (T x) a b).2 y := by
  rw [dr_erase (hO x)]
  unfold rdr
  have hm := mem_tkn (R := R) (x := x) (a := a) (b := b)
  rw [hT x] at hm
  by_cases h : (x, a, b) ∈ R
  · rw [if_pos h, if_pos (hm.1 h)]
    refine ⟨rfl, fun y => ?_⟩
    by_cases hy : y = x
    · subst hy
      rw [upd_same]
      show tkn (R.erase (y, a, b)) y = _
      rw [rdr_same, hT y]
    · rw [upd_other _ _ hy]
      show tkn (R.erase (x, a, b)) y = _
      rw [rdr_other hy, hT y]
  · rw [if_neg h, if_neg (fun q => h (hm.2 q))]
    refine ⟨rfl, fun y => ?_⟩
    by_cases hy : y = x
    · subst hy
      rw [upd_same]; exact hT y
    · rw [upd_other _ _ hy]; exact hT y
theorem rfg_fg {R : List (Int × Int × Int)} {T : Int → List (Int × Int)} (hT : ∀ y, tkn R y = T y) (hO : ∀ y, Ordw 0 (T y)) (m : Int) : ∀ y, tkn (rfg R m) y = fg (T y) m := by
  intro y
  rw [← fg_flt m (hO y), ← hT y]
  clear hT hO
  unfold rfg
  induction R with
  | nil => rfl
  | cons r R ih =>
    rw [List.filter_cons, tkn_cons]
    by_cases h1 : m < r.2.2
    · rw [if_pos (decide_eq_true h1), tkn_cons, ih]
      by_cases h2 : r.1 = y
      · rw [if_pos h2, if_pos h2, List.filter_cons, if_pos (decide_eq_true h1)]
      · rw [if_neg h2, if_neg h2]
    · rw [if_neg (by simpa using h1), ih]
      by_cases h2 : r.1 = y
      · rw [if_pos h2, List.filter_cons, if_neg (by simpa using h1)]
      · rw [if_neg h2]
end Wn
end Go.Proofs.YtinkpeliinofoaaDoor
