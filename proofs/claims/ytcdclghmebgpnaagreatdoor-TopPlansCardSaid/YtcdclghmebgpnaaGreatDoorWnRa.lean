/-
  Layer 6: plain facts: the document's table, row by row.
  Layer 6: the document's table: its rows in memory; Taken, Right.
  Layer 6: the document's table: Is, Free.
  Layer 6: the document's table: Take.
-/
import Derived.Test.YtcdclghmebgpnaaGreatDoorWnP
import Derived.Test.YtcdclghmebgpnaaGreatDoorWnSu
import Derived.Deep.CutBlock
set_option linter.unusedVariables false
set_option maxRecDepth 100000
section
namespace Go.Proofs.YtcdclghmebgpnaaGreatDoor
namespace Wn
theorem ord_mem {f : Int} : ∀ {L : List (Int × Int)}, Ordw f L → ∀ q ∈ L, f < q.2
  | [], _, q, hq => by simp at hq
  | p :: r, ⟨h1, h2, h3, h4⟩, q, hq => by
    rcases List.mem_cons.1 hq with rfl | hq
    · omega
    · have := ord_mem h4 q hq
      omega
theorem fg_flt {f : Int} (m : Int) : ∀ {L : List (Int × Int)}, Ordw f L → L.filter (fun p => decide (m < p.2)) = fg L m
  | [], _ => rfl
  | p :: r, ⟨h1, h2, h3, h4⟩ => by
    by_cases hp : p.2 ≤ m
    · have e : plc (p :: r) m = plc r m + 1 := by simp [plc, hp]
      have hd : decide (m < p.2) = false := decide_eq_false (by omega)
      unfold fg
      rw [e, List.drop_succ_cons, List.filter_cons, hd]
      exact fg_flt m h4
    · have e : plc (p :: r) m = 0 := by simp [plc, hp]
      unfold fg
      rw [e, List.drop_zero]
      refine List.filter_eq_self.2 fun q hq => decide_eq_true ?_
      rcases List.mem_cons.1 hq with rfl | hq
      · omega
      · have := ord_mem h4 q hq
        omega
/-- The windows of a cell among rows. -/
def tkn (R : List (Int × Int × Int)) (x : Int) : List (Int × Int) := (R.filter fun r => decide (r.1 = x)).map fun r => r.2
theorem tkn_cons (r : Int × Int × Int) (R : List (Int × Int × Int)) (x : Int) : tkn (r :: R) x = if r.1 = x then r.2 :: tkn R x else tkn R x := by
  unfold tkn
  rw [List.filter_cons]
  by_cases h : r.1 = x <;> simp [h]
theorem tkn_app (R S : List (Int × Int × Int)) (x : Int) : tkn (R ++ S) x = tkn R x ++ tkn S x := by simp [tkn]
/-- Does a window meet one of some? -/
def meets (L : List (Int × Int)) (a b : Int) : Bool := L.any fun p => decide (p.1 < b) && decide (a < p.2)
/-- Is a row passed by, for a window of a cell? -/
def pst (x a : Int) (r : Int × Int × Int) : Bool := !decide (r.1 = x) || decide (r.2.1 < a)
def rins (R : List (Int × Int × Int)) (x a b : Int) : List (Int × Int × Int) := R.takeWhile (pst x a) ++ (x, a, b) :: R.dropWhile (pst x a)
def rtk (R : List (Int × Int × Int)) (x a b : Int) : Int × List (Int × Int × Int) :=
  if rgt a b = false then (1, R) else if meets (tkn R x) a b = true then (3, R) else if 4096 ≤ (tkn R x).length then (4, R) else (0, rins R x a b)
def rdr (R : List (Int × Int × Int)) (x a b : Int) : Int × List (Int × Int × Int) := if (x, a, b) ∈ R then (0, R.erase (x, a, b)) else (2, R)
def rfg (R : List (Int × Int × Int)) (m : Int) : List (Int × Int × Int) := R.filter fun r => decide (m < r.2.2)
theorem rins_other {x y a b : Int} (h : y ≠ x) : ∀ R, tkn (rins R x a b) y = tkn R y
  | [] => by
    have h' : ¬ x = y := fun e => h (Eq.symm e)
    simp [rins, tkn, h']
  | r :: R => by
    have ih := rins_other (a := a) (b := b) h R
    unfold rins at ih ⊢
    rw [List.takeWhile_cons, List.dropWhile_cons]
    split
    · rw [List.cons_append, tkn_cons, tkn_cons, ih]
    · rw [List.nil_append, tkn_cons, if_neg (fun e => h (Eq.symm e))]
theorem rins_same {x a b : Int} : ∀ R, tkn (rins R x a b) x = (tkn R x).takeWhile (fun p => decide (p.1 < a)) ++ (a, b) :: (tkn R x).dropWhile (fun p => decide (p.1 < a))
  | [] => by simp [rins, tkn]
  | r :: R => by
    have ih := rins_same (x := x) (a := a) (b := b) R
    unfold rins at ih ⊢
    rw [List.takeWhile_cons, List.dropWhile_cons]
    by_cases h : r.1 = x
    · by_cases h2 : r.2.1 < a
      · have hp : pst x a r = true := by simp [pst, h2]
        rw [if_pos hp, if_pos hp, List.cons_append, tkn_cons, if_pos h, tkn_cons, if_pos h, ih, List.takeWhile_cons, List.dropWhile_cons]
        simp [h2]
      · have hp : ¬ pst x a r = true := by simp [pst, h, h2]
        rw [if_neg hp, if_neg hp, List.nil_append, tkn_cons, if_pos rfl, tkn_cons, if_pos h, List.takeWhile_cons, List.dropWhile_cons]
        simp [h2]
    · have hp : pst x a r = true := by simp [pst, h]
      rw [if_pos hp, if_pos hp, List.cons_append, tkn_cons, if_neg h, tkn_cons, if_neg h, ih]
theorem meets_low {f a b : Int} : ∀ {L : List (Int × Int)}, Ordw f L → b ≤ f → meets L a b = false
  | [], _, _ => rfl
  | p :: r, ⟨h1, h2, h3, h4⟩, h => by
    have ih := meets_low (a := a) h4 (by omega : b ≤ p.2)
    unfold meets at ih ⊢
    rw [List.any_cons, ih]
    have : ¬ p.1 < b := by omega
    simp [this]
theorem meets_plc {a b : Int} (hab : a < b) : ∀ {L : List (Int × Int)} {f : Int}, Ordw f L → meets L a b = decide (plc L a < L.length ∧ (L.getD (plc L a) (0, 0)).1 < b)
  | [], _, _ => by simp [meets, plc]
  | p :: r, f, ⟨h1, h2, h3, h4⟩ => by
    by_cases hp : p.2 ≤ a
    · have ih := meets_plc hab h4
      have e : plc (p :: r) a = plc r a + 1 := by simp [plc, hp]
      rw [e]
      unfold meets at ih ⊢
      rw [List.any_cons, ih]
      have : ¬ a < p.2 := by omega
      simp [this]
    · have e : plc (p :: r) a = 0 := by simp [plc, hp]
      rw [e]
      have h5 : a < p.2 := by omega
      by_cases hb : p.1 < b
      · simp [meets, hb, h5]
      · have := meets_low (a := a) (b := b) h4 (by omega)
        unfold meets at this ⊢
        rw [List.any_cons, this]
        simp [hb]
theorem ins_meets {a b : Int} (hab : a < b) : ∀ {L : List (Int × Int)} {f : Int}, Ordw f L → meets L a b = false → insAt L (plc L a) (a, b) = L.takeWhile (fun p => decide (p.1 < a)) ++ (a, b) :: L.dropWhile (fun p => decide (p.1 < a))
  | [], _, _, _ => rfl
  | p :: r, f, ⟨h1, h2, h3, h4⟩, hm => by
    have hm' : meets r a b = false := by
      unfold meets at hm ⊢
      rw [List.any_cons, Bool.or_eq_false_iff] at hm
      exact hm.2
    have hm0 : ¬ (p.1 < b ∧ a < p.2) := by
      unfold meets at hm
      rw [List.any_cons, Bool.or_eq_false_iff] at hm
      intro h
      simp [h.1, h.2] at hm
    by_cases hp : p.2 ≤ a
    · have e : plc (p :: r) a = plc r a + 1 := by simp [plc, hp]
      have ih := ins_meets hab h4 hm'
      have hpa : p.1 < a := by omega
      rw [e, List.takeWhile_cons, List.dropWhile_cons]
      unfold insAt at ih ⊢
      simp only [hpa, decide_true, if_true]
      rw [List.take_succ_cons, List.drop_succ_cons, List.cons_append, List.cons_append, ih, List.cons_append]
    · have e : plc (p :: r) a = 0 := by simp [plc, hp]
      have hpa : ¬ p.1 < a := by omega
      rw [e, List.takeWhile_cons, List.dropWhile_cons]
      simp [insAt, hpa]
/-- Take is the document's. -/
theorem rtk_tk {R : List (Int × Int × Int)} {T : Int → List (Int × Int)} (hT : ∀ y, tkn R y = T y) (hO : ∀ y, Ordw 0 (T y)) (x a b : Int) : (rtk R x a b).1 = (tk (T x) a b).1 ∧ ∀ y, tkn (rtk R x a b).2 y = upd T x (tk (T x) a b).2 y := by
  have same : ∀ y, tkn R y = upd T x (T x) y := fun y => by
    unfold upd
    split
    · rename_i h; rw [h]; exact hT x
    · exact hT y
  unfold rtk tk
  by_cases hr : rgt a b = false
  · rw [if_pos hr, if_pos hr]
    exact ⟨rfl, same⟩
  · have hab : a < b := by
      have : rgt a b = true := by simpa using hr
      unfold rgt at this
      simp at this
      omega
    rw [if_neg hr, if_neg hr, hT x, meets_plc hab (hO x)]
    by_cases hm : plc (T x) a < (T x).length ∧ ((T x).getD (plc (T x) a) (0, 0)).1 < b
    · rw [if_pos hm, if_pos (decide_eq_true hm)]
      exact ⟨rfl, same⟩
    · have hm2 : meets (T x) a b = false := by rw [meets_plc hab (hO x)]; exact decide_eq_false hm
      rw [if_neg hm, if_neg (by simpa using hm)]
      by_cases hl : 4096 ≤ (T x).length
      · rw [if_pos hl, if_pos hl]
        exact ⟨rfl, same⟩
      · rw [if_neg hl, if_neg hl]
        refine ⟨rfl, fun y => ?_⟩
        by_cases hy : y = x
        · subst hy
          show tkn (rins R y a b) y = upd T y (insAt (T y) (plc (T y) a) (a, b)) y
          rw [upd_same, rins_same, hT y, ins_meets hab (hO y) hm2]
        · show tkn (rins R x a b) y = upd T x _ y
          rw [upd_other _ _ hy, rins_other hy, hT y]
theorem rdr_other {x y a b : Int} (h : y ≠ x) : ∀ R, tkn (R.erase (x, a, b)) y = tkn R y
  | [] => rfl
  | r :: R => by
    rw [List.erase_cons]
    split
    · rename_i he
      have he : r = (x, a, b) := by simpa using he
      rw [tkn_cons, if_neg]
      rw [he]; exact fun e => h (Eq.symm e)
    · rw [tkn_cons, tkn_cons, rdr_other h R]
theorem rdr_same {x a b : Int} : ∀ R, tkn (R.erase (x, a, b)) x = (tkn R x).erase (a, b)
  | [] => rfl
  | r :: R => by
    rw [List.erase_cons]
    by_cases he : r = (x, a, b)
    · subst he
      rw [if_pos (by simp), tkn_cons, if_pos rfl, List.erase_cons]
      simp
    · rw [if_neg (by simpa using he), tkn_cons, tkn_cons, rdr_same R]
      by_cases hx : r.1 = x
      · rw [if_pos hx, if_pos hx, List.erase_cons, if_neg]
        intro h
        have h : r.2 = (a, b) := by simpa using h
        exact he (by rw [← h, ← hx])
      · rw [if_neg hx, if_neg hx]
theorem mem_tkn {R : List (Int × Int × Int)} {x a b : Int} : (x, a, b) ∈ R ↔ (a, b) ∈ tkn R x := by
  unfold tkn
  rw [List.mem_map]
  constructor
  · intro h; exact ⟨(x, a, b), List.mem_filter.2 ⟨h, by simp⟩, rfl⟩
  · rintro ⟨r, hr, he⟩
    obtain ⟨h1, h2⟩ := List.mem_filter.1 hr
    have h2 : r.1 = x := by simpa using h2
    rw [← h2, ← he]; exact h1
theorem dr_erase {a b : Int} : ∀ {L : List (Int × Int)} {f : Int}, Ordw f L → dr L a b = if (a, b) ∈ L then (0, L.erase (a, b)) else (2, L)
  | [], _, _ => by simp [dr, plc]
  | p :: r, f, ⟨h1, h2, h3, h4⟩ => by
    have ih := dr_erase (a := a) (b := b) h4
    by_cases hp : p.2 ≤ a
    · have e : plc (p :: r) a = plc r a + 1 := by simp [plc, hp]
      have hne : ¬ p = (a, b) := fun q => by rw [q] at hp h2; simp at hp h2; omega
      have hne2 : ¬ (a, b) = p := fun q => hne q.symm
      unfold dr at ih ⊢
      have he : (p :: r).erase (a, b) = p :: r.erase (a, b) := by rw [List.erase_cons, if_neg (by simpa using hne)]
      rw [e, List.getD_cons_succ, he]
      by_cases hq : plc r a < r.length ∧ r.getD (plc r a) (0, 0) = (a, b)
      · rw [if_pos hq] at ih
        rw [if_pos ⟨by simpa using hq.1, hq.2⟩]
        by_cases hm : (a, b) ∈ r
        · rw [if_pos hm] at ih
          rw [if_pos (List.mem_cons_of_mem _ hm)]
          have := congrArg Prod.snd ih
          simp only [List.take_succ_cons, List.drop_succ_cons, List.cons_append] at this ⊢
          rw [this]
        · rw [if_neg hm] at ih
          cases ih
      · rw [if_neg hq] at ih
        rw [if_neg (fun q => hq ⟨by simpa using q.1, q.2⟩)]
        by_cases hm : (a, b) ∈ r
        · rw [if_pos hm] at ih; cases ih
        · rw [if_neg]
          rw [List.mem_cons]
          exact fun q => q.elim hne2 hm
    · have e : plc (p :: r) a = 0 := by simp [plc, hp]
      unfold dr
      rw [e]
      by_cases hq : p = (a, b)
      · subst hq
        simp
      · have hq2 : ¬ (a, b) = p := fun q => hq q.symm
        rw [if_neg (by simp [hq]), if_neg]
        rw [List.mem_cons]
        rintro (q | q)
        · exact hq2 q
        · obtain ⟨t, ht, hte⟩ := List.getElem_of_mem q
          have := h4.least t ht
          rw [List.getD_eq_getElem?_getD, List.getElem?_eq_getElem ht, hte] at this
          simp at this
          omega
theorem rdr_dr {R : List (Int × Int × Int)} {T : Int → List (Int × Int)} (hT : ∀ y, tkn R y = T y) (hO : ∀ y, Ordw 0 (T y)) (x a b : Int) : (rdr R x a b).1 = (dr (T x) a b).1 ∧ ∀ y, tkn (rdr R x a b).2 y = upd T x (dr (T x) a b).2 y := by
  rw [dr_erase (hO x)]
  unfold rdr
  have hm := mem_tkn (R := R) (x := x) (a := a) (b := b)
  rw [hT x] at hm
  by_cases h : (x, a, b) ∈ R
  · rw [if_pos h, if_pos (hm.1 h)]
    refine ⟨rfl, fun y => ?_⟩
    by_cases hy : y = x
    · subst hy
      rw [upd_same]
      show tkn (R.erase (y, a, b)) y = _
      rw [rdr_same, hT y]
    · rw [upd_other _ _ hy]
      show tkn (R.erase (x, a, b)) y = _
      rw [rdr_other hy, hT y]
  · rw [if_neg h, if_neg (fun q => h (hm.2 q))]
    refine ⟨rfl, fun y => ?_⟩
    by_cases hy : y = x
    · subst hy
      rw [upd_same]; exact hT y
    · rw [upd_other _ _ hy]; exact hT y
theorem rfg_fg {R : List (Int × Int × Int)} {T : Int → List (Int × Int)} (hT : ∀ y, tkn R y = T y) (hO : ∀ y, Ordw 0 (T y)) (m : Int) : ∀ y, tkn (rfg R m) y = fg (T y) m := by
  intro y
  rw [← fg_flt m (hO y), ← hT y]
  clear hT hO
  unfold rfg
  induction R with
  | nil => rfl
  | cons r R ih =>
    rw [List.filter_cons, tkn_cons]
    by_cases h1 : m < r.2.2
    · rw [if_pos (decide_eq_true h1), tkn_cons, ih]
      by_cases h2 : r.1 = y
      · rw [if_pos h2, if_pos h2, List.filter_cons, if_pos (decide_eq_true h1)]
      · rw [if_neg h2, if_neg h2]
    · rw [if_neg (by simpa using h1), ih]
      by_cases h2 : r.1 = y
      · rw [if_pos h2, List.filter_cons, if_neg (by simpa using h1)]
      · rw [if_neg h2]
end Wn
end Go.Proofs.YtcdclghmebgpnaaGreatDoor
end

section
namespace Go.Proofs.YtcdclghmebgpnaaGreatDoor.Wn
open Go.RowKit Go.Maps

theorem Tryz.infoRow6 : (Tryz.prog.info? 89).map (fun i => (i.zero, i.size, i.bytes)) = some (some (.agg #[.int .i64 0, .int .i64 0, .int .i64 0]), 3, 24) := by kernel_rfl
abbrev R3 := Int × Int × Int
/-- Rows lie at a slice, of whatever make, in a block below B. -/
structure Rt (B : Nat) (w : World) (A : Option Addr) (n cap : Nat) (L : List R3) : Prop where
  len : n = L.length
  le : n ≤ cap
  max : cap ≤ maxLen
  nil : A = none → cap = 0
  cell : 0 < n → ∃ g off, A = some ⟨g, off, none⟩ ∧ g < B ∧ ∀ j, j < n → w.cell? ⟨g, off + j * 3, none⟩ = some (.int .i64 (L.getD j (0, 0, 0)).1) ∧ w.cell? ⟨g, off + j * 3 + 1, none⟩ = some (.int .i64 (L.getD j (0, 0, 0)).2.1) ∧ w.cell? ⟨g, off + j * 3 + 2, none⟩ = some (.int .i64 (L.getD j (0, 0, 0)).2.2)
theorem Rt.same {B : Nat} {w w' : World} {A : Option Addr} {n cap : Nat} {L : List R3} (h : Rt B w A n cap L) (hb : ∀ g, g < B → (∃ off, A = some ⟨g, off, none⟩) → w'.heap[g]? = w.heap[g]?) : Rt B w' A n cap L :=
  ⟨h.len, h.le, h.max, h.nil, fun hn => by
    obtain ⟨g, off, e, hg, hc⟩ := h.cell hn
    have hq := hb g hg ⟨off, e⟩
    exact ⟨g, off, e, hg, fun j hj => ⟨(World.cell?_of_block (a := ⟨g, off + j * 3, none⟩) hq).trans (hc j hj).1, (World.cell?_of_block (a := ⟨g, off + j * 3 + 1, none⟩) hq).trans (hc j hj).2.1, (World.cell?_of_block (a := ⟨g, off + j * 3 + 2, none⟩) hq).trans (hc j hj).2.2⟩⟩⟩
theorem Rt.below {B : Nat} {w w' : World} {A : Option Addr} {n cap : Nat} {L : List R3} (h : Rt B w A n cap L) (hb : Below B w w') : Rt B w' A n cap L := h.same fun g hg _ => hb.block g hg
theorem Rt.raise {B B' : Nat} {w : World} {A : Option Addr} {n cap : Nat} {L : List R3} (h : Rt B w A n cap L) (hb : B ≤ B') : Rt B' w A n cap L :=
  ⟨h.len, h.le, h.max, h.nil, fun hn => by
    obtain ⟨g, off, e, hg, hc⟩ := h.cell hn
    exact ⟨g, off, e, by omega, hc⟩⟩
theorem Rt.later {w w' : World} {A : Option Addr} {n cap : Nat} {L : List R3} (h : Rt w.heap.size w A n cap L) (hb : Below w.heap.size w w') : Rt w'.heap.size w' A n cap L := (h.below hb).raise hb.size
theorem Rt.nothing (B : Nat) (w : World) : Rt B w .none 0 0 [] := ⟨rfl, Nat.le_refl _, by unfold maxLen; omega, fun _ => rfl, fun h => by omega⟩
theorem Rt.size {B : Nat} {w : World} {A : Option Addr} {n cap : Nat} {L : List R3} (h : Rt B w A n cap L) : n ≤ cap ∧ cap ≤ 9223372036854775807 := by
  have := h.max
  unfold maxLen at this
  exact ⟨h.le, by omega⟩
theorem Rt.zero {B : Nat} {w : World} {A : Option Addr} {m c : Nat} {L : List R3} (hL : L = []) (hm : m = 0) (hA : A = none → c = 0) (hc : c ≤ maxLen) : Rt B w A m c L := by
  subst hL hm
  exact ⟨rfl, Nat.zero_le _, hc, hA, fun h => by omega⟩
/-- The first so many, and what is behind them. -/
theorem Rt.take {B : Nat} {w : World} {A : Option Addr} {n cap : Nat} {L : List R3} (h : Rt B w A n cap L) (k : Nat) (hk : k ≤ n) : Rt B w A k cap (L.take k) :=
  ⟨by rw [List.length_take, ← h.len]; omega, Nat.le_trans hk h.le, h.max, h.nil, fun hn => by
    obtain ⟨g, off, e, hg, hc⟩ := h.cell (by omega)
    refine ⟨g, off, e, hg, fun j hj => ?_⟩
    have : (L.take k).getD j (0, 0, 0) = L.getD j (0, 0, 0) := by
      rw [List.getD_eq_getElem?_getD, List.getD_eq_getElem?_getD, List.getElem?_take, if_pos hj]
    rw [this]
    exact hc j (by omega)⟩
theorem Rt.drop {B : Nat} {w : World} {g off n cap : Nat} {L : List R3} (h : Rt B w (some ⟨g, off, none⟩) n cap L) (k : Nat) (hk : k ≤ n) : Rt B w (some ⟨g, off + k * 3, none⟩) (n - k) (cap - k) (L.drop k) := by
  have h1 := h.le
  have h2 := h.max
  refine ⟨by rw [List.length_drop, ← h.len], by omega, by omega, fun e => (by cases e), fun hn => ?_⟩
  obtain ⟨g', off', e, hg, hc⟩ := h.cell (by omega)
  injection e with e
  injection e with e1 e2
  subst e1 e2
  refine ⟨g, off + k * 3, rfl, hg, fun j hj => ?_⟩
  have : (L.drop k).getD j (0, 0, 0) = L.getD (k + j) (0, 0, 0) := by
    rw [List.getD_eq_getElem?_getD, List.getD_eq_getElem?_getD, List.getElem?_drop]
  rw [this]
  have hc := hc (k + j) (by omega)
  have e1 : off + (k + j) * 3 = off + k * 3 + j * 3 := by omega
  rw [e1] at hc
  exact hc
theorem Rt.fin {B B' : Nat} {w w' : World} {g off n cap : Nat} {L : List R3} (h : Rt B w (some ⟨g, off, none⟩) n cap L) {A : Option Addr} {m c' : Nat} (hA : A ≠ none) (hm : m = 0) (hc : c' ≤ cap) : Rt B' w' A m c' (L.drop n) := by
  subst hm
  have h2 := h.max
  exact ⟨by rw [List.length_drop, ← h.len]; omega, by omega, by omega, fun e => absurd e hA, fun hn => by omega⟩
def rcl : List R3 → List Value
  | [] => []
  | x :: l => .int .i64 x.1 :: .int .i64 x.2.1 :: .int .i64 x.2.2 :: rcl l
theorem rcl_length : ∀ l, (rcl l).length = l.length * 3
  | [] => rfl
  | x :: l => by simp [rcl, rcl_length l]; omega
theorem rcl_app : ∀ l m, rcl (l ++ m) = rcl l ++ rcl m
  | [], m => rfl
  | x :: l, m => by simp [rcl, rcl_app l m]
theorem rcl_get : ∀ (l : List R3) (i : Nat), i < l.length → (rcl l)[i * 3]? = some (.int .i64 (l.getD i (0, 0, 0)).1) ∧ (rcl l)[i * 3 + 1]? = some (.int .i64 (l.getD i (0, 0, 0)).2.1) ∧ (rcl l)[i * 3 + 2]? = some (.int .i64 (l.getD i (0, 0, 0)).2.2)
  | [], i, h => by simp at h
  | x :: l, 0, h => by simp [rcl]
  | x :: l, i + 1, h => by
    have ih := rcl_get l i (by simpa using h)
    have e1 : (i + 1) * 3 = i * 3 + 3 := by omega
    have e2 : (i + 1) * 3 + 1 = i * 3 + 1 + 3 := by omega
    have e3 : (i + 1) * 3 + 2 = i * 3 + 2 + 3 := by omega
    rw [e2, e3, e1]
    simpa [rcl] using ih
theorem rcl_one (l : List R3) : ∀ u ∈ rcl l, u.oneCell' = true := by
  induction l with
  | nil => simp [rcl]
  | cons x l ih => intro u hu; simp [rcl] at hu; rcases hu with rfl | rfl | rfl | hu; rfl; rfl; rfl; exact ih u hu
/-- Rows that the call owns. -/
def Row (w : World) (base : Nat) (v : Value) (L : List R3) : Prop := w.ownsRow base 89 3 v L.length (rcl L)
theorem Row.rt {w : World} {base : Nat} {A : Option Addr} {n cap : Nat} {L : List R3} (h : Row w base (.slice A n cap) L) : Rt w.heap.size w A n cap L := by
  unfold Row at h
  rcases h.2 with ⟨q, h0⟩ | ⟨g, cap', cur, q, hg, hh, h1, h2, _⟩
  · injection q with q1 q2 q3
    subst q1 q2 q3
    exact ⟨h0.symm, Nat.le_refl _, by unfold maxLen; omega, fun _ => rfl, fun h => by omega⟩
  · injection q with q1 q2 q3
    subst q1 q2 q3
    refine ⟨rfl, h1, h2, fun h => (by cases h), fun _ => ⟨g, 0, rfl, (h.lt g rfl).2, fun j hj => ?_⟩⟩
    have := rcl_get L j hj
    rw [Nat.zero_add, h.cellAt _ (by omega), h.cellAt _ (by omega), h.cellAt _ (by omega)]
    exact this
theorem Row.form {w : World} {base : Nat} {v : Value} {L : List R3} (h : Row w base v L) : ∃ A cap, v = .slice A L.length cap := by
  rcases h.2 with ⟨q, h0⟩ | ⟨g, cap', cur, q, _⟩
  · exact ⟨none, 0, by rw [q, h0]⟩
  · exact ⟨_, _, q⟩
theorem Row.later {w w' : World} {base : Nat} {v : Value} {L : List R3} (h : Row w base v L) (hb : Below w.heap.size w w') : Row w' base v L := ownsRow_same h (fun k hk => hb.block k (h.lt k hk).2)
theorem Row.nil (w : World) (base : Nat) : Row w base (.slice none 0 0) [] := World.ownsRow_nil _ _ _ _
theorem Row.empty (w : World) (base : Nat) (hb : base ≤ w.heap.size) : Row (w.alloc (.cells #[] 89)) base (.slice (some ⟨w.heap.size, 0, none⟩) 0 0) [] := by
  have := World.ownsRow_lit (base := base) (e := 89) (size := 3) w #[] 0 hb (by unfold maxLen; omega) rfl
  simpa [Row, rcl] using this
/-- The cells of rows at an address. -/
theorem rcl_cells {w : World} {B : Nat} {A : Option Addr} {n cap : Nat} {L : List R3} (h : Rt B w A n cap L) : ∀ ad, A = some ad → ∀ j u, (rcl L)[j]? = some u → w.cell? (ad.add j) = some u := by
  intro ad hA j u hu
  have hjl : j < (rcl L).length := (List.getElem?_eq_some_iff.1 hu).1
  rw [rcl_length, ← h.len] at hjl
  obtain ⟨g, off, e, hg, hc⟩ := h.cell (by omega)
  rw [hA] at e
  injection e with e
  subst e
  have hi := rcl_get L (j / 3) (by rw [← h.len]; omega)
  have hci := hc (j / 3) (by omega)
  rw [add_at]
  rcases (by omega : j = j / 3 * 3 ∨ j = j / 3 * 3 + 1 ∨ j = j / 3 * 3 + 2) with q | q | q
  · have e2 : off + j = off + j / 3 * 3 := by omega
    have e3 : (rcl L)[j]? = (rcl L)[j / 3 * 3]? := by rw [← q]
    rw [e2, hci.1, ← hi.1, ← e3, hu]
  · have e2 : off + j = off + j / 3 * 3 + 1 := by omega
    have e3 : (rcl L)[j]? = (rcl L)[j / 3 * 3 + 1]? := by rw [← q]
    rw [e2, hci.2.1, ← hi.2.1, ← e3, hu]
  · have e2 : off + j = off + j / 3 * 3 + 2 := by omega
    have e3 : (rcl L)[j]? = (rcl L)[j / 3 * 3 + 2]? := by rw [← q]
    rw [e2, hci.2.2, ← hi.2.2, ← e3, hu]
/-- Rows are appended to those of one's own. -/
theorem run_approws {w : World} (ty : TypeId) (base : Nat) (v : Value) (xs : List R3) (hown : Row w base v xs) (A : Option Addr) (m c : Nat) (ys : List R3) (hr : Rt w.heap.size w A m c ys) (hb : xs.length + m ≤ 1000000) (hbase : base ≤ w.heap.size) :
    ∃ v' w', (Builtin.append_ #[72, 72] ty #[v, .slice A m c]).run Tryz.prog w = .ok v' w' ∧ Row w' base v' (xs ++ ys) ∧ w.grownBy w' v.ownBlock ∧ (v'.ownBlock = v.ownBlock ∨ v'.ownBlock = some w.heap.size) := by
  obtain ⟨i0, hi, hz0, hz1, hz2⟩ := info_parts Tryz.infoRow6
  cases A with
  | none =>
    have hc0 := hr.nil rfl
    have hm0 : m = 0 := by have := hr.le; omega
    subst hm0 hc0
    obtain rfl : ys = [] := List.eq_nil_of_length_eq_zero hr.len.symm
    exact ⟨v, w, run_append_owned_none (P := Tryz.prog) (w := w) base 72 ty 89 i0 3 Tryz.underlying72 hi v xs.length (rcl xs) hown, by simpa using hown, ⟨rfl, rfl, rfl, Nat.le_refl _, fun _ _ _ => rfl⟩, .inl rfl⟩
  | some ad =>
    obtain ⟨v', w', hrun, h2, h3, _, h5⟩ := run_append_own_at (P := Tryz.prog) w base 72 ty 89 i0 (.agg #[.int .i64 0, .int .i64 0, .int .i64 0]) 3 24 Tryz.underlying72 hi hz0 hz1 hz2 rfl (by decide) v xs.length (rcl xs) hown ad m c (rcl ys) (by rw [rcl_length, hr.len]) (rcl_cells hr ad rfl) (rcl_one ys) (by unfold maxLen; omega) (by omega) hbase
    exact ⟨v', w', hrun, by unfold Row; rw [rcl_app, List.length_append, ← hr.len]; exact h2, h3, h5⟩
theorem app_rows {w : World} {ops : Array Oper} {rest : List Oper} {o : Oper} {a : Act} {Q : Exit → Act → World → Prop} (hgd : o.guard = none) (s x : Operand)
    (ho : o.op = .call { callee := .builtin .append, args := #[s, x], argTypes := #[72, 72] })
    (base : Nat) (v : Value) (xs : List R3) (hs : a.eval s = v) (hown : Row w base v xs)
    (A : Option Addr) (m c : Nat) (ys : List R3) (hx : a.eval x = .slice A m c) (hr : Rt w.heap.size w A m c ys) (hb : xs.length + m ≤ 1000000) (hbase : base ≤ w.heap.size)
    (h : ∀ A' c' w', Row w' base (.slice A' (xs ++ ys).length c') (xs ++ ys) → Below base w w' → w.grownBy w' v.ownBlock → ((Value.slice A' (xs ++ ys).length c').ownBlock = v.ownBlock ∨ (Value.slice A' (xs ++ ys).length c').ownBlock = some w.heap.size) → wpList Tryz.prog ops Q rest (a.put o.dst (.slice A' (xs ++ ys).length c')) w') : wpList Tryz.prog ops Q (o :: rest) a w := by
  obtain ⟨v', w', hrun, h1, h2, h3⟩ := run_approws o.type base v xs hown A m c ys hr hb hbase
  obtain ⟨A', c', rfl⟩ := h1.form
  refine wpList_plain hgd fun K hK => ?_
  unfold Oper.wp execOp
  simp only [ho, resolve, invoke, builtin, Sem.run_bind, Sem.run_pure, Result.andThen_ok, List.map_toArray, List.map_cons, List.map_nil, hs, hx, hrun]
  exact hK _ _ (h A' c' w' h1 (Below.grown (Below.refl _ _) h2 hbase (fun k hk => (hown.lt k hk).1)) h2 h3)
/-- One row, in a block of its own. -/
theorem Rt.one (w : World) (x y z : Int) : Rt (w.alloc (.cells #[.int .i64 x, .int .i64 y, .int .i64 z] 89)).heap.size (w.alloc (.cells #[.int .i64 x, .int .i64 y, .int .i64 z] 89)) (some ⟨w.heap.size, 0, none⟩) 1 1 [(x, y, z)] := by
  refine ⟨rfl, Nat.le_refl _, by unfold maxLen; omega, fun h => (by cases h), fun _ => ⟨w.heap.size, 0, rfl, by simp, fun j hj => ?_⟩⟩
  obtain rfl : j = 0 := by omega
  exact ⟨by simp [World.cell?_alloc_new], by simp [World.cell?_alloc_new], by simp [World.cell?_alloc_new]⟩

theorem rowkind {w : World} {base : Nat} {e : TypeId} {size : Nat} {v : Value} {n : Nat} {xs : List Value} (h : w.ownsRow base e size v n xs) : ∀ g, v.ownBlock = some g → ∃ c fz, w.heap[g]? = some (.cells c e fz) := by
  intro g hg
  rcases h.2 with ⟨q, _⟩ | ⟨g0, c0, cur, q, _, hh, _⟩
  · rw [q] at hg; cases hg
  · have : g = g0 := by rw [q] at hg; simpa [Value.ownBlock] using hg.symm
    subst this; exact ⟨cur, _, hh⟩
/-- The document's table lies in block rb, its rows at a slice. -/
structure RT (w : World) (rb : Nat) (A : Option Addr) (c : Nat) (R : List R3) : Prop where
  box : w.heap[rb]? = some (.cells #[.slice A R.length c] 74 (0, 0))
  rows : Rt w.heap.size w A R.length c R
  kind : ∀ a, A = some a → ∃ cs fz, w.heap[a.block]? = some (.cells cs 89 fz)
  few : R.length ≤ 100000
  plain : ∀ a, A = some a → ∃ g off, a = ⟨g, off, none⟩
theorem RT.same {w w' : World} {rb : Nat} {A : Option Addr} {c : Nat} {R : List R3} (h : RT w rb A c R) (hs : w.heap.size ≤ w'.heap.size) (hb : w'.heap[rb]? = w.heap[rb]?) (ha : ∀ a, A = some a → w'.heap[a.block]? = w.heap[a.block]?) : RT w' rb A c R :=
  ⟨by rw [hb]; exact h.box, (h.rows.same fun g _ ⟨off, e⟩ => ha _ e).raise hs, fun a e => by rw [ha a e]; exact h.kind a e, h.few, h.plain⟩
theorem RT.turn {F F' : Nat → Prop} {w w' : World} {rb : Nat} {A : Option Addr} {c : Nat} {R : List R3} (h : RT w rb A c R) (ht : Turn F F' w w') (h1 : ¬ F rb) (h2 : ∀ a, A = some a → ¬ F a.block) : RT w' rb A c R :=
  h.same ht.size (ht.block rb (lt_of_heap h.box) h1) (fun a e => by obtain ⟨cs, fz, hk⟩ := h.kind a e; exact ht.block _ (lt_of_heap hk) (h2 a e))
theorem RT.later {w w' : World} {rb : Nat} {A : Option Addr} {c : Nat} {R : List R3} (h : RT w rb A c R) (hb : Below w.heap.size w w') : RT w' rb A c R :=
  h.turn (Turn.ofBelow hb (fun _ => False)) (fun x => x) (fun _ _ x => x)
theorem RT.cells {w : World} {rb : Nat} {A : Option Addr} {c : Nat} {R : List R3} (h : RT w rb A c R) : w.cell? ⟨rb, 0, none⟩ = some (.slice A R.length c) ∧ w.frozen? ⟨rb, 0, none⟩ = false ∧ rb < w.heap.size :=
  ⟨by rw [cell_of_row w rb 0 _ _ _ h.box]; rfl, frozen_of_row w rb 0 _ _ h.box, lt_of_heap h.box⟩
theorem RT.new (w : World) : RT (w.alloc (.cells #[.slice none 0 0] 74)) w.heap.size none 0 [] :=
  ⟨heap_alloc_new w _, Rt.nothing _ _, fun a e => (by cases e), Nat.zero_le _, fun a e => (by cases e)⟩
theorem take_snoc3 (M : List R3) (j : Nat) (h : j < M.length) : M.take (j + 1) = M.take j ++ [M.getD j (0, 0, 0)] := by
  rw [List.take_succ_eq_append_getElem h, List.getD_eq_getElem?_getD, List.getElem?_eq_getElem h]; rfl
theorem tkn_len (R : List R3) (x : Int) : (tkn R x).length ≤ R.length := by
  unfold tkn
  rw [List.length_map]
  exact List.length_filter_le _ _
set_option maxHeartbeats 2000000 in
/-- The windows of a cell are told. -/
theorem r6taken_any (rb : Nat) (A : Option Addr) (c : Nat) (R : List R3) (x : Int) (w : World) (h : RT w rb A c R) :
    Calls Tryz.prog 18 #[.pointer (some ⟨rb, 0, none⟩), .int .i64 x] w fun e w' => ∃ A' c', e = .returned (.slice A' (tkn R x).length c') ∧ Wow w' w.heap.size (.slice A' (tkn R x).length c') (tkn R x) ∧ Below w.heap.size w w' := by
  have HR := Lib.hid h
  have hfew := h.few
  have hs := h.rows.size
  have hs1 := hs.1
  have hs2 := hs.2
  clear h hs
  go_enter Tryz.func18, Tryz.ntmps18
  go_wp2_with fail
  go_loopw [5, 6] (fun ov iv wr => ∃ (j : Nat) (O : List (Int × Int)) (A' : Option Addr) (c' : Nat), ov = .slice A' O.length c' ∧ iv = .int .i64 (j : Int) ∧ j ≤ R.length ∧ Hid (O = tkn (R.take j) x) ∧ Wow wr w.heap.size (.slice A' O.length c') O ∧ Below w.heap.size w wr) (fun _ iv _ => R.length - (intOf iv).toNat)
  case atStart => exact ⟨0, [], none, 0, rfl, rfl, Nat.zero_le _, Lib.hid rfl, Wow.nil _ _, Below.refl _ _⟩
  case round =>
    rename World => wr
    obtain ⟨j, O, A', c', rfl, rfl, hj, HI, ho, hb⟩ := hrel
    have HO := Lib.hid ho
    have HB := Lib.hid hb
    have HRL := Lib.hid (HR.out.later hb)
    obtain ⟨q0, q1, q2⟩ := HRL.out.cells
    have hOl : O.length ≤ 100000 := by
      have h1 := tkn_len (R.take j) x
      rw [List.length_take] at h1
      rw [HI.out]
      omega
    have hOs := ho.wt.size
    have hO1 := hOs.1
    have hO2 := hOs.2
    clear ho hb hOs
    by_cases hlj : j < R.length
    · obtain ⟨g, off, rfl, hg, hc⟩ := HRL.out.rows.cell (by omega)
      obtain ⟨k1, k2, k3⟩ := hc j hlj
      have HTS := Lib.hid (take_snoc3 R j hlj)
      have hjI : (j : Int) < (R.length : Int) := by omega
      clear hc
      generalize hp : R.getD j (0, 0, 0) = p at *
      obtain ⟨py, pa, pb⟩ := p
      clear hp
      simp only at k1 k2 k3
      by_cases he : py = x
      · have de : (py == x) = true := by rw [beq_iff_eq]; exact he
        have HN : Hid (O ++ [(pa, pb)] = tkn (R.take (j + 1)) x) := Lib.hid (by rw [HTS.out, tkn_app, ← HI.out]; simp [tkn, he])
        have HA5 := Lib.hid ((Below.refl wr.heap.size wr).alloc (Nat.le_refl _) (.cells #[.int .i64 pa, .int .i64 pb] 52))
        have HW5 := Lib.hid (Wt.one wr pa pb)
        have HS5 : Hid (w.heap.size ≤ (wr.alloc (.cells #[.int .i64 pa, .int .i64 pb] 52)).heap.size) := Lib.hid (Nat.le_trans HB.out.size HA5.out.size)
        clear he
        go_wp2_with (at_builtin; refine app_wins rfl _ _ rfl w.heap.size _ O rfl (HO.out.later HA5.out) (some ⟨wr.heap.size, 0, none⟩) 1 1 [(pa, pb)] rfl HW5.out (by omega) HS5.out ?_; intro A6 c6 w6 ho6 hb6 _ _; have HO6 := Lib.hid ho6; have HB6 := Lib.hid ((HB.out.trans (HA5.out.mono HB.out.size)).trans hb6); clear ho6 hb6)
        go_roundw
        case rel => exact ⟨j + 1, O ++ [(pa, pb)], A6, c6, by simp, by go_num, by omega, HN, HO6.out, HB6.out⟩
        case measure => simp [intOf]; omega
      · have de : (py == x) = false := by rw [beq_eq_false_iff_ne]; exact he
        have HN : Hid (O = tkn (R.take (j + 1)) x) := Lib.hid (by rw [HTS.out, tkn_app, ← HI.out]; simp [tkn, he])
        clear he
        go_wp2_with fail
        go_roundw
        case rel => exact ⟨j + 1, O, A', c', rfl, by go_num, by omega, HN, HO.out, HB.out⟩
        case measure => simp [intOf]; omega
    · obtain rfl : j = R.length := by omega
      have HE : Hid (O = tkn R x) := Lib.hid (by rw [HI.out, List.take_length])
      go_wp2_with fail
      go_ret
      refine ⟨A', c', by rw [HE.out]; rfl, ?_, HB.out⟩
      have := HO.out
      rw [HE.out] at this
      exact this
set_option maxHeartbeats 1000000 in
theorem r6right_any (a b : Int) (w : World) : Calls Tryz.prog 49 #[.agg #[.int .i64 a, .int .i64 b]] w fun e w' => e = .returned (.bool (rgt a b)) ∧ Below w.heap.size w w' := by
  obtain ⟨b0, b1, hb⟩ := win_box w a b
  have HB := Lib.hid hb
  clear hb
  unfold rgt
  by_cases h0 : 0 ≤ a
  · have d0 : decide (0 ≤ a) = true := decide_eq_true h0
    by_cases h1 : a < b
    · have d1 : decide (a < b) = true := decide_eq_true h1
      rw [d0, d1]
      go_enter Tryz.func49, Tryz.ntmps49
      go_wp2_with fail
      go_ret
      exact ⟨by first | rfl | simp, HB.out⟩
    · have d1 : decide (a < b) = false := decide_eq_false h1
      rw [d0, d1]
      go_enter Tryz.func49, Tryz.ntmps49
      go_wp2_with fail
      go_ret
      exact ⟨by first | rfl | simp, HB.out⟩
  · have d0 : decide (0 ≤ a) = false := decide_eq_false h0
    rw [d0]
    go_enter Tryz.func49, Tryz.ntmps49
    go_wp2_with fail
    go_ret
    exact ⟨by first | rfl | simp, HB.out⟩
end Go.Proofs.YtcdclghmebgpnaaGreatDoor.Wn
end

section
namespace Go.Proofs.YtcdclghmebgpnaaGreatDoor.Wn
open Go.RowKit Go.Maps

set_option maxHeartbeats 2000000 in
theorem r6is_any (rb : Nat) (A : Option Addr) (c : Nat) (R : List R3) (x m : Int) (w : World) (h : RT w rb A c R) (hO : Ordw 0 (tkn R x)) :
    Calls Tryz.prog 57 #[.pointer (some ⟨rb, 0, none⟩), .int .i64 x, .int .i64 m] w fun e w' => e = .returned (.bool (isT (tkn R x) m)) ∧ Below w.heap.size w w' := by
  have HT := Lib.hid (r6taken_any rb A c R x w h)
  have hsm : (tkn R x).length ≤ 100000 := Nat.le_trans (tkn_len R x) h.few
  have HIS := Lib.hid (isT_in (m := m) hO)
  clear h hO
  generalize tkn R x = L at *
  go_enter Tryz.func57, Tryz.ntmps57
  go_wp2_with fail
  refine HT.out.mono ?_
  rintro e w1 ⟨A1, c1, rfl, ho, hb⟩
  have HO := Lib.hid ho.wt
  have HB := Lib.hid hb
  have hs := ho.wt.size
  have hs1 := hs.1
  have hs2 := hs.2
  clear ho hb hs
  go_wp2_with fail
  go_loopw [8] (fun iv wr => ∃ j : Nat, iv = .int .i64 (j : Int) ∧ j ≤ L.length ∧ Hid (inW m (L.take j) = false) ∧ Below w1.heap.size w1 wr) (fun iv _ => L.length - (intOf iv).toNat)
  case atStart => exact ⟨0, rfl, Nat.zero_le _, Lib.hid rfl, Below.refl _ _⟩
  case round =>
    rename World => wr
    obtain ⟨j, rfl, hj, HI, hb⟩ := hrel
    have HBR := Lib.hid hb
    clear hb
    by_cases hlj : j < L.length
    · obtain ⟨g, off, rfl, _, hc⟩ := (HO.out.later HBR.out).cell (by omega)
      obtain ⟨k1, k2⟩ := hc j hlj
      have HTS := Lib.hid (take_snoc L j hlj)
      have hjI : (j : Int) < (L.length : Int) := by omega
      have HMEM : Hid (L.getD j (0, 0) ∈ L) := Lib.hid (by
        rw [List.getD_eq_getElem?_getD, List.getElem?_eq_getElem hlj]
        exact List.getElem_mem hlj)
      clear hc
      generalize hp : L.getD j (0, 0) = p at *
      obtain ⟨px, py⟩ := p
      clear hp
      simp only at k1 k2
      by_cases h1 : px ≤ m
      · have d1 : decide (px ≤ m) = true := decide_eq_true h1
        by_cases h2 : m < py
        · have HR : Hid (isT L m = false) := Lib.hid (by
            have : inW m L = true := by
              unfold inW
              exact List.any_eq_true.2 ⟨(px, py), HMEM.out, by simp [h1, h2]⟩
            rw [HIS.out, this]; simp)
          have d2 : decide (m < py) = true := decide_eq_true h2
          go_wp2_with fail
          go_ret
          exact ⟨by rw [HR.out]; rfl, HB.out.trans (HBR.out.mono HB.out.size)⟩
        · have HR : Hid (inW m (L.take (j + 1)) = false) := Lib.hid (by
            have := HI.out
            unfold inW at this ⊢
            rw [HTS.out, List.any_append, this]
            simp [h2])
          have d2 : decide (m < py) = false := decide_eq_false h2
          go_wp2_with fail
          go_roundw
          case rel => exact ⟨j + 1, by go_num, by omega, HR, HBR.out⟩
          case measure => simp [intOf]; omega
      · have HR : Hid (inW m (L.take (j + 1)) = false) := Lib.hid (by
          have := HI.out
          unfold inW at this ⊢
          rw [HTS.out, List.any_append, this]
          simp [h1])
        have d1 : decide (px ≤ m) = false := decide_eq_false h1
        go_wp2_with fail
        go_roundw
        case rel => exact ⟨j + 1, by go_num, by omega, HR, HBR.out⟩
        case measure => simp [intOf]; omega
    · obtain rfl : j = L.length := by omega
      have HR : Hid (isT L m = (decide (0 ≤ m) && decide (m < 1048576))) := Lib.hid (by
        have := HI.out
        rw [List.take_length] at this
        rw [HIS.out, this]; simp)
      by_cases h0 : 0 ≤ m
      · have d0 : decide (0 ≤ m) = true := decide_eq_true h0
        go_wp2_with fail
        go_ret
        exact ⟨by rw [HR.out, d0, Bool.true_and]; rfl, HB.out.trans (HBR.out.mono HB.out.size)⟩
      · have d0 : decide (0 ≤ m) = false := decide_eq_false h0
        go_wp2_with fail
        go_ret
        exact ⟨by rw [HR.out, d0, Bool.false_and]; rfl, HB.out.trans (HBR.out.mono HB.out.size)⟩
theorem frees_end (L : List (Int × Int)) : frees L = gaps 0 L ++ if lastTo 0 L < 1048576 then [(lastTo 0 L, 1048576)] else [] := gaps_snoc (1048576, 0) L 0
end Go.Proofs.YtcdclghmebgpnaaGreatDoor.Wn
end

section
namespace Go.Proofs.YtcdclghmebgpnaaGreatDoor.Wn
open Go.RowKit Go.Maps

theorem tw_take {α : Type} (p : α → Bool) (d : α) : ∀ (R : List α) (k : Nat), k ≤ R.length → (∀ i, i < k → p (R.getD i d) = true) → (k < R.length → p (R.getD k d) = false) → R.takeWhile p = R.take k ∧ R.dropWhile p = R.drop k
  | [], k, h, _, _ => by simp at h; subst h; exact ⟨rfl, rfl⟩
  | x :: R, 0, _, _, h2 => by
    have := h2 (by simp)
    have h3 : p x = false := by simpa using this
    simp [h3]
  | x :: R, k + 1, h, h1, h2 => by
    have h0 : p x = true := by simpa using h1 0 (by omega)
    have ih := tw_take p d R k (by simpa using h) (fun i hi => by simpa using h1 (i + 1) (by omega)) (fun hk => by simpa using h2 (by simpa using hk))
    simp [h0, ih.1, ih.2]
/-- Behind the store of the new rows. -/
theorem rt_end {w wq wD : World} {rb c : Nat} {A : Option Addr} {R R3' : List R3} {v3 : Value} (hbw : Below w.heap.size w wq) (hR : RT wq rb A c R) (hrb : rb < w.heap.size) (ho : Row wD wq.heap.size v3 R3') (hb : Below wq.heap.size wq wD) (hl : R3'.length ≤ 100000) :
    ∃ A' c', RT (wD.setCell ⟨rb, 0, none⟩ v3) rb A' c' R3' ∧ Turn (fun k => k = rb) (fun k => k = rb) w (wD.setCell ⟨rb, 0, none⟩ v3) := by
  obtain ⟨A', cap', rfl⟩ := ho.form
  have hsz := hbw.size
  have hbox : wD.heap[rb]? = some (.cells #[.slice A R.length c] 74 (0, 0)) := by rw [hb.block rb (by omega)]; exact hR.box
  have ho2 : Row (wD.setCell ⟨rb, 0, none⟩ (.slice A' R3'.length cap')) wq.heap.size (.slice A' R3'.length cap') R3' := ownsRow_setCell_below ho (a := ⟨rb, 0, none⟩) (by show rb < _; omega) _
  refine ⟨A', cap', ⟨?_, ho2.rt, fun a e => ?_, hl, fun a e => ?_⟩, ?_⟩
  · rw [heap_setCell_same _ rb 0 _ _ _ hbox]; simp
  · exact rowkind ho2 a.block (by rw [e]; rfl)
  · subst e
    rcases ho.2 with ⟨q, _⟩ | ⟨g0, c0, cur, q, _⟩
    · injection q with q; cases q
    · injection q with q; injection q with q; exact ⟨g0, 0, q⟩
  · exact ((Turn.ofBelow hbw (fun k => k = rb)).trans (Turn.ofBelow (hb.mono (Nat.le_refl _)) (fun k => k = rb))).put _ rfl
def TakeTold (rb : Nat) (R : List R3) (q : Int × List R3) (w : World) (e : Ending) (w' : World) : Prop :=
  e = .returned (.int .i64 q.1) ∧ ∃ A' c', RT w' rb A' c' q.2 ∧ Turn (fun k => k = rb) (fun k => k = rb) w w'
theorem TakeTold.same {rb : Nat} {R : List R3} {A : Option Addr} {c : Nat} {n : Int} {w w' : World} {e : Ending} (h : RT w rb A c R) (he : e = .returned (.int .i64 n)) (hb : Below w.heap.size w w') : TakeTold rb R (n, R) w e w' :=
  ⟨he, A, c, h.later hb, Turn.ofBelow hb _⟩
set_option maxHeartbeats 4000000 in
theorem r6take_any (rb : Nat) (A : Option Addr) (c : Nat) (R : List R3) (x a b : Int) (w : World) (h : RT w rb A c R) (hfew : R.length < 100000) :
    Calls Tryz.prog 25 #[.pointer (some ⟨rb, 0, none⟩), .int .i64 x, .agg #[.int .i64 a, .int .i64 b]] w (TakeTold rb R (rtk R x a b) w) := by
  obtain ⟨b0, b1, hb⟩ := win_box w a b
  have HB := Lib.hid hb
  have HR := Lib.hid h
  have HC := Lib.hid (r6right_any a b (w.alloc (.cells #[.int .i64 a, .int .i64 b] 52)))
  have hrb := h.cells.2.2
  have hsm : (tkn R x).length ≤ 100000 := Nat.le_trans (tkn_len R x) h.few
  have hbl : w.heap.size < (w.alloc (.cells #[.int .i64 a, .int .i64 b] 52)).heap.size := by rw [alloc_size]; omega
  clear hb h
  cases hr : rgt a b with
  | false =>
    have e : rtk R x a b = (1, R) := by simp [rtk, hr]
    rw [e]
    rw [hr] at HC
    clear hr e
    go_enter Tryz.func25, Tryz.ntmps25
    go_wp2_with fail
    refine HC.out.mono ?_
    rintro e w1 ⟨rfl, hb1⟩
    have HB1 := Lib.hid (HB.out.trans (hb1.mono HB.out.size))
    clear hb1
    go_wp2_with fail
    go_ret
    exact TakeTold.same HR.out rfl HB1.out
  | true =>
    have HRG := Lib.hid hr
    rw [hr] at HC
    clear hr
    have HTKN := Lib.hid (fun wx h => r6taken_any rb A c R x wx h)
    obtain ⟨L, hL⟩ : ∃ L, L = tkn R x := ⟨_, rfl⟩
    rw [← hL] at HTKN hsm
    have HL := Lib.hid hL
    clear hL
    go_enter Tryz.func25, Tryz.ntmps25
    go_wp2_with fail
    refine HC.out.mono ?_
    rintro e w1 ⟨rfl, hb1⟩
    have b10 := (hb1.cell (p := ⟨w.heap.size, 0, none⟩) hbl).trans b0
    have b11 := (hb1.cell (p := ⟨w.heap.size, 1, none⟩) hbl).trans b1
    have hl1 := Nat.lt_of_lt_of_le hbl hb1.size
    have HB1 := Lib.hid (HB.out.trans (hb1.mono HB.out.size))
    clear hb1 b0 b1
    go_wp2_with fail
    refine (HTKN.out _ (HR.out.later HB1.out)).mono ?_
    rintro e w2 ⟨A2, c2, rfl, ho, hb2⟩
    have b20 := (hb2.cell (p := ⟨w.heap.size, 0, none⟩) hl1).trans b10
    have b21 := (hb2.cell (p := ⟨w.heap.size, 1, none⟩) hl1).trans b11
    have hl2 := Nat.lt_of_lt_of_le hl1 hb2.size
    have HO := Lib.hid ho.wt
    have HB2 := Lib.hid (HB1.out.trans (hb2.mono HB1.out.size))
    have hs := ho.wt.size
    have hs1 := hs.1
    have hs2 := hs.2
    clear ho hb2 hs b10 b11
    go_wp2_with fail
    go_loopw [8] (fun iv wr => ∃ j : Nat, iv = .int .i64 (j : Int) ∧ j ≤ L.length ∧ Hid (meets (L.take j) a b = false) ∧ Below w2.heap.size w2 wr) (fun iv _ => L.length - (intOf iv).toNat)
    case atStart => exact ⟨0, rfl, Nat.zero_le _, Lib.hid rfl, Below.refl _ _⟩
    case round =>
      rename World => wr
      obtain ⟨j, rfl, hj, HI, hb⟩ := hrel
      have HBR := Lib.hid hb
      have r0 := (hb.cell (p := ⟨w.heap.size, 0, none⟩) hl2).trans b20
      have r1 := (hb.cell (p := ⟨w.heap.size, 1, none⟩) hl2).trans b21
      have hlr := Nat.lt_of_lt_of_le hl2 hb.size
      clear hb
      by_cases hlj : j < L.length
      · obtain ⟨g, off, rfl, _, hc⟩ := (HO.out.later HBR.out).cell (by omega)
        obtain ⟨k1, k2⟩ := hc j hlj
        have HTS := Lib.hid (take_snoc L j hlj)
        have hjI : (j : Int) < (L.length : Int) := by omega
        have HMEM : Hid (L.getD j (0, 0) ∈ L) := Lib.hid (by
          rw [List.getD_eq_getElem?_getD, List.getElem?_eq_getElem hlj]
          exact List.getElem_mem hlj)
        clear hc
        generalize hp : L.getD j (0, 0) = p at *
        obtain ⟨px, py⟩ := p
        clear hp
        simp only at k1 k2
        by_cases h1 : px < b
        · have d1 : decide (px < b) = true := decide_eq_true h1
          by_cases h2 : a < py
          · have d2 : decide (a < py) = true := decide_eq_true h2
            have HRR : Hid (rtk R x a b = (3, R)) := Lib.hid (by
              have : meets L a b = true := by
                unfold meets
                exact List.any_eq_true.2 ⟨(px, py), HMEM.out, by simp [h1, h2]⟩
              unfold rtk
              rw [HRG.out, ← HL.out, this]; simp)
            go_wp2_with fail
            go_big_quiet (fail)
            go_wp2_with fail
            go_ret
            rw [HRR.out]
            exact TakeTold.same HR.out rfl ((HB2.out.trans (HBR.out.mono HB2.out.size)).trans (below_drewN _ _ _))
          · have d2 : decide (a < py) = false := decide_eq_false h2
            have HRR : Hid (meets (L.take (j + 1)) a b = false) := Lib.hid (by
              have := HI.out
              unfold meets at this ⊢
              rw [HTS.out, List.any_append, this]
              simp [h2])
            go_wp2_with fail
            go_big_quiet (fail)
            go_wp2_with fail
            go_roundw
            case rel => exact ⟨j + 1, by go_num, by omega, HRR, HBR.out.trans (below_drewN _ _ _)⟩
            case measure => simp [intOf]; omega
        · have d1 : decide (px < b) = false := decide_eq_false h1
          have HRR : Hid (meets (L.take (j + 1)) a b = false) := Lib.hid (by
            have := HI.out
            unfold meets at this ⊢
            rw [HTS.out, List.any_append, this]
            simp [h1])
          go_wp2_with fail
          go_big_quiet (fail)
          go_wp2_with fail
          go_roundw
          case rel => exact ⟨j + 1, by go_num, by omega, HRR, HBR.out.trans (below_drewN _ _ _)⟩
          case measure => simp [intOf]; omega
      · obtain rfl : j = L.length := by omega
        have HM : Hid (meets L a b = false) := Lib.hid (by have := HI.out; rw [List.take_length] at this; exact this)
        have HB3 := Lib.hid (HB2.out.trans (HBR.out.mono HB2.out.size))
        by_cases hlong : 4096 ≤ L.length
        · have dl : decide ((4096 : Int) ≤ (L.length : Int)) = true := decide_eq_true (by omega)
          have HRR : Hid (rtk R x a b = (4, R)) := Lib.hid (by
            unfold rtk
            rw [HRG.out, ← HL.out, HM.out]; simp [hlong])
          go_wp2_with fail
          go_ret
          rw [HRR.out]
          exact TakeTold.same HR.out rfl HB3.out
        · have dl : decide ((4096 : Int) ≤ (L.length : Int)) = false := decide_eq_false (by omega)
          have HRR : Hid (rtk R x a b = (0, rins R x a b)) := Lib.hid (by
            unfold rtk
            rw [HRG.out, ← HL.out, HM.out]; simp [hlong])
          go_wp2_with fail
          go_loopw [9] (fun kv wz => ∃ k : Nat, kv = .int .i64 (k : Int) ∧ k ≤ R.length ∧ Hid (∀ i, i < k → pst x a (R.getD i (0, 0, 0)) = true) ∧ Below wr.heap.size wr wz) (fun kv _ => R.length - (intOf kv).toNat)
          case atStart => exact ⟨0, rfl, Nat.zero_le _, Lib.hid (fun i hi => by omega), Below.refl _ _⟩
          case round =>
            rename World => wz
            obtain ⟨k, rfl, hk, HP, hbz⟩ := hrel
            have HBZ := Lib.hid hbz
            have z0 := (hbz.cell (p := ⟨w.heap.size, 0, none⟩) hlr).trans r0
            have z1 := (hbz.cell (p := ⟨w.heap.size, 1, none⟩) hlr).trans r1
            have hRz := HR.out.later (HB3.out.trans (hbz.mono HB3.out.size))
            obtain ⟨y0, y1, y2⟩ := hRz.cells
            have HRZ := Lib.hid hRz
            clear hbz hRz
            by_cases hlk : k < R.length
            · obtain ⟨g, off, rfl, hg, hc⟩ := HRZ.out.rows.cell (by omega)
              obtain ⟨e0, e1, e2⟩ := hc k hlk
              have hkI : (k : Int) < (R.length : Int) := by omega
              have HPN := Lib.hid (fun (h : pst x a (R.getD k (0, 0, 0)) = true) => (show ∀ i, i < k + 1 → pst x a (R.getD i (0, 0, 0)) = true from fun i hi => by
                rcases (by omega : i < k ∨ i = k) with q | q
                · exact HP.out i q
                · rw [q]; exact h))
              have HPS := Lib.hid (fun (h : pst x a (R.getD k (0, 0, 0)) = false) => tw_take (pst x a) (0, 0, 0) R k hk HP.out (fun _ => h))
              clear hc
              generalize hp : R.getD k (0, 0, 0) = p at *
              obtain ⟨py, pa, pb⟩ := p
              clear hp
              simp only at e0 e1 e2
              by_cases h1 : py = x
              · by_cases h2 : pa < a
                · have HPP := Lib.hid (HPN.out (by simp [pst, h2]))
                  have d1 : (py == x) = true := by rw [beq_iff_eq]; exact h1
                  have d2 : decide (pa < a) = true := decide_eq_true h2
                  go_wp2_with fail
                  go_big_quiet (fail)
                  go_wp2_with fail
                  go_roundw
                  case rel => exact ⟨k + 1, by go_num, by omega, HPP, HBZ.out.trans (below_drewN _ _ _)⟩
                  case measure => simp [intOf]; omega
                · have HPP := Lib.hid (HPS.out (by simp [pst, h1, h2]))
                  have d1 : (py == x) = true := by rw [beq_iff_eq]; exact h1
                  have d2 : decide (pa < a) = false := decide_eq_false h2
                  go_wp2_with fail
                  go_big_quiet (fail)
                  obtain ⟨wq, hwq⟩ : ∃ wq, wq = wz.drewN nq := ⟨_, rfl⟩
                  have HBQ : Hid (Below wr.heap.size wr wq) := Lib.hid (by rw [hwq]; exact HBZ.out.trans (below_drewN _ _ _))
                  have HB4 := Lib.hid (HB3.out.trans (HBQ.out.mono HB3.out.size))
                  have HK : Hid (k ≤ R.length) := Lib.hid hk
                  rw [← hwq]
                  clear hwq y0 y1 y2 z0 z1 e0 e1 e2
                  have hBw := HB4.out
                  have hR := HR.out.later hBw
                  have x0 := (HBQ.out.cell (p := ⟨w.heap.size, 0, none⟩) hlr).trans r0
                  have x1 := (HBQ.out.cell (p := ⟨w.heap.size, 1, none⟩) hlr).trans r1
                  obtain ⟨c0, f0, hrbq⟩ := hR.cells
                  have hXq : w.heap.size < wq.heap.size := Nat.lt_of_lt_of_le hlr HBQ.out.size
                  have HRQ := Lib.hid hR
                  have HE0 := Lib.hid (Row.empty wq wq.heap.size (Nat.le_refl _))
                  have HBA : Hid (Below wq.heap.size wq (wq.alloc (.cells #[] 89))) := Lib.hid ((Below.refl _ wq).alloc (Nat.le_refl _) _)
                  have HIA := Lib.hid ((HRQ.out.rows.below HBA.out).raise (B' := (wq.alloc (.cells #[] 89)).heap.size) (by simp))
                  have hcap := hR.rows.size
                  have hcap1 := hcap.1
                  have hcap2 := hcap.2
                  have hcapk : (k : Int) ≤ (c : Int) := by omega
                  clear hBw hR hcap
                  go_upto_region 15 with (at_builtin; refine app_rows rfl _ _ rfl wq.heap.size _ [] rfl HE0.out _ _ _ (R.take k) rfl (HIA.out.take k HK.out) (by first | omega | (simp only [List.length_nil]; omega) | simp) (by simp) ?_; intro A1 c1 wB o1 b1 _ _; obtain ⟨P1, hP1⟩ : ∃ P1, P1 = [] ++ R.take k := ⟨_, rfl⟩; rw [← hP1] at o1 ⊢; have HP1 := Lib.hid (hP1.trans (List.nil_append _)); have HO1 := Lib.hid o1; have HBB := Lib.hid (HBA.out.trans b1); clear o1 b1 hP1)
                  have y0 := (HBB.out.cell (p := ⟨w.heap.size, 0, none⟩) hXq).trans x0
                  have y1 := (HBB.out.cell (p := ⟨w.heap.size, 1, none⟩) hXq).trans x1
                  have hszB := HBB.out.size
                  have HO2 := Lib.hid (HO1.out.later ((Below.refl _ wB).alloc (Nat.le_refl _) (.cells #[.int .i64 x, .int .i64 a, .int .i64 b] 89)))
                  have HI2 := Lib.hid (Rt.one wB x a b)
                  have htl : P1.length ≤ 100000 := by rw [HP1.out, List.length_take]; omega
                  clear x0 x1 HO1
                  go_upto_region 16 with (at_builtin; refine app_rows rfl _ _ rfl wq.heap.size _ _ rfl HO2.out _ _ _ [(x, a, b)] rfl HI2.out (by omega) (by rw [alloc_size]; omega) ?_; intro A2' c2' wC o2 b2 _ _; obtain ⟨P2, hP2⟩ : ∃ P2, P2 = P1 ++ [(x, a, b)] := ⟨_, rfl⟩; rw [← hP2] at o2 ⊢; have HP2 := Lib.hid hP2; have HO3 := Lib.hid o2; have HBC := Lib.hid ((HBB.out.alloc hszB _).trans b2); clear o2 b2 hP2)
                  have z0 := (HBC.out.cell (p := ⟨rb, 0, none⟩) hrbq).trans c0
                  have z1 := (HBC.out.frozen (p := ⟨rb, 0, none⟩) hrbq).trans f0
                  have HI3 := Lib.hid ((HRQ.out.rows.below HBC.out).raise HBC.out.size)
                  have htl2 : P2.length ≤ 100001 := by rw [HP2.out]; simp only [List.length_append, List.length_cons, List.length_nil]; omega
                  have hdl : (R.drop k).length ≤ 100000 := by rw [List.length_drop]; omega
                  clear y0 y1 HO2 HI2
                  go_wp2_with (at_builtin; refine app_rows rfl _ _ rfl wq.heap.size _ _ rfl HO3.out _ _ _ (R.drop k) rfl (HI3.out.drop k HK.out) (by omega) HBC.out.size ?_; intro A3 c3 wD o3 b3 _ _; obtain ⟨P3, hP3⟩ : ∃ P3, P3 = P2 ++ R.drop k := ⟨_, rfl⟩; rw [← hP3] at o3 ⊢; have HP3 := Lib.hid hP3; have HO4 := Lib.hid o3; have HBD := Lib.hid (HBC.out.trans b3); have s0 := (b3.cell (p := ⟨rb, 0, none⟩) hrbq).trans z0; have s1 := (b3.frozen (p := ⟨rb, 0, none⟩) hrbq).trans z1; clear o3 b3 hP3)
                  go_ret
                  have hins : P3 = rins R x a b := by
                    unfold rins
                    rw [HP3.out, HP2.out, HP1.out]
                    rw [HPP.out.1, HPP.out.2, List.append_assoc]; rfl
                  rw [HRR.out, ← hins]
                  refine ⟨rfl, ?_⟩
                  have hend := rt_end HB4.out HRQ.out hrb HO4.out HBD.out (by rw [HP3.out, HP2.out, HP1.out]; simp only [List.length_append, List.length_take, List.length_drop, List.length_cons, List.length_nil]; omega)
                  exact hend
              · have HPP := Lib.hid (HPN.out (by simp [pst, h1]))
                have d1 : (py == x) = false := by rw [beq_eq_false_iff_ne]; exact h1
                have d3 : (py != x) = true := by rw [bne, d1]; rfl
                have d4 : decide (py = x) = false := decide_eq_false h1
                go_wp2_with fail
                go_big_quiet (fail)
                go_wp2_with fail
                go_roundw
                case rel => exact ⟨k + 1, by go_num, by omega, HPP, HBZ.out.trans (below_drewN _ _ _)⟩
                case measure => simp [intOf]; omega
            · obtain rfl : k = R.length := by omega
              have HPP := Lib.hid (tw_take (pst x a) (0, 0, 0) R R.length hk HP.out (fun h => absurd h (Nat.lt_irrefl _)))
              have hnn : ¬ ((R.length : Int) < (R.length : Int)) := by omega
              cases A with
              | none =>
                obtain rfl : c = 0 := HR.out.rows.nil rfl
                have hn0 : R = [] := List.eq_nil_of_length_eq_zero (by have := HR.out.rows.le; omega)
                subst hn0
                go_wp2_with fail
                go_big_quiet (fail)
                obtain ⟨wq, hwq⟩ : ∃ wq, wq = wz.drewN nq := ⟨_, rfl⟩
                have HBQ : Hid (Below wr.heap.size wr wq) := Lib.hid (by rw [hwq]; exact HBZ.out.trans (below_drewN _ _ _))
                have HB4 := Lib.hid (HB3.out.trans (HBQ.out.mono HB3.out.size))
                have HK : Hid (0 ≤ ([] : List R3).length) := Lib.hid (by simp)
                rw [← hwq]
                clear hwq y0 y1 y2 z0 z1
                have hBw := HB4.out
                have hR := HR.out.later hBw
                have x0 := (HBQ.out.cell (p := ⟨w.heap.size, 0, none⟩) hlr).trans r0
                have x1 := (HBQ.out.cell (p := ⟨w.heap.size, 1, none⟩) hlr).trans r1
                obtain ⟨c0, f0, hrbq⟩ := hR.cells
                have hXq : w.heap.size < wq.heap.size := Nat.lt_of_lt_of_le hlr HBQ.out.size
                have HRQ := Lib.hid hR
                have HE0 := Lib.hid (Row.empty wq wq.heap.size (Nat.le_refl _))
                have HBA : Hid (Below wq.heap.size wq (wq.alloc (.cells #[] 89))) := Lib.hid ((Below.refl _ wq).alloc (Nat.le_refl _) _)
                have HIA := Lib.hid ((HRQ.out.rows.below HBA.out).raise (B' := (wq.alloc (.cells #[] 89)).heap.size) (by simp))
                have hcap := hR.rows.size
                have hcap1 := hcap.1
                have hcap2 := hcap.2
                have hcapk : (0 : Int) ≤ ((0 : Nat) : Int) := by omega
                clear hBw hR hcap
                go_upto_region 15 with (at_builtin; refine app_rows rfl _ _ rfl wq.heap.size _ [] rfl HE0.out _ _ _ (([] : List R3).take 0) rfl (Rt.zero (by rfl) (by first | rfl | omega) (fun _ => rfl) (by unfold maxLen; omega)) (by first | omega | (simp only [List.length_nil]; omega) | simp) (by simp) ?_; intro A1 c1 wB o1 b1 _ _; obtain ⟨P1, hP1⟩ : ∃ P1, P1 = [] ++ ([] : List R3).take 0 := ⟨_, rfl⟩; rw [← hP1] at o1 ⊢; have HP1 := Lib.hid (hP1.trans (List.nil_append _)); have HO1 := Lib.hid o1; have HBB := Lib.hid (HBA.out.trans b1); clear o1 b1 hP1)
                have y0 := (HBB.out.cell (p := ⟨w.heap.size, 0, none⟩) hXq).trans x0
                have y1 := (HBB.out.cell (p := ⟨w.heap.size, 1, none⟩) hXq).trans x1
                have hszB := HBB.out.size
                have HO2 := Lib.hid (HO1.out.later ((Below.refl _ wB).alloc (Nat.le_refl _) (.cells #[.int .i64 x, .int .i64 a, .int .i64 b] 89)))
                have HI2 := Lib.hid (Rt.one wB x a b)
                have htl : P1.length ≤ 100000 := by rw [HP1.out, List.length_take]; omega
                clear x0 x1 HO1
                go_upto_region 16 with (at_builtin; refine app_rows rfl _ _ rfl wq.heap.size _ _ rfl HO2.out _ _ _ [(x, a, b)] rfl HI2.out (by omega) (by rw [alloc_size]; omega) ?_; intro A2' c2' wC o2 b2 _ _; obtain ⟨P2, hP2⟩ : ∃ P2, P2 = P1 ++ [(x, a, b)] := ⟨_, rfl⟩; rw [← hP2] at o2 ⊢; have HP2 := Lib.hid hP2; have HO3 := Lib.hid o2; have HBC := Lib.hid ((HBB.out.alloc hszB _).trans b2); clear o2 b2 hP2)
                have z0 := (HBC.out.cell (p := ⟨rb, 0, none⟩) hrbq).trans c0
                have z1 := (HBC.out.frozen (p := ⟨rb, 0, none⟩) hrbq).trans f0
                have HI3 := Lib.hid ((HRQ.out.rows.below HBC.out).raise HBC.out.size)
                have htl2 : P2.length ≤ 100001 := by rw [HP2.out]; simp only [List.length_append, List.length_cons, List.length_nil]; omega
                have hdl : (([] : List R3).drop 0).length ≤ 100000 := by rw [List.length_drop]; omega
                clear y0 y1 HO2 HI2
                go_wp2_with (at_builtin; refine app_rows rfl _ _ rfl wq.heap.size _ _ rfl HO3.out _ _ _ (([] : List R3).drop 0) rfl (Rt.zero (by simp) (by simp) (by simp) (by simp [maxLen])) (by omega) HBC.out.size ?_; intro A3 c3 wD o3 b3 _ _; obtain ⟨P3, hP3⟩ : ∃ P3, P3 = P2 ++ ([] : List R3).drop 0 := ⟨_, rfl⟩; rw [← hP3] at o3 ⊢; have HP3 := Lib.hid hP3; have HO4 := Lib.hid o3; have HBD := Lib.hid (HBC.out.trans b3); have s0 := (b3.cell (p := ⟨rb, 0, none⟩) hrbq).trans z0; have s1 := (b3.frozen (p := ⟨rb, 0, none⟩) hrbq).trans z1; clear o3 b3 hP3)
                go_ret
                have hins : P3 = rins [] x a b := by
                  unfold rins
                  rw [HP3.out, HP2.out, HP1.out]
                  rw [HPP.out.1, HPP.out.2, List.append_assoc]; rfl
                rw [HRR.out, ← hins]
                refine ⟨rfl, ?_⟩
                have hend := rt_end HB4.out HRQ.out hrb HO4.out HBD.out (by rw [HP3.out, HP2.out, HP1.out]; simp only [List.length_append, List.length_take, List.length_drop, List.length_cons, List.length_nil]; omega)
                exact hend
              | some ad =>
                obtain ⟨g, off, rfl⟩ := HR.out.plain ad rfl
                go_wp2_with fail
                go_big_quiet (fail)
                obtain ⟨wq, hwq⟩ : ∃ wq, wq = wz.drewN nq := ⟨_, rfl⟩
                have HBQ : Hid (Below wr.heap.size wr wq) := Lib.hid (by rw [hwq]; exact HBZ.out.trans (below_drewN _ _ _))
                have HB4 := Lib.hid (HB3.out.trans (HBQ.out.mono HB3.out.size))
                have HK : Hid (R.length ≤ R.length) := Lib.hid (Nat.le_refl _)
                rw [← hwq]
                clear hwq y0 y1 y2 z0 z1
                have hBw := HB4.out
                have hR := HR.out.later hBw
                have x0 := (HBQ.out.cell (p := ⟨w.heap.size, 0, none⟩) hlr).trans r0
                have x1 := (HBQ.out.cell (p := ⟨w.heap.size, 1, none⟩) hlr).trans r1
                obtain ⟨c0, f0, hrbq⟩ := hR.cells
                have hXq : w.heap.size < wq.heap.size := Nat.lt_of_lt_of_le hlr HBQ.out.size
                have HRQ := Lib.hid hR
                have HE0 := Lib.hid (Row.empty wq wq.heap.size (Nat.le_refl _))
                have HBA : Hid (Below wq.heap.size wq (wq.alloc (.cells #[] 89))) := Lib.hid ((Below.refl _ wq).alloc (Nat.le_refl _) _)
                have HIA := Lib.hid ((HRQ.out.rows.below HBA.out).raise (B' := (wq.alloc (.cells #[] 89)).heap.size) (by simp))
                have hcap := hR.rows.size
                have hcap1 := hcap.1
                have hcap2 := hcap.2
                have hcapk : (R.length : Int) ≤ (c : Int) := by omega
                clear hBw hR hcap
                go_upto_region 15 with (at_builtin; refine app_rows rfl _ _ rfl wq.heap.size _ [] rfl HE0.out _ _ _ (R.take R.length) rfl (HIA.out.take R.length HK.out) (by first | omega | (simp only [List.length_nil]; omega) | simp) (by simp) ?_; intro A1 c1 wB o1 b1 _ _; obtain ⟨P1, hP1⟩ : ∃ P1, P1 = [] ++ R.take R.length := ⟨_, rfl⟩; rw [← hP1] at o1 ⊢; have HP1 := Lib.hid (hP1.trans (List.nil_append _)); have HO1 := Lib.hid o1; have HBB := Lib.hid (HBA.out.trans b1); clear o1 b1 hP1)
                have y0 := (HBB.out.cell (p := ⟨w.heap.size, 0, none⟩) hXq).trans x0
                have y1 := (HBB.out.cell (p := ⟨w.heap.size, 1, none⟩) hXq).trans x1
                have hszB := HBB.out.size
                have HO2 := Lib.hid (HO1.out.later ((Below.refl _ wB).alloc (Nat.le_refl _) (.cells #[.int .i64 x, .int .i64 a, .int .i64 b] 89)))
                have HI2 := Lib.hid (Rt.one wB x a b)
                have htl : P1.length ≤ 100000 := by rw [HP1.out, List.length_take]; omega
                clear x0 x1 HO1
                go_upto_region 16 with (at_builtin; refine app_rows rfl _ _ rfl wq.heap.size _ _ rfl HO2.out _ _ _ [(x, a, b)] rfl HI2.out (by omega) (by rw [alloc_size]; omega) ?_; intro A2' c2' wC o2 b2 _ _; obtain ⟨P2, hP2⟩ : ∃ P2, P2 = P1 ++ [(x, a, b)] := ⟨_, rfl⟩; rw [← hP2] at o2 ⊢; have HP2 := Lib.hid hP2; have HO3 := Lib.hid o2; have HBC := Lib.hid ((HBB.out.alloc hszB _).trans b2); clear o2 b2 hP2)
                have z0 := (HBC.out.cell (p := ⟨rb, 0, none⟩) hrbq).trans c0
                have z1 := (HBC.out.frozen (p := ⟨rb, 0, none⟩) hrbq).trans f0
                have HI3 := Lib.hid ((HRQ.out.rows.below HBC.out).raise HBC.out.size)
                have htl2 : P2.length ≤ 100001 := by rw [HP2.out]; simp only [List.length_append, List.length_cons, List.length_nil]; omega
                have hdl : (R.drop R.length).length ≤ 100000 := by rw [List.length_drop]; omega
                clear y0 y1 HO2 HI2
                go_wp2_with (at_builtin; refine app_rows rfl _ _ rfl wq.heap.size _ _ rfl HO3.out _ _ _ (R.drop R.length) rfl (HI3.out.fin (by first | (split <;> simp) | simp) (by omega) (by omega)) (by omega) HBC.out.size ?_; intro A3 c3 wD o3 b3 _ _; obtain ⟨P3, hP3⟩ : ∃ P3, P3 = P2 ++ R.drop R.length := ⟨_, rfl⟩; rw [← hP3] at o3 ⊢; have HP3 := Lib.hid hP3; have HO4 := Lib.hid o3; have HBD := Lib.hid (HBC.out.trans b3); have s0 := (b3.cell (p := ⟨rb, 0, none⟩) hrbq).trans z0; have s1 := (b3.frozen (p := ⟨rb, 0, none⟩) hrbq).trans z1; clear o3 b3 hP3)
                all_goals
                  go_ret
                  have hins : P3 = rins R x a b := by
                    unfold rins
                    rw [HP3.out, HP2.out, HP1.out]
                    rw [HPP.out.1, HPP.out.2, List.append_assoc]; rfl
                  rw [HRR.out, ← hins]
                  refine ⟨rfl, ?_⟩
                  have hend := rt_end HB4.out HRQ.out hrb HO4.out HBD.out (by rw [HP3.out, HP2.out, HP1.out]; simp only [List.length_append, List.length_take, List.length_drop, List.length_cons, List.length_nil]; omega)
                  exact hend
end Go.Proofs.YtcdclghmebgpnaaGreatDoor.Wn
end
