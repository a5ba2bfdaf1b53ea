/-
  Layer 9: the document's table: plain facts, and Owner, Hold, Release, Of, Free.
-/
import Derived.Test.YtnbdgijppdiecaaLkB
set_option linter.unusedVariables false
set_option maxRecDepth 100000
namespace Go.Proofs.Ytnbdgijppdiecaa
namespace Lk
open Go.RowKit Bk

/-- Who holds a zone, by pairs of a robot and a zone. -/
def own9 : List (Int × Int) → Int → Ow
  | [], _ => (0, false)
  | p :: R, z => if p.2 = z then (p.1, true) else own9 R z
def rhold (R : List (Int × Int)) (r z : Int) : Int × List (Int × Int) := if ¬ (Rb r ∧ Zo z) then (1, R) else if (own9 R z).2 = true ∧ (own9 R z).1 ≠ r then (3, R) else if (own9 R z).2 = true then (0, R) else (0, R ++ [(r, z)])
def rrel (R : List (Int × Int)) (r z : Int) : Int × List (Int × Int) := if ¬ (Rb r ∧ Zo z) then (1, R) else if (r, z) ∈ R then (0, R.erase (r, z)) else (2, R)
def ract (R : List (Int × Int)) (q : Bool) (r z : Int) : Int × List (Int × Int) := if q then rrel R r z else rhold R r z
theorem own9_app (R S : List (Int × Int)) (z : Int) : own9 (R ++ S) z = if (own9 R z).2 = true then own9 R z else own9 S z := by
  induction R with
  | nil => simp [own9]
  | cons p R ih =>
    simp only [List.cons_append, own9]
    split
    · simp
    · exact ih
theorem own9_no {R : List (Int × Int)} {z : Int} (h : ∀ p ∈ R, p.2 ≠ z) : own9 R z = (0, false) := by
  induction R with
  | nil => rfl
  | cons p R ih =>
    simp only [own9]
    rw [if_neg (h p (by simp))]
    exact ih fun q hq => h q (by simp [hq])
theorem own9_mem {R : List (Int × Int)} (hR : R.Pairwise fun p q => p.2 ≠ q.2) {r z : Int} : (r, z) ∈ R ↔ own9 R z = (r, true) := by
  induction R with
  | nil => simp [own9]
  | cons p R ih =>
    obtain ⟨h1, h2⟩ := List.pairwise_cons.1 hR
    have ih := ih h2
    simp only [own9, List.mem_cons]
    by_cases e : p.2 = z
    · rw [if_pos e]
      constructor
      · rintro (h | h)
        · rw [← h]
        · exact absurd e (h1 _ h)
      · intro h
        have := congrArg Prod.fst h
        simp only at this
        exact .inl (Prod.ext this.symm e.symm)
    · rw [if_neg e, ← ih]
      constructor
      · rintro (h | h)
        · exact absurd (by rw [← h]) e
        · exact h
      · exact .inr
theorem own9_erase {R : List (Int × Int)} (hR : R.Pairwise fun p q => p.2 ≠ q.2) {r z : Int} (hm : (r, z) ∈ R) (y : Int) : own9 (R.erase (r, z)) y = if y = z then (0, false) else own9 R y := by
  induction R with
  | nil => simp at hm
  | cons p R ih =>
    obtain ⟨h1, h2⟩ := List.pairwise_cons.1 hR
    by_cases e : p = (r, z)
    · subst e
      rw [List.erase_cons_head]
      by_cases hy : y = z
      · subst hy
        rw [if_pos rfl]
        exact own9_no fun q hq => (h1 q hq).symm
      · rw [if_neg hy]
        simp only [own9]
        rw [if_neg (fun h => hy h.symm)]
    · have hm2 : (r, z) ∈ R := by
        rcases List.mem_cons.1 hm with h | h
        · exact absurd h.symm e
        · exact h
      rw [List.erase_cons_tail (by simpa using e)]
      simp only [own9]
      rw [ih h2 hm2]
      by_cases hp : p.2 = y
      · rw [if_pos hp]
        have hy : y ≠ z := fun h => h1 _ hm2 (by rw [hp, h])
        rw [if_neg hy, if_pos hp]
      · rw [if_neg hp]
        split <;> rfl
/-- The document's table and the program's tell the same. -/
structure Sim (R : List (Int × Int)) (T : List Ow) : Prop where
  same : ∀ z, own9 R z = at9 T z
  apart : R.Pairwise fun p q => p.2 ≠ q.2
theorem Sim.start : Sim [] T0 := ⟨fun z => by unfold at9; rw [getD_rep]; split <;> rfl, List.Pairwise.nil⟩
theorem Sim.hold {R : List (Int × Int)} {T : List Ow} (h : Sim R T) (ht : Tb T) (r z : Int) : (rhold R r z).1 = (hold9 T r z).1 ∧ Sim (rhold R r z).2 (hold9 T r z).2 := by
  unfold rhold hold9
  rw [h.same z]
  by_cases h1 : Rb r ∧ Zo z
  · rw [if_neg (show ¬¬(Rb r ∧ Zo z) from fun q => q h1), if_neg (show ¬¬(Rb r ∧ Zo z) from fun q => q h1)]
    by_cases h2 : (at9 T z).2 = true ∧ (at9 T z).1 ≠ r
    · rw [if_pos h2, if_pos h2]; exact ⟨rfl, h⟩
    · rw [if_neg h2, if_neg h2]
      by_cases h3 : (at9 T z).2 = true
      · rw [if_pos h3]
        refine ⟨rfl, fun y => ?_, h.apart⟩
        show own9 R y = at9 (T.set z.toNat (r, true)) y
        rw [at9_set ht h1.2, h.same y]
        split
        · rename_i e
          subst e
          have : (at9 T y).1 = r := Classical.byContradiction fun q => h2 ⟨h3, q⟩
          exact Prod.ext this h3
        · rfl
      · rw [if_neg h3]
        refine ⟨rfl, fun y => ?_, ?_⟩
        · show own9 (R ++ [(r, z)]) y = at9 (T.set z.toNat (r, true)) y
          rw [at9_set ht h1.2, own9_app, h.same y]
          by_cases e : y = z
          · subst e
            rw [if_neg h3, if_pos rfl]
            simp [own9]
          · rw [if_neg e]
            split
            · rfl
            · rename_i q
              have q2 : (own9 [(r, z)] y) = (0, false) := by simp only [own9]; rw [if_neg (fun k => e k.symm)]
              have q1 : (own9 R y).2 = false := by rw [h.same y]; simpa using q
              rw [q2, ← h.same y]
              clear q2 h h3 h2
              induction R with
              | nil => rfl
              | cons p R ih =>
                simp only [own9] at q1 ⊢
                split at q1
                · cases q1
                · rename_i k; rw [if_neg k]; exact ih q1
        · show (R ++ [(r, z)]).Pairwise _
          rw [List.pairwise_append]
          refine ⟨h.apart, List.pairwise_singleton _ _, fun p hp q hq => ?_⟩
          rw [List.mem_singleton.1 hq]
          intro e
          have := (own9_mem h.apart (r := p.1) (z := z)).1 (by have e : p.2 = z := e; rw [← e]; exact hp)
          rw [h.same z] at this
          exact h3 (by rw [this])
  · rw [if_pos h1, if_pos h1]; exact ⟨rfl, h⟩
theorem Sim.rel {R : List (Int × Int)} {T : List Ow} (h : Sim R T) (ht : Tb T) (r z : Int) : (rrel R r z).1 = (rel9 T r z).1 ∧ Sim (rrel R r z).2 (rel9 T r z).2 := by
  unfold rrel rel9
  have hm := own9_mem h.apart (r := r) (z := z)
  rw [h.same z] at hm
  by_cases h1 : Rb r ∧ Zo z
  · rw [if_neg (show ¬¬(Rb r ∧ Zo z) from fun q => q h1), if_neg (show ¬¬(Rb r ∧ Zo z) from fun q => q h1)]
    by_cases h2 : at9 T z = (r, true)
    · rw [if_pos h2, if_pos (hm.2 h2)]
      refine ⟨rfl, fun y => ?_, h.apart.sublist List.erase_sublist⟩
      show own9 (R.erase (r, z)) y = at9 (T.set z.toNat (0, false)) y
      rw [own9_erase h.apart (hm.2 h2), at9_set ht h1.2, h.same y]
    · rw [if_neg h2, if_neg (fun q => h2 (hm.1 q))]; exact ⟨rfl, h⟩
  · rw [if_pos h1, if_pos h1]; exact ⟨rfl, h⟩
theorem Sim.act {R : List (Int × Int)} {T : List Ow} (h : Sim R T) (ht : Tb T) (q : Bool) (r z : Int) : (ract R q r z).1 = (act9 T q r z).1 ∧ Sim (ract R q r z).2 (act9 T q r z).2 := by
  cases q
  · exact h.hold ht r z
  · exact h.rel ht r z
theorem ract_len (R : List (Int × Int)) (q : Bool) (r z : Int) : (ract R q r z).2.length ≤ R.length + 1 := by
  unfold ract rrel rhold
  cases q
  · simp only [Bool.false_eq_true, if_false]
    split
    · simp
    · split
      · simp
      · split <;> simp
  · simp only [if_true]
    split
    · simp
    · split
      · simp only [List.length_erase]; split <;> omega
      · simp

/-! ### In memory -/
def rv (p : Int × Int) : Value × Value := (.int .i64 p.1, .int .i64 p.2)
def rcl9 (R : List (Int × Int)) : List Value := pcl (R.map rv)
theorem rcl9_len (R : List (Int × Int)) : (rcl9 R).length = R.length * 2 := by unfold rcl9; rw [pcl_length, List.length_map]
theorem rcl9_one (R : List (Int × Int)) : ∀ u ∈ rcl9 R, u.oneCell' = true := by
  induction R with
  | nil => simp [rcl9, pcl]
  | cons p R ih =>
    intro u hu
    simp only [rcl9, List.map_cons, pcl, List.mem_cons] at hu
    rcases hu with rfl | rfl | hu
    · rfl
    · rfl
    · exact ih u hu
theorem rcl9_get {R : List (Int × Int)} {j : Nat} (h : j < R.length) : (rcl9 R)[j * 2]? = some (.int .i64 (R.getD j (0, 0)).1) ∧ (rcl9 R)[j * 2 + 1]? = some (.int .i64 (R.getD j (0, 0)).2) := by
  have e : (R.map rv)[j]? = some (rv (R.getD j (0, 0))) := by rw [List.getElem?_map, List.getD, List.getElem?_eq_getElem h]; rfl
  exact pcl_get _ j _ e
theorem rcl9_app (R S : List (Int × Int)) : rcl9 (R ++ S) = rcl9 R ++ rcl9 S := by unfold rcl9; rw [List.map_append, pcl_app]
theorem Try.infoPair9 : (Try.prog.info? 54).map (fun i => (i.zero, i.size, i.bytes)) = some (some (.agg #[.int .i64 0, .int .i64 0]), 2, 16) := by kernel_rfl
/-- Pairs at a slice, of whatever make; pairs of one's own. -/
def Pt (B : Nat) (w : World) (A : Option Addr) (n cap : Nat) (R : List (Int × Int)) : Prop := Gt 2 B w A n cap (rcl9 R)
def Po (w : World) (base : Nat) (v : Value) (R : List (Int × Int)) : Prop := w.ownsRow base 54 2 v R.length (rcl9 R)
theorem Pt.len {B : Nat} {w : World} {A : Option Addr} {n cap : Nat} {R : List (Int × Int)} (h : Pt B w A n cap R) : R.length = n := by
  have := Gt.len h
  rw [rcl9_len] at this
  omega
theorem Po.pt {w : World} {base : Nat} {A : Option Addr} {n cap : Nat} {R : List (Int × Int)} (h : Po w base (.slice A n cap) R) : n = R.length ∧ Pt w.heap.size w A n cap R := by
  obtain ⟨rfl, h2⟩ := gt_own h
  exact ⟨rfl, h2⟩
theorem Pt.cell {B : Nat} {w : World} {A : Option Addr} {n cap : Nat} {R : List (Int × Int)} (h : Pt B w A n cap R) {j : Nat} (hj : j < n) : ∃ g off, A = some ⟨g, off, none⟩ ∧ g < B ∧ w.cell? ⟨g, off + j * 2, none⟩ = some (.int .i64 (R.getD j (0, 0)).1) ∧ w.cell? ⟨g, off + j * 2 + 1, none⟩ = some (.int .i64 (R.getD j (0, 0)).2) := by
  obtain ⟨g, off, e, hg, hc⟩ := Gt.cell h (by omega)
  obtain ⟨h1, h2⟩ := rcl9_get (R := R) (j := j) (by rw [h.len]; exact hj)
  refine ⟨g, off, e, hg, ?_, ?_⟩
  · rw [hc (j * 2) (by omega), h1]
  · rw [Nat.add_assoc, hc (j * 2 + 1) (by omega), h2]
theorem Pt.one (w : World) (r z : Int) : Pt (w.alloc (.cells #[.int .i64 r, .int .i64 z] 54)).heap.size (w.alloc (.cells #[.int .i64 r, .int .i64 z] 54)) (some ⟨w.heap.size, 0, none⟩) 1 1 [(r, z)] := by
  refine ⟨rfl, Nat.le_refl _, by unfold maxLen; omega, fun h => (by cases h), fun _ => ⟨w.heap.size, 0, rfl, by simp, fun j hj => ?_⟩⟩
  rcases (by omega : j = 0 ∨ j = 1) with rfl | rfl <;> simp [World.cell?_alloc_new, rcl9, rv, pcl]
theorem app_pairs {w : World} {ops : Array Oper} {rest : List Oper} {o : Oper} {a : Act} {Q : Exit → Act → World → Prop} (hgd : o.guard = none) (s x : Operand) (ho : o.op = .call { callee := .builtin .append, args := #[s, x], argTypes := #[27, 27] })
    (base : Nat) (v : Value) (xs : List (Int × Int)) (hs : a.eval s = v) (hown : Po w base v xs)
    (A : Option Addr) (m c : Nat) (ys : List (Int × Int)) (hx : a.eval x = .slice A m c) (hr : Pt w.heap.size w A m c ys) (hb : xs.length + m ≤ 1000000) (hbase : base ≤ w.heap.size)
    (h : ∀ A' n' c' w', n' = (xs ++ ys).length → Po w' base (.slice A' n' c') (xs ++ ys) → Below base w w' → w.grownBy w' v.ownBlock → ((Value.slice A' n' c').ownBlock = v.ownBlock ∨ (Value.slice A' n' c').ownBlock = some w.heap.size) → wpList Try.prog ops Q rest (a.put o.dst (.slice A' n' c')) w') : wpList Try.prog ops Q (o :: rest) a w := by
  obtain ⟨i0, hi, hz0, hz1, hz2⟩ := info_parts Try.infoPair9
  refine appG 27 54 i0 _ 2 16 Try.underlying27 hi hz0 hz1 hz2 rfl (by decide) (by decide) hgd s x ho base v xs.length (rcl9 xs) hs hown A m c (rcl9 ys) hx hr (rcl9_one ys) hb hbase ?_
  intro A' c' w' h1 h2 h3 h4
  have e : xs.length + m = (xs ++ ys).length := by rw [List.length_append, hr.len]
  refine h A' _ c' w' e (by unfold Po; rw [rcl9_app, ← e]; exact h1) h2 h3 h4
theorem kind9 {w : World} {base : Nat} {e : TypeId} {size : Nat} {v : Value} {n : Nat} {xs : List Value} (h : w.ownsRow base e size v n xs) : ∀ g, v.ownBlock = some g → ∃ c fz, w.heap[g]? = some (.cells c e fz) := by
  intro g hg
  rcases h.2 with ⟨q, _⟩ | ⟨g0, c0, cur, q, _, hh, _⟩
  · rw [q] at hg; cases hg
  · have : g = g0 := by rw [q] at hg; simpa [Value.ownBlock] using hg.symm
    subst this; exact ⟨cur, _, hh⟩
/-- The document's table lies in block rb, its pairs are the call's own. -/
structure RAt (w : World) (base rb : Nat) (v : Value) (R : List (Int × Int)) : Prop where
  box : w.heap[rb]? = some (.cells #[v] 29 (0, 0))
  own : Po w base v R
  lo : base ≤ rb
  few : R.length ≤ 100000
/-- All that is no pair and no such table stays as it is. -/
def Kept9 (w w' : World) : Prop := w.heap.size ≤ w'.heap.size ∧ ∀ (k : Nat) (cs : Array Value) (t : TypeId) (fz : Nat × Nat), w.heap[k]? = some (Obj.cells cs t fz) → t ≠ 29 → t ≠ 54 → w'.heap[k]? = w.heap[k]?
theorem Kept9.refl (w : World) : Kept9 w w := ⟨Nat.le_refl _, fun _ _ _ _ _ _ _ => rfl⟩
theorem Kept9.of {w w' : World} (h : Below w.heap.size w w') : Kept9 w w' := ⟨h.size, fun k _ _ _ hk _ _ => h.block k (lt_of_heap hk)⟩
theorem Kept9.trans {a b c : World} (h : Kept9 a b) (k : Kept9 b c) : Kept9 a c := ⟨Nat.le_trans h.1 k.1, fun i cs t fz hi h1 h2 => by
  have e := h.2 i cs t fz hi h1 h2
  exact (k.2 i cs t fz (e.trans hi) h1 h2).trans e⟩
theorem RAt.same {w w' : World} {base rb : Nat} {v : Value} {R : List (Int × Int)} (h : RAt w base rb v R) (h1 : w'.heap[rb]? = w.heap[rb]?) (h2 : ∀ k, v.ownBlock = some k → w'.heap[k]? = w.heap[k]?) : RAt w' base rb v R :=
  ⟨h1.trans h.box, ownsRow_same h.own h2, h.lo, h.few⟩
theorem RAt.later {w w' : World} {base rb : Nat} {v : Value} {R : List (Int × Int)} (h : RAt w base rb v R) (hb : Below w.heap.size w w') : RAt w' base rb v R :=
  h.same (hb.block rb (lt_of_heap h.box)) (fun k hk => hb.block k (World.ownsRow.lt h.own k hk).2)
/-- The program's table is written: the document's is not. -/
theorem RAt.only {w w' : World} {base rb g : Nat} {v : Value} {R : List (Int × Int)} (h : RAt w base rb v R) {T : List Ow} (hT : LkAt w g T) (ho : Only g w w') : RAt w' base rb v R := by
  refine h.same (Turn.block ho rb (lt_of_heap h.box) ?_) (fun k hk => Turn.block ho k (World.ownsRow.lt h.own k hk).2 ?_)
  · rintro rfl
    have := h.box.symm.trans hT.box
    injection this with this
    injection this with _ this _
    revert this
    decide
  · rintro rfl
    obtain ⟨c, fz, hh⟩ := kind9 h.own _ hk
    have := hh.symm.trans hT.box
    injection this with this
    injection this with _ this _
    revert this
    decide
theorem LkAt.kept9 {w w' : World} {g : Nat} {T : List Ow} (h : LkAt w g T) (hk : Kept9 w w') : LkAt w' g T := h.same (hk.2 g _ _ _ h.box (by decide) (by decide))
theorem RAt.cell {w : World} {base rb : Nat} {v : Value} {R : List (Int × Int)} (h : RAt w base rb v R) : w.cell? ⟨rb, 0, none⟩ = some v ∧ w.frozen? ⟨rb, 0, none⟩ = false ∧ rb < w.heap.size :=
  ⟨by rw [cell_of_row w rb 0 _ _ _ h.box]; rfl, frozen_of_row w rb 0 _ _ h.box, lt_of_heap h.box⟩
theorem RAt.form {w : World} {base rb : Nat} {v : Value} {R : List (Int × Int)} (h : RAt w base rb v R) : ∃ A n c, v = .slice A n c ∧ n = R.length := by
  obtain ⟨A, c, e⟩ := own_form h.own
  exact ⟨A, _, c, e, rfl⟩
end Lk
end Go.Proofs.Ytnbdgijppdiecaa
