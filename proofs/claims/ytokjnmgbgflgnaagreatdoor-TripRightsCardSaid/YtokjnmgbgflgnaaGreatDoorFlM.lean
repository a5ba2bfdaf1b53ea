/-
  A map whose keys are numbers, as a list of those that are in it: made, asked, put, struck, counted.
-/
import Derived.Test.YtokjnmgbgflgnaaGreatDoorFlB
import Derived.Maps.OwnSet
import Derived.Maps.Views
set_option linter.unusedVariables false
set_option maxRecDepth 100000
namespace Go.Proofs.YtokjnmgbgflgnaaGreatDoor
open Go.RowKit Fl Go.Maps

def ky (x : Nat) : Lit := .int .i64 (x : Int)
theorem ky_inj {x y : Nat} (h : ky x = ky y) : x = y := by
  simp only [ky, Lit.int.injEq, true_and] at h
  omega
theorem ky_wf (x : Nat) (h : x ≤ 1048576) : (Lit.int .i64 (x : Int)).wf = true := WalkArith.wf_i64 (by omega)
theorem ky_key (x : Nat) : WideAt.IsKeyLit (ky x) := trivial

/-- Block b is a map that holds just the keys l, each with the element u. -/
def SetOf (P : Program) (k : TypeId) (R : Value → Option (DataW Unit × List MemPlace)) (u : DataW Unit) (w : World) (b n : Nat) (l : List Nat) : Prop :=
  ∃ D : DataW Unit, w.ownsMap P k R b n D ∧ (∀ x : Nat, has D (ky x) = decide (x ∈ l)) ∧ (∀ x, x ∈ l → ∀ z, D.atKey (ky x) z = u) ∧ size D = l.length

section
variable {P : Program} {k : TypeId} {R : Value → Option (DataW Unit × List MemPlace)} {u : DataW Unit} {w : World} {b n : Nat} {l : List Nat}
theorem SetOf.made (P : Program) (k : TypeId) (R : Value → Option (DataW Unit × List MemPlace)) (u : DataW Unit) (w : World) : SetOf P k R u (w.alloc (.map #[] 0)) w.heap.size 0 [] :=
  ⟨.map [], World.ownsMap_made w P k R, fun x => by simp [has], fun x h z => absurd h (by simp), rfl⟩
theorem SetOf.kept {w' : World} {row : Option Nat} (h : SetOf P k R u w b n l) (hg : w.grownBy w' row) (hne : some b ≠ row) : SetOf P k R u w' b n l := by
  obtain ⟨D, h1, h2⟩ := h
  exact ⟨D, h1.kept hg hne, h2⟩
theorem SetOf.mono (h : SetOf P k R u w b n l) {n' : Nat} (hn : n ≤ n') : SetOf P k R u w b n' l := by
  obtain ⟨D, h1, h2⟩ := h
  exact ⟨D, h1.mono hn, h2⟩
theorem SetOf.lt (h : SetOf P k R u w b n l) : b < w.heap.size := by
  obtain ⟨D, h1, h2⟩ := h
  exact h1.lt
theorem SetOf.later {w' : World} (h : SetOf P k R u w b n l) (hb : Below w.heap.size w w') : SetOf P k R u w' b n l :=
  h.kept (row := none) ⟨hb.os, hb.tape, hb.output, hb.size, fun i hi _ => hb.block i hi⟩ (by simp)
end

section
variable {P : Program} (w : World) {ops : Array Oper} {rest : List Oper} {o : Oper} {a : Act} {Q : Exit → Act → World → Prop} {k : TypeId} {R : Value → Option (DataW Unit × List MemPlace)} {u : DataW Unit} {b n : Nat} {l : List Nat}

/-- A number that is not in it is put. -/
theorem set_put (hg : o.guard = none) (m x v : Operand) (t : TypeId) (hop : o.op = Op.mapUpdate t m x v) (e : TypeId) (hk : P.underlying k = some (.int .i64)) (ht : P.underlying t = some (.map k e))
    (hm : a.eval m = .map (some b)) (h : SetOf P k R u w b n l) (hn : n ≤ 1048576) (X : Int) (y : Nat) (hX : X = y) (hy : y ≤ 1048576) (hx : a.eval x = .int .i64 X) (val : Value) (hv : a.eval v = val) (hu : R val = some (u, [])) (hnew : y ∉ l)
    (hK : ∀ w', SetOf P k R u w' b (n + 1) (l ++ [y]) → w.grownBy w' (some b) → wpList P ops Q rest (a.put o.dst undef) w') : wpList P ops Q (o :: rest) a w := by
  subst hX
  obtain ⟨D, h1, h2, h3, h4⟩ := h
  have hM := h1.isMap
  have hT := h1.tidy (int_keyed hk)
  have hD : has D (ky y) = false := by rw [h2]; exact decide_eq_false hnew
  refine wpList_mapUpdate_own w hg m x v t hop k e (int_keyed hk) ht R b n D hm h1 (by unfold maxLen; omega) _ val (ky y) hx hv (keyOf_int_mk hk (ky_wf y hy)) u [] hu ?_
  intro w' hw' hgr
  refine hK w' ⟨D.put (ky y) u, hw', fun x => ?_, fun x hx z => ?_, ?_⟩ hgr
  · by_cases e : x = y
    · subst e
      rw [has_put_same hM (ky_key x) u]
      simp
    · rw [has_put_other (fun h => e (ky_inj h)) u, h2]
      simp [e]
  · by_cases e : x = y
    · subst e
      exact atKey_put_same hM (ky_key x) u z
    · rw [atKey_put_other (fun h => e (ky_inj h)) u z]
      exact h3 x (by simpa [e] using hx) z
  · rw [size_put hT u, hD, List.length_append, h4]
    rfl

/-- A number that is in it is struck. -/
theorem set_del (hg : o.guard = none) (m x : Operand) (t : TypeId) (hop : o.op = Op.call { callee := Callee.builtin Builtin.delete, args := #[m, x], argTypes := #[t, k] }) (e : TypeId) (hk : P.underlying k = some (.int .i64)) (ht : P.underlying t = some (.map k e))
    (hm : a.eval m = .map (some b)) (h : SetOf P k R u w b n l) (hl : l.Nodup) (X : Int) (y : Nat) (hX : X = y) (hy : y ≤ 1048576) (hx : a.eval x = .int .i64 X) (hin : y ∈ l)
    (hK : ∀ w', SetOf P k R u w' b n (l.erase y) → w.grownBy w' (some b) → wpList P ops Q rest (a.put o.dst (.tuple #[])) w') : wpList P ops Q (o :: rest) a w := by
  subst hX
  obtain ⟨D, h1, h2, h3, h4⟩ := h
  have hT := h1.tidy (int_keyed hk)
  have hD : has D (ky y) = true := by rw [h2]; exact decide_eq_true hin
  refine wpList_delete_own w hg m x t k hop e (int_keyed hk) ht R b n D hm h1 _ (ky y) hx (keyOf_int_mk hk (ky_wf y hy)) ?_
  intro w' hw' hgr
  refine hK w' ⟨D.del (ky y), hw', fun x => ?_, fun x hx z => ?_, ?_⟩ hgr.grown
  · by_cases e : x = y
    · subst e
      rw [has_del_same]
      exact (decide_eq_false (hl.not_mem_erase)).symm
    · rw [has_del_other (fun h => e (ky_inj h)), h2, decide_eq_decide]
      exact (List.mem_erase_of_ne e).symm
  · have hne : x ≠ y := fun e => by subst e; exact hl.not_mem_erase hx
    rw [atKey_del_other (fun h => hne (ky_inj h)) z]
    exact h3 x (List.mem_of_mem_erase hx) z
  · have := size_del hT (k := ky y)
    rw [hD, if_pos rfl] at this
    rw [List.length_erase_of_mem hin]
    omega

/-- Is a number in it? (a set of nothings) -/
theorem set_in (hg : o.guard = none) (m x : Operand) (t : TypeId) (hop : o.op = Op.lookup t m x true) (e : TypeId) (hk : P.underlying k = some (.int .i64)) (ht : P.underlying t = some (.map k e)) (hz : (zeroValue e).run P w = .ok (.agg #[]) w)
    (hm : a.eval m = .map (some b)) (h : SetOf P k unitElem u w b n l) (X : Int) (y : Nat) (hX : X = y) (hy : y ≤ 1048576) (hx : a.eval x = .int .i64 X)
    (hK : wpList P ops Q rest (a.put o.dst (.tuple #[.agg #[], .bool (decide (y ∈ l))])) w) : wpList P ops Q (o :: rest) a w := by
  subst hX
  obtain ⟨D, h1, h2, h3, h4⟩ := h
  refine wpList_lookup_own_unit w hg m x t hop k e (int_keyed hk) ht hz b n D hm h1 _ (ky y) hx (keyOf_int_mk hk (ky_wf y hy)) ?_
  rw [h2]
  exact hK

theorem plainElem_bool_inv {P : Program} {e : TypeId} (he : P.underlying e = some .bool) {v : Value} {z : DataW Unit × List MemPlace} (h : plainElem P e v = some z) : ∃ x, v = .bool x ∧ z = (.lit (.bool x), []) := by
  unfold plainElem at h
  rw [he] at h
  cases v <;> simp at h
  subst h
  exact ⟨_, rfl, rfl⟩
/-- Is a number in it? (a map of truths, all true) -/
theorem set_is (hg : o.guard = none) (m x : Operand) (t : TypeId) (hop : o.op = Op.lookup t m x false) (e : TypeId) (hk : P.underlying k = some (.int .i64)) (ht : P.underlying t = some (.map k e)) (he : P.underlying e = some .bool) (hz : (zeroValue e).run P w = .ok (.bool false) w)
    (hm : a.eval m = .map (some b)) (h : SetOf P k (plainElem P e) (.lit (.bool true)) w b n l) (X : Int) (y : Nat) (hX : X = y) (hy : y ≤ 1048576) (hx : a.eval x = .int .i64 X)
    (hK : wpList P ops Q rest (a.put o.dst (.bool (decide (y ∈ l)))) w) : wpList P ops Q (o :: rest) a w := by
  subst hX
  obtain ⟨D, h1, h2, h3, h4⟩ := h
  obtain ⟨v, ps, hrun, hv⟩ := h1.lookup (int_keyed hk) ht hz (plainElem_bool he false) (keyOf_int_mk hk (ky_wf y hy))
  obtain ⟨c, rfl, hc⟩ := plainElem_bool_inv he hv
  have hc' : c = decide (y ∈ l) := by
    simp only [Prod.mk.injEq] at hc
    by_cases hin : y ∈ l
    · have := (h3 y hin (.lit (.bool false))).symm.trans hc.1
      simp only [DataW.lit.injEq, Lit.bool.injEq] at this
      rw [decide_eq_true hin, ← this]
    · have hn : has D (ky y) = false := by rw [h2]; exact decide_eq_false hin
      have := (atKey_of_not_has hn (.lit (.bool false))).symm.trans hc.1
      simp only [DataW.lit.injEq, Lit.bool.injEq] at this
      rw [decide_eq_false hin, ← this]
  refine wpList_plain hg fun K' hK' => ?_
  unfold Oper.wp
  simp [execOp, hop, hm, hx, hrun, Result.andThen]
  rw [hc']
  exact hK' _ _ hK

/-- How many there are. -/
theorem set_len (hg : o.guard = none) (m : Operand) (t : TypeId) (hop : o.op = Op.call { callee := Callee.builtin Builtin.len, args := #[m], argTypes := #[t] }) (e : TypeId) (ht : P.underlying t = some (.map k e))
    (hm : a.eval m = .map (some b)) (h : SetOf P k R u w b n l) (hK : wpList P ops Q rest (a.put o.dst (.int .i64 (l.length : Int))) w) : wpList P ops Q (o :: rest) a w := by
  obtain ⟨D, h1, h2, h3, h4⟩ := h
  refine wpList_len_own w hg m t hop k e ht R b n D hm h1 ?_
  rw [h4]
  exact hK
end

end Go.Proofs.YtokjnmgbgflgnaaGreatDoor
