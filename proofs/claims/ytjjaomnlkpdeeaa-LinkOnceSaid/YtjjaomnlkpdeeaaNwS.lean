/-
  Layer 13: texts in memory: lists of them, of whatever make and of one's own; some are appended.
-/
import Derived.Test.YtjjaomnlkpdeeaaNwF
set_option linter.unusedVariables false
set_option maxRecDepth 100000
namespace Go.Proofs.Ytjjaomnlkpdeeaa
namespace Nw
open Go.RowKit Go.Maps Bk

def svs (S : List ByteArray) : List Value := S.map Value.string
theorem svs_one (S : List ByteArray) : ∀ u ∈ svs S, u.oneCell' = true := by
  intro u hu
  simp only [svs, List.mem_map] at hu
  obtain ⟨z, _, rfl⟩ := hu
  rfl
theorem svs_get {S : List ByteArray} {j : Nat} (h : j < S.length) : (svs S)[j]? = some (.string (bat S j)) := by
  simp only [svs, List.getElem?_map, bat_get h]; rfl
/-- Texts at a slice, of whatever make; of one's own. -/
def Sg (B : Nat) (w : World) (A : Option Addr) (n cap : Nat) (S : List ByteArray) : Prop := Gt 1 B w A n cap (svs S)
def Sw (w : World) (base : Nat) (v : Value) (S : List ByteArray) : Prop := w.ownsRow base 9 1 v S.length (svs S)
section
variable {B base g off n cap : Nat} {w w' : World} {A : Option Addr} {v : Value} {S : List ByteArray}
theorem Sg.len (h : Sg B w A n cap S) : S.length = n := by have := Gt.len h; simpa [svs] using this
theorem Sg.cell (h : Sg B w A n cap S) {j : Nat} (hj : j < n) : ∃ g off, A = some ⟨g, off, none⟩ ∧ g < B ∧ w.cell? ⟨g, off + j, none⟩ = some (.string (bat S j)) := by
  obtain ⟨g, off, e, hg, hc⟩ := Gt.cell h (by omega)
  exact ⟨g, off, e, hg, by rw [hc j (by omega), svs_get (by rw [h.len]; exact hj)]⟩
theorem Sg.later (h : Sg w.heap.size w A n cap S) (hb : Below w.heap.size w w') : Sg w'.heap.size w' A n cap S := Gt.later h hb
theorem Sg.cut (h : Sg B w A n cap S) {m : Nat} (hm : m ≤ n) : Sg B w A m cap (S.take m) := by
  have := Gt.cut h hm
  unfold Sg
  rwa [show svs (S.take m) = (svs S).take (m * 1) by simp [svs]]
theorem Sg.tail (h : Sg B w (some ⟨g, off, none⟩) n cap S) {m : Nat} (hm : m ≤ n) (A' : Option Addr) (hA : A' ≠ none) (hA' : m < n → A' = some ⟨g, off + m, none⟩) : Sg B w A' (n - m) (cap - m) (S.drop m) := by
  have := Gt.tail h hm A' hA (fun q => by rw [hA' q, Nat.mul_one])
  unfold Sg
  rwa [show svs (S.drop m) = (svs S).drop (m * 1) by simp [svs]]
theorem Sw.sg (h : Sw w base (.slice A n cap) S) : n = S.length ∧ Sg w.heap.size w A n cap S := by
  obtain ⟨rfl, h2⟩ := gt_own h
  exact ⟨rfl, h2⟩
theorem Sw.form (h : Sw w base v S) : ∃ A c, v = .slice A S.length c := own_form h
theorem Sw.later (h : Sw w base v S) (hb : Below w.heap.size w w') : Sw w' base v S := Bk.own_later h hb
theorem Sw.same (h : Sw w base v S) (h2 : ∀ k, v.ownBlock = some k → w'.heap[k]? = w.heap[k]?) : Sw w' base v S := ownsRow_same h h2
theorem Sw.lower {base' : Nat} (h : Sw w base v S) (hb : base' ≤ base) : Sw w base' v S := own_lower h hb
theorem Sw.nil (w : World) (base : Nat) : Sw w base (.slice none 0 0) [] := World.ownsRow_nil _ _ _ _
theorem Sw.empty (w : World) (base : Nat) (hb : base ≤ w.heap.size) : Sw (w.alloc (.cells #[] 9)) base (.slice (some ⟨w.heap.size, 0, none⟩) 0 0) [] := own_empty w 9 1 base hb
/-- What is of another type is not its block. -/
theorem Sw.kind (h : Sw w base v S) : ∀ g, v.ownBlock = some g → g < w.heap.size ∧ base ≤ g ∧ ∃ c fz, w.heap[g]? = some (.cells c 9 fz) := own_kind h
end
theorem Sg.one (w : World) (s : ByteArray) : Sg (w.alloc (.cells #[.string s] 9)).heap.size (w.alloc (.cells #[.string s] 9)) (some ⟨w.heap.size, 0, none⟩) 1 1 [s] := one_row w 9 (.string s)
theorem run_app_strs {w : World} (ty : TypeId) (base : Nat) (v : Value) (xs : List ByteArray) (hown : Sw w base v xs) (A : Option Addr) (m c : Nat) (ys : List ByteArray) (hr : Sg w.heap.size w A m c ys) (hb : xs.length + m ≤ 1000000) (hbase : base ≤ w.heap.size) :
    ∃ A' n' c' w', (Builtin.append_ #[61, 61] ty #[v, .slice A m c]).run Try.prog w = .ok (.slice A' n' c') w' ∧ n' = (xs ++ ys).length ∧ Sw w' base (.slice A' n' c') (xs ++ ys) ∧ Below base w w' ∧ w.grownBy w' v.ownBlock ∧ ((Value.slice A' n' c').ownBlock = v.ownBlock ∨ (Value.slice A' n' c').ownBlock = some w.heap.size) := by
  obtain ⟨i0, hi, hz0, hz1, hz2⟩ := info_parts Try.infoStr
  obtain ⟨v', w', hrun, h2, h3, h4⟩ := run_appG 61 9 i0 _ 1 16 Try.underlying61 hi hz0 hz1 hz2 rfl (by decide) (by decide) ty base v xs.length (svs xs) hown A m c (svs ys) hr (svs_one ys) hb hbase
  obtain ⟨A', c', rfl⟩ := own_form h2
  have e : xs.length + m = (xs ++ ys).length := by rw [List.length_append, hr.len]
  refine ⟨A', _, c', w', hrun, e, ?_, Below.grown (Below.refl _ _) h3 hbase (fun k hk => (hown.kind k hk).2.1), h3, h4⟩
  unfold Sw
  rw [show svs (xs ++ ys) = svs xs ++ svs ys by simp [svs], ← e]
  exact h2
theorem app_strs {w : World} {ops : Array Oper} {rest : List Oper} {o : Oper} {a : Act} {Q : Exit → Act → World → Prop} (hgd : o.guard = none) (s x : Operand) (ho : o.op = .call { callee := .builtin .append, args := #[s, x], argTypes := #[61, 61] })
    (base : Nat) (v : Value) (xs : List ByteArray) (hs : a.eval s = v) (hown : Sw w base v xs)
    (A : Option Addr) (m c : Nat) (ys : List ByteArray) (hx : a.eval x = .slice A m c) (hr : Sg w.heap.size w A m c ys) (hb : xs.length + m ≤ 1000000) (hbase : base ≤ w.heap.size)
    (h : ∀ A' n' c' w', n' = (xs ++ ys).length → Sw w' base (.slice A' n' c') (xs ++ ys) → Below base w w' → w.grownBy w' v.ownBlock → ((Value.slice A' n' c').ownBlock = v.ownBlock ∨ (Value.slice A' n' c').ownBlock = some w.heap.size) → wpList Try.prog ops Q rest (a.put o.dst (.slice A' n' c')) w') : wpList Try.prog ops Q (o :: rest) a w := by
  obtain ⟨A', n', c', w', hrun, h1, h2, h3, h4, h5⟩ := run_app_strs o.type base v xs hown A m c ys hr hb hbase
  refine wpList_plain hgd fun K hK => ?_
  unfold Oper.wp execOp
  simp only [ho, resolve, invoke, builtin, Sem.run_bind, Sem.run_pure, Result.andThen_ok, List.map_toArray, List.map_cons, List.map_nil, hs, hx, hrun]
  exact hK _ _ (h A' n' c' w' h1 h2 h3 h4 h5)
theorem step_app_strs {w : World} {ops : Array Oper} {o : Oper} {a : Act} {K : Act → World → Prop} {Q : Exit → Act → World → Prop} {F : Prop} (hgd : o.guard = none) (s x : Operand)
    (ho : o.op = .call { callee := .builtin .append, args := #[s, x], argTypes := #[61, 61] })
    (base : Nat) (v : Value) (xs : List ByteArray) (hs : a.eval s = v) (hown : Sw w base v xs)
    (A : Option Addr) (m c : Nat) (ys : List ByteArray) (hx : a.eval x = .slice A m c) (hr : Sg w.heap.size w A m c ys) (hb : xs.length + m ≤ 1000000) (hbase : base ≤ w.heap.size)
    (h : ∀ A' n' c' w', n' = (xs ++ ys).length → Sw w' base (.slice A' n' c') (xs ++ ys) → Below base w w' → K (a.put o.dst (.slice A' n' c')) w') : if Region.wanted o (yielded ops a.tmps) = true then Oper.wp Try.prog o a w K Q else F := by
  have hw : Region.wanted o (yielded ops a.tmps) = true := by simp [Region.wanted, hgd]
  rw [if_pos hw]
  obtain ⟨A', n', c', w', hrun, h1, h2, h3, h4, h5⟩ := run_app_strs o.type base v xs hown A m c ys hr hb hbase
  unfold Oper.wp execOp
  simp only [ho, resolve, invoke, builtin, Sem.run_bind, Sem.run_pure, Result.andThen_ok, List.map_toArray, List.map_cons, List.map_nil, hs, hx, hrun]
  exact h A' n' c' w' h1 h2 h3
end Nw
end Go.Proofs.Ytjjaomnlkpdeeaa
