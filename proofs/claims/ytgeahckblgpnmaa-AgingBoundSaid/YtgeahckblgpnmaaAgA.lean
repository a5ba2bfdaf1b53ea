/-
  Layer 12: those that wait in memory, of whatever make and of one's own; one is appended, some are taken out; the queue's block.
-/
import Derived.Test.YtgeahckblgpnmaaAgPlain
import Derived.Test.YtgeahckblgpnmaaBkA
import Derived.Deep.RegionLaw
import Derived.Deep.Upon
import Derived.Laws.CopyOwn
set_option linter.unusedVariables false
set_option maxRecDepth 100000
namespace Go.Proofs.Ytgeahckblgpnmaa
namespace Ag
open Go.RowKit Go.Maps Bk

theorem Try.infoWait : (Try.prog.info? 46).map (fun i => (i.zero, i.size, i.bytes)) = some (some (.agg #[.int .i64 0, .int .i64 0, .int .i64 0]), 3, 24) := by kernel_rfl
/-- Their cells. -/
def wc3 : List Wr → List Value
  | [] => []
  | x :: l => .int .i64 x.1 :: .int .i64 x.2.1 :: .int .i64 x.2.2 :: wc3 l
theorem wc3_len : ∀ l, (wc3 l).length = l.length * 3
  | [] => rfl
  | x :: l => by simp [wc3, wc3_len l]; omega
theorem wc3_app : ∀ l m, wc3 (l ++ m) = wc3 l ++ wc3 m
  | [], m => rfl
  | x :: l, m => by simp [wc3, wc3_app l m]
theorem wc3_take : ∀ (l : List Wr) (i : Nat), wc3 (l.take i) = (wc3 l).take (i * 3)
  | [], i => by simp [wc3]
  | x :: l, 0 => by simp [wc3]
  | x :: l, i + 1 => by
    rw [show (i + 1) * 3 = i * 3 + 1 + 1 + 1 by omega]
    simp [wc3, wc3_take l i]
theorem wc3_drop : ∀ (l : List Wr) (i : Nat), wc3 (l.drop i) = (wc3 l).drop (i * 3)
  | [], i => by simp [wc3]
  | x :: l, 0 => by simp
  | x :: l, i + 1 => by
    rw [show (i + 1) * 3 = i * 3 + 1 + 1 + 1 by omega]
    simp [wc3, wc3_drop l i]
theorem wc3_get : ∀ (l : List Wr) (i : Nat), i < l.length → (wc3 l)[i * 3]? = some (.int .i64 (wat l i).1) ∧ (wc3 l)[i * 3 + 1]? = some (.int .i64 (wat l i).2.1) ∧ (wc3 l)[i * 3 + 2]? = some (.int .i64 (wat l i).2.2)
  | [], i, h => by simp at h
  | x :: l, 0, h => by simp [wc3, wat]
  | x :: l, i + 1, h => by
    have ih := wc3_get l i (by simpa using h)
    have e1 : (i + 1) * 3 = i * 3 + 3 := by omega
    have e2 : (i + 1) * 3 + 1 = i * 3 + 1 + 3 := by omega
    have e3 : (i + 1) * 3 + 2 = i * 3 + 2 + 3 := by omega
    rw [e3, e2, e1]
    simpa [wc3, wat] using ih
theorem wc3_one (l : List Wr) : ∀ u ∈ wc3 l, u.oneCell' = true := by
  induction l with
  | nil => simp [wc3]
  | cons x l ih => intro u hu; simp [wc3] at hu; rcases hu with rfl | rfl | rfl | hu; rfl; rfl; rfl; exact ih u hu
theorem wc3_set2 : ∀ (l : List Wr) (i : Nat) (b : Int), (wc3 l).set (i * 3 + 2) (.int .i64 b) = wc3 (l.set i ((wat l i).1, (wat l i).2.1, b))
  | [], i, b => by simp [wc3]
  | x :: l, 0, b => by simp [wc3, wat]
  | x :: l, i + 1, b => by
    have e3 : (i + 1) * 3 + 2 = i * 3 + 2 + 1 + 1 + 1 := by omega
    rw [e3]
    simp only [wc3, List.set_cons_succ, wat, List.getD_cons_succ]
    rw [wc3_set2 l i b]
    rfl
/-- At a slice, of whatever make; of one's own. -/
def Wg (B : Nat) (w : World) (A : Option Addr) (n cap : Nat) (L : List Wr) : Prop := Gt 3 B w A n cap (wc3 L)
def Ww (w : World) (base : Nat) (v : Value) (L : List Wr) : Prop := w.ownsRow base 46 3 v L.length (wc3 L)
theorem Wg.len {B : Nat} {w : World} {A : Option Addr} {n cap : Nat} {L : List Wr} (h : Wg B w A n cap L) : L.length = n := by
  have := Gt.len h
  rw [wc3_len] at this
  omega
theorem Wg.cell {B : Nat} {w : World} {A : Option Addr} {n cap : Nat} {L : List Wr} (h : Wg B w A n cap L) {j : Nat} (hj : j < n) : ∃ g off, A = some ⟨g, off, none⟩ ∧ g < B ∧ w.cell? ⟨g, off + j * 3, none⟩ = some (.int .i64 (wat L j).1) ∧ w.cell? ⟨g, off + j * 3 + 1, none⟩ = some (.int .i64 (wat L j).2.1) ∧ w.cell? ⟨g, off + j * 3 + 2, none⟩ = some (.int .i64 (wat L j).2.2) := by
  obtain ⟨g, off, e, hg, hc⟩ := Gt.cell h (by omega)
  obtain ⟨h1, h2, h3⟩ := wc3_get L j (by rw [h.len]; exact hj)
  refine ⟨g, off, e, hg, ?_, ?_, ?_⟩
  · rw [hc (j * 3) (by omega), h1]
  · rw [Nat.add_assoc, hc (j * 3 + 1) (by omega), h2]
  · rw [Nat.add_assoc, hc (j * 3 + 2) (by omega), h3]
theorem Wg.later {w w' : World} {A : Option Addr} {n cap : Nat} {L : List Wr} (h : Wg w.heap.size w A n cap L) (hb : Below w.heap.size w w') : Wg w'.heap.size w' A n cap L := Gt.later h hb
theorem Wg.cut {B : Nat} {w : World} {A : Option Addr} {n cap : Nat} {L : List Wr} (h : Wg B w A n cap L) {m : Nat} (hm : m ≤ n) : Wg B w A m cap (L.take m) := by unfold Wg; rw [wc3_take]; exact Gt.cut h hm
theorem Wg.tail {B g off : Nat} {w : World} {n cap : Nat} {L : List Wr} (h : Wg B w (some ⟨g, off, none⟩) n cap L) {m : Nat} (hm : m ≤ n) (A' : Option Addr) (hA : A' ≠ none) (hA' : m < n → A' = some ⟨g, off + m * 3, none⟩) : Wg B w A' (n - m) (cap - m) (L.drop m) := by
  unfold Wg; rw [wc3_drop]; exact Gt.tail h hm A' hA hA'
theorem Ww.wg {w : World} {base : Nat} {A : Option Addr} {n cap : Nat} {L : List Wr} (h : Ww w base (.slice A n cap) L) : n = L.length ∧ Wg w.heap.size w A n cap L := by
  obtain ⟨rfl, h2⟩ := gt_own h
  exact ⟨rfl, h2⟩
theorem Ww.form {w : World} {base : Nat} {v : Value} {L : List Wr} (h : Ww w base v L) : ∃ A n c, v = .slice A n c ∧ n = L.length := by
  obtain ⟨A, c, e⟩ := own_form h
  exact ⟨A, _, c, e, rfl⟩
theorem Ww.later {w w' : World} {base : Nat} {v : Value} {L : List Wr} (h : Ww w base v L) (hb : Below w.heap.size w w') : Ww w' base v L := Bk.own_later h hb
theorem Ww.lower {w : World} {base base' : Nat} {v : Value} {L : List Wr} (h : Ww w base v L) (hb : base' ≤ base) : Ww w base' v L := own_lower h hb
theorem Ww.nil (w : World) (base : Nat) : Ww w base (.slice none 0 0) [] := World.ownsRow_nil _ _ _ _
theorem Ww.empty (w : World) (base : Nat) (hb : base ≤ w.heap.size) : Ww (w.alloc (.cells #[] 46)) base (.slice (some ⟨w.heap.size, 0, none⟩) 0 0) [] := own_empty w 46 3 base hb
/-- One, in a block of its own. -/
theorem Wg.one (w : World) (x y z : Int) : Wg (w.alloc (.cells #[.int .i64 x, .int .i64 y, .int .i64 z] 46)).heap.size (w.alloc (.cells #[.int .i64 x, .int .i64 y, .int .i64 z] 46)) (some ⟨w.heap.size, 0, none⟩) 1 1 [(x, y, z)] := by
  refine ⟨rfl, Nat.le_refl _, by unfold maxLen; omega, fun h => (by cases h), fun _ => ⟨w.heap.size, 0, rfl, by simp, fun j hj => ?_⟩⟩
  rcases (by omega : j = 0 ∨ j = 1 ∨ j = 2) with rfl | rfl | rfl <;> simp [World.cell?_alloc_new, wc3]
theorem app_waits {w : World} {ops : Array Oper} {rest : List Oper} {o : Oper} {a : Go.Act} {Q : Exit → Go.Act → World → Prop} (hgd : o.guard = none) (s x : Operand) (ho : o.op = .call { callee := .builtin .append, args := #[s, x], argTypes := #[29, 29] })
    (base : Nat) (v : Value) (xs : List Wr) (hs : a.eval s = v) (hown : Ww w base v xs)
    (A : Option Addr) (m c : Nat) (ys : List Wr) (hx : a.eval x = .slice A m c) (hr : Wg w.heap.size w A m c ys) (hb : xs.length + m ≤ 1000000) (hbase : base ≤ w.heap.size)
    (h : ∀ A' n' c' w', n' = (xs ++ ys).length → Ww w' base (.slice A' n' c') (xs ++ ys) → Below base w w' → w.grownBy w' v.ownBlock → ((Value.slice A' n' c').ownBlock = v.ownBlock ∨ (Value.slice A' n' c').ownBlock = some w.heap.size) → wpList Try.prog ops Q rest (a.put o.dst (.slice A' n' c')) w') : wpList Try.prog ops Q (o :: rest) a w := by
  obtain ⟨i0, hi, hz0, hz1, hz2⟩ := info_parts Try.infoWait
  refine appG 29 46 i0 _ 3 24 Try.underlying29 hi hz0 hz1 hz2 rfl (by decide) (by decide) hgd s x ho base v xs.length (wc3 xs) hs hown A m c (wc3 ys) hx hr (wc3_one ys) hb hbase ?_
  intro A' c' w' h1 h2 h3 h4
  have e : xs.length + m = (xs ++ ys).length := by rw [List.length_append, hr.len]
  refine h A' _ c' w' e (by unfold Ww; rw [wc3_app, ← e]; exact h1) h2 h3 h4
theorem run_app_waits {w : World} (ty : TypeId) (base : Nat) (v : Value) (xs : List Wr) (hown : Ww w base v xs) (A : Option Addr) (m c : Nat) (ys : List Wr) (hr : Wg w.heap.size w A m c ys) (hb : xs.length + m ≤ 1000000) (hbase : base ≤ w.heap.size) :
    ∃ A' n' c' w', (Builtin.append_ #[29, 29] ty #[v, .slice A m c]).run Try.prog w = .ok (.slice A' n' c') w' ∧ n' = (xs ++ ys).length ∧ Ww w' base (.slice A' n' c') (xs ++ ys) ∧ w.grownBy w' v.ownBlock ∧ ((Value.slice A' n' c').ownBlock = v.ownBlock ∨ (Value.slice A' n' c').ownBlock = some w.heap.size) := by
  obtain ⟨i0, hi, hz0, hz1, hz2⟩ := info_parts Try.infoWait
  obtain ⟨v', w', hrun, h2, h3, h4⟩ := run_appG 29 46 i0 _ 3 24 Try.underlying29 hi hz0 hz1 hz2 rfl (by decide) (by decide) ty base v xs.length (wc3 xs) hown A m c (wc3 ys) hr (wc3_one ys) hb hbase
  obtain ⟨A', c', rfl⟩ := own_form h2
  have e : xs.length + m = (xs ++ ys).length := by rw [List.length_append, hr.len]
  exact ⟨A', _, c', w', hrun, e, by unfold Ww; rw [wc3_app, ← e]; exact h2, h3, h4⟩
/-- One of them is written anew. -/
theorem Ww.put {w : World} {base g n c i : Nat} {L : List Wr} (h : Ww w base (.slice (some ⟨g, 0, none⟩) n c) L) (hi : i < L.length) (b : Int) : Ww (w.setCell ⟨g, i * 3 + 2, none⟩ (.int .i64 b)) base (.slice (some ⟨g, 0, none⟩) n c) (L.set i ((wat L i).1, (wat L i).2.1, b)) := by
  unfold Ww at h ⊢
  rw [← wc3_set2, List.length_set]
  refine ⟨by rw [List.length_set]; exact h.1, ?_⟩
  rcases h.2 with ⟨q, _⟩ | ⟨g', cap, cur, q, hg, hh, h1, h2, h3, h4⟩
  · cases q
  · injection q with q1 q2 q3
    injection q1 with q1
    injection q1 with q1
    subst q1 q3
    refine .inr ⟨g, c, cur.setIfInBounds (i * 3 + 2) (.int .i64 b), by rw [q2], hg, heap_setCell_same w g _ cur 46 _ hh, h1, h2, by simpa using h3, ?_⟩
    rw [Array.toList_setIfInBounds, List.take_set, h4]
theorem Ww.some {w : World} {base : Nat} {A : Option Addr} {n c : Nat} {L : List Wr} (h : Ww w base (.slice A n c) L) (hl : L ≠ []) : ∃ g, A = Option.some ⟨g, 0, Option.none⟩ := by
  unfold Ww at h
  rcases h.2 with ⟨q, h0⟩ | ⟨g', cap', cur, q, _⟩
  · exact absurd (List.eq_nil_of_length_eq_zero h0) hl
  · injection q with q1
    exact ⟨g', q1⟩
theorem Ww.kind {w : World} {base : Nat} {v : Value} {L : List Wr} (h : Ww w base v L) : ∀ g, v.ownBlock = Option.some g → g < w.heap.size ∧ base ≤ g ∧ ∃ c fz, w.heap[g]? = Option.some (.cells c 46 fz) := by
  intro g hg
  refine ⟨(World.ownsRow.lt h g hg).2, (World.ownsRow.lt h g hg).1, ?_⟩
  rcases h.2 with ⟨q, _⟩ | ⟨g0, c0, cur, q, _, hh, _⟩
  · rw [q] at hg; cases hg
  · have : g = g0 := by rw [q] at hg; simpa [Value.ownBlock] using hg.symm
    subst this; exact ⟨cur, _, hh⟩
theorem Ww.same {w w' : World} {base : Nat} {v : Value} {L : List Wr} (h : Ww w base v L) (h2 : ∀ k, v.ownBlock = Option.some k → w'.heap[k]? = w.heap[k]?) : Ww w' base v L := ownsRow_same h h2

/-! ### A block of them: written, cleared, some taken out -/
def Bx (w : World) (g : Nat) (X : List Value) : Prop := w.heap[g]? = some (.cells X.toArray 46 (0, 0))
theorem take_splice {α : Type} (X cs : List α) (o : Nat) (h : o ≤ X.length) : (splice X o cs).take o = X.take o := by
  unfold splice
  rw [List.take_append_of_le_length (by simp; omega), List.take_take, Nat.min_self]
theorem take_splice_end {α : Type} (X cs : List α) (o : Nat) (h : o ≤ X.length) : (splice X o cs).take (o + cs.length) = X.take o ++ cs := by
  unfold splice
  rw [← List.append_assoc, List.take_append_of_le_length (by simp; omega)]
  exact List.take_of_length_le (by simp; omega)
theorem splice_cons {α : Type} (X r : List α) (o : Nat) (v : α) (h : o < X.length) : splice (X.set o v) (o + 1) r = splice X o (v :: r) := by
  unfold splice
  have e1 : (X.set o v).take (o + 1) = X.take o ++ [v] := by
    rw [List.take_set, List.take_succ_eq_append_getElem h, List.set_append_right _ _ (by simp; omega)]
    simp [Nat.min_eq_left (Nat.le_of_lt h)]
  have e2 : (X.set o v).drop (o + 1 + r.length) = X.drop (o + (v :: r).length) := by
    rw [List.drop_set, if_pos (by omega)]
    congr 1
    simp; omega
  rw [e1, e2, List.append_assoc]
  rfl
theorem splice_nil {α : Type} (X : List α) (o : Nat) : splice X o [] = X := by simp [splice]
theorem Bx.setCells {g : Nat} : ∀ (news : List Value) (o : Nat) (X : List Value) (w : World), Bx w g X → o + news.length ≤ X.length → Bx (w.setCells g o news) g (splice X o news)
  | [], o, X, w, h, _ => by rw [splice_nil]; exact h
  | v :: r, o, X, w, h, hl => by
    simp only [List.length_cons] at hl
    have h1 : Bx (w.setCell ⟨g, o, none⟩ v) g (X.set o v) := by
      unfold Bx
      rw [heap_setCell_same w g o _ _ _ h]
      simp
    rw [← splice_cons X r o v (by omega)]
    exact Bx.setCells r (o + 1) (X.set o v) (w.setCell ⟨g, o, none⟩ v) h1 (by rw [List.length_set]; omega)
theorem setCells_turn (g : Nat) : ∀ (news : List Value) (o : Nat) (w : World), w.grownBy (w.setCells g o news) (some g)
  | [], o, w => ⟨rfl, rfl, rfl, Nat.le_refl _, fun _ _ _ => rfl⟩
  | v :: r, o, w => by
    have h1 := setCells_turn g r (o + 1) (w.setCell ⟨g, o, none⟩ v)
    have hz : (w.setCell ⟨g, o, none⟩ v).heap.size = w.heap.size := by simp [World.setCell]
    exact ⟨h1.os, h1.tape, h1.output, by have := h1.size; rw [hz] at this; exact this, fun k hk hne => (h1.block k (by rw [hz]; exact hk) hne).trans (Below.heap_setCell _ _ _ _ (fun e => hne (by rw [e])))⟩
theorem Bx.cell {w : World} {g : Nat} {X : List Value} (h : Bx w g X) (j : Nat) : w.cell? ⟨g, j, none⟩ = X[j]? ∧ w.frozen? ⟨g, j, none⟩ = false :=
  ⟨by rw [cell_of_row w g j _ _ _ h]; simp, frozen_of_row w g j _ _ h⟩
theorem Ww.bx {w : World} {base g n c : Nat} {L : List Wr} (h : Ww w base (.slice (Option.some ⟨g, 0, Option.none⟩) n c) L) : base ≤ g ∧ ∃ X, Bx w g X ∧ n = L.length ∧ n ≤ c ∧ c ≤ maxLen ∧ X.length = c * 3 ∧ X.take (L.length * 3) = wc3 L := by
  unfold Ww at h
  rcases h.2 with ⟨q, h0⟩ | ⟨g', cap', cur, q, hg, hh, h1, h2, h3, h4⟩
  · cases q
  · injection q with q1 q2 q3
    injection q1 with q1
    injection q1 with q1
    subst q1 q3
    exact ⟨hg, cur.toList, by unfold Bx; simpa using hh, q2, by omega, h2, by simpa using h3, h4⟩
theorem Ww.ofBx {w : World} {base g c : Nat} {L : List Wr} {X : List Value} (h : Bx w g X) (hb : base ≤ g) (hn : L.length ≤ c) (hc : c ≤ maxLen) (hX : X.length = c * 3) (hT : X.take (L.length * 3) = wc3 L) : Ww w base (.slice (Option.some ⟨g, 0, Option.none⟩) L.length c) L :=
  ⟨wc3_len L, .inr ⟨g, c, X.toArray, rfl, hb, h, hn, hc, by simpa using hX, by simpa using hT⟩⟩
theorem zero_waits (n : Nat) : (Builtin.zeroCells #[.int .i64 0, .int .i64 0, .int .i64 0] n).toList = List.replicate (n * 3) (.int .i64 0) := by
  simp only [Builtin.zeroCells]
  apply List.ext_getElem
  · simp
  · intro i h1 h2
    have : i % 3 = 0 ∨ i % 3 = 1 ∨ i % 3 = 2 := by omega
    rcases this with q | q | q <;> simp [q]
theorem run_clear_waits (w : World) (ty : TypeId) (g o n c : Nat) (X : List Value) (h : Bx w g X) (hn : 0 < n) (hf : o + n * 3 ≤ X.length) :
    (Builtin.clear_ #[29] ty #[.slice (some ⟨g, o, none⟩) n c]).run Try.prog w = .ok (.tuple #[]) (w.setCells g o (List.replicate (n * 3) (.int .i64 0))) := by
  have hv : ∀ w, (zeroValue 46).run Try.prog w = .ok (.agg #[.int .i64 0, .int .i64 0, .int .i64 0]) w := fun w => by kernel_rfl
  have hzc := zero_waits n
  have hcells : (Value.agg #[.int .i64 0, .int .i64 0, .int .i64 0]).cells = #[.int .i64 0, .int .i64 0, .int .i64 0] := by kernel_rfl
  have hst := run_storeCells_cells (P := Try.prog) g o (List.replicate (n * 3) (Value.int .i64 0)) 0 w (fun j hj => by
      rw [List.length_replicate] at hj
      rw [Nat.add_zero, (h.cell (o + j)).1, List.getElem?_eq_getElem (by omega)]; rfl) (fun j hj => (h.cell (o + 0 + j)).2) (by intro v hv'; rw [List.eq_of_mem_replicate hv']; rfl)
  simp only [Nat.add_zero] at hst
  obtain ⟨m, rfl⟩ : ∃ m, n = m + 1 := ⟨n - 1, by omega⟩
  simp [Builtin.clear_, run_underlying Try.underlying29, hv, hcells, hzc, hst]
set_option maxHeartbeats 4000000 in
theorem delete_some (base g c : Nat) (L : List Wr) (i j n : Nat) (w : World) (h : Ww w base (.slice (Option.some ⟨g, 0, Option.none⟩) n c) L) (hij : i < j) (hjn : j ≤ n) (hn : L.length = n) (hl : L.length ≤ 100000) :
    Calls Try.prog 33 #[.slice (Option.some ⟨g, 0, Option.none⟩) n c, .int .i64 (i : Int), .int .i64 (j : Int)] w fun e w' => e = .returned (.slice (Option.some ⟨g, 0, Option.none⟩) (i + (n - j)) c) ∧ Ww w' base (.slice (Option.some ⟨g, 0, Option.none⟩) (i + (n - j)) c) (L.take i ++ L.drop j) ∧ w.grownBy w' (Option.some g) := by
  obtain ⟨i0, hi, hz0, hz1, hz2⟩ := info_parts Try.infoWait
  obtain ⟨hbg, X, hX, hnl, hlc, hcm, hXl, hXt⟩ := h.bx
  have hcm' := hcm
  unfold maxLen at hcm'
  have hijI : (i : Int) ≤ (j : Int) := by omega
  have dx : ((i : Int) == (j : Int)) = false := by rw [beq_eq_false_iff_ne]; omega
  have hjI : (j : Int) ≤ (n : Int) := by omega
  have hnc : (n : Int) ≤ (c : Int) := by omega
  have hic : i ≤ c := by omega
  have hjc : j ≤ c := by omega
  have hicI : (i : Int) ≤ (c : Int) := by omega
  have hjcI : (j : Int) ≤ (c : Int) := by omega
  obtain ⟨news, hnews⟩ : ∃ news, news = (wc3 L).drop (j * 3) := ⟨_, rfl⟩
  have hlen : news.length = (n - j) * 3 := by rw [hnews, List.length_drop, wc3_len, hn]; omega
  have hget : ∀ t u, news[t]? = Option.some u → X[j * 3 + t]? = Option.some u := fun t u hu => by
    have ht : t < (n - j) * 3 := by have := (List.getElem?_eq_some_iff.1 hu).1; omega
    rw [hnews, List.getElem?_drop, ← hXt, List.getElem?_take, if_pos (by omega)] at hu
    exact hu
  obtain ⟨ad, had, hsrc⟩ : ∃ ad : Addr, (if c = j then (Option.some ⟨g, 0, Option.none⟩ : Option Addr) else Option.some ⟨g, j * 3, Option.none⟩) = Option.some ad ∧ Hid (∀ t u, news[t]? = Option.some u → w.drew.cell? (ad.add t) = Option.some u) := by
    by_cases e : c = j
    · refine ⟨⟨g, 0, Option.none⟩, by simp [e], fun t u hu => ?_⟩
      have ht : t < (n - j) * 3 := by have := (List.getElem?_eq_some_iff.1 hu).1; omega
      omega
    · refine ⟨⟨g, j * 3, Option.none⟩, by simp [e], fun t u hu => ?_⟩
      rw [Bk.add_at]
      exact ((hX.cell _).1).trans (hget t u hu)
  have s1 := Lib.hid hlen
  have s2 : Hid (∀ u ∈ news, u.oneCell' = true) := Lib.hid (fun u hu => wc3_one L u (by rw [hnews] at hu; exact List.mem_of_mem_drop hu))
  have s3 : Hid (∀ t, t < news.length → (w.drew.cell? ⟨g, 0 + i * 3 + t, Option.none⟩).isSome = true ∧ w.drew.frozen? ⟨g, 0 + i * 3 + t, Option.none⟩ = false) := Lib.hid (fun t ht => by
    rw [hlen] at ht
    refine ⟨?_, (hX.cell _).2⟩
    show (w.cell? _).isSome = true
    rw [(hX.cell _).1, List.getElem?_eq_getElem (by omega)]; rfl)
  obtain ⟨W1, hW1⟩ : ∃ W1, W1 = w.drew.setCells g (0 + i * 3) news := ⟨_, rfl⟩
  have hX1 : Bx W1 g (splice X (i * 3) news) := by
    rw [hW1, Nat.zero_add]
    exact Bx.setCells news (i * 3) X w.drew hX (by omega)
  have hG1 : w.grownBy W1 (Option.some g) := by
    rw [hW1]
    have := setCells_turn g news (0 + i * 3) w.drew
    exact ⟨this.os, this.tape, this.output, this.size, this.block⟩
  have hL1 : (splice X (i * 3) news).length = c * 3 := by rw [length_splice _ _ _ (by omega), hXl]
  have hcl : ∀ ty cc, (Builtin.clear_ #[29] ty #[.slice (Option.some ⟨g, (i + (n - j)) * 3, Option.none⟩) (n - (i + (n - j))) cc]).run Try.prog W1 = .ok (.tuple #[]) (W1.setCells g ((i + (n - j)) * 3) (List.replicate ((n - (i + (n - j))) * 3) (.int .i64 0))) := fun ty cc =>
    run_clear_waits W1 ty g ((i + (n - j)) * 3) (n - (i + (n - j))) cc _ hX1 (by omega) (by rw [hL1]; omega)
  obtain ⟨W2, hW2⟩ : ∃ W2, W2 = W1.setCells g ((i + (n - j)) * 3) (List.replicate ((n - (i + (n - j))) * 3) (.int .i64 0)) := ⟨_, rfl⟩
  rw [← hW2] at hcl
  have hX2 : Bx W2 g (splice (splice X (i * 3) news) ((i + (n - j)) * 3) (List.replicate ((n - (i + (n - j))) * 3) (.int .i64 0))) := by
    rw [hW2]
    exact Bx.setCells _ _ _ W1 hX1 (by rw [hL1, List.length_replicate]; omega)
  have hG2 : w.grownBy W2 (Option.some g) := by
    have := setCells_turn g (List.replicate ((n - (i + (n - j))) * 3) (.int .i64 0)) ((i + (n - j)) * 3) W1
    rw [← hW2] at this
    exact ⟨this.os.trans hG1.os, this.tape.trans hG1.tape, this.output.trans hG1.output, Nat.le_trans hG1.size this.size, fun k hk hne => (this.block k (Nat.lt_of_lt_of_le hk hG1.size) hne).trans (hG1.block k hk hne)⟩
  have hll : (L.take i ++ L.drop j).length = i + (n - j) := by simp; omega
  have HW2 : Hid (Ww W2 base (.slice (Option.some ⟨g, 0, Option.none⟩) (i + (n - j)) c) (L.take i ++ L.drop j) ∧ w.grownBy W2 (Option.some g)) := Lib.hid (by
    refine ⟨?_, hG2⟩
    have := Ww.ofBx (L := L.take i ++ L.drop j) (c := c) (base := base) hX2 hbg (by rw [hll]; omega) hcm (by rw [length_splice _ _ _ (by rw [hL1, List.length_replicate]; omega), hL1]) (by
      rw [hll, take_splice _ _ _ (by rw [hL1]; omega), show (i + (n - j)) * 3 = i * 3 + news.length by rw [hlen]; omega, take_splice_end _ _ _ (by omega), wc3_app, wc3_take, wc3_drop, ← hnews, ← hXt, List.take_take, Nat.min_eq_left (by omega)])
    rw [hll] at this
    exact this)
  have hW : Hid (W1 = w.drew.setCells g (0 + i * 3) news) := Lib.hid hW1
  have hne2 : ¬ c = i + (n - j) := by omega
  clear h hX hXl hXt hget hlen hnews hW1 hX1 hG1 hL1 hX2 hG2 hll hW2 hnl hn hz0 hz2 hcm
  go_enter Try.func33, Try.ntmps33
  go_wp2_with fail
  go_region_law (refine step_append_room rfl (.tmp 22) (.tmp 25) 29 rfl 46 i0 3 Try.underlying29 hi hz1 g 0 i c (by simp [Go.Act.eval, Go.Act.put]) ad (n - j) (c - j) news (by simp [Go.Act.eval, Go.Act.put]) s1.out hsrc.out s2.out (by omega) s3.out ?_; rw [← hW.out])
  go_wp2_with fail
  go_ret
  exact ⟨rfl, HW2.out⟩
/-- slices.Delete of one that waits. -/
theorem delete_one (base : Nat) (A : Option Addr) (n c : Nat) (L : List Wr) (i : Nat) (w : World) (h : Ww w base (.slice A n c) L) (hi : i < L.length) (hl : L.length ≤ 100000) :
    Calls Try.prog 33 #[.slice A n c, .int .i64 (i : Int), .int .i64 ((i : Int) + 1)] w fun e w' => e = .returned (.slice A (out i L).length c) ∧ Ww w' base (.slice A (out i L).length c) (out i L) ∧ w.grownBy w' (Value.slice A n c).ownBlock := by
  have hn : n = L.length := h.wg.1
  obtain ⟨g, rfl⟩ := h.some (by intro e; subst e; simp at hi)
  have e : (out i L).length = i + (n - (i + 1)) := by unfold out; simp; omega
  rw [e]
  exact delete_some base g c L i (i + 1) n w h (by omega) (by omega) hn.symm hl
end Ag
end Go.Proofs.Ytgeahckblgpnmaa
