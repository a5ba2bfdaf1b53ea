/-
  The document's heap: an item is laid where it belongs.
-/
import Derived.Test.YtbpcigcfdkamaaaHpW7
import Derived.Laws.AppendOwnNone
set_option linter.unusedVariables false
namespace Go.Proofs.Ytbpcigcfdkamaaa
open Go.RowKit E

/-- An item is laid behind all whose keys are no greater. -/
def insI (x : Int × Int) : List (Int × Int) → List (Int × Int)
  | [] => [x]
  | a :: l => if a.1 ≤ x.1 then a :: insI x l else x :: a :: l
theorem insI_map (x : E) : ∀ M : List E, (ins x M).map (fun e => (e.k, e.v)) = insI (x.k, x.v) (M.map fun e => (e.k, e.v))
  | [] => rfl
  | a :: l => by
    simp only [ins, insI, List.map_cons]
    split <;> simp_all [insI_map x l]
theorem outs_next (f : Nat → Int × Int) (k : Nat) : outs f (k + 1) = insI (f k) (outs f k) := by
  unfold outs; rw [mkE, insI_map]
theorem insI_at (x : Int × Int) : ∀ (l : List (Int × Int)) (k : Nat), k ≤ l.length → (∀ i, i < k → (l.getD i (0, 0)).1 ≤ x.1) → (k < l.length → ¬ (l.getD k (0, 0)).1 ≤ x.1) → insI x l = l.take k ++ x :: l.drop k
  | [], k, h, _, _ => by simp at h; subst h; rfl
  | a :: l, 0, _, _, h2 => by
    have := h2 (by simp)
    simp at this
    simp [insI]; omega
  | a :: l, k + 1, h, h1, h2 => by
    have h0 := h1 0 (by omega)
    simp at h0
    simp only [insI, h0, if_true, List.take_succ_cons, List.drop_succ_cons, List.cons_append]
    rw [insI_at x l k (by simpa using h) (fun i hi => by simpa using h1 (i + 1) (by omega)) (fun hk => by simpa using h2 (by simpa using hk))]

/-- The document's heap lies in block rb, its items at a slice. -/
structure RAt (w : World) (rb : Nat) (A : Option Addr) (n cap : Nat) (l : List (Int × Int)) : Prop where
  box : w.heap[rb]? = some (.cells #[.slice A n cap] 29 (0, 0))
  items : It w.heap.size w A n cap (fun i => l.getD i (0, 0))
  len : l.length = n
  kind : ∀ a, A = some a → ∃ cs fz, w.heap[a.block]? = some (.cells cs 32 fz)
  plain : ∀ a, A = some a → ∃ g off, a = ⟨g, off, none⟩
theorem RAt.same {w w' : World} {rb : Nat} {A : Option Addr} {n cap : Nat} {l : List (Int × Int)} (h : RAt w rb A n cap l) (hs : w.heap.size ≤ w'.heap.size) (hb : w'.heap[rb]? = w.heap[rb]?) (ha : ∀ a, A = some a → w'.heap[a.block]? = w.heap[a.block]?) : RAt w' rb A n cap l := by
  refine ⟨by rw [hb]; exact h.box, ⟨h.items.le, h.items.max, h.items.nil, fun hn => ?_⟩, h.len, fun a e => by rw [ha a e]; exact h.kind a e, h.plain⟩
  obtain ⟨g, off, e, hg, hc⟩ := h.items.cell hn
  have hga : w'.heap[g]? = w.heap[g]? := ha _ e
  exact ⟨g, off, e, by omega, fun j hj => ⟨(World.cell?_of_block (a := ⟨g, off + j * 2, none⟩) hga).trans (hc j hj).1, (World.cell?_of_block (a := ⟨g, off + j * 2 + 1, none⟩) hga).trans (hc j hj).2⟩⟩
theorem RAt.turn {F F' : Nat → Prop} {w w' : World} {rb : Nat} {A : Option Addr} {n cap : Nat} {l : List (Int × Int)} (h : RAt w rb A n cap l) (ht : Turn F F' w w') (h1 : ¬ F rb) (h2 : ∀ a, A = some a → ¬ F a.block) : RAt w' rb A n cap l :=
  h.same ht.size (ht.block rb (lt_of_heap h.box) h1) (fun a e => by obtain ⟨cs, fz, hk⟩ := h.kind a e; exact ht.block _ (lt_of_heap hk) (h2 a e))
theorem RAt.below {w w' : World} {rb : Nat} {A : Option Addr} {n cap : Nat} {l : List (Int × Int)} (h : RAt w rb A n cap l) (hb : Below w.heap.size w w') : RAt w' rb A n cap l :=
  h.turn (Turn.ofBelow hb (fun _ => False)) (fun x => x) (fun _ _ x => x)

theorem app_items {w : World} {ops : Array Oper} {rest : List Oper} {o : Oper} {a : Act} {Q : Exit → Act → World → Prop} (hgd : o.guard = none) (s x : Operand)
    (ho : o.op = .call { callee := .builtin .append, args := #[s, x], argTypes := #[27, 27] })
    (base : Nat) (v : Value) (xs : List (Int × Int)) (hs : a.eval s = v) (hown : Iow w base v xs)
    (A : Option Addr) (m c : Nat) (f : Nat → Int × Int) (ys : List (Int × Int)) (hx : a.eval x = .slice A m c) (hr : It w.heap.size w A m c f) (hy : ys.length = m) (hf : ∀ i, i < m → ys.getD i (0, 0) = f i) (hb : xs.length + m ≤ 1000000) (hbase : base ≤ w.heap.size)
    (h : ∀ v' w', Iow w' base v' (xs ++ ys) → Below base w w' → w.grownBy w' v.ownBlock → (v'.ownBlock = v.ownBlock ∨ v'.ownBlock = some w.heap.size) → wpList Try.prog ops Q rest (a.put o.dst v') w') : wpList Try.prog ops Q (o :: rest) a w := by
  obtain ⟨i0, hi, hz0, hz1, hz2⟩ := info_parts Try.infoItem
  have hcells : ∀ (ad : Addr), A = some ad → ∀ j u, (pc ys)[j]? = some u → w.cell? (ad.add j) = some u := by
    intro ad hA j u hu
    have hjl : j < (pc ys).length := by
      rcases Nat.lt_or_ge j (pc ys).length with h | h
      · exact h
      · rw [List.getElem?_eq_none h] at hu; cases hu
    rw [pc_length] at hjl
    obtain ⟨g, off, e, hg, hc⟩ := hr.cell (by omega)
    rw [hA] at e
    injection e with e
    subst e
    have hi := pc_get ys (j / 2) (by omega)
    have hci := hc (j / 2) (by omega)
    rw [hf _ (by omega)] at hi
    have e1 : (Addr.add ⟨g, off, none⟩ j) = ⟨g, off + j, none⟩ := by unfold Addr.add; split <;> simp_all
    rw [e1]
    rcases (by omega : j = j / 2 * 2 ∨ j = j / 2 * 2 + 1) with q | q
    · have e2 : off + j = off + j / 2 * 2 := by omega
      have e3 : (pc ys)[j]? = (pc ys)[j / 2 * 2]? := by rw [← q]
      rw [e2, hci.1, ← hi.1, ← e3, hu]
    · have e2 : off + j = off + j / 2 * 2 + 1 := by omega
      have e3 : (pc ys)[j]? = (pc ys)[j / 2 * 2 + 1]? := by rw [← q]
      rw [e2, hci.2, ← hi.2, ← e3, hu]
  cases A with
  | none =>
    have hc0 := hr.nil rfl
    have hm0 : m = 0 := by have := hr.le; omega
    subst hm0
    subst hc0
    have : ys = [] := List.eq_nil_of_length_eq_zero hy
    subst this
    exact wpList_append_own_none hgd s x 27 ho base 32 i0 2 Try.underlying27 hi v xs.length (pc xs) hs hown hx (h v w (by simpa using hown) (Below.refl _ _) ⟨rfl, rfl, rfl, Nat.le_refl _, fun _ _ _ => rfl⟩ (.inl rfl))
  | some ad =>
    refine wpList_append_own_at w hgd s x 27 ho base 32 i0 (.agg #[.int .i64 0, .int .i64 0]) 2 16 Try.underlying27 hi hz0 hz1 hz2 rfl (by decide) v xs.length (pc xs) hs hown ad m c (pc ys) hx (by rw [pc_length, hy]) (hcells ad rfl) (pc_one ys) (by unfold maxLen; omega) (by omega) hbase ?_
    intro v' w' h1 h2 h3 h4
    exact h v' w' (by unfold Iow; rw [pc_app, List.length_append, hy]; exact h1) (Below.grown (Below.refl _ _) h2 hbase (fun k hk => (hown.lt k hk).1)) h2 h4

/-- An empty list of the call's own. -/
theorem Iow.empty (w : World) (base : Nat) (hb : base ≤ w.heap.size) : Iow (w.alloc (.cells #[] 32)) base (.slice (some ⟨w.heap.size, 0, none⟩) 0 0) [] := by
  have := World.ownsRow_lit (base := base) (e := 32) (size := 2) w #[] 0 hb (by unfold maxLen; omega) rfl
  simpa [Iow, pc] using this
theorem Iow.more {w : World} {base : Nat} {v : Value} {l : List (Int × Int)} (h : Iow w base v l) (o : Obj) : Iow (w.alloc o) base v l := h.below ((Below.refl _ w).alloc (Nat.le_refl _) o)

end Go.Proofs.Ytbpcigcfdkamaaa
