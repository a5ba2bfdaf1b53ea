/-
  A heap and a map of how many there are of each item, in one memory.
-/
import Derived.Test.YtbpcigcfdkamaaaHpM
set_option linter.unusedVariables false
namespace Go.Proofs.Ytbpcigcfdkamaaa
open Go.ChangeShapes Go.WideShapes Go.ChangeAt Go.RowKit Go.Deep E Go.Maps

/-- A heap in block b, a map in block mb that says so many of each key; both made since w. -/
structure Hm (w : World) (b mb : Nat) (M : List E) (n N : Nat) (g : Int → Int → Int) (W : World) : Prop where
  heap : ∃ v, HAt W b v M n
  lo : w.heap.size ≤ b ∧ w.heap.size ≤ mb
  below : Below w.heap.size w W
  map : ∃ D, MM W mb N D ∧ ∀ x y, wfI x → wfI y → D.atKey (KL x y) (.lit (.int .i64 0)) = .lit (.int .i64 (g x y))
theorem Hm.sorted {w W : World} {b mb n N : Nat} {M : List E} {g : Int → Int → Int} (h : Hm w b mb M n N g W) : Sorted M := by
  obtain ⟨v, hv⟩ := h.heap
  exact hv.sorted
theorem Hm.later {w W W' : World} {b mb n N : Nat} {M : List E} {g : Int → Int → Int} (h : Hm w b mb M n N g W) (hb : Below W.heap.size W W') : Hm w b mb M n N g W' := by
  obtain ⟨v, hv⟩ := h.heap
  obtain ⟨D, hD, hg⟩ := h.map
  exact ⟨⟨v, hv.below hb⟩, h.lo, h.below.trans (hb.mono h.below.size), ⟨D, owns_same hD (hb.block mb hD.lt), hg⟩⟩
theorem Hm.more {w W : World} {b mb n N : Nat} {M : List E} {g : Int → Int → Int} (h : Hm w b mb M n N g W) (o : Obj) : Hm w b mb M n N g (W.alloc o) := h.later ((Below.refl _ W).alloc (Nat.le_refl _) o)
theorem Hm.step {w W w' : World} {b mb n n' N : Nat} {M M' : List E} {g : Int → Int → Int} {v v' : Value} (h : Hm w b mb M n N g W) (hv : HAt W b v M n) (h' : HAt w' b v' M' n') (ht : Turn (HF b v) (HF b v') W w') : Hm w b mb M' n' N g w' ∧ KeptT W w' := by
  obtain ⟨D, hD, hg⟩ := h.map
  refine ⟨⟨⟨v', h'⟩, h.lo, h.below.trans (ht.below _ h.below.size (fun k hk => by have := (hv.owned k hk).1; have := h.lo.1; omega)), ⟨D, owns_same hD (ht.block mb hD.lt ?_), hg⟩⟩, KeptT.ofTurn ht hv.isHp⟩
  obtain ⟨es, cl, hb, _⟩ := hD
  exact hv.notMap hb
theorem Hm.upd {w W w' : World} {b mb n N : Nat} {M : List E} {g g' : Int → Int → Int} (h : Hm w b mb M n N g W) {D : DataW Unit} (hD : MM W mb N D) (hg : ∀ x y, wfI x → wfI y → D.atKey (KL x y) (.lit (.int .i64 0)) = .lit (.int .i64 (g x y))) {x y c : Int} (hx : wfI x) (hy : wfI y)
    (hm : MM w' mb (N + 1) (D.put (KL x y) (.lit (.int .i64 c)))) (hgr : W.grownBy w' (some mb)) (hg' : ∀ z u, g' z u = if z = x ∧ u = y then c else g z u) : Hm w b mb M n (N + 1) g' w' := by
  obtain ⟨v, hv⟩ := h.heap
  refine ⟨⟨v, hv.same fun k hk => hgr.block k (hv.owned k hk).2 (fun e => ?_)⟩, h.lo, h.below.trans (Below.grown (Below.refl _ _) hgr h.below.size (fun j hj => by cases hj; exact h.lo.2)), ⟨_, hm, fun z u hz hu => ?_⟩⟩
  · obtain ⟨es, cl, hb, _⟩ := hD
    injection e with e
    subst e
    exact hv.notMap hb hk
  · rw [hg']
    by_cases e : z = x ∧ u = y
    · obtain ⟨rfl, rfl⟩ := e
      rw [if_pos ⟨rfl, rfl⟩]
      exact atKey_put_same hD.isMap (law_item.key (keyOf_item hx hy)) _ _
    · rw [if_neg e, atKey_put_other (fun k => e (KL_inj hz hu hx hy (by first | exact k | exact k.symm))) _ _]
      exact hg z u hz hu
theorem push_m {w W : World} {b mb n N : Nat} {M : List E} {g : Int → Int → Int} (x y : Int) (h : Hm w b mb M n N g W) (hn : n < 1000000) :
    Calls Try.prog 15 #[.pointer (some ⟨b, 0, none⟩), .agg #[.int .i64 x, .int .i64 y]] W fun e w' => e = .returned (.tuple #[]) ∧ Hm w b mb (ins ⟨x, y, n⟩ M) (n + 1) N g w' ∧ KeptT W w' := by
  obtain ⟨v, hv⟩ := h.heap
  refine (push_any b v M n x y W hv hn).mono ?_
  rintro e w' ⟨rfl, v', h1, h2⟩
  exact ⟨rfl, h.step hv h1 h2⟩
theorem pop_m {w W : World} {b mb n N : Nat} {M : List E} {g : Int → Int → Int} (h : Hm w b mb M n N g W) :
    Calls Try.prog 13 #[.pointer (some ⟨b, 0, none⟩)] W fun e w' => e = .returned (Item? M) ∧ Hm w b mb M.tail n N g w' ∧ KeptT W w' := by
  obtain ⟨v, hv⟩ := h.heap
  refine (pop_any b v M n W hv).mono ?_
  rintro e w' ⟨rfl, v', h1, h2⟩
  exact ⟨rfl, h.step hv h1 h2⟩
theorem peek_m {w W : World} {b mb n N : Nat} {M : List E} {g : Int → Int → Int} (h : Hm w b mb M n N g W) :
    Calls Try.prog 17 #[.pointer (some ⟨b, 0, none⟩)] W fun e w' => e = .returned (Item? M) ∧ Hm w b mb M n N g w' := by
  obtain ⟨v, hv⟩ := h.heap
  refine (peek_any b v M n W hv).mono ?_
  rintro e w' ⟨rfl, hb⟩
  exact ⟨rfl, h.later hb⟩
theorem len_m {w W : World} {b mb n N : Nat} {M : List E} {g : Int → Int → Int} (h : Hm w b mb M n N g W) :
    Calls Try.prog 19 #[.pointer (some ⟨b, 0, none⟩)] W fun e w' => e = .returned (.int .i64 (M.length : Int)) ∧ W = w' := by
  obtain ⟨v, hv⟩ := h.heap
  exact len_any b v M n W hv

/-- An item's block of the call's own is written. -/
theorem Hm.item {w W W' : World} {b mb n N lb : Nat} {M : List E} {g : Int → Int → Int} {cs : Array Value} {fz : Nat × Nat} (h : Hm w b mb M n N g W) (hk : W.heap[lb]? = some (.cells cs 32 fz)) (hlo : w.heap.size ≤ lb)
    (h1 : ∀ k, k ≠ lb → W'.heap[k]? = W.heap[k]?) (hb : Below lb W W') : Hm w b mb M n N g W' := by
  obtain ⟨v, hv⟩ := h.heap
  obtain ⟨D, hD, hg⟩ := h.map
  refine ⟨⟨v, hv.same fun k hf => h1 k (fun e => ?_)⟩, h.lo, h.below.trans (hb.mono hlo), ⟨D, owns_same hD (h1 mb (fun e => ?_)), hg⟩⟩
  · subst e; exact hv.notItem hk hf
  · subst e
    obtain ⟨es, cl, hb2, _⟩ := hD
    rw [hk] at hb2
    simp at hb2
theorem run_makeMap_item (w : World) : (Instr.makeMap 43 none).run Try.prog w = .ok (.map (some w.heap.size)) (w.alloc (.map #[] 0)) := by
  simp [Instr.makeMap, Result.andThen]
theorem Hm.start {w w2 : World} {b : Nat} {v : Value} (h : HAt w2 b v [] 0) (hlo : w.heap.size ≤ b) (hb : Below w.heap.size w w2) : Hm w b w2.heap.size [] 0 0 (fun x y => cntM [] x y) (w2.alloc (.map #[] 0)) :=
  ⟨⟨v, h.more _⟩, ⟨hlo, hb.size⟩, hb.alloc hb.size _, ⟨.map [], World.ownsMap_made w2 _ _ _, fun x y _ _ => by simp [DataW.atKey, cntM_nil]⟩⟩
theorem item_put {W : World} {lb : Nat} {u v x y : Value} {T : TypeId} (h : W.heap[lb]? = some (.cells #[u, v] T (0, 0))) : ((W.setCell ⟨lb, 0, none⟩ x).setCell ⟨lb, 1, none⟩ y).heap[lb]? = some (.cells #[x, y] T (0, 0)) := by
  have h1 := heap_setCell_same W lb 0 _ _ x h
  simp at h1
  have h2 := heap_setCell_same _ lb 1 _ _ y h1
  simpa using h2
theorem Hm.put2 {w W : World} {b mb n N lb : Nat} {M : List E} {g : Int → Int → Int} {u v x y : Value} (h : Hm w b mb M n N g W) (hk : W.heap[lb]? = some (.cells #[u, v] 32 (0, 0))) (hlo : w.heap.size ≤ lb) : Hm w b mb M n N g ((W.setCell ⟨lb, 0, none⟩ x).setCell ⟨lb, 1, none⟩ y) :=
  h.item hk hlo (fun k hk => by rw [Below.heap_setCell _ _ _ _ hk, Below.heap_setCell _ _ _ _ hk]) (((Below.refl lb W).setCell (p := ⟨lb, 0, none⟩) (Nat.le_refl _) x).setCell (p := ⟨lb, 1, none⟩) (Nat.le_refl _) y)
theorem sorted_head {e : E} {M : List E} (hs : Sorted (e :: M)) : ∀ d, d ∈ M → e.k ≤ d.k := by
  intro d hd
  unfold Sorted at hs
  have := (List.pairwise_cons.1 hs).1 d hd
  unfold lt at this
  split at this
  · omega
  · have := of_decide_eq_true this
    omega
theorem Hm.drew {w W : World} {b mb n N : Nat} {M : List E} {g : Int → Int → Int} (h : Hm w b mb M n N g W) : Hm w b mb M n N g W.drew := h.later (Below.refl _ _).drew
end Go.Proofs.Ytbpcigcfdkamaaa
