/-
  Layer 13: a network and a map of how many there are of each text, in one memory.
-/
import Derived.Test.YtedhmlggmfgpgaaNwI
import Derived.Maps.OwnSet
import Derived.Maps.OwnOps
import Derived.IntWalk
set_option linter.unusedVariables false
set_option maxRecDepth 100000
namespace Go.Proofs.Ytedhmlggmfgpgaa
namespace Nw
open Go.RowKit Go.Maps Bk

/-- How many texts are so. -/
def cnt (L : List ByteArray) (x : ByteArray) : Int := ((L.filter fun s => decide (s = x)).length : Int)
theorem cnt_range (L : List ByteArray) (x : ByteArray) : 0 ≤ cnt L x ∧ cnt L x ≤ (L.length : Int) := by
  unfold cnt
  have := List.length_filter_le (fun s => decide (s = x)) L
  omega
theorem cnt_snoc (L : List ByteArray) (s x : ByteArray) : cnt (L ++ [s]) x = if x = s then cnt L s + 1 else cnt L x := by
  unfold cnt
  rw [List.filter_append, List.length_append]
  by_cases h : x = s
  · subst h; rw [if_pos rfl]; simp
  · rw [if_neg h]
    have : decide (s = x) = false := decide_eq_false (fun e => h e.symm)
    simp [this]
theorem split_at {L : List ByteArray} {i : Nat} (h : i < L.length) : L = L.take i ++ bat L i :: L.drop (i + 1) := by
  have e : bat L i = L[i] := by unfold bat; simp [List.getD, List.getElem?_eq_getElem h]
  rw [e]
  simp
theorem cnt_ou (L : List ByteArray) (i : Nat) (h : i < L.length) (x : ByteArray) : cnt (ou i L) x = if x = bat L i then cnt L (bat L i) - 1 else cnt L x := by
  have e : ∀ x, cnt L x = cnt (ou i L) x + (if bat L i = x then 1 else 0) := fun x => by
    have hs := split_at h
    have : cnt L x = cnt (L.take i ++ bat L i :: L.drop (i + 1)) x := by rw [← hs]
    rw [this]
    unfold cnt ou
    rw [List.filter_append, List.filter_append, List.length_append, List.length_append, List.filter_cons]
    by_cases q : bat L i = x
    · rw [if_pos q, if_pos (decide_eq_true q)]; simp only [List.length_cons]; omega
    · rw [if_neg q, if_neg (by simpa using q)]; omega
  by_cases q : x = bat L i
  · rw [if_pos q, q, e (bat L i), if_pos rfl]; omega
  · rw [if_neg q, e x, if_neg (fun k => q k.symm)]; omega
theorem cnt_there (L : List ByteArray) (i : Nat) (h : i < L.length) : 1 ≤ cnt L (bat L i) := by
  have h1 := cnt_ou L i h (bat L i)
  rw [if_pos rfl] at h1
  have := (cnt_range (ou i L) (bat L i)).1
  omega
theorem owns_same {H : Type} {w w' : World} {P : Program} {k : TypeId} {R : Value → Option (DataW H × List MemPlace)} {b n : Nat} {D : DataW H} (h : w.ownsMap P k R b n D) (he : w'.heap[b]? = w.heap[b]?) : w'.ownsMap P k R b n D := by
  obtain ⟨es, clock, hb, hr⟩ := h
  exact ⟨es, clock, by rw [he]; exact hb, hr⟩
abbrev MS (W : World) (mb N : Nat) (D : DataW Unit) : Prop := W.ownsMap Try.prog 9 (plainElem Try.prog 3) mb N D
/-- A network, and a map in block mb; both made since w0. -/
structure Mo (w0 : World) (g mb N : Nat) (v : Value) (P : List Value) (L : List ByteArray) (c : ByteArray → Int) (w : World) : Prop where
  na : NAt w w0.heap.size g v P L
  lo : w0.heap.size ≤ mb
  below : Below w0.heap.size w0 w
  map : ∃ D, MS w mb N D ∧ ∀ x : ByteArray, D.atKey (.string x.data.toList) (.lit (.int .i64 0)) = .lit (.int .i64 (c x))
section
variable {w0 w w' : World} {g mb N : Nat} {v v' : Value} {P P' : List Value} {L L' : List ByteArray} {c c' : ByteArray → Int}
theorem NAt.notMap {base : Nat} (h : NAt w base g v P L) {k : Nat} {es : Array MapEntry} {cl : Nat} (hk : w.heap[k]? = some (.map es cl)) : ¬ NF g v P k := by
  intro hf
  obtain ⟨c, t, fz, hh, _⟩ := h.kind k hf
  rw [hk] at hh
  simp at hh
theorem Mo.later (h : Mo w0 g mb N v P L c w) (hb : Below w.heap.size w w') : Mo w0 g mb N v P L c w' := by
  obtain ⟨D, hD, hg⟩ := h.map
  exact ⟨h.na.later hb, h.lo, h.below.trans (hb.mono h.below.size), ⟨D, owns_same hD (hb.block mb hD.lt), hg⟩⟩
theorem Mo.step (h : Mo w0 g mb N v P L c w) (hn : NAt w' w0.heap.size g v' P' L') (ht : Turn (NF g v P) (NF g v' P') w w') : Mo w0 g mb N v' P' L' c w' := by
  obtain ⟨D, hD, hg⟩ := h.map
  refine ⟨hn, h.lo, h.na.belowT ht h.below (Nat.le_refl _) (Nat.le_refl _), ⟨D, owns_same hD (ht.block mb hD.lt ?_), hg⟩⟩
  obtain ⟨es, cl, hb, _⟩ := hD
  exact h.na.notMap hb
theorem zeroInt (w : World) : (zeroValue 3).run Try.prog w = .ok (.int .i64 0) w := by kernel_rfl
theorem Mo.asked (h : Mo w0 g mb N v P L c w) (s : ByteArray) (hs : s.size ≤ 100000) : (Instr.lookup 44 (.map (some mb)) (.string s) false).run Try.prog w = .ok (.int .i64 (c s)) w := by
  obtain ⟨D, hD, hg⟩ := h.map
  obtain ⟨z, hrun, hat, _⟩ := hD.lookup_int (string_keyed Try.underlying9) Try.underlying44 Try.underlying3 (zeroInt w) (WideMaps.keyOf_string_mk Try.underlying9 (by unfold maxLen; omega : s.size ≤ maxLen))
  have := hat.symm.trans (hg s)
  simp at this
  subst this
  exact hrun
theorem Mo.put (h : Mo w0 g mb N v P L c w) (s : ByteArray) (hs : s.size ≤ 100000) (hN : N ≤ 1000000) (z : Int) (hz : -1000000 ≤ z ∧ z ≤ 1000000) (hc : ∀ x, c' x = if x = s then z else c x) :
    ∃ w', (Instr.mapUpdate 44 (.map (some mb)) (.string s) (.int .i64 z)).run Try.prog w = .ok () w' ∧ Mo w0 g mb (N + 1) v P L c' w' ∧ ∀ base y s', Yw w base y s' → Yw w' base y s' := by
  obtain ⟨D, hD, hg⟩ := h.map
  have hM := hD.isMap
  obtain ⟨w', hrun, hw', hgr⟩ := hD.update (string_keyed Try.underlying9) Try.underlying44 (by unfold maxLen; omega) (WideMaps.keyOf_string_mk Try.underlying9 (by unfold maxLen; omega : s.size ≤ maxLen)) (plainElem_int (H := Unit) Try.underlying3 (WalkArith.wf_i64 (by omega : -9223372036854775808 ≤ z ∧ z ≤ 9223372036854775807)))
  have hk2 : ∀ base y s', Yw w base y s' → Yw w' base y s' := fun base y s' hy => hy.same fun k hk => hgr.block k (hy.kind k hk).1 (fun e => by
    obtain ⟨es, cl, hb, _⟩ := hD
    obtain ⟨_, _, cc, fz, hh⟩ := hy.kind k hk
    injection e with e
    subst e
    rw [hb] at hh
    simp at hh)
  refine ⟨w', hrun, ⟨h.na.same fun k hk => hgr.block k (h.na.blocks k hk).2 (fun e => ?_), h.lo, h.below.trans (Below.grown (Below.refl _ _) hgr h.below.size (fun j hj => by cases hj; exact h.lo)), ⟨_, hw', fun x => ?_⟩⟩, hk2⟩
  · obtain ⟨es, cl, hb, _⟩ := hD
    injection e with e
    subst e
    exact h.na.notMap hb hk
  · rw [hc]
    by_cases e : x = s
    · subst e
      rw [if_pos rfl]
      exact atKey_put_same hM (show WideAt.IsKeyLit (.string x.data.toList) from trivial) _ _
    · rw [if_neg e, atKey_put_other (fun k => e (by injection k with k; exact ByteArray.ext (Array.toList_inj.1 k))) _ _]
      exact hg x
end
theorem run_makeMap_str (w : World) : (Instr.makeMap 44 none).run Try.prog w = .ok (.map (some w.heap.size)) (w.alloc (.map #[] 0)) := by
  simp [Instr.makeMap, Result.andThen]
theorem Mo.start {w0 w : World} {g : Nat} {v : Value} (h : NAt w w0.heap.size g v [] []) (hb : Below w0.heap.size w0 w) : Mo w0 g w.heap.size 0 v [] [] (cnt []) (w.alloc (.map #[] 0)) :=
  ⟨h.later ((Below.refl _ _).alloc (Nat.le_refl _) _), hb.size, hb.alloc hb.size _, ⟨.map [], World.ownsMap_made w _ _ _, fun x => by simp [DataW.atKey, cnt]⟩⟩
end Nw
end Go.Proofs.Ytedhmlggmfgpgaa
