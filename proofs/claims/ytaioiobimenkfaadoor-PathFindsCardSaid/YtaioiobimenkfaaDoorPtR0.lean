/-
  The document's map of a floor, while it is made: three lists that grow.
-/
import Derived.Test.YtaioiobimenkfaaDoorPtSet
import Derived.Deep.AppendLies
set_option linter.unusedVariables false
set_option maxRecDepth 100000
namespace Go.Proofs.YtaioiobimenkfaaDoor
open Go.RowKit Fl Pt

def m3 (a b c : Value) : Nat → Value
  | 0 => a
  | 1 => b
  | _ => c
theorem types_apart {w : World} {base base' n n' : Nat} {e e' : TypeId} {v v' : Value} {xs xs' : List Value} (h : w.ownsRow base e 1 v n xs) (h' : w.ownsRow base' e' 1 v' n' xs') (hne : e ≠ e') : ∀ k, v.ownBlock = some k → v'.ownBlock ≠ some k := by
  intro k hk e1
  rcases h.2 with ⟨rfl, _⟩ | ⟨g, cap, cur, rfl, _, hh, _⟩
  · cases hk
  · rcases h'.2 with ⟨rfl, _⟩ | ⟨g', cap', cur', rfl, _, hh', _⟩
    · cases e1
    · obtain rfl : g = k := by simpa [Value.ownBlock] using hk
      obtain rfl : g' = g := by simpa [Value.ownBlock] using e1
      rw [hh] at hh'
      simp only [Option.some.injEq, Obj.cells.injEq] at hh'
      exact hne hh'.2.1
def lanB (s : ByteArray) (i : Nat) : List Value := (List.range i).map fun k => Value.bool (isL (at_ s k))
def opnB (s : ByteArray) (i : Nat) : List Value := (List.range i).map fun k => Value.bool (at_ s k != 35)
theorem lanB_succ (s : ByteArray) (i : Nat) : lanB s (i + 1) = lanB s i ++ [.bool (isL (at_ s i))] := by simp [lanB, List.range_succ]
theorem opnB_succ (s : ByteArray) (i : Nat) : opnB s (i + 1) = opnB s i ++ [.bool (at_ s i != 35)] := by simp [opnB, List.range_succ]

structure Of5 (w : World) (W H : Nat) (s : ByteArray) (iN iL iO : Nat) (vN vL vO : Value) (rows : List Value) (wr : World) : Prop where
  box : Box w (W : Int) (H : Int) s wr
  oc : Cells (w.heap.size + 1) 3 (fun _ => .slice none 0 0) wr
  mc : Cells (w.heap.size + 2) 3 (m3 vN vL vO) wr
  oN : wr.ownsRow (w.heap.size + 3) 24 1 vN iN rows
  oL : wr.ownsRow (w.heap.size + 3) 4 1 vL iL (lanB s iL)
  oO : wr.ownsRow (w.heap.size + 3) 4 1 vO iO (opnB s iO)
  nr : ∀ k, k < iN → Own wr (w.heap.size + 3) (rows.getD k undef) (nrw W H (at_ s) k)
  ne : ∀ g, vL.ownBlock = some g → vO.ownBlock ≠ some g
section
variable {w : World} {W H : Nat} {s : ByteArray} {iN iL iO : Nat} {vN vL vO : Value} {rows : List Value} {wr : World}
theorem Of5.later {wx : World} (h : Of5 w W H s iN iL iO vN vL vO rows wr) (hb : Below wr.heap.size wr wx) : Of5 w W H s iN iL iO vN vL vO rows wx :=
  ⟨h.box.after hb, h.oc.later hb, h.mc.later hb, own_later h.oN hb, own_later h.oL hb, own_later h.oO hb, fun k hk => (h.nr k hk).later hb, h.ne⟩
theorem Of5.len (h : Of5 w W H s iN iL iO vN vL vO rows wr) : rows.length = iN := by have := h.oN.1; omega
theorem cells_kept {b n : Nat} {f : Nat → Value} {w w' : World} (h : Cells b n f w) (hs : w.heap.size ≤ w'.heap.size) (hb : w'.heap[b]? = w.heap[b]?) : Cells b n f w' := h.same hs hb
/-- Where a row's block and one cell were written. -/
theorem Of5.stay {w7 : World} {v x : Value} (h : Of5 w W H s iN iL iO vN vL vO rows wr) (hg : wr.grownBy w7 v.ownBlock) (hv : ∀ k, v.ownBlock = some k → w.heap.size + 3 ≤ k) (o : Nat) (ho : o < 3) (x : Value) :
    Box w (W : Int) (H : Int) s (w7.setCell ⟨w.heap.size + 2, o, none⟩ x) ∧ Cells (w.heap.size + 1) 3 (fun _ => .slice none 0 0) (w7.setCell ⟨w.heap.size + 2, o, none⟩ x) ∧
      (∀ f, (∀ q, q < 3 → f q = if q = o then x else m3 vN vL vO q) → Cells (w.heap.size + 2) 3 f (w7.setCell ⟨w.heap.size + 2, o, none⟩ x)) ∧
      (∀ k, k < wr.heap.size → v.ownBlock ≠ some k → k ≠ w.heap.size + 2 → (w7.setCell ⟨w.heap.size + 2, o, none⟩ x).heap[k]? = wr.heap[k]?) ∧
      (∀ k, k ≠ w.heap.size + 2 → (w7.setCell ⟨w.heap.size + 2, o, none⟩ x).heap[k]? = w7.heap[k]?) := by
  have hsz : (w7.setCell ⟨w.heap.size + 2, o, none⟩ x).heap.size = w7.heap.size := by simp [World.setCell]
  have h2 : ∀ k, k ≠ w.heap.size + 2 → (w7.setCell ⟨w.heap.size + 2, o, none⟩ x).heap[k]? = w7.heap[k]? := fun k hk => Below.heap_setCell w7 _ _ _ hk
  have h3 : ∀ k, k < wr.heap.size → v.ownBlock ≠ some k → k ≠ w.heap.size + 2 → (w7.setCell ⟨w.heap.size + 2, o, none⟩ x).heap[k]? = wr.heap[k]? := fun k hk hv hm => (h2 k hm).trans (hg.block k hk (fun e => hv e.symm))
  have hno : ∀ k, k < w.heap.size + 3 → v.ownBlock ≠ some k := fun k hk e => by have := hv k e; omega
  have hlt := h.box.lt
  have hM := h.mc.1
  have hO := h.oc.1
  have hle := hg.size
  refine ⟨h.box.later (Below.setCell (Below.grown (Below.refl _ _) hg hlt (fun k hk => by have := hv k hk; omega)) (by show w.heap.size + 1 ≤ w.heap.size + 2; omega) _), h.oc.same (by omega) (h3 _ hO (hno _ (by omega)) (by omega)), fun f hf => ?_, h3, h2⟩
  have h7 : Cells (w.heap.size + 2) 3 (m3 vN vL vO) w7 := h.mc.same hle (hg.block _ hM (fun e => hno _ (by omega) e.symm))
  exact h7.put o x ho hf
theorem Of5.addN {w7 : World} {v' x : Value} (h : Of5 w W H s iN iL iO vN vL vO rows wr) (hx : Own wr (w.heap.size + 3) x (nrw W H (at_ s) iN)) (hg : wr.grownBy w7 vN.ownBlock) (hown : w7.ownsRow (w.heap.size + 3) 24 1 v' (iN + 1) (rows ++ [x])) :
    Of5 w W H s (iN + 1) iL iO v' vL vO (rows ++ [x]) (w7.setCell ⟨w.heap.size + 2, 0, none⟩ v') := by
  obtain ⟨q1, q2, q3, q4, q5⟩ := h.stay (x := v') hg (fun k hk => (h.oN.lt k hk).1) 0 (by decide) v'
  have hl := h.len
  have hmv : ∀ {e : TypeId} {v : Value} {n : Nat} {xs : List Value}, wr.ownsRow (w.heap.size + 3) e 1 v n xs → (∀ k, v.ownBlock = some k → vN.ownBlock ≠ some k) → (w7.setCell ⟨w.heap.size + 2, 0, none⟩ v').ownsRow (w.heap.size + 3) e 1 v n xs := fun ho hn =>
    ownsRow_same ho (fun k hk => q4 k (ho.lt k hk).2 (hn k hk) (by have := (ho.lt k hk).1; omega))
  refine ⟨q1, q2, q3 _ (fun q hq => ?_), ownsRow_same hown (fun k hk => q5 k (by have := (hown.lt k hk).1; omega)), hmv h.oL (types_apart h.oL h.oN (by decide)), hmv h.oO (types_apart h.oO h.oN (by decide)), fun k hk => ?_, h.ne⟩
  · match q with
    | 0 => rfl
    | 1 => rfl
    | 2 => rfl
  · by_cases e : k = iN
    · subst e
      rw [List.getD_eq_getElem?_getD, List.getElem?_append_right (by omega), hl, Nat.sub_self]
      exact hmv hx (types_apart hx h.oN (by decide))
    · rw [List.getD_eq_getElem?_getD, List.getElem?_append_left (by omega), ← List.getD_eq_getElem?_getD]
      exact hmv (h.nr k (by omega)) (types_apart (h.nr k (by omega)) h.oN (by decide))
theorem Of5.addL {w7 : World} {g c : Nat} (h : Of5 w W H s iN iL iO vN vL vO rows wr) (hg : wr.grownBy w7 vL.ownBlock) (hown : w7.ownsRow (w.heap.size + 3) 4 1 (.slice (some ⟨g, 0, none⟩) (iL + 1) c) (iL + 1) (lanB s iL ++ [.bool (isL (at_ s iL))]))
    (hat : vL.ownBlock = some g ∨ g = wr.heap.size) : Of5 w W H s iN (iL + 1) iO vN (.slice (some ⟨g, 0, none⟩) (iL + 1) c) vO rows (w7.setCell ⟨w.heap.size + 2, 1, none⟩ (.slice (some ⟨g, 0, none⟩) (iL + 1) c)) := by
  obtain ⟨q1, q2, q3, q4, q5⟩ := h.stay (x := .slice (some ⟨g, 0, none⟩) (iL + 1) c) hg (fun k hk => (h.oL.lt k hk).1) 1 (by decide) (.slice (some ⟨g, 0, none⟩) (iL + 1) c)
  have hmv : ∀ {e : TypeId} {v : Value} {n : Nat} {xs : List Value}, wr.ownsRow (w.heap.size + 3) e 1 v n xs → (∀ k, v.ownBlock = some k → vL.ownBlock ≠ some k) → (w7.setCell ⟨w.heap.size + 2, 1, none⟩ (.slice (some ⟨g, 0, none⟩) (iL + 1) c)).ownsRow (w.heap.size + 3) e 1 v n xs := fun ho hn =>
    ownsRow_same ho (fun k hk => q4 k (ho.lt k hk).2 (hn k hk) (by have := (ho.lt k hk).1; omega))
  refine ⟨q1, q2, q3 _ (fun q hq => ?_), hmv h.oN (types_apart h.oN h.oL (by decide)), ?_, hmv h.oO (fun k hk e => h.ne k e hk), fun k hk => hmv (h.nr k hk) (types_apart (h.nr k hk) h.oL (by decide)), fun k hk e => ?_⟩
  · match q with
    | 0 => rfl
    | 1 => rfl
    | 2 => rfl
  · rw [lanB_succ]; exact ownsRow_same hown (fun k hk => q5 k (by have := (hown.lt k hk).1; omega))
  · obtain rfl : g = k := by simpa [Value.ownBlock] using hk
    rcases hat with hat | hat
    · exact h.ne g hat e
    · have := (h.oO.lt g e).2; omega
theorem Of5.addO {w7 : World} {g c : Nat} (h : Of5 w W H s iN iL iO vN vL vO rows wr) (hg : wr.grownBy w7 vO.ownBlock) (hown : w7.ownsRow (w.heap.size + 3) 4 1 (.slice (some ⟨g, 0, none⟩) (iO + 1) c) (iO + 1) (opnB s iO ++ [.bool (at_ s iO != 35)]))
    (hat : vO.ownBlock = some g ∨ g = wr.heap.size) : Of5 w W H s iN iL (iO + 1) vN vL (.slice (some ⟨g, 0, none⟩) (iO + 1) c) rows (w7.setCell ⟨w.heap.size + 2, 2, none⟩ (.slice (some ⟨g, 0, none⟩) (iO + 1) c)) := by
  obtain ⟨q1, q2, q3, q4, q5⟩ := h.stay (x := .slice (some ⟨g, 0, none⟩) (iO + 1) c) hg (fun k hk => (h.oO.lt k hk).1) 2 (by decide) (.slice (some ⟨g, 0, none⟩) (iO + 1) c)
  have hmv : ∀ {e : TypeId} {v : Value} {n : Nat} {xs : List Value}, wr.ownsRow (w.heap.size + 3) e 1 v n xs → (∀ k, v.ownBlock = some k → vO.ownBlock ≠ some k) → (w7.setCell ⟨w.heap.size + 2, 2, none⟩ (.slice (some ⟨g, 0, none⟩) (iO + 1) c)).ownsRow (w.heap.size + 3) e 1 v n xs := fun ho hn =>
    ownsRow_same ho (fun k hk => q4 k (ho.lt k hk).2 (hn k hk) (by have := (ho.lt k hk).1; omega))
  refine ⟨q1, q2, q3 _ (fun q hq => ?_), hmv h.oN (types_apart h.oN h.oO (by decide)), hmv h.oL (fun k hk e => h.ne k hk e), ?_, fun k hk => hmv (h.nr k hk) (types_apart (h.nr k hk) h.oO (by decide)), fun k hk e => ?_⟩
  · match q with
    | 0 => rfl
    | 1 => rfl
    | 2 => rfl
  · rw [opnB_succ]; exact ownsRow_same hown (fun k hk => q5 k (by have := (hown.lt k hk).1; omega))
  · obtain rfl : g = k := by simpa [Value.ownBlock] using e
    rcases hat with hat | hat
    · exact h.ne g hk hat
    · have := (h.oL.lt g hk).2; omega
end

/-- The document's map of a floor, as a value: what is near, which are lanes, which are no walls. -/
structure MapAt (w : World) (W H : Nat) (s : ByteArray) (AN AL AO : Option Addr) (n cN cL cO : Nat) : Prop where
  sz : n = s.size
  caps : (n ≤ cN ∧ cN ≤ maxLen) ∧ (n ≤ cL ∧ cL ≤ maxLen) ∧ (n ≤ cO ∧ cO ≤ maxLen)
  near : ∃ g, AN = some ⟨g, 0, none⟩ ∧ g < w.heap.size ∧ ∀ k, k < n → ∃ A c, w.cell? ⟨g, k, none⟩ = some (.slice A (nrw W H (at_ s) k).length c) ∧ Il w.heap.size w A (nrw W H (at_ s) k).length c (fun j => (((nrw W H (at_ s) k).getD j 0 : Nat) : Int))
  lane : ∃ g, AL = some ⟨g, 0, none⟩ ∧ g < w.heap.size ∧ ∀ k, k < n → w.cell? ⟨g, k, none⟩ = some (.bool (isL (at_ s k)))
  opn : ∃ g, AO = some ⟨g, 0, none⟩ ∧ g < w.heap.size ∧ ∀ k, k < n → w.cell? ⟨g, k, none⟩ = some (.bool (at_ s k != 35))
theorem MapAt.later {w w' : World} {W H : Nat} {s : ByteArray} {AN AL AO : Option Addr} {n cN cL cO : Nat} (h : MapAt w W H s AN AL AO n cN cL cO) (hb : Below w.heap.size w w') : MapAt w' W H s AN AL AO n cN cL cO := by
  refine ⟨h.sz, h.caps, ?_, ?_, ?_⟩
  · obtain ⟨g, e, hg, hc⟩ := h.near
    refine ⟨g, e, Nat.lt_of_lt_of_le hg hb.size, fun k hk => ?_⟩
    obtain ⟨A, c, h1, h2⟩ := hc k hk
    exact ⟨A, c, (hb.cell (p := ⟨g, k, none⟩) hg).trans h1, (h2.below hb).raise hb.size⟩
  · obtain ⟨g, e, hg, hc⟩ := h.lane
    exact ⟨g, e, Nat.lt_of_lt_of_le hg hb.size, fun k hk => (hb.cell (p := ⟨g, k, none⟩) hg).trans (hc k hk)⟩
  · obtain ⟨g, e, hg, hc⟩ := h.opn
    exact ⟨g, e, Nat.lt_of_lt_of_le hg hb.size, fun k hk => (hb.cell (p := ⟨g, k, none⟩) hg).trans (hc k hk)⟩
theorem map_of {w : World} {W H : Nat} {s : ByteArray} {AN AL AO : Option Addr} {cN cL cO : Nat} {rows : List Value} {wr : World} (oN : wr.ownsRow (w.heap.size + 3) 24 1 (.slice AN s.size cN) s.size rows)
    (oL : wr.ownsRow (w.heap.size + 3) 4 1 (.slice AL s.size cL) s.size (lanB s s.size)) (oO : wr.ownsRow (w.heap.size + 3) 4 1 (.slice AO s.size cO) s.size (opnB s s.size))
    (nr : ∀ k, k < s.size → Own wr (w.heap.size + 3) (rows.getD k undef) (nrw W H (at_ s) k)) (h0 : 0 < s.size) : MapAt wr W H s AN AL AO s.size cN cL cO := by
  have hcell : ∀ {e : TypeId} {A : Option Addr} {c : Nat} {xs : List Value}, wr.ownsRow (w.heap.size + 3) e 1 (.slice A s.size c) s.size xs → ∃ g, A = some ⟨g, 0, none⟩ ∧ g < wr.heap.size ∧ ∀ k, k < s.size → wr.cell? ⟨g, k, none⟩ = some (xs.getD k undef) := fun {e A c xs} ho => by
    obtain ⟨g, c', hv⟩ := shape_of ho h0
    simp only [Value.slice.injEq, true_and] at hv
    obtain ⟨rfl, rfl⟩ := hv
    refine ⟨g, rfl, (ho.lt g rfl).2, fun k hk => ?_⟩
    have hl := ho.1
    rw [ho.cellAt k (by omega), List.getD_eq_getElem?_getD, List.getElem?_eq_getElem (by omega : k < xs.length)]
    rfl
  refine ⟨rfl, ⟨ownsRow_cap oN, ownsRow_cap oL, ownsRow_cap oO⟩, ?_, ?_, ?_⟩
  · obtain ⟨g, e, hg, hc⟩ := hcell oN
    refine ⟨g, e, hg, fun k hk => ?_⟩
    have ho := nr k hk
    obtain ⟨A, c, hv⟩ := ownsRow_shape ho
    rw [hv] at ho
    exact ⟨A, c, by rw [hc k hk, hv], Own.il ho rfl⟩
  · obtain ⟨g, e, hg, hc⟩ := hcell oL
    exact ⟨g, e, hg, fun k hk => by rw [hc k hk]; simp [lanB, List.getD, hk]⟩
  · obtain ⟨g, e, hg, hc⟩ := hcell oO
    exact ⟨g, e, hg, fun k hk => by rw [hc k hk]; simp [opnB, List.getD, hk]⟩
end Go.Proofs.YtaioiobimenkfaaDoor
