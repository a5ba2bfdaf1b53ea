/-
  Layer 5: what is near to a cell, as layer 3 tells it; a number among the first so many.
  The document's map of a floor, while it is made: three lists that grow.
  Layer 5: the document's Of.
  Layer 5: the document's open, in, Steps.
-/
import Derived.Test.YtakgkocdkondhaaGreatDoorPtA
import Derived.Test.YtakgkocdkondhaaGreatDoorFlRa
import Derived.Laws.AppendOwnNone
import Derived.Deep.RegionHeld3
import Derived.BigQuiet
import Derived.Deep.AppendLies
import Derived.Test.YtakgkocdkondhaaGreatDoorPtGa
import Derived.Deep.RegionLaw
import Derived.Deep.CutRange
import Derived.Deep.DeepCutAuto
set_option linter.unusedVariables false
set_option maxRecDepth 100000
section
namespace Go.Proofs.YtakgkocdkondhaaGreatDoor
open Go.RowKit Fl Pt

theorem bAt_in5 (s : ByteArray) (k : Nat) (h : k < s.size) : bAt s (k : Int) = at_ s k := by
  unfold bAt; rw [if_pos (by omega), Int.toNat_natCast]
/-- What is near to a cell, as layer 3 tells it: of a wall nothing is. -/
def nrw (W H : Nat) (z : Nat → Nat) (c : Nat) : List Nat := if z c ≠ 35 then nr W H z c else []
/-- Is a number among the first so many? -/
def mI (f : Nat → Int) (n : Nat) (x : Int) : Bool := (List.range n).any fun j => f j == x
theorem mI_succ (f : Nat → Int) (n : Nat) (x : Int) : mI f (n + 1) x = (mI f n x || (f n == x)) := by simp [mI, List.range_succ]
theorem mI_mk (f : Nat → Int) (n x : Nat) : mI f n (x : Int) = mk f n x := rfl
end Go.Proofs.YtakgkocdkondhaaGreatDoor
end

section
namespace Go.Proofs.YtakgkocdkondhaaGreatDoor
open Go.RowKit Fl Pt

def m3 (a b c : Value) : Nat → Value
  | 0 => a
  | 1 => b
  | _ => c
theorem types_apart {w : World} {base base' n n' : Nat} {e e' : TypeId} {v v' : Value} {xs xs' : List Value} (h : w.ownsRow base e 1 v n xs) (h' : w.ownsRow base' e' 1 v' n' xs') (hne : e ≠ e') : ∀ k, v.ownBlock = some k → v'.ownBlock ≠ some k := by
  intro k hk e1
  rcases h.2 with ⟨rfl, _⟩ | ⟨g, cap, cur, rfl, _, hh, _⟩
  · cases hk
  · rcases h'.2 with ⟨rfl, _⟩ | ⟨g', cap', cur', rfl, _, hh', _⟩
    · cases e1
    · obtain rfl : g = k := by simpa [Value.ownBlock] using hk
      obtain rfl : g' = g := by simpa [Value.ownBlock] using e1
      rw [hh] at hh'
      simp only [Option.some.injEq, Obj.cells.injEq] at hh'
      exact hne hh'.2.1
def lanB (s : ByteArray) (i : Nat) : List Value := (List.range i).map fun k => Value.bool (isL (at_ s k))
def opnB (s : ByteArray) (i : Nat) : List Value := (List.range i).map fun k => Value.bool (at_ s k != 35)
theorem lanB_succ (s : ByteArray) (i : Nat) : lanB s (i + 1) = lanB s i ++ [.bool (isL (at_ s i))] := by simp [lanB, List.range_succ]
theorem opnB_succ (s : ByteArray) (i : Nat) : opnB s (i + 1) = opnB s i ++ [.bool (at_ s i != 35)] := by simp [opnB, List.range_succ]

structure Of5 (w : World) (W H : Nat) (s : ByteArray) (iN iL iO : Nat) (vN vL vO : Value) (rows : List Value) (wr : World) : Prop where
  box : Box w (W : Int) (H : Int) s wr
  oc : Cells (w.heap.size + 1) 3 (fun _ => .slice none 0 0) wr
  mc : Cells (w.heap.size + 2) 3 (m3 vN vL vO) wr
  oN : wr.ownsRow (w.heap.size + 3) 46 1 vN iN rows
  oL : wr.ownsRow (w.heap.size + 3) 4 1 vL iL (lanB s iL)
  oO : wr.ownsRow (w.heap.size + 3) 4 1 vO iO (opnB s iO)
  nr : ∀ k, k < iN → Own wr (w.heap.size + 3) (rows.getD k undef) (nrw W H (at_ s) k)
  ne : ∀ g, vL.ownBlock = some g → vO.ownBlock ≠ some g
section
variable {w : World} {W H : Nat} {s : ByteArray} {iN iL iO : Nat} {vN vL vO : Value} {rows : List Value} {wr : World}
theorem Of5.later {wx : World} (h : Of5 w W H s iN iL iO vN vL vO rows wr) (hb : Below wr.heap.size wr wx) : Of5 w W H s iN iL iO vN vL vO rows wx :=
  ⟨h.box.after hb, h.oc.later hb, h.mc.later hb, own_later h.oN hb, own_later h.oL hb, own_later h.oO hb, fun k hk => (h.nr k hk).later hb, h.ne⟩
theorem Of5.len (h : Of5 w W H s iN iL iO vN vL vO rows wr) : rows.length = iN := by have := h.oN.1; omega
/-- Where a row's block and one cell were written. -/
theorem Of5.stay {w7 : World} {v x : Value} (h : Of5 w W H s iN iL iO vN vL vO rows wr) (hg : wr.grownBy w7 v.ownBlock) (hv : ∀ k, v.ownBlock = some k → w.heap.size + 3 ≤ k) (o : Nat) (ho : o < 3) (x : Value) :
    Box w (W : Int) (H : Int) s (w7.setCell ⟨w.heap.size + 2, o, none⟩ x) ∧ Cells (w.heap.size + 1) 3 (fun _ => .slice none 0 0) (w7.setCell ⟨w.heap.size + 2, o, none⟩ x) ∧
      (∀ f, (∀ q, q < 3 → f q = if q = o then x else m3 vN vL vO q) → Cells (w.heap.size + 2) 3 f (w7.setCell ⟨w.heap.size + 2, o, none⟩ x)) ∧
      (∀ k, k < wr.heap.size → v.ownBlock ≠ some k → k ≠ w.heap.size + 2 → (w7.setCell ⟨w.heap.size + 2, o, none⟩ x).heap[k]? = wr.heap[k]?) ∧
      (∀ k, k ≠ w.heap.size + 2 → (w7.setCell ⟨w.heap.size + 2, o, none⟩ x).heap[k]? = w7.heap[k]?) := by
  have hsz : (w7.setCell ⟨w.heap.size + 2, o, none⟩ x).heap.size = w7.heap.size := by simp [World.setCell]
  have h2 : ∀ k, k ≠ w.heap.size + 2 → (w7.setCell ⟨w.heap.size + 2, o, none⟩ x).heap[k]? = w7.heap[k]? := fun k hk => Below.heap_setCell w7 _ _ _ hk
  have h3 : ∀ k, k < wr.heap.size → v.ownBlock ≠ some k → k ≠ w.heap.size + 2 → (w7.setCell ⟨w.heap.size + 2, o, none⟩ x).heap[k]? = wr.heap[k]? := fun k hk hv hm => (h2 k hm).trans (hg.block k hk (fun e => hv e.symm))
  have hno : ∀ k, k < w.heap.size + 3 → v.ownBlock ≠ some k := fun k hk e => by have := hv k e; omega
  have hlt := h.box.lt
  have hM := h.mc.1
  have hO := h.oc.1
  have hle := hg.size
  refine ⟨h.box.later (Below.setCell (Below.grown (Below.refl _ _) hg hlt (fun k hk => by have := hv k hk; omega)) (by show w.heap.size + 1 ≤ w.heap.size + 2; omega) _), h.oc.same (by omega) (h3 _ hO (hno _ (by omega)) (by omega)), fun f hf => ?_, h3, h2⟩
  have h7 : Cells (w.heap.size + 2) 3 (m3 vN vL vO) w7 := h.mc.same hle (hg.block _ hM (fun e => hno _ (by omega) e.symm))
  exact h7.put o x ho hf
theorem Of5.addN {w7 : World} {v' x : Value} (h : Of5 w W H s iN iL iO vN vL vO rows wr) (hx : Own wr (w.heap.size + 3) x (nrw W H (at_ s) iN)) (hg : wr.grownBy w7 vN.ownBlock) (hown : w7.ownsRow (w.heap.size + 3) 46 1 v' (iN + 1) (rows ++ [x])) :
    Of5 w W H s (iN + 1) iL iO v' vL vO (rows ++ [x]) (w7.setCell ⟨w.heap.size + 2, 0, none⟩ v') := by
  obtain ⟨q1, q2, q3, q4, q5⟩ := h.stay (x := v') hg (fun k hk => (h.oN.lt k hk).1) 0 (by decide) v'
  have hl := h.len
  have hmv : ∀ {e : TypeId} {v : Value} {n : Nat} {xs : List Value}, wr.ownsRow (w.heap.size + 3) e 1 v n xs → (∀ k, v.ownBlock = some k → vN.ownBlock ≠ some k) → (w7.setCell ⟨w.heap.size + 2, 0, none⟩ v').ownsRow (w.heap.size + 3) e 1 v n xs := fun ho hn =>
    ownsRow_same ho (fun k hk => q4 k (ho.lt k hk).2 (hn k hk) (by have := (ho.lt k hk).1; omega))
  refine ⟨q1, q2, q3 _ (fun q hq => ?_), ownsRow_same hown (fun k hk => q5 k (by have := (hown.lt k hk).1; omega)), hmv h.oL (types_apart h.oL h.oN (by decide)), hmv h.oO (types_apart h.oO h.oN (by decide)), fun k hk => ?_, h.ne⟩
  · match q with
    | 0 => rfl
    | 1 => rfl
    | 2 => rfl
  · by_cases e : k = iN
    · subst e
      rw [List.getD_eq_getElem?_getD, List.getElem?_append_right (by omega), hl, Nat.sub_self]
      exact hmv hx (types_apart hx h.oN (by decide))
    · rw [List.getD_eq_getElem?_getD, List.getElem?_append_left (by omega), ← List.getD_eq_getElem?_getD]
      exact hmv (h.nr k (by omega)) (types_apart (h.nr k (by omega)) h.oN (by decide))
theorem Of5.addL {w7 : World} {g c : Nat} (h : Of5 w W H s iN iL iO vN vL vO rows wr) (hg : wr.grownBy w7 vL.ownBlock) (hown : w7.ownsRow (w.heap.size + 3) 4 1 (.slice (some ⟨g, 0, none⟩) (iL + 1) c) (iL + 1) (lanB s iL ++ [.bool (isL (at_ s iL))]))
    (hat : vL.ownBlock = some g ∨ g = wr.heap.size) : Of5 w W H s iN (iL + 1) iO vN (.slice (some ⟨g, 0, none⟩) (iL + 1) c) vO rows (w7.setCell ⟨w.heap.size + 2, 1, none⟩ (.slice (some ⟨g, 0, none⟩) (iL + 1) c)) := by
  obtain ⟨q1, q2, q3, q4, q5⟩ := h.stay (x := .slice (some ⟨g, 0, none⟩) (iL + 1) c) hg (fun k hk => (h.oL.lt k hk).1) 1 (by decide) (.slice (some ⟨g, 0, none⟩) (iL + 1) c)
  have hmv : ∀ {e : TypeId} {v : Value} {n : Nat} {xs : List Value}, wr.ownsRow (w.heap.size + 3) e 1 v n xs → (∀ k, v.ownBlock = some k → vL.ownBlock ≠ some k) → (w7.setCell ⟨w.heap.size + 2, 1, none⟩ (.slice (some ⟨g, 0, none⟩) (iL + 1) c)).ownsRow (w.heap.size + 3) e 1 v n xs := fun ho hn =>
    ownsRow_same ho (fun k hk => q4 k (ho.lt k hk).2 (hn k hk) (by have := (ho.lt k hk).1; omega))
  refine ⟨q1, q2, q3 _ (fun q hq => ?_), hmv h.oN (types_apart h.oN h.oL (by decide)), ?_, hmv h.oO (fun k hk e => h.ne k e hk), fun k hk => hmv (h.nr k hk) (types_apart (h.nr k hk) h.oL (by decide)), fun k hk e => ?_⟩
  · match q with
    | 0 => rfl
    | 1 => rfl
    | 2 => rfl
  · rw [lanB_succ]; exact ownsRow_same hown (fun k hk => q5 k (by have := (hown.lt k hk).1; omega))
  · obtain rfl : g = k := by simpa [Value.ownBlock] using hk
    rcases hat with hat | hat
    · exact h.ne g hat e
    · have := (h.oO.lt g e).2; omega
theorem Of5.addO {w7 : World} {g c : Nat} (h : Of5 w W H s iN iL iO vN vL vO rows wr) (hg : wr.grownBy w7 vO.ownBlock) (hown : w7.ownsRow (w.heap.size + 3) 4 1 (.slice (some ⟨g, 0, none⟩) (iO + 1) c) (iO + 1) (opnB s iO ++ [.bool (at_ s iO != 35)]))
    (hat : vO.ownBlock = some g ∨ g = wr.heap.size) : Of5 w W H s iN iL (iO + 1) vN vL (.slice (some ⟨g, 0, none⟩) (iO + 1) c) rows (w7.setCell ⟨w.heap.size + 2, 2, none⟩ (.slice (some ⟨g, 0, none⟩) (iO + 1) c)) := by
  obtain ⟨q1, q2, q3, q4, q5⟩ := h.stay (x := .slice (some ⟨g, 0, none⟩) (iO + 1) c) hg (fun k hk => (h.oO.lt k hk).1) 2 (by decide) (.slice (some ⟨g, 0, none⟩) (iO + 1) c)
  have hmv : ∀ {e : TypeId} {v : Value} {n : Nat} {xs : List Value}, wr.ownsRow (w.heap.size + 3) e 1 v n xs → (∀ k, v.ownBlock = some k → vO.ownBlock ≠ some k) → (w7.setCell ⟨w.heap.size + 2, 2, none⟩ (.slice (some ⟨g, 0, none⟩) (iO + 1) c)).ownsRow (w.heap.size + 3) e 1 v n xs := fun ho hn =>
    ownsRow_same ho (fun k hk => q4 k (ho.lt k hk).2 (hn k hk) (by have := (ho.lt k hk).1; omega))
  refine ⟨q1, q2, q3 _ (fun q hq => ?_), hmv h.oN (types_apart h.oN h.oO (by decide)), hmv h.oL (fun k hk e => h.ne k hk e), ?_, fun k hk => hmv (h.nr k hk) (types_apart (h.nr k hk) h.oO (by decide)), fun k hk e => ?_⟩
  · match q with
    | 0 => rfl
    | 1 => rfl
    | 2 => rfl
  · rw [opnB_succ]; exact ownsRow_same hown (fun k hk => q5 k (by have := (hown.lt k hk).1; omega))
  · obtain rfl : g = k := by simpa [Value.ownBlock] using e
    rcases hat with hat | hat
    · exact h.ne g hk hat
    · have := (h.oL.lt g hk).2; omega
end

/-- The document's map of a floor, as a value: what is near, which are lanes, which are no walls. -/
structure MapAt (w : World) (W H : Nat) (s : ByteArray) (AN AL AO : Option Addr) (n cN cL cO : Nat) : Prop where
  sz : n = s.size
  caps : (n ≤ cN ∧ cN ≤ maxLen) ∧ (n ≤ cL ∧ cL ≤ maxLen) ∧ (n ≤ cO ∧ cO ≤ maxLen)
  near : ∃ g, AN = some ⟨g, 0, none⟩ ∧ g < w.heap.size ∧ ∀ k, k < n → ∃ A c, w.cell? ⟨g, k, none⟩ = some (.slice A (nrw W H (at_ s) k).length c) ∧ Il w.heap.size w A (nrw W H (at_ s) k).length c (fun j => (((nrw W H (at_ s) k).getD j 0 : Nat) : Int))
  lane : ∃ g, AL = some ⟨g, 0, none⟩ ∧ g < w.heap.size ∧ ∀ k, k < n → w.cell? ⟨g, k, none⟩ = some (.bool (isL (at_ s k)))
  opn : ∃ g, AO = some ⟨g, 0, none⟩ ∧ g < w.heap.size ∧ ∀ k, k < n → w.cell? ⟨g, k, none⟩ = some (.bool (at_ s k != 35))
theorem MapAt.later {w w' : World} {W H : Nat} {s : ByteArray} {AN AL AO : Option Addr} {n cN cL cO : Nat} (h : MapAt w W H s AN AL AO n cN cL cO) (hb : Below w.heap.size w w') : MapAt w' W H s AN AL AO n cN cL cO := by
  refine ⟨h.sz, h.caps, ?_, ?_, ?_⟩
  · obtain ⟨g, e, hg, hc⟩ := h.near
    refine ⟨g, e, Nat.lt_of_lt_of_le hg hb.size, fun k hk => ?_⟩
    obtain ⟨A, c, h1, h2⟩ := hc k hk
    exact ⟨A, c, (hb.cell (p := ⟨g, k, none⟩) hg).trans h1, (h2.below hb).raise hb.size⟩
  · obtain ⟨g, e, hg, hc⟩ := h.lane
    exact ⟨g, e, Nat.lt_of_lt_of_le hg hb.size, fun k hk => (hb.cell (p := ⟨g, k, none⟩) hg).trans (hc k hk)⟩
  · obtain ⟨g, e, hg, hc⟩ := h.opn
    exact ⟨g, e, Nat.lt_of_lt_of_le hg hb.size, fun k hk => (hb.cell (p := ⟨g, k, none⟩) hg).trans (hc k hk)⟩
theorem map_of {w : World} {W H : Nat} {s : ByteArray} {AN AL AO : Option Addr} {cN cL cO : Nat} {rows : List Value} {wr : World} (oN : wr.ownsRow (w.heap.size + 3) 46 1 (.slice AN s.size cN) s.size rows)
    (oL : wr.ownsRow (w.heap.size + 3) 4 1 (.slice AL s.size cL) s.size (lanB s s.size)) (oO : wr.ownsRow (w.heap.size + 3) 4 1 (.slice AO s.size cO) s.size (opnB s s.size))
    (nr : ∀ k, k < s.size → Own wr (w.heap.size + 3) (rows.getD k undef) (nrw W H (at_ s) k)) (h0 : 0 < s.size) : MapAt wr W H s AN AL AO s.size cN cL cO := by
  have hcell : ∀ {e : TypeId} {A : Option Addr} {c : Nat} {xs : List Value}, wr.ownsRow (w.heap.size + 3) e 1 (.slice A s.size c) s.size xs → ∃ g, A = some ⟨g, 0, none⟩ ∧ g < wr.heap.size ∧ ∀ k, k < s.size → wr.cell? ⟨g, k, none⟩ = some (xs.getD k undef) := fun {e A c xs} ho => by
    obtain ⟨g, c', hv⟩ := shape_of ho h0
    simp only [Value.slice.injEq, true_and] at hv
    obtain ⟨rfl, rfl⟩ := hv
    refine ⟨g, rfl, (ho.lt g rfl).2, fun k hk => ?_⟩
    have hl := ho.1
    rw [ho.cellAt k (by omega), List.getD_eq_getElem?_getD, List.getElem?_eq_getElem (by omega : k < xs.length)]
    rfl
  refine ⟨rfl, ⟨ownsRow_cap oN, ownsRow_cap oL, ownsRow_cap oO⟩, ?_, ?_, ?_⟩
  · obtain ⟨g, e, hg, hc⟩ := hcell oN
    refine ⟨g, e, hg, fun k hk => ?_⟩
    have ho := nr k hk
    obtain ⟨A, c, hv⟩ := ownsRow_shape ho
    rw [hv] at ho
    exact ⟨A, c, by rw [hc k hk, hv], Own.il ho rfl⟩
  · obtain ⟨g, e, hg, hc⟩ := hcell oL
    exact ⟨g, e, hg, fun k hk => by rw [hc k hk]; simp [lanB, List.getD, hk]⟩
  · obtain ⟨g, e, hg, hc⟩ := hcell oO
    exact ⟨g, e, hg, fun k hk => by rw [hc k hk]; simp [opnB, List.getD, hk]⟩
end Go.Proofs.YtakgkocdkondhaaGreatDoor
end

section
namespace Go.Proofs.YtakgkocdkondhaaGreatDoor
open Go.RowKit Fl Pt

def OfTold (W H : Int) (s : ByteArray) (w : World) (e : Ending) (w' : World) : Prop :=
  ∃ AN n cN AL cL AO cO, e = .returned (.agg #[.slice AN n cN, .slice AL n cL, .slice AO n cO]) ∧ Below w.heap.size w w' ∧ (Right W H s → MapAt w' W.toNat H.toNat s AN AL AO n cN cL cO) ∧ (¬ Right W H s → n = 0 ∧ cN = 0 ∧ cL = 0 ∧ cO = 0 ∧ AN = none ∧ AL = none ∧ AO = none)

theorem of_cells {w : World} {W H : Int} {s : ByteArray} : Box w W H s (((w.alloc (.cells #[.int .i64 W, .int .i64 H, .string s] 25)).alloc (.cells #[.slice none 0 0, .slice none 0 0, .slice none 0 0] 142)).alloc (.cells #[.slice none 0 0, .slice none 0 0, .slice none 0 0] 142)) ∧
    Cells (w.heap.size + 1) 3 (fun _ => .slice none 0 0) (((w.alloc (.cells #[.int .i64 W, .int .i64 H, .string s] 25)).alloc (.cells #[.slice none 0 0, .slice none 0 0, .slice none 0 0] 142)).alloc (.cells #[.slice none 0 0, .slice none 0 0, .slice none 0 0] 142)) ∧
    Cells (w.heap.size + 2) 3 (fun _ => .slice none 0 0) (((w.alloc (.cells #[.int .i64 W, .int .i64 H, .string s] 25)).alloc (.cells #[.slice none 0 0, .slice none 0 0, .slice none 0 0] 142)).alloc (.cells #[.slice none 0 0, .slice none 0 0, .slice none 0 0] 142)) := by
  obtain ⟨w1, hw1⟩ : ∃ w1, w1 = w.alloc (.cells #[.int .i64 W, .int .i64 H, .string s] 25) := ⟨_, rfl⟩
  have hx1 := Box.start w W H s 25
  rw [← hw1] at hx1 ⊢
  have hz1 : w1.heap.size = w.heap.size + 1 := by rw [hw1]; exact alloc_size _ _
  obtain ⟨w2, hw2⟩ : ∃ w2, w2 = w1.alloc (.cells #[.slice none 0 0, .slice none 0 0, .slice none 0 0] 142) := ⟨_, rfl⟩
  have c2 : Cells w1.heap.size 3 (fun x => ([.slice none 0 0, .slice none 0 0, .slice none 0 0] : List Value).getD x undef) w2 := by rw [hw2]; exact cells_row (l := [.slice none 0 0, .slice none 0 0, .slice none 0 0]) (heap_alloc_new w1 _) rfl
  have hz2 : w2.heap.size = w1.heap.size + 1 := by rw [hw2]; exact alloc_size _ _
  have hx2 : Box w W H s w2 := by rw [hw2]; exact hx1.after ((Below.refl _ _).alloc (Nat.le_refl _) _)
  rw [← hw2]
  have c3 : Cells w2.heap.size 3 (fun x => ([.slice none 0 0, .slice none 0 0, .slice none 0 0] : List Value).getD x undef) (w2.alloc (.cells #[.slice none 0 0, .slice none 0 0, .slice none 0 0] 142)) := cells_row (l := [.slice none 0 0, .slice none 0 0, .slice none 0 0]) (heap_alloc_new w2 _) rfl
  have he : ∀ x, x < 3 → ([.slice none 0 0, .slice none 0 0, .slice none 0 0] : List Value).getD x undef = .slice none 0 0 := fun x hx => by
    match x with
    | 0 => rfl
    | 1 => rfl
    | 2 => rfl
  refine ⟨hx2.after ((Below.refl _ _).alloc (Nat.le_refl _) _), ?_, ?_⟩
  · rw [← hz1]; exact (c2.more _).congr he
  · rw [show w.heap.size + 2 = w2.heap.size by omega]; exact c3.congr he
theorem res_map5 {A : Nat} {w6 : World} {v0 v1 v2 : Value} (T : Array Value) (hT : T[2]? = some (.pointer (some ⟨A, 0, none⟩))) (h0 : w6.cell? ⟨A, 0, none⟩ = some v0) (h1 : w6.cell? ⟨A, 1, none⟩ = some v1) (h2 : w6.cell? ⟨A, 2, none⟩ = some v2) :
    (results Tryz.f96 T).run Tryz.prog w6 = .ok (.agg #[v0, v1, v2]) w6 := by
  simp only [results, Tryz.results96]
  go_simp
/-- The result is written. -/
theorem out_map {w : World} {R : Nat} {f : Nat → Value} (h : Cells R 3 f w) (a b c : Value) : ((((w.setCell ⟨R, 0, none⟩ a).setCell ⟨R, 1, none⟩ b).setCell ⟨R, 2, none⟩ c).cell? ⟨R, 0, none⟩ = some a ∧ (((w.setCell ⟨R, 0, none⟩ a).setCell ⟨R, 1, none⟩ b).setCell ⟨R, 2, none⟩ c).cell? ⟨R, 1, none⟩ = some b ∧ (((w.setCell ⟨R, 0, none⟩ a).setCell ⟨R, 1, none⟩ b).setCell ⟨R, 2, none⟩ c).cell? ⟨R, 2, none⟩ = some c) ∧
    ∀ B, B ≤ w.heap.size → B ≤ R → Below B w (((w.setCell ⟨R, 0, none⟩ a).setCell ⟨R, 1, none⟩ b).setCell ⟨R, 2, none⟩ c) := by
  have h0 := h.put 0 a (by decide) (g := fun x => if x = 0 then a else f x) (fun x hx => rfl)
  have h1 := h0.put 1 b (by decide) (g := fun x => if x = 1 then b else if x = 0 then a else f x) (fun x hx => rfl)
  have h2 := h1.put 2 c (by decide) (g := fun x => if x = 2 then c else if x = 1 then b else if x = 0 then a else f x) (fun x hx => rfl)
  exact ⟨⟨(h2.2 0 (by decide)).1, (h2.2 1 (by decide)).1, (h2.2 2 (by decide)).1⟩, fun B hB hR => (((Below.refl B w).setCell hR a).setCell hR b).setCell hR c⟩

theorem Tryz.infoInts5 : (Tryz.prog.info? 46).map (fun i => (i.zero, i.size, i.bytes)) = some (some (.slice none 0 0), 1, 24) := by kernel_rfl
theorem near_rows {a b : Nat} {s : ByteArray} {i : Nat} {xs : List Nat} (hR : Right (a : Int) (b : Int) s) (hi : i < s.size) (q1 : OnFloor (a : Int) (b : Int) s (i : Int) → xs = nears (a : Int) (b : Int) s (i : Int)) (q2 : ¬ OnFloor (a : Int) (b : Int) s (i : Int) → xs = []) : xs = nrw a b (at_ s) i := by
  unfold nrw
  by_cases h35 : at_ s i ≠ 35
  · rw [if_pos h35]
    exact q1 ⟨hR, by rw [bAt_in5 s i hi]; exact h35⟩
  · rw [if_neg h35]
    exact q2 (fun h => h35 (by have := h.2; rwa [bAt_in5 s i hi] at this))
theorem one_cell (w : World) (v : Value) (t : TypeId) : ∀ j u, ([v] : List Value)[j]? = some u → (w.alloc (.cells #[v] t)).cell? ((⟨w.heap.size, 0, none⟩ : Addr).add j) = some u := by
  intro j u hj
  match j, hj with
  | 0, hj => simp at hj; subst hj; simp [Addr.add]
theorem own_rows {w wd w6 : World} {a b i n6 k6 : Nat} {s : ByteArray} {A6 : Option Addr} {iN iL iO : Nat} {vN vL vO x : Value} {rows : List Value} {xs : List Nat} {t : TypeId} (hx : xs = nrw a b (at_ s) i) (hn : n6 = xs.length) (h : Of5 w a b s iN iL iO vN vL vO rows wd) (ho : Own w6 wd.heap.size (.slice A6 n6 k6) xs) :
    Own (w6.alloc (.cells #[x] t)) (w.heap.size + 3) (.slice A6 n6 k6) (nrw a b (at_ s) i) := by
  rw [← hx]
  exact (ho.lower (Nat.succ_le_of_lt h.mc.1)).later ((Below.refl w6.heap.size w6).alloc (Nat.le_refl _) _)

theorem map_out {w : World} {W H : Nat} {s : ByteArray} {AN AL AO : Option Addr} {cN cL cO : Nat} {rows : List Value} {wr : World} (h : Of5 w W H s s.size s.size s.size (.slice AN s.size cN) (.slice AL s.size cL) (.slice AO s.size cO) rows wr) (h0 : 0 < s.size) :
    MapAt (((wr.setCell ⟨w.heap.size + 1, 0, none⟩ (.slice AN s.size cN)).setCell ⟨w.heap.size + 1, 1, none⟩ (.slice AL s.size cL)).setCell ⟨w.heap.size + 1, 2, none⟩ (.slice AO s.size cO)) W H s AN AL AO s.size cN cL cO := by
  have hT : ∀ k, k ≠ w.heap.size + 1 → (((wr.setCell ⟨w.heap.size + 1, 0, none⟩ (.slice AN s.size cN)).setCell ⟨w.heap.size + 1, 1, none⟩ (.slice AL s.size cL)).setCell ⟨w.heap.size + 1, 2, none⟩ (.slice AO s.size cO)).heap[k]? = wr.heap[k]? := fun k hk =>
    (Below.heap_setCell _ _ _ _ hk).trans ((Below.heap_setCell _ _ _ _ hk).trans (Below.heap_setCell _ _ _ _ hk))
  have hmv : ∀ {e : TypeId} {v : Value} {n : Nat} {xs : List Value}, wr.ownsRow (w.heap.size + 3) e 1 v n xs → (((wr.setCell ⟨w.heap.size + 1, 0, none⟩ (.slice AN s.size cN)).setCell ⟨w.heap.size + 1, 1, none⟩ (.slice AL s.size cL)).setCell ⟨w.heap.size + 1, 2, none⟩ (.slice AO s.size cO)).ownsRow (w.heap.size + 3) e 1 v n xs := fun ho => ownsRow_same ho (fun k hk => hT k (by have := (ho.lt k hk).1; omega))
  exact map_of (hmv h.oN) (hmv h.oL) (hmv h.oO) (fun k hk => hmv (h.nr k hk)) h0

set_option maxHeartbeats 4000000 in
theorem of_any (W H : Int) (s : ByteArray) (hs : s.size ≤ maxLen) (w : World) : Calls Tryz.prog 96 #[.agg #[.int .i64 W, .int .i64 H, .string s]] w (OfTold W H s w) := by
  have HRI := Lib.hid (rright_any W H s hs)
  go_enter Tryz.func96, Tryz.ntmps96
  go_wp2_with fail
  obtain ⟨hx, hO, hM⟩ := of_cells (w := w) (W := W) (H := H) (s := s)
  refine (HRI.out _).mono ?_
  rintro e w4 ⟨b, rfl, hb, hbw⟩
  have HX := Lib.hid (hx.after hbw)
  have HO := Lib.hid (hO.later hbw)
  have HM := Lib.hid (hM.later hbw)
  have HB := Lib.hid hb
  clear hx hO hM hb hbw
  cases b with
  | false =>
    have m0 : w4.cell? ⟨w.heap.size + 1 + 1, 0, none⟩ = some (.slice none 0 0) := (HM.out.2 0 (by decide)).1
    have m1 : w4.cell? ⟨w.heap.size + 1 + 1, 1, none⟩ = some (.slice none 0 0) := (HM.out.2 1 (by decide)).1
    have m2 : w4.cell? ⟨w.heap.size + 1 + 1, 2, none⟩ = some (.slice none 0 0) := (HM.out.2 2 (by decide)).1
    obtain ⟨o0, f0⟩ := HO.out.2 0 (by decide)
    obtain ⟨o1, f1⟩ := HO.out.2 1 (by decide)
    obtain ⟨o2, f2⟩ := HO.out.2 2 (by decide)
    obtain ⟨⟨r0, r1, r2⟩, hbel⟩ := out_map HO.out (.slice none 0 0) (.slice none 0 0) (.slice none 0 0)
    have HBE := Lib.hid (HX.out.below.trans (hbel _ HX.out.below.size (Nat.le_succ _)))
    clear hbel
    go_wp2_with fail
    exact bodyPost_ret (v := .agg #[.slice none 0 0, .slice none 0 0, .slice none 0 0]) (res_map5 _ rfl r0 r1 r2) rfl ⟨_, _, _, _, _, _, _, rfl, HBE.out, (fun h => by have := HB.out.2 h; cases this), fun _ => ⟨rfl, rfl, rfl, rfl, rfl, rfl, rfl⟩⟩
  | true =>
    have hR := HB.out.1 rfl
    obtain ⟨a, b, rfl, rfl, hSd, hN⟩ := rightNat hR
    have HR := Lib.hid hR
    have h256 := hSd.le
    have HSD := Lib.hid hSd
    have HZO := Lib.hid (fun (x : Int) wx => rzone_any (a : Int) (b : Int) s hs x wx)
    have HNE := Lib.hid (fun (x : Int) wx => rnear_any (a : Int) (b : Int) s hs x wx)
    obtain ⟨iN, hiN, hz0, hz1, hz2⟩ := info_parts Tryz.infoInts5
    obtain ⟨iB, hiB, hy0, hy1, hy2⟩ := info_parts Tryz.infoBool5
    have HST : Hid (Of5 w a b s 0 0 0 (.slice none 0 0) (.slice none 0 0) (.slice none 0 0) [] w4) := Lib.hid ⟨HX.out, HO.out, HM.out.congr (fun x hx => by match x with
      | 0 => rfl
      | 1 => rfl
      | 2 => rfl), World.ownsRow_nil _ _ _ _, World.ownsRow_nil _ _ _ _, World.ownsRow_nil _ _ _ _, (fun k hk => by omega), (fun g e => by cases e)⟩
    clear hR hSd hN HX HO HM HB
    go_wp2_with fail
    go_loopw [4] (fun iv wr => ∃ (i : Nat) (AN AL AO : Option Addr) (cN cL cO : Nat) (rows : List Value), i ≤ s.size ∧ iv = .int .i64 (i : Int) ∧ Of5 w a b s i i i (.slice AN i cN) (.slice AL i cL) (.slice AO i cO) rows wr) (fun iv _ => s.size - (intOf iv).toNat)
    case atStart => exact ⟨0, none, none, none, 0, 0, 0, [], Nat.zero_le _, rfl, HST.out⟩
    case round =>
      rename World => wr
      obtain ⟨i, AN, AL, AO, cN, cL, cO, rows, hi, rfl, hS⟩ := hrel
      have HS := Lib.hid hS
      have c0 := hS.box.c0
      have c1 := hS.box.c1
      have c2 := hS.box.c2
      have m0 : wr.cell? ⟨w.heap.size + 1 + 1, 0, none⟩ = some (.slice AN i cN) := (hS.mc.2 0 (by decide)).1
      have m1 : wr.cell? ⟨w.heap.size + 1 + 1, 1, none⟩ = some (.slice AL i cL) := (hS.mc.2 1 (by decide)).1
      have m2 : wr.cell? ⟨w.heap.size + 1 + 1, 2, none⟩ = some (.slice AO i cO) := (hS.mc.2 2 (by decide)).1
      clear hS HST
      by_cases hli : i < s.size
      · clear m0 m1 m2
        go_wp2_with fail
        refine (HZO.out _ _).mono ?_
        rintro e w5 ⟨zn, lane, rfl, p1, p2, hb5⟩
        have HS5 := Lib.hid (HS.out.later hb5)
        have HLN : Hid (lane = isL (at_ s i)) := Lib.hid (by
          cases hq : isL (at_ s i)
          · exact (p2 (fun h => by have := h.2; rw [bAt_in5 s i hli, hq] at this; cases this)).2
          · exact (p1 ⟨HR.out, by rw [bAt_in5 s i hli]; exact hq⟩).2)
        have c0 := HS5.out.box.c0
        have c1 := HS5.out.box.c1
        have c2 := HS5.out.box.c2
        have m0 : w5.cell? ⟨w.heap.size + 1 + 1, 0, none⟩ = some (.slice AN i cN) := (HS5.out.mc.2 0 (by decide)).1
        clear p1 p2 hb5
        go_upto_region 8 with (fail)
        go_cut [6] (fun lv wc => lv = .bool lane ∧ ∃ (g c : Nat) (rows' : List Value), Of5 w a b s (i + 1) i i (.slice (some ⟨g, 0, none⟩) (i + 1) c) (.slice AL i cL) (.slice AO i cO) rows' wc)
        case first =>
          go_region_law (first
            | (refine step_append_lies _ (by rfl) _ _ _ (by rfl) (w.heap.size + 3) 46 iN _ 1 24 Tryz.underlying140 hiN hz0 hz1 hz2 rfl (by omega) (.slice AN i cN) i rows (by rfl) HA6.out.oN ⟨w6.heap.size, 0, none⟩ 1 1 [.slice A6 n6 k6] (by rfl) (by rfl) HN6.out HC6.out (by omega) (by unfold maxLen; omega) (by omega) HZ6.out (w6.heap.size + 1) (by simp) ?_; intro g7 c7 w7 hown7 hgrow7 hat7 hlt7; have HS8 := Lib.hid (HA6.out.addN HX6.out hgrow7 hown7); have d0 := (World.cell?_of_block (a := ⟨w.heap.size + 1 + 1, 0, none⟩) (hgrow7.block (w.heap.size + 2) HA6.out.mc.1 (fun e => by have := (HA6.out.oN.lt _ e.symm).1; omega))).trans (HA6.out.mc.2 0 (by decide)).1; have d1 := (World.frozen?_of_block (a := ⟨w.heap.size + 1 + 1, 0, none⟩) (hgrow7.block (w.heap.size + 2) HA6.out.mc.1 (fun e => by have := (HA6.out.oN.lt _ e.symm).1; omega))).trans (HA6.out.mc.2 0 (by decide)).2; clear hown7 hgrow7 hat7 hlt7)
            | (go_simp; go_at_call 122; refine (HNE.out _ _).mono ?_; rintro e w6 ⟨A6, n6, k6, xs, rfl, hn6, q1, q2, ho6, hb6⟩; have HS6 := Lib.hid ((HS5.out.later (Below.refl _ _).drew).later hb6); have HXS := Lib.hid (near_rows HR.out hli q1 q2); have HA6 := Lib.hid (HS6.out.later ((Below.refl w6.heap.size w6).alloc (Nat.le_refl _) (.cells #[.slice A6 n6 k6] 46))); have HX6 := Lib.hid (own_rows (x := .slice A6 n6 k6) (t := 46) HXS.out hn6 (HS5.out.later (Below.refl _ _).drew) ho6); have HN6 := Lib.hid (one_cell w6 (.slice A6 n6 k6) 46); have HC6 : Hid (∀ u ∈ ([.slice A6 n6 k6] : List Value), u.oneCell' = true) := Lib.hid (by intro u hu; simp at hu; subst hu; rfl); have HZ6 : Hid (w.heap.size + 3 ≤ (w6.alloc (.cells #[.slice A6 n6 k6] 46)).heap.size) := Lib.hid (Nat.succ_le_of_lt HA6.out.mc.1); have m0 : w6.cell? ⟨w.heap.size + 1 + 1, 0, none⟩ = some (.slice AN i cN) := (HS6.out.mc.2 0 (by decide)).1; have m0a : (w6.alloc (.cells #[.slice A6 n6 k6] 46)).cell? ⟨w.heap.size + 1 + 1, 0, none⟩ = some (.slice AN i cN) := (HA6.out.mc.2 0 (by decide)).1; have c0 := HS6.out.box.c0; have c1 := HS6.out.box.c1; have c2 := HS6.out.box.c2; clear hn6 q1 q2 ho6 hb6))
          all_goals (go_wp2_with fail; go_meet; exact ⟨rfl, g7, c7, _, HS8.out⟩)
        case rest =>
          obtain ⟨rfl, g, c, rows', hS8⟩ := hcut
          have HS8 := Lib.hid hS8
          have m1 : wc.cell? ⟨w.heap.size + 1 + 1, 1, none⟩ = some (.slice AL i cL) := (hS8.mc.2 1 (by decide)).1
          have fm1 : wc.frozen? ⟨w.heap.size + 1 + 1, 1, none⟩ = false := (hS8.mc.2 1 (by decide)).2
          clear hS8 c0 c1 c2 m0
          have HA8 := Lib.hid (HS8.out.later ((Below.refl wc.heap.size wc).alloc (Nat.le_refl _) (.cells #[.bool lane] 4)))
          have HN8 := Lib.hid (one_cell wc (.bool lane) 4)
          have HC8 : Hid (∀ u ∈ ([.bool lane] : List Value), u.oneCell' = true) := Lib.hid (by intro u hu; simp at hu; subst hu; rfl)
          have HZ8 : Hid (w.heap.size + 3 ≤ (wc.alloc (.cells #[.bool lane] 4)).heap.size) := Lib.hid (Nat.succ_le_of_lt HA8.out.mc.1)
          go_wp2_with (at_builtin; refine wpList_append_lies _ rfl _ _ _ rfl (w.heap.size + 3) 4 iB _ 1 1 Tryz.underlying134 hiB hy0 hy1 hy2 rfl (by omega) (.slice AL i cL) i (lanB s i) rfl HA8.out.oL ⟨wc.heap.size, 0, none⟩ 1 1 [.bool lane] rfl rfl HN8.out HC8.out (by omega) (by unfold maxLen; omega) (by omega) HZ8.out (wc.heap.size + 1) (by simp) ?_; intro g9 c9 w9 hown9 hgrow9 hat9 hlt9; have d0 := (World.cell?_of_block (a := ⟨w.heap.size + 1 + 1, 1, none⟩) (hgrow9.block (w.heap.size + 2) HA8.out.mc.1 (fun e => by have := (HA8.out.oL.lt _ e.symm).1; omega))).trans (HA8.out.mc.2 1 (by decide)).1; have d1 := (World.frozen?_of_block (a := ⟨w.heap.size + 1 + 1, 1, none⟩) (hgrow9.block (w.heap.size + 2) HA8.out.mc.1 (fun e => by have := (HA8.out.oL.lt _ e.symm).1; omega))).trans (HA8.out.mc.2 1 (by decide)).2; have HS9 := Lib.hid (HA8.out.addL hgrow9 (by rw [← HLN.out]; exact hown9) (by rw [alloc_size]; exact hat9)); clear hown9 hgrow9 hat9 hlt9)
          obtain ⟨w10, hw10⟩ : ∃ w10, w10 = w9.setCell ⟨w.heap.size + 1 + 1, 1, none⟩ (.slice (some ⟨g9, 0, none⟩) (i + 1) c9) := ⟨_, rfl⟩
          have HS10 : Hid (Of5 w a b s (i + 1) (i + 1) i (.slice (some ⟨g, 0, none⟩) (i + 1) c) (.slice (some ⟨g9, 0, none⟩) (i + 1) c9) (.slice AO i cO) rows' w10) := Lib.hid (by rw [hw10]; exact HS9.out)
          rw [← hw10]
          clear hw10 HS9 m1 fm1 HA8 HN8 HC8 HZ8 HS8 d0 d1
          have c0 := HS10.out.box.c0
          have c2 := HS10.out.box.c2
          have m2 : w10.cell? ⟨w.heap.size + 1 + 1, 2, none⟩ = some (.slice AO i cO) := (HS10.out.mc.2 2 (by decide)).1
          have HV : Hid (((s[i].toNat : Int) != 35) = (at_ s i != 35)) := Lib.hid (by rw [at_get s i hli]; rw [Bool.eq_iff_iff, bne_iff_ne, bne_iff_ne]; omega)
          have HA10 := Lib.hid (HS10.out.later ((Below.refl w10.heap.size w10).alloc (Nat.le_refl _) (.cells #[.bool ((s[i].toNat : Int) != 35)] 4)).drew)
          have HN10 : Hid (∀ j u, ([.bool ((s[i].toNat : Int) != 35)] : List Value)[j]? = some u → (w10.alloc (.cells #[.bool ((s[i].toNat : Int) != 35)] 4)).drew.cell? ((⟨w10.heap.size, 0, none⟩ : Addr).add j) = some u) := Lib.hid (one_cell w10 _ 4)
          have HC10 : Hid (∀ u ∈ ([.bool ((s[i].toNat : Int) != 35)] : List Value), u.oneCell' = true) := Lib.hid (by intro u hu; simp only [List.mem_singleton] at hu; subst hu; rfl)
          have HZ10 : Hid (w.heap.size + 3 ≤ (w10.alloc (.cells #[.bool ((s[i].toNat : Int) != 35)] 4)).drew.heap.size) := Lib.hid (Nat.succ_le_of_lt HA10.out.mc.1)
          have HE10 : Hid ((w10.alloc (.cells #[.bool ((s[i].toNat : Int) != 35)] 4)).drew.heap.size = w10.heap.size + 1) := Lib.hid (alloc_size w10 _)
          have m2a : (w10.alloc (.cells #[.bool ((s[i].toNat : Int) != 35)] 4)).cell? ⟨w.heap.size + 1 + 1, 2, none⟩ = some (.slice AO i cO) := (HA10.out.mc.2 2 (by decide)).1
          go_region_law (first
            | (refine step_append_lies _ (by rfl) _ _ _ (by rfl) (w.heap.size + 3) 4 iB _ 1 1 Tryz.underlying134 hiB hy0 hy1 hy2 rfl (by omega) (.slice AO i cO) i (opnB s i) (by rfl) HA10.out.oO ⟨w10.heap.size, 0, none⟩ 1 1 [.bool ((s[i].toNat : Int) != 35)] (by rfl) (by rfl) HN10.out HC10.out (by omega) (by unfold maxLen; omega) (by omega) HZ10.out (w10.heap.size + 1) HE10.out ?_; intro g11 c11 w11 hown11 hgrow11 hat11 hlt11; have d0 := (World.cell?_of_block (a := ⟨w.heap.size + 1 + 1, 2, none⟩) (hgrow11.block (w.heap.size + 2) HA10.out.mc.1 (fun e => by have := (HA10.out.oO.lt _ e.symm).1; omega))).trans (HA10.out.mc.2 2 (by decide)).1; have d1 := (World.frozen?_of_block (a := ⟨w.heap.size + 1 + 1, 2, none⟩) (hgrow11.block (w.heap.size + 2) HA10.out.mc.1 (fun e => by have := (HA10.out.oO.lt _ e.symm).1; omega))).trans (HA10.out.mc.2 2 (by decide)).2; have HS11 := Lib.hid (HA10.out.addO hgrow11 (by rw [← HV.out]; exact hown11) (by rw [HE10.out]; exact hat11)); clear hown11 hgrow11 hat11 hlt11))
          all_goals
            go_wp2_with fail
            go_roundw
            case rel => first
              | exact ⟨i + 1, _, _, _, _, _, _, _, by omega, by go_num, HS11.out⟩
              | ((repeat apply Exists.intro); exact ⟨⟨i + 1, _, _, _, _, _, _, _, by omega, by go_num, HS11.out⟩, rfl⟩)
            case measure => simp [intOf]; omega
      · obtain rfl : i = s.size := by omega
        obtain ⟨o0, f0⟩ := HS.out.oc.2 0 (by decide)
        obtain ⟨o1, f1⟩ := HS.out.oc.2 1 (by decide)
        obtain ⟨o2, f2⟩ := HS.out.oc.2 2 (by decide)
        obtain ⟨⟨r0, r1, r2⟩, hbel⟩ := out_map HS.out.oc (.slice AN s.size cN) (.slice AL s.size cL) (.slice AO s.size cO)
        have HBE := Lib.hid (HS.out.box.below.trans (hbel _ HS.out.box.below.size (Nat.le_succ _)))
        have HMP := Lib.hid (map_out HS.out (by rw [HSD.out.sz]; exact Nat.mul_pos HSD.out.w1 HSD.out.h1))
        clear hbel
        go_wp2_with fail
        exact bodyPost_ret (v := .agg #[.slice AN s.size cN, .slice AL s.size cL, .slice AO s.size cO]) (res_map5 _ rfl r0 r1 r2) rfl ⟨_, _, _, _, _, _, _, rfl, HBE.out, (fun _ => HMP.out), fun h => absurd HR.out h⟩
end Go.Proofs.YtakgkocdkondhaaGreatDoor
end

section
namespace Go.Proofs.YtakgkocdkondhaaGreatDoor
open Go.RowKit Fl Pt

theorem mI_true {f : Nat → Int} {j n : Nat} {x : Int} (h : j < n) (e : f j = x) : mI f n x = true := by
  unfold mI
  rw [List.any_eq_true]
  exact ⟨j, List.mem_range.2 h, by simp [e]⟩
/-- Is a number in a list? -/
theorem rin_any (B : Nat) (A : Option Addr) (n cap : Nat) (f : Nat → Int) (x : Int) (w : World) (h : Il B w A n cap f) :
    Calls Tryz.prog 147 #[.int .i64 x, .slice A n cap] w fun e w' => e = .returned (.bool (mI f n x)) ∧ w = w' := by
  have HI := Lib.hid h
  have hsz := h.size
  have hle := h.le
  clear h
  go_enter Tryz.func147, Tryz.ntmps147
  go_wp2_with fail
  go_loop [5] (fun iv => ∃ j : Nat, j ≤ n ∧ iv = .int .i64 (j : Int) ∧ Hid (mI f j x = false)) (fun iv => n - (intOf iv).toNat)
  case atStart => exact ⟨0, Nat.zero_le _, rfl, Lib.hid rfl⟩
  case round =>
    obtain ⟨j, hj, rfl, HM⟩ := hrel
    by_cases hlt : j < n
    · obtain ⟨g, off, rfl, _, hc⟩ := HI.out.cell (by omega)
      have hcj := hc j hlt
      have HS := Lib.hid (mI_succ f j x)
      have HT := Lib.hid (mI_true (f := f) (n := n) (x := x) hlt)
      have hji : (j : Int) < (n : Int) := by omega
      clear hc
      generalize f j = y at *
      cases hyx : (y == x) with
      | true =>
        have HY := Lib.hid hyx
        go_wp2_with fail
        go_ret
        exact ⟨by rw [HT.out (beq_iff_eq.1 HY.out)]; rfl, rfl⟩
      | false =>
        have HY := Lib.hid hyx
        go_wp2_with fail
        go_round
        case rel => exact ⟨j + 1, by omega, by go_num, Lib.hid (by rw [HS.out, HM.out, HY.out]; rfl)⟩
        case measure => simp [intOf]; omega
    · obtain rfl : j = n := by omega
      go_wp2_with fail
      go_ret
      exact ⟨by rw [HM.out]; rfl, rfl⟩
/-- A map lies boxed in the first new block. -/
theorem map_box (w : World) (a b c : Value) : (w.alloc (.cells #[a, b, c] 142)).cell? ⟨w.heap.size, 0, none⟩ = some a ∧ (w.alloc (.cells #[a, b, c] 142)).cell? ⟨w.heap.size, 1, none⟩ = some b ∧ (w.alloc (.cells #[a, b, c] 142)).cell? ⟨w.heap.size, 2, none⟩ = some c ∧ Below w.heap.size w (w.alloc (.cells #[a, b, c] 142)) :=
  ⟨by simp [World.cell?_alloc_new], by simp [World.cell?_alloc_new], by simp [World.cell?_alloc_new], (Below.refl _ _).alloc (Nat.le_refl _) _⟩
theorem ropen_map {W H : Nat} {s : ByteArray} {AN AL AO : Option Addr} {n cN cL cO : Nat} (c : Int) (w : World) (h : MapAt w W H s AN AL AO n cN cL cO) (h256 : s.size ≤ 256) :
    Calls Tryz.prog 123 #[.agg #[.slice AN n cN, .slice AL n cL, .slice AO n cO], .int .i64 c] w (Told (bAt s c ≠ 35) w) := by
  obtain ⟨b0, b1, b2, hb⟩ := map_box w (.slice AN n cN) (.slice AL n cL) (.slice AO n cO)
  have HB := Lib.hid hb
  have hn := h.sz
  obtain ⟨g, rfl, hg, hc⟩ := h.opn
  have hcap := h.caps.2.2
  have hcap2 := hcap.2
  unfold maxLen at hcap2
  by_cases h0 : 0 ≤ c
  · obtain ⟨k, rfl⟩ := Int.eq_ofNat_of_zero_le h0
    have d0 : decide (0 ≤ (k : Int)) = true := decide_eq_true h0
    by_cases hk : k < n
    · have r := (hb.cell (p := ⟨g, k, none⟩) hg).trans (hc k hk)
      have HZ : Hid (bAt s (k : Int) = at_ s k) := Lib.hid (bAt_in5 s k (by omega))
      have hkI : (k : Int) < (n : Int) := by omega
      have d1 : decide ((k : Int) < (n : Int)) = true := decide_eq_true hkI
      clear hb hc h hn
      generalize hq : (at_ s k != 35) = q at r
      have HQ := Lib.hid hq
      clear hq
      go_enter Tryz.func123, Tryz.ntmps123
      go_wp2_with fail
      go_ret
      refine ⟨q, by first | rfl | simp, ?_, HB.out⟩
      rw [← HQ.out, HZ.out, bne_iff_ne]
    · have d1 : decide ((k : Int) < (n : Int)) = false := decide_eq_false (by omega)
      have HZ : Hid (bAt s (k : Int) = 35) := Lib.hid (by unfold bAt; rw [if_neg (by omega)])
      clear hb hc h hn
      go_enter Tryz.func123, Tryz.ntmps123
      go_wp2_with fail
      go_ret
      exact ⟨false, rfl, ⟨(fun e => by cases e), (fun e => absurd HZ.out e)⟩, HB.out⟩
  · have d0 : decide (0 ≤ c) = false := decide_eq_false h0
    have HZ : Hid (bAt s c = 35) := Lib.hid (by unfold bAt; rw [if_neg (by omega)])
    clear hb hc h hn
    go_enter Tryz.func123, Tryz.ntmps123
    go_wp2_with fail
    go_ret
    exact ⟨false, rfl, ⟨(fun e => by cases e), (fun e => absurd HZ.out e)⟩, HB.out⟩
/-- The steps out of a cell, as far as they were looked at. -/
def stp (W H : Nat) (z : Nat → Nat) (B : Nat → Bool) (c k : Nat) : List Nat := ((nr W H z c).take k).filter fun b => !B b
theorem stp_succ (W H : Nat) (z : Nat → Nat) (B : Nat → Bool) (c k : Nat) (h : k < (nr W H z c).length) : stp W H z B c (k + 1) = stp W H z B c k ++ if B ((nr W H z c).getD k 0) = true then [] else [(nr W H z c).getD k 0] := by
  unfold stp
  rw [List.take_succ_eq_append_getElem h, List.filter_append, List.getD, List.getElem?_eq_getElem h]
  cases e : B ((nr W H z c)[k]) <;> simp [e]
theorem stp_all (W H : Nat) (z : Nat → Nat) (B : Nat → Bool) (a c : Nat) (h : outB z a c = true) : stp W H z B c (nr W H z c).length = nx5 W H z a B c := by
  rw [nx5_yes h]; unfold stp; rw [List.take_length]
theorem stp_len (W H : Nat) (z : Nat → Nat) (B : Nat → Bool) (c k : Nat) : (stp W H z B c k).length ≤ 4 := by
  unfold stp
  refine Nat.le_trans (List.length_filter_le _ _) ?_
  rw [List.length_take]
  exact Nat.le_trans (Nat.min_le_right _ _) (nr_len W H c z)
/-- Of a boxed map what is near. -/
structure MB (w : World) (gN n cN : Nat) (wr : World) : Prop where
  c0 : wr.cell? ⟨w.heap.size, 0, none⟩ = some (.slice (some ⟨gN, 0, none⟩) n cN)
  lt : w.heap.size + 1 ≤ wr.heap.size
theorem MB.below1 {w : World} {gN n cN : Nat} {wr wx : World} (h : MB w gN n cN wr) (hb : Below (w.heap.size + 1) wr wx) : MB w gN n cN wx :=
  ⟨(hb.cell (p := ⟨w.heap.size, 0, none⟩) (Nat.lt_succ_self _)).trans h.c0, Nat.le_trans h.lt hb.size⟩
set_option maxHeartbeats 4000000 in
theorem rsteps_any {W H : Nat} {s : ByteArray} {AN AL AO : Option Addr} {n cN cL cO : Nat} (c a : Nat) (A : Option Addr) (m cap : Nat) (f : Nat → Int) (w : World) (h : MapAt w W H s AN AL AO n cN cL cO) (h256 : s.size ≤ 256) (hc : c < n) (ha : a < n) (hz : at_ s c ≠ 35) (hf : Il w.heap.size w A m cap f) :
    Calls Tryz.prog 125 #[.agg #[.slice AN n cN, .slice AL n cL, .slice AO n cO], .int .i64 (c : Int), .int .i64 (a : Int), .slice A m cap] w (Ints (nx5 W H (at_ s) a (mk f m) c) w) := by
  obtain ⟨b0, b1, b2, hb⟩ := map_box w (.slice AN n cN) (.slice AL n cL) (.slice AO n cO)
  have HB := Lib.hid hb
  have hn := h.sz
  obtain ⟨gL, rfl, hgL, hcL⟩ := h.lane
  obtain ⟨gN, rfl, hgN, hcN⟩ := h.near
  obtain ⟨A1, k1, hr1, hi1⟩ := hcN c hc
  rw [show nrw W H (at_ s) c = nr W H (at_ s) c by unfold nrw; rw [if_pos hz]] at hr1 hi1
  have hcap := h.caps.2.1
  have hcap2 := hcap.2
  have hcapN := h.caps.1
  have hcapN2 := hcapN.2
  unfold maxLen at hcap2 hcapN2
  have rL := (hb.cell (p := ⟨gL, c, none⟩) hgL).trans (hcL c hc)
  have rN := (hb.cell (p := ⟨gN, c, none⟩) hgN).trans hr1
  have HI1 := Lib.hid hi1
  have HF := Lib.hid hf
  have HRN := Lib.hid hr1
  have HMB : Hid (MB w gN n cN (w.alloc (.cells #[.slice (some ⟨gN, 0, none⟩) n cN, .slice (some ⟨gL, 0, none⟩) n cL, .slice AO n cO] 142))) := Lib.hid ⟨b0, by rw [alloc_size]; exact Nat.le_refl _⟩
  have hcI : (c : Int) < (n : Int) := by omega
  have HZ0 : Hid (w.heap.size < (w.alloc (.cells #[.slice (some ⟨gN, 0, none⟩) n cN, .slice (some ⟨gL, 0, none⟩) n cL, .slice AO n cO] 142)).heap.size) := Lib.hid (by rw [alloc_size]; exact Nat.lt_succ_self _)
  clear hb hcL hcN hr1 hi1 hf h hn
  obtain ⟨ln, hln⟩ : ∃ ln, ln = (nr W H (at_ s) c).length := ⟨_, rfl⟩
  rw [← hln] at rN HI1 HRN
  have hln4 : ln ≤ 4 := by rw [hln]; exact nr_len W H c (at_ s)
  have HLN := Lib.hid hln
  clear hln
  cases hl : isL (at_ s c) with
  | false =>
    rw [hl] at rL
    by_cases hca : c = a
    · subst hca
      have HO : Hid (outB (at_ s) c c = true) := Lib.hid (outB_iff.2 (.inl rfl))
      clear hl rN
      go_enter Tryz.func125, Tryz.ntmps125
      go_wp2_with fail
      go_loopw [9, 10] (fun v iv wr => ∃ (k : Nat) (xs : List Nat) (A' : Option Addr) (m' c' : Nat), v = .slice A' m' c' ∧ m' = xs.length ∧ k ≤ ln ∧ iv = .int .i64 (k : Int) ∧ Hid (xs = stp W H (at_ s) (mk f m) c k) ∧ Own wr (w.heap.size + 1) v xs ∧ Below w.heap.size w wr ∧ MB w gN n cN wr) (fun _ iv _ => ln - (intOf iv).toNat)
      case atStart => exact ⟨0, [], none, 0, 0, rfl, rfl, Nat.zero_le _, rfl, Lib.hid (by simp [stp]), Own.nil _ _, HB.out, HMB.out⟩
      case round =>
        rename World => wr
        obtain ⟨k, xs, A', m', c', rfl, hm', hk, rfl, HXS, ho, hb, hmb⟩ := hrel
        have HO1 := Lib.hid ho
        have HBw := Lib.hid hb
        have HMb := Lib.hid hmb
        have HM' := Lib.hid hm'
        have b0 := hmb.c0
        have rN := (hb.cell (p := ⟨gN, c, none⟩) hgN).trans HRN.out
        have hlt1 := hmb.lt
        have hcapx := ho.cap hm'
        have hx4 : xs.length ≤ 4 := by rw [HXS.out]; exact stp_len _ _ _ _ _ _
        clear ho hb hmb hm' HMB
        by_cases hkl : k < ln
        · obtain ⟨g, off, rfl, _, hcell⟩ := (args_il HI1.out HBw.out).cell (by omega)
          have hcy := hcell k hkl
          obtain ⟨y, hy⟩ : ∃ y, y = (nr W H (at_ s) c).getD k 0 := ⟨_, rfl⟩
          rw [← hy] at hcy
          have HSU := Lib.hid (stp_succ W H (at_ s) (mk f m) c k (by rw [← HLN.out]; exact hkl))
          have HY := Lib.hid hy
          have hkI : (k : Int) < (ln : Int) := by omega
          clear hcell hy
          go_wp2_with fail
          refine (rin_any _ A m cap f (y : Int) _ (args_il HF.out HBw.out)).mono ?_
          rintro e w' ⟨rfl, rfl⟩
          cases hbl : mI f m (y : Int) with
          | true =>
            have HBL := Lib.hid hbl
            go_wp2_with fail
            go_roundw
            case rel => exact ⟨k + 1, xs, A', m', c', rfl, HM'.out, by omega, by go_num, Lib.hid (by rw [HSU.out, ← HY.out, if_pos ((mI_mk f m y).symm.trans HBL.out), List.append_nil]; exact HXS.out), HO1.out, HBw.out, HMb.out⟩
            case measure => simp [intOf]; omega
          | false =>
            have HBL := Lib.hid hbl
            go_wp2_with (at_builtin; refine app_int rfl _ _ rfl (w.heap.size + 1) (.slice A' m' c') xs rfl y _ rfl wr rfl HO1.out rfl (by omega) hlt1 ?_; intro A8 c8 n8 w8 hn8 ho8 hb8 hg8; have HN8 := Lib.hid hn8; have HO8 := Lib.hid ho8; have HB8 := Lib.hid (HBw.out.trans (hb8.mono (Nat.le_succ _))); have HM8 := Lib.hid (HMb.out.below1 hb8); clear hn8 ho8 hb8 hg8)
            go_roundw
            case rel => exact ⟨k + 1, xs ++ [y], A8, n8, c8, rfl, HN8.out, by omega, by go_num, Lib.hid (by rw [HSU.out, ← HY.out, if_neg (by rw [← mI_mk, HBL.out]; decide), ← HXS.out]), HO8.out, HB8.out, HM8.out⟩
            case measure => simp [intOf]; omega
        · obtain rfl : k = ln := by omega
          go_wp2_with fail
          go_ret
          refine ⟨A', m', c', rfl, ?_, ?_, HBw.out⟩
          · rw [HM'.out, HXS.out, HLN.out, stp_all _ _ _ _ _ _ HO.out]
          · have := HO1.out
            rw [HXS.out, HLN.out, stp_all _ _ _ _ _ _ HO.out] at this
            exact this.lower (Nat.le_succ _)
    · have dca : ((c : Int) == (a : Int)) = false := by rw [beq_eq_false_iff_ne]; omega
      have HO : Hid (nx5 W H (at_ s) a (mk f m) c = []) := Lib.hid (nx5_no (by
        cases e : outB (at_ s) a c with
        | false => rfl
        | true => rcases outB_iff.1 e with e | e
                  · exact absurd e hca
                  · rw [hl] at e; cases e))
      clear hl
      go_enter Tryz.func125, Tryz.ntmps125
      go_wp2_with fail
      go_ret
      exact ⟨none, 0, 0, rfl, by rw [HO.out]; rfl, by rw [HO.out]; exact Own.nil _ _, HB.out⟩
  | true =>
    rw [hl] at rL
    have HO : Hid (outB (at_ s) a c = true) := Lib.hid (outB_iff.2 (.inr hl))
    by_cases hca : c = a
    · subst hca
      clear hl rN
      go_enter Tryz.func125, Tryz.ntmps125
      go_wp2_with fail
      go_loopw [9, 10] (fun v iv wr => ∃ (k : Nat) (xs : List Nat) (A' : Option Addr) (m' c' : Nat), v = .slice A' m' c' ∧ m' = xs.length ∧ k ≤ ln ∧ iv = .int .i64 (k : Int) ∧ Hid (xs = stp W H (at_ s) (mk f m) c k) ∧ Own wr (w.heap.size + 1) v xs ∧ Below w.heap.size w wr ∧ MB w gN n cN wr) (fun _ iv _ => ln - (intOf iv).toNat)
      case atStart => exact ⟨0, [], none, 0, 0, rfl, rfl, Nat.zero_le _, rfl, Lib.hid (by simp [stp]), Own.nil _ _, HB.out, HMB.out⟩
      case round =>
        rename World => wr
        obtain ⟨k, xs, A', m', c', rfl, hm', hk, rfl, HXS, ho, hb, hmb⟩ := hrel
        have HO1 := Lib.hid ho
        have HBw := Lib.hid hb
        have HMb := Lib.hid hmb
        have HM' := Lib.hid hm'
        have b0 := hmb.c0
        have rN := (hb.cell (p := ⟨gN, c, none⟩) hgN).trans HRN.out
        have hlt1 := hmb.lt
        have hcapx := ho.cap hm'
        have hx4 : xs.length ≤ 4 := by rw [HXS.out]; exact stp_len _ _ _ _ _ _
        clear ho hb hmb hm' HMB
        by_cases hkl : k < ln
        · obtain ⟨g, off, rfl, _, hcell⟩ := (args_il HI1.out HBw.out).cell (by omega)
          have hcy := hcell k hkl
          obtain ⟨y, hy⟩ : ∃ y, y = (nr W H (at_ s) c).getD k 0 := ⟨_, rfl⟩
          rw [← hy] at hcy
          have HSU := Lib.hid (stp_succ W H (at_ s) (mk f m) c k (by rw [← HLN.out]; exact hkl))
          have HY := Lib.hid hy
          have hkI : (k : Int) < (ln : Int) := by omega
          clear hcell hy
          go_wp2_with fail
          refine (rin_any _ A m cap f (y : Int) _ (args_il HF.out HBw.out)).mono ?_
          rintro e w' ⟨rfl, rfl⟩
          cases hbl : mI f m (y : Int) with
          | true =>
            have HBL := Lib.hid hbl
            go_wp2_with fail
            go_roundw
            case rel => exact ⟨k + 1, xs, A', m', c', rfl, HM'.out, by omega, by go_num, Lib.hid (by rw [HSU.out, ← HY.out, if_pos ((mI_mk f m y).symm.trans HBL.out), List.append_nil]; exact HXS.out), HO1.out, HBw.out, HMb.out⟩
            case measure => simp [intOf]; omega
          | false =>
            have HBL := Lib.hid hbl
            go_wp2_with (at_builtin; refine app_int rfl _ _ rfl (w.heap.size + 1) (.slice A' m' c') xs rfl y _ rfl wr rfl HO1.out rfl (by omega) hlt1 ?_; intro A8 c8 n8 w8 hn8 ho8 hb8 hg8; have HN8 := Lib.hid hn8; have HO8 := Lib.hid ho8; have HB8 := Lib.hid (HBw.out.trans (hb8.mono (Nat.le_succ _))); have HM8 := Lib.hid (HMb.out.below1 hb8); clear hn8 ho8 hb8 hg8)
            go_roundw
            case rel => exact ⟨k + 1, xs ++ [y], A8, n8, c8, rfl, HN8.out, by omega, by go_num, Lib.hid (by rw [HSU.out, ← HY.out, if_neg (by rw [← mI_mk, HBL.out]; decide), ← HXS.out]), HO8.out, HB8.out, HM8.out⟩
            case measure => simp [intOf]; omega
        · obtain rfl : k = ln := by omega
          go_wp2_with fail
          go_ret
          refine ⟨A', m', c', rfl, ?_, ?_, HBw.out⟩
          · rw [HM'.out, HXS.out, HLN.out, stp_all _ _ _ _ _ _ HO.out]
          · have := HO1.out
            rw [HXS.out, HLN.out, stp_all _ _ _ _ _ _ HO.out] at this
            exact this.lower (Nat.le_succ _)
    · have dca : ((c : Int) == (a : Int)) = false := by rw [beq_eq_false_iff_ne]; omega
      clear hl rN
      go_enter Tryz.func125, Tryz.ntmps125
      go_wp2_with fail
      go_loopw [9, 10] (fun v iv wr => ∃ (k : Nat) (xs : List Nat) (A' : Option Addr) (m' c' : Nat), v = .slice A' m' c' ∧ m' = xs.length ∧ k ≤ ln ∧ iv = .int .i64 (k : Int) ∧ Hid (xs = stp W H (at_ s) (mk f m) c k) ∧ Own wr (w.heap.size + 1) v xs ∧ Below w.heap.size w wr ∧ MB w gN n cN wr) (fun _ iv _ => ln - (intOf iv).toNat)
      case atStart => exact ⟨0, [], none, 0, 0, rfl, rfl, Nat.zero_le _, rfl, Lib.hid (by simp [stp]), Own.nil _ _, HB.out, HMB.out⟩
      case round =>
        rename World => wr
        obtain ⟨k, xs, A', m', c', rfl, hm', hk, rfl, HXS, ho, hb, hmb⟩ := hrel
        have HO1 := Lib.hid ho
        have HBw := Lib.hid hb
        have HMb := Lib.hid hmb
        have HM' := Lib.hid hm'
        have b0 := hmb.c0
        have rN := (hb.cell (p := ⟨gN, c, none⟩) hgN).trans HRN.out
        have hlt1 := hmb.lt
        have hcapx := ho.cap hm'
        have hx4 : xs.length ≤ 4 := by rw [HXS.out]; exact stp_len _ _ _ _ _ _
        clear ho hb hmb hm' HMB
        by_cases hkl : k < ln
        · obtain ⟨g, off, rfl, _, hcell⟩ := (args_il HI1.out HBw.out).cell (by omega)
          have hcy := hcell k hkl
          obtain ⟨y, hy⟩ : ∃ y, y = (nr W H (at_ s) c).getD k 0 := ⟨_, rfl⟩
          rw [← hy] at hcy
          have HSU := Lib.hid (stp_succ W H (at_ s) (mk f m) c k (by rw [← HLN.out]; exact hkl))
          have HY := Lib.hid hy
          have hkI : (k : Int) < (ln : Int) := by omega
          clear hcell hy
          go_wp2_with fail
          refine (rin_any _ A m cap f (y : Int) _ (args_il HF.out HBw.out)).mono ?_
          rintro e w' ⟨rfl, rfl⟩
          cases hbl : mI f m (y : Int) with
          | true =>
            have HBL := Lib.hid hbl
            go_wp2_with fail
            go_roundw
            case rel => exact ⟨k + 1, xs, A', m', c', rfl, HM'.out, by omega, by go_num, Lib.hid (by rw [HSU.out, ← HY.out, if_pos ((mI_mk f m y).symm.trans HBL.out), List.append_nil]; exact HXS.out), HO1.out, HBw.out, HMb.out⟩
            case measure => simp [intOf]; omega
          | false =>
            have HBL := Lib.hid hbl
            go_wp2_with (at_builtin; refine app_int rfl _ _ rfl (w.heap.size + 1) (.slice A' m' c') xs rfl y _ rfl wr rfl HO1.out rfl (by omega) hlt1 ?_; intro A8 c8 n8 w8 hn8 ho8 hb8 hg8; have HN8 := Lib.hid hn8; have HO8 := Lib.hid ho8; have HB8 := Lib.hid (HBw.out.trans (hb8.mono (Nat.le_succ _))); have HM8 := Lib.hid (HMb.out.below1 hb8); clear hn8 ho8 hb8 hg8)
            go_roundw
            case rel => exact ⟨k + 1, xs ++ [y], A8, n8, c8, rfl, HN8.out, by omega, by go_num, Lib.hid (by rw [HSU.out, ← HY.out, if_neg (by rw [← mI_mk, HBL.out]; decide), ← HXS.out]), HO8.out, HB8.out, HM8.out⟩
            case measure => simp [intOf]; omega
        · obtain rfl : k = ln := by omega
          go_wp2_with fail
          go_ret
          refine ⟨A', m', c', rfl, ?_, ?_, HBw.out⟩
          · rw [HM'.out, HXS.out, HLN.out, stp_all _ _ _ _ _ _ HO.out]
          · have := HO1.out
            rw [HXS.out, HLN.out, stp_all _ _ _ _ _ _ HO.out] at this
            exact this.lower (Nat.le_succ _)
end Go.Proofs.YtakgkocdkondhaaGreatDoor
end
