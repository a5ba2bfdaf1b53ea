/-
  Layer 6: windows within one block: written, cleared, deleted.
-/
import Derived.Test.YtcdclghmebgpnaaGreatDoorWnF
import Derived.Deep.RegionLaw
import Derived.Deep.Upon
import Derived.Laws.CopyOwn
set_option linter.unusedVariables false
set_option maxRecDepth 100000
namespace Go.Proofs.YtcdclghmebgpnaaGreatDoor.Wn
open Go.RowKit Go.Maps

/-- A block of windows' cells. -/
def Bk (w : World) (g : Nat) (X : List Value) : Prop := w.heap[g]? = some (.cells X.toArray 52 (0, 0))
theorem take_splice {α : Type} (X cs : List α) (o : Nat) (h : o ≤ X.length) : (splice X o cs).take o = X.take o := by
  unfold splice
  rw [List.take_append_of_le_length (by simp; omega), List.take_take, Nat.min_self]
theorem take_splice_end {α : Type} (X cs : List α) (o : Nat) (h : o ≤ X.length) : (splice X o cs).take (o + cs.length) = X.take o ++ cs := by
  unfold splice
  rw [← List.append_assoc, List.take_append_of_le_length (by simp; omega)]
  exact List.take_of_length_le (by simp; omega)
theorem splice_cons {α : Type} (X r : List α) (o : Nat) (v : α) (h : o < X.length) : splice (X.set o v) (o + 1) r = splice X o (v :: r) := by
  unfold splice
  have e1 : (X.set o v).take (o + 1) = X.take o ++ [v] := by
    rw [List.take_set, List.take_succ_eq_append_getElem h, List.set_append_right _ _ (by simp; omega)]
    simp [Nat.min_eq_left (Nat.le_of_lt h)]
  have e2 : (X.set o v).drop (o + 1 + r.length) = X.drop (o + (v :: r).length) := by
    rw [List.drop_set, if_pos (by omega)]
    congr 1
    simp; omega
  rw [e1, e2, List.append_assoc]
  rfl
theorem splice_nil {α : Type} (X : List α) (o : Nat) : splice X o [] = X := by simp [splice]
theorem Bk.setCells {g : Nat} : ∀ (news : List Value) (o : Nat) (X : List Value) (w : World), Bk w g X → o + news.length ≤ X.length → Bk (w.setCells g o news) g (splice X o news)
  | [], o, X, w, h, _ => by rw [splice_nil]; exact h
  | v :: r, o, X, w, h, hl => by
    simp only [List.length_cons] at hl
    have h1 : Bk (w.setCell ⟨g, o, none⟩ v) g (X.set o v) := by
      unfold Bk
      rw [heap_setCell_same w g o _ _ _ h]
      simp
    rw [← splice_cons X r o v (by omega)]
    exact Bk.setCells r (o + 1) (X.set o v) (w.setCell ⟨g, o, none⟩ v) h1 (by rw [List.length_set]; omega)
theorem setCells_turn (g : Nat) : ∀ (news : List Value) (o : Nat) (w : World), w.grownBy (w.setCells g o news) (some g)
  | [], o, w => ⟨rfl, rfl, rfl, Nat.le_refl _, fun _ _ _ => rfl⟩
  | v :: r, o, w => by
    have h1 := setCells_turn g r (o + 1) (w.setCell ⟨g, o, none⟩ v)
    have hz : (w.setCell ⟨g, o, none⟩ v).heap.size = w.heap.size := by simp [World.setCell]
    exact ⟨h1.os, h1.tape, h1.output, by have := h1.size; rw [hz] at this; exact this, fun k hk hne => (h1.block k (by rw [hz]; exact hk) hne).trans (Below.heap_setCell _ _ _ _ (fun e => hne (by rw [e])))⟩
theorem Bk.cell {w : World} {g : Nat} {X : List Value} (h : Bk w g X) (j : Nat) : w.cell? ⟨g, j, none⟩ = X[j]? ∧ w.frozen? ⟨g, j, none⟩ = false :=
  ⟨by rw [cell_of_row w g j _ _ _ h]; simp, frozen_of_row w g j _ _ h⟩
theorem Wow.bk {w : World} {base g n c : Nat} {L : List (Int × Int)} (h : Wow w base (.slice (Option.some ⟨g, 0, Option.none⟩) n c) L) : base ≤ g ∧ ∃ X, Bk w g X ∧ n = L.length ∧ n ≤ c ∧ c ≤ maxLen ∧ X.length = c * 2 ∧ X.take (L.length * 2) = wcl L := by
  unfold Wow at h
  rcases h.2 with ⟨q, h0⟩ | ⟨g', cap', cur, q, hg, hh, h1, h2, h3, h4⟩
  · cases q
  · injection q with q1 q2 q3
    injection q1 with q1
    injection q1 with q1
    subst q1 q3
    exact ⟨hg, cur.toList, by unfold Bk; simpa using hh, q2, by omega, h2, by simpa using h3, h4⟩
theorem Wow.ofBk {w : World} {base g c : Nat} {L : List (Int × Int)} {X : List Value} (h : Bk w g X) (hb : base ≤ g) (hn : L.length ≤ c) (hc : c ≤ maxLen) (hX : X.length = c * 2) (hT : X.take (L.length * 2) = wcl L) : Wow w base (.slice (Option.some ⟨g, 0, Option.none⟩) L.length c) L :=
  ⟨wcl_length L, .inr ⟨g, c, X.toArray, rfl, hb, h, hn, hc, by simpa using hX, by simpa using hT⟩⟩
theorem zero_wins (n : Nat) : (Builtin.zeroCells #[.int .i64 0, .int .i64 0] n).toList = List.replicate (n * 2) (.int .i64 0) := by
  simp only [Builtin.zeroCells]
  apply List.ext_getElem
  · simp
  · intro i h1 h2
    have : i % 2 = 0 ∨ i % 2 = 1 := by omega
    rcases this with q | q <;> simp [q]
theorem run_clear_wins (w : World) (ty : TypeId) (g o n c : Nat) (X : List Value) (h : Bk w g X) (hn : 0 < n) (hf : o + n * 2 ≤ X.length) :
    (Builtin.clear_ #[49] ty #[.slice (some ⟨g, o, none⟩) n c]).run Tryz.prog w = .ok (.tuple #[]) (w.setCells g o (List.replicate (n * 2) (.int .i64 0))) := by
  have hv : ∀ w, (zeroValue 52).run Tryz.prog w = .ok (.agg #[.int .i64 0, .int .i64 0]) w := fun w => by kernel_rfl
  have hzc := zero_wins n
  have hcells : (Value.agg #[.int .i64 0, .int .i64 0]).cells = #[.int .i64 0, .int .i64 0] := by kernel_rfl
  have hst := run_storeCells_cells (P := Tryz.prog) g o (List.replicate (n * 2) (Value.int .i64 0)) 0 w (fun j hj => by
      rw [List.length_replicate] at hj
      rw [Nat.add_zero, (h.cell (o + j)).1, List.getElem?_eq_getElem (by omega)]; rfl) (fun j hj => (h.cell (o + 0 + j)).2) (by intro v hv'; rw [List.eq_of_mem_replicate hv']; rfl)
  simp only [Nat.add_zero] at hst
  obtain ⟨m, rfl⟩ : ∃ m, n = m + 1 := ⟨n - 1, by omega⟩
  simp [Builtin.clear_, run_underlying Tryz.underlying49, hv, hcells, hzc, hst]
/-- copy of windows into a block of one's own, from wherever. -/
theorem run_copy_wins (w : World) (ty : TypeId) (g o dLen dCap : Nat) (a : Addr) (sLen sCap : Nat) (X cs : List Value) (hg : Bk w g X) (hn : cs.length = Nat.min sLen dLen * 2)
    (hsrc : ∀ j v, cs[j]? = Option.some v → w.cell? (a.add j) = Option.some v) (hfit : o + cs.length ≤ X.length) (h1 : ∀ v ∈ cs, v.oneCell' = true) :
    (Builtin.copy_ #[49, 49] ty #[.slice (Option.some ⟨g, o, Option.none⟩) dLen dCap, .slice (Option.some a) sLen sCap]).run Tryz.prog w = .ok (goInt (Nat.min sLen dLen)) (w.setCells g o cs) := by
  obtain ⟨i0, hi, hz0, hz1, hz2⟩ := info_parts Tryz.infoWin
  have hl := run_loadCells_list (P := Tryz.prog) w a cs hsrc
  have hst := run_storeCells_cells (P := Tryz.prog) g o cs 0 w (fun j hj => by
      rw [Nat.add_zero, (hg.cell (o + j)).1, List.getElem?_eq_getElem (by omega)]; rfl) (fun j hj => (hg.cell (o + 0 + j)).2) h1
  simp only [Nat.add_zero] at hst
  simp [Builtin.copy_, run_underlying Tryz.underlying49, Builtin.lenOf, Builtin.firstCells, sizeOf, typeInfo, hi, hz1, ← hn, hl, hst]
end Go.Proofs.YtcdclghmebgpnaaGreatDoor.Wn
