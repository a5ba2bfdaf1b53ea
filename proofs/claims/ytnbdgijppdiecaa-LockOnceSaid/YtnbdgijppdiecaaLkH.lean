/-
  Layer 9: how often each zone stands in the lists of its owners.
-/
import Derived.Test.YtnbdgijppdiecaaLkG
set_option linter.unusedVariables false
set_option maxRecDepth 100000
namespace Go.Proofs.Ytnbdgijppdiecaa
namespace Lk
open Go.RowKit Bk

def ownr : Nat → Ow
  | 0 => (0, false)
  | n + 1 => ((n : Int), true)
def idx9 (p : Ow) : Nat := if p.2 = true then p.1.toNat + 1 else 0
theorem idx_ownr (i : Nat) : idx9 (ownr i) = i := by
  cases i with
  | zero => rfl
  | succ n => unfold idx9 ownr; simp
theorem ownr_idx {T : List Ow} (hT : Tb T) {z : Nat} (hz : z < 26) : ownr (idx9 (T.getD z (0, false))) = T.getD z (0, false) ∧ idx9 (T.getD z (0, false)) < 9 := by
  obtain ⟨h1, h2⟩ := hT.ok z hz
  generalize T.getD z (0, false) = p at *
  obtain ⟨a, b⟩ := p
  cases b with
  | false =>
    have h1 : a = 0 := h1 rfl
    subst h1
    exact ⟨rfl, by decide⟩
  | true =>
    have h2 : Rb a := h2 rfl
    obtain ⟨n, rfl⟩ := Int.eq_ofNat_of_zero_le h2.1
    have := h2.2
    exact ⟨by simp [idx9, ownr], by simp [idx9]; omega⟩
theorem mem_own {T : List Ow} (hT : Tb T) {z : Nat} (hz : z < 26) (i : Nat) : ((z : Nat) : Int) ∈ zns T (ownr i) 26 ↔ idx9 (T.getD z (0, false)) = i := by
  rw [mem_zns]
  constructor
  · rintro ⟨_, _, h⟩
    rw [Int.toNat_natCast] at h
    rw [h, idx_ownr]
  · intro h
    refine ⟨by omega, by omega, ?_⟩
    rw [Int.toNat_natCast, ← h, (ownr_idx hT hz).1]
theorem zns_lt (T : List Ow) (p : Ow) (n : Nat) : (zns T p n).Pairwise (· < ·) := by
  unfold zns
  rw [List.pairwise_map]
  refine List.Pairwise.imp ?_ (List.pairwise_lt_range.filter _)
  intro a b h
  omega
/-- How often a zone has come, behind so many lists, and so many numbers of the next one. -/
def cntM (T : List Ow) (i k z : Nat) : Int := if idx9 (T.getD z (0, false)) < i ∨ ((z : Nat) : Int) ∈ (zns T (ownr i) 26).take k then 1 else 0
theorem cnt_next {T : List Ow} (hT : Tb T) (i : Nat) {z : Nat} (hz : z < 26) : cntM T i (zns T (ownr i) 26).length z = cntM T (i + 1) 0 z := by
  unfold cntM
  simp only [List.take_length, mem_own hT hz, List.take_zero, List.not_mem_nil, or_false]
  by_cases h : idx9 (T.getD z (0, false)) < i ∨ idx9 (T.getD z (0, false)) = i
  · rw [if_pos h, if_pos (by omega)]
  · rw [if_neg h, if_neg (by omega)]
theorem cnt_end {T : List Ow} (hT : Tb T) {z : Nat} (hz : z < 26) : cntM T 9 0 z = 1 := by
  unfold cntM
  rw [if_pos (.inl (ownr_idx hT hz).2)]
theorem cnt_start (T : List Ow) (z : Nat) : cntM T 0 0 z = 0 := by
  unfold cntM
  rw [if_neg]
  rintro (h | h)
  · omega
  · simp at h
theorem cnt_step {T : List Ow} (hT : Tb T) {i k z : Nat} (hk : k < (zns T (ownr i) 26).length) (hz : (zns T (ownr i) 26).getD k 0 = (z : Int)) :
    z < 26 ∧ T.getD z (0, false) = ownr i ∧ cntM T i k z = 0 ∧ ∀ y, y < 26 → cntM T i (k + 1) y = if y = z then 1 else cntM T i k y := by
  have hg : (zns T (ownr i) 26)[k] = (z : Int) := by rw [← hz, List.getD, List.getElem?_eq_getElem hk]; rfl
  have hm : (z : Int) ∈ zns T (ownr i) 26 := by rw [← hg]; exact List.getElem_mem hk
  obtain ⟨_, h2, h3⟩ := mem_zns.1 hm
  rw [Int.toNat_natCast] at h3
  have hz26 : z < 26 := by omega
  have hx := (mem_own hT hz26 i).1 hm
  have hn : ¬ ((z : Int) ∈ (zns T (ownr i) 26).take k) := fun h => by
    obtain ⟨j, hj, e⟩ := List.getElem_of_mem h
    rw [List.length_take] at hj
    rw [List.getElem_take] at e
    have := List.pairwise_iff_getElem.1 (zns_lt T (ownr i) 26) j k (by omega) hk (by omega)
    omega
  refine ⟨hz26, h3, ?_, fun y hy => ?_⟩
  · unfold cntM
    rw [if_neg]
    rintro (h | h)
    · omega
    · exact hn h
  · unfold cntM
    rw [List.take_succ_eq_append_getElem hk, hg]
    simp only [List.mem_append, List.mem_singleton]
    by_cases e : y = z
    · subst e
      rw [if_pos (.inr (.inr rfl)), if_pos rfl]
    · rw [if_neg e]
      have : ¬ ((y : Int) = (z : Int)) := by omega
      simp only [this, or_false]
/-- The lists of the owners. -/
def lls (T : List Ow) (n : Nat) : List (List Int) := (List.range n).map fun i => zns T (ownr i) 26
theorem lls_succ (T : List Ow) (n : Nat) : lls T (n + 1) = lls T n ++ [zns T (ownr n) 26] := by simp [lls, List.range_succ]
theorem lls_len (T : List Ow) (n : Nat) : (lls T n).length = n := by simp [lls]
theorem lls_get (T : List Ow) {n i : Nat} (h : i < n) : (lls T n).getD i [] = zns T (ownr i) 26 := by simp [lls, List.getD, h]

/-! ### An array of numbers -/
def acl (f : Nat → Int) : List Value := (List.range 26).map fun z => Value.int .i64 (f z)
def AtM (w : World) (M : Nat) (f : Nat → Int) : Prop := w.heap[M]? = some (.cells (acl f).toArray 43 (0, 0))
theorem AtM.congr {w : World} {M : Nat} {f f' : Nat → Int} (h : AtM w M f) (e : ∀ z, z < 26 → f z = f' z) : AtM w M f' := by
  have : acl f = acl f' := by
    unfold acl
    apply List.map_congr_left
    intro z hz
    rw [e z (by simpa using hz)]
  unfold AtM
  rw [← this]
  exact h
theorem AtM.new (w : World) : AtM (w.alloc (.cells (acl fun _ => 0).toArray 43)) w.heap.size (fun _ => 0) := heap_alloc_new w _
theorem AtM.cells {w : World} {M : Nat} {f : Nat → Int} (h : AtM w M f) {z : Nat} (hz : z < 26) : w.cell? ⟨M, z, none⟩ = some (.int .i64 (f z)) ∧ w.frozen? ⟨M, z, none⟩ = false ∧ M < w.heap.size := by
  refine ⟨?_, frozen_of_row w M _ _ _ h, lt_of_heap h⟩
  rw [cell_of_row w M _ _ _ _ h]
  simp [acl, hz]
theorem AtM.later {w w' : World} {M : Nat} {f : Nat → Int} (h : AtM w M f) (hb : Below w.heap.size w w') : AtM w' M f := (hb.block M (lt_of_heap h)).trans h
theorem AtM.put {w : World} {M : Nat} {f : Nat → Int} (h : AtM w M f) {z : Nat} (hz : z < 26) (v : Int) : AtM (w.setCell ⟨M, z, none⟩ (.int .i64 v)) M (fun y => if y = z then v else f y) := by
  have k := heap_setCell_same w M z _ _ (.int .i64 v) h
  unfold AtM
  rw [k]
  have : (acl f).set z (.int .i64 v) = acl (fun y => if y = z then v else f y) := by
    unfold acl
    apply List.ext_getElem (by simp)
    intro i h1 h2
    rw [List.getElem_set]
    simp only [List.getElem_map, List.getElem_range]
    by_cases e : z = i
    · subst e; simp
    · rw [if_neg e, if_neg (fun q => e q.symm)]
  rw [← this]
  simp
theorem own_onlyM {w w' : World} {base M k n : Nat} {e : TypeId} {v : Value} {xs : List Value} {f : Nat → Int} (h : w.ownsRow base e k v n xs) (hM : AtM w M f) (he : e ≠ 43) (ho : Only M w w') : w'.ownsRow base e k v n xs := by
  refine ownsRow_same h (fun k hk => Turn.block ho k (World.ownsRow.lt h k hk).2 ?_)
  rintro rfl
  obtain ⟨c, fz, hh⟩ := kind9 h _ hk
  have := hh.symm.trans hM
  injection this with this
  injection this with _ this _
  exact he this
theorem Ls9.onlyM {w w' : World} {base M : Nat} {v : Value} {LL : List (List Int)} {f : Nat → Int} (h : Ls9 w base v LL) (hM : AtM w M f) (ho : Only M w w') : Ls9 w' base v LL := by
  obtain ⟨xs, h1, h2⟩ := h
  refine ⟨xs, own_onlyM h1 hM (by decide) ho, fun i hi => ?_⟩
  obtain ⟨x, e, hx⟩ := h2 i hi
  exact ⟨x, e, own_onlyM hx hM (by decide) ho⟩
theorem LkAt.onlyM {w w' : World} {g M : Nat} {T : List Ow} {f : Nat → Int} (h : LkAt w g T) (hM : AtM w M f) (ho : Only M w w') : LkAt w' g T := by
  refine h.turn ho ?_
  rintro rfl
  have := h.box.symm.trans hM
  injection this with this
  injection this with _ this _
  revert this
  decide
/-- One list, in a block of its own. -/
theorem Ls9.one {w : World} {base : Nat} {v : Value} {L : List Int} (h : Iw w base v L) (hb : base ≤ w.heap.size) : Ls9 (w.alloc (.cells #[v] 39)) base (.slice (some ⟨w.heap.size, 0, none⟩) 1 1) [L] := by
  have := World.ownsRow_lit (base := base) (e := 39) (size := 1) w #[v] 1 hb (by unfold maxLen; omega) rfl
  refine ⟨[v], by simpa using this, fun i hi => ?_⟩
  obtain rfl : i = 0 := by simp at hi; omega
  exact ⟨v, rfl, h.later ((Below.refl _ _).alloc (Nat.le_refl _) _)⟩
end Lk
end Go.Proofs.Ytnbdgijppdiecaa
