/-
  Layer 13: texts in memory: lists of them, of whatever make and of one's own; some are appended.
-/
import Derived.Test.YtobpinelhjpfgaaDoorNwF
set_option linter.unusedVariables false
set_option maxRecDepth 100000
namespace Go.Proofs.YtobpinelhjpfgaaDoor
namespace Nw
open Go.RowKit Go.Maps Bk

def svs (S : List ByteArray) : List Value := S.map Value.string
theorem svs_one (S : List ByteArray) : ∀ u ∈ svs S, u.oneCell' = true := by
  intro u hu
  simp only [svs, List.mem_map] at hu
  obtain ⟨z, _, rfl⟩ := hu
  rfl
theorem svs_get {S : List ByteArray} {j : Nat} (h : j < S.length) : (svs S)[j]? = some (.string (bat S j)) := by
  simp only [svs, List.getElem?_map, bat_get h]; rfl
/-- Texts at a slice, of whatever make; of one's own. -/
def Sg (B : Nat) (w : World) (A : Option Addr) (n cap : Nat) (S : List ByteArray) : Prop := Gt 1 B w A n cap (svs S)
def Sw (w : World) (base : Nat) (v : Value) (S : List ByteArray) : Prop := w.ownsRow base 9 1 v S.length (svs S)
section
variable {B base g off n cap : Nat} {w w' : World} {A : Option Addr} {v : Value} {S : List ByteArray}
theorem Sg.len (h : Sg B w A n cap S) : S.length = n := by have := Gt.len h; simpa [svs] using this
theorem Sg.cell (h : Sg B w A n cap S) {j : Nat} (hj : j < n) : ∃ g off, A = some ⟨g, off, none⟩ ∧ g < B ∧ w.cell? ⟨g, off + j, none⟩ = some (.string (bat S j)) := by
  obtain ⟨g, off, e, hg, hc⟩ := Gt.cell h (by omega)
  exact ⟨g, off, e, hg, by rw [hc j (by omega), svs_get (by rw [h.len]; exact hj)]⟩
theorem Sg.later (h : Sg w.heap.size w A n cap S) (hb : Below w.heap.size w w') : Sg w'.heap.size w' A n cap S := Gt.later h hb
theorem Sg.cut (h : Sg B w A n cap S) {m : Nat} (hm : m ≤ n) : Sg B w A m cap (S.take m) := by
  have := Gt.cut h hm
  unfold Sg
  rwa [show svs (S.take m) = (svs S).take (m * 1) by simp [svs]]
theorem Sg.tail (h : Sg B w (some ⟨g, off, none⟩) n cap S) {m : Nat} (hm : m ≤ n) (A' : Option Addr) (hA : A' ≠ none) (hA' : m < n → A' = some ⟨g, off + m, none⟩) : Sg B w A' (n - m) (cap - m) (S.drop m) := by
  have := Gt.tail h hm A' hA (fun q => by rw [hA' q, Nat.mul_one])
  unfold Sg
  rwa [show svs (S.drop m) = (svs S).drop (m * 1) by simp [svs]]
theorem Sw.sg (h : Sw w base (.slice A n cap) S) : n = S.length ∧ Sg w.heap.size w A n cap S := by
  obtain ⟨rfl, h2⟩ := gt_own h
  exact ⟨rfl, h2⟩
theorem Sw.form (h : Sw w base v S) : ∃ A c, v = .slice A S.length c := own_form h
theorem Sw.later (h : Sw w base v S) (hb : Below w.heap.size w w') : Sw w' base v S := Bk.own_later h hb
theorem Sw.same (h : Sw w base v S) (h2 : ∀ k, v.ownBlock = some k → w'.heap[k]? = w.heap[k]?) : Sw w' base v S := ownsRow_same h h2
theorem Sw.lower {base' : Nat} (h : Sw w base v S) (hb : base' ≤ base) : Sw w base' v S := own_lower h hb
theorem Sw.nil (w : World) (base : Nat) : Sw w base (.slice none 0 0) [] := World.ownsRow_nil _ _ _ _
theorem Sw.empty (w : World) (base : Nat) (hb : base ≤ w.heap.size) : Sw (w.alloc (.cells #[] 9)) base (.slice (some ⟨w.heap.size, 0, none⟩) 0 0) [] := own_empty w 9 1 base hb
/-- What is of another type is not its block. -/
theorem Sw.kind (h : Sw w base v S) : ∀ g, v.ownBlock = some g → g < w.heap.size ∧ base ≤ g ∧ ∃ c fz, w.heap[g]? = some (.cells c 9 fz) := own_kind h
end
theorem Sg.one (w : World) (s : ByteArray) : Sg (w.alloc (.cells #[.string s] 9)).heap.size (w.alloc (.cells #[.string s] 9)) (some ⟨w.heap.size, 0, none⟩) 1 1 [s] := one_row w 9 (.string s)
end Nw
end Go.Proofs.YtobpinelhjpfgaaDoor
