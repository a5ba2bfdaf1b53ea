/-
  Layer 6: Forget and Drop of whatever; any act.
-/
import Derived.Test.YtinkpeliinofoaaDoorWnM
set_option linter.unusedVariables false
set_option maxRecDepth 100000
namespace Go.Proofs.YtinkpeliinofoaaDoor.Wn
open Go.RowKit Go.Maps

/-- Drop: what comes of it for the cell's windows. -/
def dr (L : List (Int × Int)) (a b : Int) : Int × List (Int × Int) :=
  if plc L a < L.length ∧ L.getD (plc L a) (0, 0) = (a, b) then (0, L.take (plc L a) ++ L.drop (plc L a + 1)) else (2, L)
theorem dr_ord {L : List (Int × Int)} {a b : Int} (h : Ordw 0 L) : Ordw 0 (dr L a b).2 := by
  unfold dr
  split
  · exact h.del _ _ (Nat.le_succ _)
  · exact h
theorem fg_ord {f : Int} {L : List (Int × Int)} (m : Int) (h : Ordw f L) : Ordw f (fg L m) := by
  have := h.del 0 (plc L m) (Nat.zero_le _)
  unfold fg
  simpa using this
theorem drop_any (base tb N : Nat) (mv : Option Nat) (T : Int → List (Int × Int)) (gb : Int → Nat) (x a b : Int) (w : World) (h : Tab w base tb N mv T gb) (hx : IW x) (hN : N < 4096) (hO : Ordw 0 (T x)) :
    Calls Tryd.prog 15 #[.pointer (some ⟨tb, 0, none⟩), .int .i64 x, .agg #[.int .i64 a, .int .i64 b]] w fun e w' => e = .returned (.int .i64 (dr (T x) a b).1) ∧ Acted base tb N mv T gb (upd T x (dr (T x) a b).2) w w' := by
  by_cases hq : plc (T x) a < (T x).length ∧ (T x).getD (plc (T x) a) (0, 0) = (a, b)
  · have e : dr (T x) a b = (0, (T x).take (plc (T x) a) ++ (T x).drop (plc (T x) a + 1)) := by unfold dr; rw [if_pos hq]
    rw [e]
    exact drop_yes base tb N mv T gb x a b w h hx _ rfl hq.1 hq.2 hN (hO.del _ _ (Nat.le_succ _)).rising
  · have e : dr (T x) a b = (2, T x) := by unfold dr; rw [if_neg hq]
    rw [e, upd_self]
    exact (drop_no base tb N mv T gb x a b w h hx _ rfl (fun h1 h2 => hq ⟨h1, h2⟩)).mono (fun e w' ⟨h1, h2⟩ => ⟨h1, Acted.same h hN h2⟩)
end Go.Proofs.YtinkpeliinofoaaDoor.Wn
