/-
  Layer 6: Forget and Drop of whatever; any act.
-/
import Derived.Test.YtafcdclaaagdlaaWnM
set_option linter.unusedVariables false
set_option maxRecDepth 100000
namespace Go.Proofs.Ytafcdclaaagdlaa.Wn
open Go.RowKit Go.Maps

theorem forget_nil (tb : Nat) (m : Int) (w : World) (hbox : w.heap[tb]? = some (.cells #[.map none] 50 (0, 0))) :
    Calls Try.prog 21 #[.pointer (some ⟨tb, 0, none⟩), .int .i64 m] w fun e w' => e = .returned (.tuple #[]) ∧ Below w.heap.size w w' := by
  have c0 : w.cell? ⟨tb, 0, none⟩ = some (.map none) := by rw [cell_of_row w tb 0 _ _ _ hbox]; rfl
  have HB : Hid (Below w.heap.size w (w.alloc (.mapIter none 0 #[] 0))) := Lib.hid ((Below.refl _ _).alloc (Nat.le_refl _) _)
  have hrg := run_range_nilMap (P := Try.prog) w 48 3 40 Try.underlying48
  have hnx : ∀ ty, (Instr.next (.pointer (some ⟨w.heap.size, 0, none⟩)) false ty).run Try.prog (w.alloc (.mapIter none 0 #[] 0)) = _ := fun ty => run_next_nilMap w ty 0 0 #[]
  clear hbox
  go_enter Try.func21, Try.ntmps21
  go_wp2_with fail
  refine wp_loop_rounds 1 ?_
  rw [rounds_succ]
  go_wp2_with fail
  go_end0
  exact ⟨rfl, HB.out⟩
/-- Forget, of any table. -/
theorem forget_any (base tb N : Nat) (mv : Option Nat) (T : Int → List (Int × Int)) (gb : Int → Nat) (m : Int) (w : World) (h : Tab w base tb N mv T gb) (hm : IW m) (hN : N < 4096) :
    Calls Try.prog 21 #[.pointer (some ⟨tb, 0, none⟩), .int .i64 m] w fun e w' => e = .returned (.tuple #[]) ∧ Acted base tb N mv T gb (fun y => fg (T y) m) w w' := by
  cases mv with
  | none =>
    refine (forget_nil tb m w h.box).mono ?_
    rintro e w' ⟨rfl, hb⟩
    have e : (fun y => fg (T y) m) = T := by
      funext y
      rw [h.nomap rfl y]
      rfl
    rw [e]
    exact ⟨rfl, Acted.same h hN hb⟩
  | some mb =>
    refine (forget_some base tb N mb T gb m w h hm).mono ?_
    rintro e w' ⟨rfl, h1, h2⟩
    exact ⟨rfl, _, _, h1.more (Nat.le_succ _) (by omega), h2⟩
/-- Drop: what comes of it for the cell's windows. -/
def dr (L : List (Int × Int)) (a b : Int) : Int × List (Int × Int) :=
  if plc L a < L.length ∧ L.getD (plc L a) (0, 0) = (a, b) then (0, L.take (plc L a) ++ L.drop (plc L a + 1)) else (2, L)
theorem dr_ord {L : List (Int × Int)} {a b : Int} (h : Ordw 0 L) : Ordw 0 (dr L a b).2 := by
  unfold dr
  split
  · exact h.del _ _ (Nat.le_succ _)
  · exact h
theorem fg_ord {f : Int} {L : List (Int × Int)} (m : Int) (h : Ordw f L) : Ordw f (fg L m) := by
  have := h.del 0 (plc L m) (Nat.zero_le _)
  unfold fg
  simpa using this
theorem drop_any (base tb N : Nat) (mv : Option Nat) (T : Int → List (Int × Int)) (gb : Int → Nat) (x a b : Int) (w : World) (h : Tab w base tb N mv T gb) (hx : IW x) (hN : N < 4096) (hO : Ordw 0 (T x)) :
    Calls Try.prog 20 #[.pointer (some ⟨tb, 0, none⟩), .int .i64 x, .agg #[.int .i64 a, .int .i64 b]] w fun e w' => e = .returned (.int .i64 (dr (T x) a b).1) ∧ Acted base tb N mv T gb (upd T x (dr (T x) a b).2) w w' := by
  by_cases hq : plc (T x) a < (T x).length ∧ (T x).getD (plc (T x) a) (0, 0) = (a, b)
  · have e : dr (T x) a b = (0, (T x).take (plc (T x) a) ++ (T x).drop (plc (T x) a + 1)) := by unfold dr; rw [if_pos hq]
    rw [e]
    exact drop_yes base tb N mv T gb x a b w h hx _ rfl hq.1 hq.2 hN (hO.del _ _ (Nat.le_succ _)).rising
  · have e : dr (T x) a b = (2, T x) := by unfold dr; rw [if_neg hq]
    rw [e, upd_self]
    exact (drop_no base tb N mv T gb x a b w h hx _ rfl (fun h1 h2 => hq ⟨h1, h2⟩)).mono (fun e w' ⟨h1, h2⟩ => ⟨h1, Acted.same h hN h2⟩)
end Go.Proofs.Ytafcdclaaagdlaa.Wn
