/-
  Layer 11: where robots are, and go: no two in one cell, nor in one zone.
-/
import Derived.Test.YtellaeihcignaaaGreatDoorTfW
import Derived.Test.YtellaeihcignaaaGreatDoorTrafficHomeW
set_option linter.unusedVariables false
set_option maxRecDepth 100000
namespace Go.Proofs.YtellaeihcignaaaGreatDoor
namespace Tf
open Go.RowKit Fl Tr Pt
open Lk (Ow T0 zns at9)

/-- The cells where a robot is and what it does is. -/
def ats (m : Mv) : List Int := m.1 :: (if m.2.2 = true then (match m.2.1 with | [] => [] | a :: _ => [a.2.1]) else [])
section
variable {W H : Int} {s : ByteArray} {R : List Mv} {T : List Ow}
theorem ats_is (h : Inv W H s R T) {r : Nat} (hr : r < R.length) {c : Int} (hc : c ∈ ats (getM R r)) : (∃ d : Nat, IsFirst s (48 + r) d ∧ c = (d : Int)) ∨ (laneB s c = true ∧ ((bAt s c - 97 : Nat) : Int) ∈ hs s (getM R r)) := by
  obtain ⟨d, _, h2, h3, _, h5⟩ := h.each r hr
  rw [Int.toNat_natCast] at h2
  generalize getM R r = m at *
  obtain ⟨c0, l, b⟩ := m
  have h3 : c0 = (d : Int) ∨ laneB s c0 = true := h3
  have first : c = c0 → ((∃ d : Nat, IsFirst s (48 + r) d ∧ c = (d : Int)) ∨ (laneB s c = true ∧ ((bAt s c - 97 : Nat) : Int) ∈ hs s (c0, l, b))) := by
    rintro rfl
    rcases h3 with q | q
    · exact .inl ⟨d, h2, q⟩
    · refine .inr ⟨q, ?_⟩
      unfold hs
      rw [zc_lane q]
      simp
  unfold ats at hc
  rcases List.mem_cons.1 hc with q | q
  · exact first q
  · cases b with
    | false => simp at q
    | true =>
      cases l with
      | nil => simp at q
      | cons a l =>
        have q : c = a.2.1 := by simpa using q
        have h5 : ((doA (nearB W H s) (laneB s) (d : Int) (c0, carr (a :: l)) a).bind (runA (nearB W H s) (laneB s) (d : Int) l)) = some ((d : Int), -1) := h5
        cases e : doA (nearB W H s) (laneB s) (d : Int) (c0, carr (a :: l)) a with
        | none => rw [e] at h5; cases h5
        | some t =>
          unfold doA at e
          by_cases a1 : a.1 = 1
          · rw [if_pos a1] at e
            split at e
            · rename_i g
              rcases g.2.1 with g | g
              · exact .inl ⟨d, h2, by rw [q, g]⟩
              · refine .inr ⟨by rw [q]; exact g, ?_⟩
                unfold hs az
                simp only [if_true, a1]
                rw [q, zc_lane g]
                simp
            · cases e
          · rw [if_neg a1] at e
            by_cases a2 : a.1 = 2
            · rw [if_pos a2] at e
              split at e
              · rename_i g
                exact first (by rw [q]; exact g.2.2.1)
              · cases e
            · rw [if_neg a2] at e
              by_cases a3 : a.1 = 3
              · rw [if_pos a3] at e
                split at e
                · rename_i g
                  exact first (by rw [q]; exact g.2.2.1)
                · cases e
              · rw [if_neg a3] at e
                cases e
/-- No two are in one cell, nor in one zone. -/
theorem ats_apart (h : Inv W H s R T) {r q : Nat} (hr : r < R.length) (hq : q < R.length) (hne : r ≠ q) {c e : Int} (hc : c ∈ ats (getM R r)) (he : e ∈ ats (getM R q)) : c ≠ e ∧ (laneB s c = true → laneB s e = true → bAt s c - 97 ≠ bAt s e - 97) := by
  have zone : ∀ z : Nat, (z : Int) ∈ hs s (getM R r) → (z : Int) ∈ hs s (getM R q) → False := fun z h1 h2 => by
    have e1 := (h.own r hr z).2 h1
    have e2 := (h.own q hq z).2 h2
    rw [e1] at e2
    injection e2 with e2
    omega
  have no : ∀ {k d : Nat}, k < 8 → IsFirst s (48 + k) d → laneB s (d : Int) = true → False := fun {k d} hk hd hl => by
    unfold laneB at hl
    rw [bAt_in5 s d hd.1, hd.2.1] at hl
    have := isL_lt hl
    omega
  have h8 := h.few
  have lanes : laneB s c = true → laneB s e = true → bAt s c - 97 ≠ bAt s e - 97 := fun l1 l2 eq => by
    have z1 : ((bAt s c - 97 : Nat) : Int) ∈ hs s (getM R r) := by
      rcases ats_is h hr hc with ⟨d, hd, rfl⟩ | ⟨_, q1⟩
      · exact absurd (no (by omega) hd l1) id
      · exact q1
    have z2 : ((bAt s e - 97 : Nat) : Int) ∈ hs s (getM R q) := by
      rcases ats_is h hq he with ⟨d, hd, rfl⟩ | ⟨_, q1⟩
      · exact absurd (no (by omega) hd l2) id
      · exact q1
    rw [← eq] at z2
    exact zone _ z1 z2
  refine ⟨fun ce => ?_, lanes⟩
  subst ce
  rcases ats_is h hr hc with ⟨d, hd, rfl⟩ | ⟨l1, _⟩
  · rcases ats_is h hq he with ⟨d', hd', e'⟩ | ⟨l2, _⟩
    · obtain rfl : d = d' := by omega
      have a1 := hd.2.1
      have a2 := hd'.2.1
      omega
    · exact no (by omega) hd l2
  · exact lanes l1 (by
      rcases ats_is h hq he with ⟨d', hd', rfl⟩ | ⟨l2, _⟩
      · exact absurd (no (by omega) hd' l1) id
      · exact l2) rfl
end
end Tf
end Go.Proofs.YtellaeihcignaaaGreatDoor
