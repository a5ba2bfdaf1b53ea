/-
  Layer 11: which zones a robot may hold, told as a list; where it is and goes to.
-/
import Derived.Test.YtellaeihcignaaaGreatDoorTrafficWaitsW
set_option linter.unusedVariables false
set_option maxRecDepth 100000
namespace Go.Proofs.YtellaeihcignaaaGreatDoor
namespace Tf
open Go.RowKit Fl Tr Pt
open Lk (Ow T0 zns at9)

theorem nodup_len {α : Type} [DecidableEq α] : ∀ {l m : List α}, l.Nodup → (∀ x, x ∈ l → x ∈ m) → l.length ≤ m.length
  | [], m, _, _ => Nat.zero_le _
  | x :: l, m, h, hs => by
    obtain ⟨h1, h2⟩ := List.nodup_cons.1 h
    have hx := hs x (by simp)
    have := nodup_len (m := m.erase x) h2 (fun y hy => (List.mem_erase_of_ne (fun e => h1 (by rw [← e]; exact hy))).2 (hs y (by simp [hy])))
    rw [List.length_erase_of_mem hx] at this
    have hp := List.length_pos_of_mem hx
    simp only [List.length_cons]
    omega
/-- The zone that a robot goes to. -/
def goP (s : ByteArray) (m : Mv) : List Int := if m.2.2 = true then (match m.2.1 with | [] => [] | a :: _ => az s a) else []
theorem hs_parts (s : ByteArray) (m : Mv) : hs s m = zc s m.1 ++ goP s m := rfl
section
variable {W H : Int} {s : ByteArray} {R : List Mv} {T : List Ow}
theorem may_len (h : Inv W H s R T) {r : Nat} (hr : r < R.length) {ML : List Int} (hnd : ML.Nodup) (hmem : ∀ z, z ∈ ML ↔ z ∈ hs s (getM R r)) : (zns T ((r : Int), true) 26).length = ML.length := by
  have hm : ∀ z, z ∈ zns T ((r : Int), true) 26 ↔ z ∈ ML := fun z => by rw [at9_mem, h.own r hr, hmem]
  have h1 := nodup_len (zns_nodup T ((r : Int), true) 26) (fun z hz => (hm z).1 hz)
  have h2 := nodup_len hnd (fun z hz => (hm z).2 hz)
  omega
theorem may_ends (h : Inv W H s R T) {r : Nat} (hr : r < R.length) {ML : List Int} (hmem : ∀ z, z ∈ ML ↔ z ∈ hs s (getM R r)) (h2 : ML.length ≤ 2) (j : Nat) (hj : j < (zns T ((r : Int), true) 26).length) :
    (zns T ((r : Int), true) 26).getD j 0 = ML.getD 0 0 ∨ (zns T ((r : Int), true) 26).getD j 0 = ML.getD (ML.length - 1) 0 := by
  have hz : (zns T ((r : Int), true) 26).getD j 0 ∈ ML := by
    rw [hmem, ← h.own r hr, ← at9_mem, List.getD, List.getElem?_eq_getElem hj]
    exact List.getElem_mem _
  match ML, h2, hz with
  | [a], _, hz => left; simpa using hz
  | [a, b], _, hz =>
    simp only [List.mem_cons, List.not_mem_nil, or_false] at hz
    exact hz
theorem zc_lane {c : Int} (h : laneB s c = true) : zc s c = [((bAt s c - 97 : Nat) : Int)] := by unfold zc; unfold laneB at h; rw [if_pos h]
theorem nowF_in {k : Nat} (hk : k < R.length) : nowF R (k : Int) = (match getM R k with | (_, a :: _, true) => (a, true) | _ => ((0, 0, 0), false)) := by
  unfold nowF
  rw [if_pos ⟨by omega, by omega⟩, Int.toNat_natCast]
  generalize getM R k = m
  obtain ⟨c, l, b⟩ := m
  cases l <;> cases b <;> rfl
theorem cellF_in {k : Nat} (hk : k < R.length) : cellF R (k : Int) = ((getM R k).1, true) := by
  unfold cellF
  rw [if_pos ⟨by omega, by omega⟩, Int.toNat_natCast]
/-- A robot, told apart by what it is let do. -/
theorem mv_cases (h : Inv W H s R T) {k : Nat} (hk : k < R.length) : ((getM R k).2.2 = false ∧ nowF R (k : Int) = ((0, 0, 0), false) ∧ goP s (getM R k) = []) ∨ (∃ a l, (getM R k).2.1 = a :: l ∧ (getM R k).2.2 = true ∧ nowF R (k : Int) = (a, true) ∧ goP s (getM R k) = az s a) := by
  have hb := h.busy k hk
  rw [nowF_in hk]
  generalize getM R k = m at *
  obtain ⟨c, l, b⟩ := m
  cases b with
  | false => exact .inl ⟨rfl, by cases l <;> rfl, rfl⟩
  | true =>
    cases l with
    | nil => exact absurd rfl (hb rfl)
    | cons a l => exact .inr ⟨a, l, rfl, rfl, rfl, rfl⟩
end
end Tf
end Go.Proofs.YtellaeihcignaaaGreatDoor
