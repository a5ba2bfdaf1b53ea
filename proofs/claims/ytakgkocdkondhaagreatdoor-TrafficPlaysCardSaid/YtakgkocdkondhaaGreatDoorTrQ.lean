/-
  Layer 10: the document's Right.
-/
import Derived.Test.YtakgkocdkondhaaGreatDoorTrL
import Derived.Test.YtakgkocdkondhaaGreatDoorPtThr
set_option linter.unusedVariables false
set_option maxRecDepth 100000
namespace Go.Proofs.YtakgkocdkondhaaGreatDoor
namespace Tr
open Go.RowKit Fl Pt
open Bk (Gt)

theorem doB_place {near : Int → Int → Bool} {lane : Int → Bool} {dock : Int} {s t : Int × Int × Bool} {a : Ac} (h : doB near lane dock s a = some t) : (s.1 = dock ∨ lane s.1 = true) → (t.1 = dock ∨ lane t.1 = true) := by
  unfold doB at h
  split at h
  · split at h
    · rename_i q
      injection h with h; subst h
      exact fun _ => q.2.2.symm
    · cases h
  · split at h
    · split at h
      · injection h with h; subst h; exact id
      · cases h
    · split at h
      · split at h
        · injection h with h; subst h; exact id
        · cases h
      · cases h
theorem runB_place {near : Int → Int → Bool} {lane : Int → Bool} {dock : Int} : ∀ (l : List Ac) {s t : Int × Int × Bool}, runB near lane dock l s = some t → (s.1 = dock ∨ lane s.1 = true) → (t.1 = dock ∨ lane t.1 = true)
  | [], s, t, h => by injection h with h; subst h; exact id
  | a :: l, s, t, h => by
    have h : (doB near lane dock s a).bind (runB near lane dock l) = some t := h
    cases e : doB near lane dock s a with
    | none => rw [e] at h; cases h
    | some u =>
      rw [e] at h
      exact fun q => runB_place l h (doB_place e q)
theorem run_stepB {near : Int → Int → Bool} {lane : Int → Bool} {dock : Int} (L : List Ac) (i : Nat) (h : i < L.length) {s0 t : Int × Int × Bool} (hr : runB near lane dock (L.take i) s0 = some t) :
    match doB near lane dock t (L.getD i (0, 0, 0)) with
    | some u => runB near lane dock (L.take (i + 1)) s0 = some u
    | none => runB near lane dock L s0 = none := by
  have h1 : runB near lane dock (L.take (i + 1)) s0 = doB near lane dock t (L.getD i (0, 0, 0)) := by
    rw [take_snoc L i (0, 0, 0) h, runB_app, hr]
    exact runB_one _ _
  cases e : doB near lane dock t (L.getD i (0, 0, 0)) with
  | some u => rw [e] at h1; exact h1
  | none =>
    rw [e] at h1
    show runB near lane dock L s0 = none
    rw [← List.take_append_drop (i + 1) L, runB_app, h1]; rfl
/-- As the document says it. -/
theorem right_B {W H : Int} {s : ByteArray} {r a : Int} {L : List Ac} {d : Nat} (hr : IsRobot W H s r) (hd : IsFirst s (48 + r.toNat) d) (ha : a = (d : Int) ∨ laneB s a = true) (hl : L.length ≤ 1024) :
    RightIs W H s r a L ↔ ∃ x f, runB (nearB W H s) (laneB s) (d : Int) L (a, -1, true) = some ((d : Int), x, f) ∧ x < 0 := by
  rw [← same_run L a (carr L) (-1) true (d : Int) (fun _ => ⟨rfl, rfl⟩) (fun e => by cases e)]
  constructor
  · rintro ⟨d', _, q1, _, _, q2⟩
    obtain rfl := q1.one hd
    exact q2
  · intro q
    exact ⟨d, hr, hd, ha, hl, q⟩
theorem nrw_near {W H : Int} {s : ByteArray} {x : Int} (h : OnFloor W H s x) : ∃ k : Nat, x = (k : Int) ∧ k < s.size ∧ nrw W.toNat H.toNat (at_ s) k = nears W H s x := by
  obtain ⟨a, b, k, rfl, rfl, rfl, hk, hz, _⟩ := onFloor_some h
  refine ⟨k, rfl, hk, ?_⟩
  unfold nrw
  rw [if_pos hz]; rfl
theorem near_any_take (l : List Nat) (x : Int) : (l.any fun z => ((z : Nat) : Int) == x) = (il (fun j => (((l).getD j 0 : Nat) : Int)) l.length).contains x := by
  rw [Bool.eq_iff_iff, List.contains_iff_mem, List.any_eq_true]
  unfold il
  simp only [List.mem_map, List.mem_range, beq_iff_eq]
  constructor
  · rintro ⟨z, hz, e⟩
    obtain ⟨j, hj, rfl⟩ := List.getElem_of_mem hz
    exact ⟨j, hj, by rw [List.getD, List.getElem?_eq_getElem hj]; exact e⟩
  · rintro ⟨j, hj, e⟩
    rw [List.getD, List.getElem?_eq_getElem hj] at e
    exact ⟨_, List.getElem_mem hj, e⟩
theorem near_takeB (l : List Nat) (j : Nat) (h : j < l.length) (x : Int) : ((l.take (j + 1)).any fun z => ((z : Nat) : Int) == x) = ((l.take j).any (fun z => ((z : Nat) : Int) == x) || (((l.getD j 0 : Nat) : Int) == x)) := by
  rw [take_snoc l j 0 h, List.any_append]
  simp
end Tr
end Go.Proofs.YtakgkocdkondhaaGreatDoor
