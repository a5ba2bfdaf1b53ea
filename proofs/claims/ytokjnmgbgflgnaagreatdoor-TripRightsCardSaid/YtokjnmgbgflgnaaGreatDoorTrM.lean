/-
  Layer 10: a trip, step by step.
-/
import Derived.Test.YtokjnmgbgflgnaaGreatDoorTrL
set_option linter.unusedVariables false
set_option maxRecDepth 100000
namespace Go.Proofs.YtokjnmgbgflgnaaGreatDoor
namespace Tr
open Go.RowKit Fl Pt
open Bk (Gt)

/-- Where a robot is ahead of a step of a trip, act by act: the step is near, not blocked; to a lane just where it isn't the last; the last one is to the dock. -/
structure StepOk (W H : Int) (s : ByteArray) (B : Nat → Bool) (d : Nat) (L : List Ac) (i : Nat) : Prop where
  on : OnFloor W H s (plA (L.take i) (d : Int))
  step : (L.getD i (0, 0, 0)).1 = 1 → ∃ c : Nat, (L.getD i (0, 0, 0)).2.1 = (c : Int) ∧ nearB W H s (plA (L.take i) (d : Int)) (c : Int) = true ∧ B c = false ∧ (if i + 1 = L.length then laneB s (c : Int) = false ∧ c = d else laneB s (c : Int) = true)
theorem plA_gos : ∀ (P : List Nat) (l : List Ac) (c : Int), plA (gos P ++ l) c = plA l (if P = [] then c else ((P.getD (P.length - 1) 0 : Nat) : Int))
  | [], l, c => rfl
  | [x], l, c => rfl
  | x :: y :: P, l, c => by
    have := plA_gos (y :: P) l (x : Int)
    show plA (gos (y :: P) ++ l) (x : Int) = _
    rw [this]
    simp
theorem gos_take (P : List Nat) (i : Nat) : (gos P).take i = gos (P.take i) := by simp [gos, List.map_take]
/-- Where a robot is within a way. -/
theorem plA_in (P : List Nat) (i : Nat) (hi : i ≤ P.length) (k : Nat) (c : Int) (hc : c = (k : Int)) : plA (gos (P.take i)) c = (((k :: P).getD i 0 : Nat) : Int) := by
  have := plA_gos (P.take i) [] c
  rw [List.append_nil] at this
  rw [this]
  show (if P.take i = [] then c else _) = _
  cases i with
  | zero => rw [List.take_zero, if_pos rfl, hc]; rfl
  | succ i =>
    have hl : (P.take (i + 1)).length = i + 1 := by rw [List.length_take]; omega
    rw [if_neg (fun e => by rw [e] at hl; simp at hl), hl]
    show (((P.take (i + 1)).getD i 0 : Nat) : Int) = ((P.getD i 0 : Nat) : Int)
    rw [List.getD, List.getD, List.getElem?_take, if_pos (by omega)]
theorem dock_wall {W H : Int} {s : ByteArray} {r : Int} {d : Nat} (hr : IsRobot W H s r) (hd : IsFirst s (48 + r.toNat) d) : laneB s (d : Int) = false := by
  unfold laneB
  have h8 := rob_lt hr
  rw [bAt_in5 s d hd.1, hd.2.1]
  unfold isL
  rw [Bool.and_eq_false_iff]
  exact .inl (decide_eq_false (by omega))
/-- A trip, step by step. -/
theorem trip_steps {W H : Int} {s : ByteArray} {r pod a b : Int} {B : Nat → Bool} {d : Nat} {x y z : List Nat} (hm : MayTrip W H s r pod a b) (hd : IsFirst s (48 + r.toNat) d) (h1 : WayIs W H s (d : Int) a B x 0) (h2 : WayIs W H s a b B y 0) (h3 : WayIs W H s b (d : Int) B z 0) (i : Nat) (hi : i < (tripL x y z a b pod).length) :
    StepOk W H s B d (tripL x y z a b pod) i := by
  have hlen := tripL_length x y z a b pod
  obtain ⟨dn, an, e1, rfl, g1, c1, n1⟩ := way_parts h1
  obtain rfl : d = dn := by omega
  obtain ⟨an', bn, e2, rfl, g2, c2, n2⟩ := way_parts h2
  obtain rfl : an = an' := by omega
  obtain ⟨bn', dn', e3, e4, g3, c3, n3⟩ := way_parts h3
  obtain rfl : bn = bn' := by omega
  obtain rfl : d = dn' := by omega
  have hwall := dock_wall hm.1 hd
  have hz0 : z ≠ [] := by
    rintro rfl
    have e : bn = d := g3
    have := hm.2.2.2
    rw [e, hwall] at this; cases this
  have hzl : 1 ≤ z.length := by
    rcases Nat.eq_zero_or_pos z.length with e | e
    · exact absurd (List.eq_nil_of_length_eq_zero e) hz0
    · exact e
  -- where each way ends
  have ends : ∀ {nx : Nat → List Nat} {p : List Nat} {u v : Nat}, Gr nx v u p → (((u :: p).getD p.length 0 : Nat) : Int) = (v : Int) := by
    intro nx p u v hg
    cases p with
    | nil => have e : u = v := hg; subst e; rfl
    | cons q p =>
      have hl := hg.last (by simp)
      rw [List.getLast?_eq_getElem?] at hl
      show (((q :: p).getD p.length 0 : Nat) : Int) = _
      rw [List.getD, show p.length = (q :: p).length - 1 by simp, hl]; rfl
  have onl : ∀ {c : Int}, laneB s c = true → OnFloor W H s c := fun h => lane_on hm.1.1 h
  have ond : OnFloor W H s (d : Int) := dock_on hm.1 hd
  -- what is known of a cell within a way
  have way : ∀ {nx : Nat → List Nat} {p : List Nat} {u v : Nat}, Gr nx v u p → OnFloor W H s (u : Int) → OnFloor W H s (v : Int) → (∀ i, i < p.length → (i + 1 = p.length ∧ p.getD i 0 = v ∨ i + 1 < p.length ∧ laneB s ((p.getD i 0 : Nat) : Int) = true) ∧ B (p.getD i 0) = false ∧ nearB W H s (((u :: p).getD i 0 : Nat) : Int) ((p.getD i 0 : Nat) : Int) = true) → ∀ j, j ≤ p.length → OnFloor W H s ((((u :: p).getD j 0 : Nat) : Int)) := by
    intro nx p u v hg hu hv hc j hj
    cases j with
    | zero => exact hu
    | succ j =>
      show OnFloor W H s ((p.getD j 0 : Nat) : Int)
      rcases (hc j (by omega)).1 with ⟨_, q⟩ | ⟨_, q⟩
      · rw [q]; exact hv
      · exact onl q
  have ona := onl hm.2.2.1
  have onb := onl hm.2.2.2
  have hT : tripL x y z (an : Int) (bn : Int) pod = gos x ++ (2, (an : Int), pod) :: (gos y ++ (3, (bn : Int), pod) :: gos z) := rfl
  have full1 : plA (gos x) (d : Int) = (an : Int) := by
    have := plA_in x x.length (Nat.le_refl _) d (d : Int) rfl
    rw [List.take_length] at this
    rw [this]; exact ends g1
  have full2 : plA (gos y) (an : Int) = (bn : Int) := by
    have := plA_in y y.length (Nat.le_refl _) an (an : Int) rfl
    rw [List.take_length] at this
    rw [this]; exact ends g2
  rcases tripL_get x y z (an : Int) (bn : Int) pod i (by rw [← hlen]; exact hi) with ⟨q, e⟩ | ⟨q, e⟩ | ⟨j, q, q2, e⟩ | ⟨q, e⟩ | ⟨j, q, q2, e⟩
  · have hp : plA ((tripL x y z (an : Int) (bn : Int) pod).take i) (d : Int) = (((d :: x).getD i 0 : Nat) : Int) := by
      rw [hT, List.take_append_of_le_length (by rw [gos_length]; omega), gos_take]
      exact plA_in x i (by omega) d (d : Int) rfl
    refine ⟨by rw [hp]; exact way g1 ond ona c1 i (by omega), fun _ => ?_⟩
    obtain ⟨k1, k2, k3⟩ := c1 i q
    refine ⟨x.getD i 0, by rw [e], by rw [hp]; exact k3, k2, ?_⟩
    rw [if_neg (by omega)]
    rcases k1 with ⟨_, k⟩ | ⟨_, k⟩
    · rw [k]; exact hm.2.2.1
    · exact k
  · have hp : plA ((tripL x y z (an : Int) (bn : Int) pod).take i) (d : Int) = (an : Int) := by
      rw [hT, q, show x.length = (gos x).length from (gos_length x).symm, List.take_left]
      exact full1
    exact ⟨by rw [hp]; exact ona, fun k => by rw [e] at k; cases k⟩
  · have hp : plA ((tripL x y z (an : Int) (bn : Int) pod).take i) (d : Int) = (((an :: y).getD j 0 : Nat) : Int) := by
      rw [hT, q2, show x.length + 1 + j = (gos x).length + (j + 1) by rw [gos_length]; omega, List.take_length_add_append, plA_app, full1, List.take_succ_cons]
      show plA ((gos y ++ (3, (bn : Int), pod) :: gos z).take j) (an : Int) = _
      rw [List.take_append_of_le_length (by rw [gos_length]; omega), gos_take]
      exact plA_in y j (by omega) an (an : Int) rfl
    refine ⟨by rw [hp]; exact way g2 ona onb c2 j (by omega), fun _ => ?_⟩
    obtain ⟨k1, k2, k3⟩ := c2 j q
    refine ⟨y.getD j 0, by rw [e], by rw [hp]; exact k3, k2, ?_⟩
    rw [if_neg (by omega)]
    rcases k1 with ⟨_, k⟩ | ⟨_, k⟩
    · rw [k]; exact hm.2.2.2
    · exact k
  · have hp : plA ((tripL x y z (an : Int) (bn : Int) pod).take i) (d : Int) = (bn : Int) := by
      rw [hT, q, show x.length + y.length + 1 = (gos x).length + (y.length + 1) by rw [gos_length]; omega, List.take_length_add_append, plA_app, full1, List.take_succ_cons]
      show plA ((gos y ++ (3, (bn : Int), pod) :: gos z).take y.length) (an : Int) = _
      rw [show y.length = (gos y).length from (gos_length y).symm, List.take_left]
      exact full2
    exact ⟨by rw [hp]; exact onb, fun k => by rw [e] at k; cases k⟩
  · have hp : plA ((tripL x y z (an : Int) (bn : Int) pod).take i) (d : Int) = (((bn :: z).getD j 0 : Nat) : Int) := by
      rw [hT, q2, show x.length + y.length + 2 + j = (gos x).length + (y.length + 1 + j + 1) by rw [gos_length]; omega, List.take_length_add_append, plA_app, full1, List.take_succ_cons]
      show plA ((gos y ++ (3, (bn : Int), pod) :: gos z).take (y.length + 1 + j)) (an : Int) = _
      rw [show y.length + 1 + j = (gos y).length + (j + 1) by rw [gos_length]; omega, List.take_length_add_append, plA_app, full2, List.take_succ_cons]
      show plA ((gos z).take j) (bn : Int) = _
      rw [gos_take]
      exact plA_in z j (by omega) bn (bn : Int) rfl
    refine ⟨by rw [hp]; exact way g3 onb ond c3 j (by omega), fun _ => ?_⟩
    obtain ⟨k1, k2, k3⟩ := c3 j q
    refine ⟨z.getD j 0, by rw [e], by rw [hp]; exact k3, k2, ?_⟩
    rcases k1 with ⟨k0, k⟩ | ⟨k0, k⟩
    · rw [if_pos (by rw [hlen]; omega), k]
      exact ⟨hwall, rfl⟩
    · rw [if_neg (by rw [hlen]; omega)]
      exact k
/-- It ends in the dock. -/
theorem trip_end {W H : Int} {s : ByteArray} {r pod a b : Int} {B : Nat → Bool} {d : Nat} {x y z : List Nat} (hm : MayTrip W H s r pod a b) (hd : IsFirst s (48 + r.toNat) d) (h1 : WayIs W H s (d : Int) a B x 0) (h2 : WayIs W H s a b B y 0) (h3 : WayIs W H s b (d : Int) B z 0) (hlen : (tripL x y z a b pod).length ≤ 770) :
    plA (tripL x y z a b pod) (d : Int) = (d : Int) := by
  obtain ⟨d', _, q1, _, _, q2⟩ := trip_right hm hd h1 h2 h3 hlen
  obtain rfl := q1.one hd
  exact (runA_place _ q2).1.symm
end Tr
end Go.Proofs.YtokjnmgbgflgnaaGreatDoor
