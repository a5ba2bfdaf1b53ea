/-
  Layer 10, in plain words: acts, what a robot does with them, what is left of them; their zones.
-/
import Derived.Test.YtakgkocdkondhaaGreatDoorPtPlain
set_option linter.unusedVariables false
set_option maxRecDepth 100000
namespace Go.Proofs.YtakgkocdkondhaaGreatDoor.Tr
open Fl Pt

/-- An act: its kind, its cell, its pod. -/
abbrev Ac := Nat × Int × Int
def isP (p : Int) : Bool := decide (0 ≤ p) && decide (p < 64)

section
variable (near : Int → Int → Bool) (lane : Int → Bool) (dock : Int)
/-- What the program's robot does: where it is, and its pod (or -1), behind an act; nothing, if it can't be done. -/
def doA (s : Int × Int) (a : Ac) : Option (Int × Int) :=
  if a.1 = 1 then (if a.2.2 = 0 ∧ (a.2.1 = dock ∨ lane a.2.1 = true) ∧ near s.1 a.2.1 = true then some (a.2.1, s.2) else none)
  else if a.1 = 2 then (if s.2 = -1 ∧ isP a.2.2 = true ∧ a.2.1 = s.1 ∧ lane a.2.1 = true then some (s.1, a.2.2) else none)
  else if a.1 = 3 then (if a.2.2 = s.2 ∧ isP a.2.2 = true ∧ a.2.1 = s.1 ∧ lane a.2.1 = true then some (s.1, -1) else none)
  else none
def runA : List Ac → Int × Int → Option (Int × Int)
  | [], s => some s
  | a :: l, s => (doA near lane dock s a).bind (runA l)
/-- What the document's robot does: where it is, what it has lifted (or -1), whether nothing was lifted or dropped yet. -/
def doB (s : Int × Int × Bool) (a : Ac) : Option (Int × Int × Bool) :=
  if a.1 = 1 then (if near s.1 a.2.1 = true ∧ a.2.2 = 0 ∧ (lane a.2.1 = true ∨ a.2.1 = dock) then some (a.2.1, s.2) else none)
  else if a.1 = 2 then (if s.2.1 < 0 ∧ a.2.1 = s.1 ∧ lane s.1 = true ∧ isP a.2.2 = true then some (s.1, a.2.2, false) else none)
  else if a.1 = 3 then (if (s.2.2 = true ∨ 0 ≤ s.2.1) ∧ (s.2.1 < 0 ∨ s.2.1 = a.2.2) ∧ a.2.1 = s.1 ∧ lane s.1 = true ∧ isP a.2.2 = true then some (s.1, -1, false) else none)
  else none
def runB : List Ac → Int × Int × Bool → Option (Int × Int × Bool)
  | [], s => some s
  | a :: l, s => (doB near lane dock s a).bind (runB l)
end
/-- The pod that it has already. -/
def carr : List Ac → Int
  | [] => -1
  | a :: l => if a.1 = 2 then -1 else if a.1 = 3 then a.2.2 else carr l
/-- Where it is behind them. -/
def plA : List Ac → Int → Int
  | [], c => c
  | a :: l, c => plA l (if a.1 = 1 then a.2.1 else c)
def costL (l : List Ac) : Nat := (l.filter fun a => a.1 == 1).length

section
variable {near : Int → Int → Bool} {lane : Int → Bool} {dock : Int}
theorem runA_app : ∀ (l m : List Ac) (s : Int × Int), runA near lane dock (l ++ m) s = (runA near lane dock l s).bind (runA near lane dock m)
  | [], m, s => rfl
  | a :: l, m, s => by
    show (doA near lane dock s a).bind (runA near lane dock (l ++ m)) = ((doA near lane dock s a).bind (runA near lane dock l)).bind _
    cases doA near lane dock s a with
    | none => rfl
    | some t => exact runA_app l m t
theorem runA_one (a : Ac) (s : Int × Int) : runA near lane dock [a] s = doA near lane dock s a := by
  show (doA near lane dock s a).bind (runA near lane dock []) = _
  cases doA near lane dock s a <;> rfl
theorem runB_app : ∀ (l m : List Ac) (s : Int × Int × Bool), runB near lane dock (l ++ m) s = (runB near lane dock l s).bind (runB near lane dock m)
  | [], m, s => rfl
  | a :: l, m, s => by
    show (doB near lane dock s a).bind (runB near lane dock (l ++ m)) = ((doB near lane dock s a).bind (runB near lane dock l)).bind _
    cases doB near lane dock s a with
    | none => rfl
    | some t => exact runB_app l m t
theorem runB_one (a : Ac) (s : Int × Int × Bool) : runB near lane dock [a] s = doB near lane dock s a := by
  show (doB near lane dock s a).bind (runB near lane dock []) = _
  cases doB near lane dock s a <;> rfl
theorem take_snoc {α : Type} (l : List α) (i : Nat) (d : α) (h : i < l.length) : l.take (i + 1) = l.take i ++ [l.getD i d] := by
  rw [List.take_succ_eq_append_getElem h, List.getD, List.getElem?_eq_getElem h]; rfl
theorem drop_cons {α : Type} (l : List α) (i : Nat) (d : α) (h : i < l.length) : l.drop i = l.getD i d :: l.drop (i + 1) := by
  rw [List.drop_eq_getElem_cons h, List.getD, List.getElem?_eq_getElem h]; rfl
theorem carr_drop (l : List Ac) (i : Nat) (h : i < l.length) : carr (l.drop i) = if (l.getD i (0, 0, 0)).1 = 2 then -1 else if (l.getD i (0, 0, 0)).1 = 3 then (l.getD i (0, 0, 0)).2.2 else carr (l.drop (i + 1)) := by
  rw [drop_cons l i (0, 0, 0) h]; rfl
theorem carr_none (l : List Ac) (i : Nat) (h : l.length ≤ i) : carr (l.drop i) = -1 := by rw [List.drop_eq_nil_of_le h]; rfl

/-- An act that can be done, told apart. -/
theorem doA_place {s t : Int × Int} {a : Ac} (h : doA near lane dock s a = some t) : t.1 = (if a.1 = 1 then a.2.1 else s.1) ∧ ((s.1 = dock ∨ lane s.1 = true) → (t.1 = dock ∨ lane t.1 = true)) := by
  unfold doA at h
  split at h
  · rename_i e
    split at h
    · rename_i q
      injection h with h; subst h
      exact ⟨by rw [if_pos e], fun _ => q.2.1⟩
    · cases h
  · rename_i e
    rw [if_neg e]
    split at h
    · split at h
      · injection h with h; subst h; exact ⟨rfl, id⟩
      · cases h
    · split at h
      · split at h
        · injection h with h; subst h; exact ⟨rfl, id⟩
        · cases h
      · cases h
theorem runA_place : ∀ (l : List Ac) {s t : Int × Int}, runA near lane dock l s = some t → t.1 = plA l s.1 ∧ ((s.1 = dock ∨ lane s.1 = true) → (t.1 = dock ∨ lane t.1 = true))
  | [], s, t, h => by injection h with h; subst h; exact ⟨rfl, id⟩
  | a :: l, s, t, h => by
    have h : (doA near lane dock s a).bind (runA near lane dock l) = some t := h
    cases e : doA near lane dock s a with
    | none => rw [e] at h; cases h
    | some u =>
      rw [e] at h
      have h1 := doA_place e
      have h2 := runA_place l h
      refine ⟨?_, fun q => h2.2 (h1.2 q)⟩
      rw [h2.1, h1.1]; rfl
/-- Who comes to an end carried just what its acts tell. -/
theorem carr_run : ∀ (l : List Ac) {at_ p d : Int}, runA near lane dock l (at_, p) = some (d, -1) → carr l = p
  | [], at_, p, d, h => by injection h with h; injection h with _ h; exact h.symm
  | a :: l, at_, p, d, h => by
    have h : (doA near lane dock (at_, p) a).bind (runA near lane dock l) = some (d, -1) := h
    show (if a.1 = 2 then -1 else if a.1 = 3 then a.2.2 else carr l) = p
    unfold doA at h
    split at h
    · rename_i e
      rw [if_neg (by omega), if_neg (by omega)]
      split at h
      · exact carr_run l h
      · cases h
    · split at h
      · rename_i e
        rw [if_pos e]
        split at h
        · rename_i q; exact q.1.symm
        · cases h
      · rename_i e
        rw [if_neg e]
        split at h
        · rename_i e
          rw [if_pos e]
          split at h
          · rename_i q; exact q.1
          · cases h
        · cases h
/-- What is left of acts that are right is right. -/
theorem run_left {l : List Ac} {at_ d : Int} (h : runA near lane dock l (at_, carr l) = some (d, -1)) (k : Nat) :
    runA near lane dock (l.drop k) (plA (l.take k) at_, carr (l.drop k)) = some (d, -1) ∧ ((at_ = dock ∨ lane at_ = true) → (plA (l.take k) at_ = dock ∨ lane (plA (l.take k) at_) = true)) := by
  have h0 := h
  conv at h0 => lhs; arg 4; rw [← List.take_append_drop k l]
  rw [runA_app] at h0
  cases e : runA near lane dock (l.take k) (at_, carr l) with
  | none => rw [e] at h0; cases h0
  | some t =>
    rw [e] at h0
    have h1 := runA_place _ e
    obtain ⟨t1, t2⟩ := t
    have h2 : runA near lane dock (l.drop k) (t1, t2) = some (d, -1) := h0
    have h3 := carr_run _ h2
    obtain rfl : t1 = plA (l.take k) at_ := h1.1
    exact ⟨by rw [h3]; exact h2, h1.2⟩

/-- Both robots come to an end alike. -/
theorem same_run : ∀ (l : List Ac) (at_ pod lif : Int) (first : Bool) (d : Int), (first = true → lif = -1 ∧ pod = carr l) → (first = false → pod = lif ∧ -1 ≤ lif) →
    (runA near lane dock l (at_, pod) = some (d, -1) ↔ ∃ x f, runB near lane dock l (at_, lif, first) = some (d, x, f) ∧ x < 0)
  | [], at_, pod, lif, first, d, h1, h2 => by
    constructor
    · intro h
      injection h with h; injection h with e1 e2
      subst e1 e2
      refine ⟨lif, first, rfl, ?_⟩
      cases first with
      | true => have := (h1 rfl).1; omega
      | false => have := (h2 rfl).1; omega
    · rintro ⟨x, f, h, hx⟩
      injection h with h; injection h with e1 e2; injection e2 with e2 e3
      subst e1 e2 e3
      cases first with
      | true =>
        have := (h1 rfl).2
        subst this; rfl
      | false =>
        have := h2 rfl
        obtain rfl : pod = -1 := by omega
        rfl
  | a :: l, at_, pod, lif, first, d, h1, h2 => by
    show (doA near lane dock (at_, pod) a).bind (runA near lane dock l) = some (d, -1) ↔ ∃ x f, (doB near lane dock (at_, lif, first) a).bind (runB near lane dock l) = some (d, x, f) ∧ x < 0
    have hc : carr (a :: l) = if a.1 = 2 then -1 else if a.1 = 3 then a.2.2 else carr l := rfl
    unfold doA doB
    by_cases k1 : a.1 = 1
    · rw [if_pos k1, if_pos k1]
      by_cases q : a.2.2 = 0 ∧ (a.2.1 = dock ∨ lane a.2.1 = true) ∧ near at_ a.2.1 = true
      · rw [if_pos q, if_pos ⟨q.2.2, q.1, q.2.1.symm⟩]
        exact same_run l a.2.1 pod lif first d (fun e => ⟨(h1 e).1, by rw [(h1 e).2, hc, if_neg (by omega), if_neg (by omega)]⟩) h2
      · rw [if_neg q, if_neg (fun e => q ⟨e.2.1, e.2.2.symm, e.1⟩)]
        simp
    · rw [if_neg k1, if_neg k1]
      by_cases k2 : a.1 = 2
      · rw [if_pos k2, if_pos k2]
        have hp : pod = -1 ↔ lif < 0 := by
          cases first with
          | true => have := h1 rfl; rw [hc, if_pos k2] at this; omega
          | false => have := h2 rfl; omega
        by_cases q : pod = -1 ∧ isP a.2.2 = true ∧ a.2.1 = at_ ∧ lane a.2.1 = true
        · rw [if_pos q, if_pos ⟨hp.1 q.1, q.2.2.1, by rw [← q.2.2.1]; exact q.2.2.2, q.2.1⟩]
          refine same_run l at_ a.2.2 a.2.2 false d (fun e => by cases e) (fun _ => ⟨rfl, ?_⟩)
          have := q.2.1
          unfold isP at this
          rw [Bool.and_eq_true, decide_eq_true_eq, decide_eq_true_eq] at this
          omega
        · rw [if_neg q, if_neg (fun e => q ⟨hp.2 e.1, e.2.2.2, e.2.1, by have := e.2.1; have h3 := e.2.2.1; rw [← this] at h3; exact h3⟩)]
          simp
      · rw [if_neg k2, if_neg k2]
        by_cases k3 : a.1 = 3
        · rw [if_pos k3, if_pos k3]
          by_cases hP : isP a.2.2 = true
          · have hp0 : 0 ≤ a.2.2 := by
              unfold isP at hP
              rw [Bool.and_eq_true, decide_eq_true_eq, decide_eq_true_eq] at hP
              exact hP.1
            have hp : a.2.2 = pod ↔ (first = true ∨ 0 ≤ lif) ∧ (lif < 0 ∨ lif = a.2.2) := by
              cases first with
              | true =>
                have := h1 rfl; rw [hc, if_neg k2, if_pos k3] at this
                exact ⟨fun _ => ⟨.inl rfl, .inl (by omega)⟩, fun _ => this.2.symm⟩
              | false =>
                have := h2 rfl
                constructor
                · intro e; exact ⟨.inr (by omega), .inr (by omega)⟩
                · rintro ⟨e1, e2⟩
                  rcases e1 with e1 | e1
                  · cases e1
                  · omega
            by_cases q : a.2.2 = pod ∧ isP a.2.2 = true ∧ a.2.1 = at_ ∧ lane a.2.1 = true
            · rw [if_pos q, if_pos ⟨(hp.1 q.1).1, (hp.1 q.1).2, q.2.2.1, by rw [← q.2.2.1]; exact q.2.2.2, hP⟩]
              exact same_run l at_ (-1) (-1) false d (fun e => by cases e) (fun _ => ⟨rfl, Int.le_refl _⟩)
            · rw [if_neg q, if_neg (fun e => q ⟨hp.2 ⟨e.1, e.2.1⟩, hP, e.2.2.1, by have := e.2.2.1; have h3 := e.2.2.2.1; rw [← this] at h3; exact h3⟩)]
              simp
          · rw [if_neg (fun e => hP e.2.1), if_neg (fun e => hP e.2.2.2.2)]
            simp
        · rw [if_neg k3, if_neg k3]
          simp
end

/-! ### A trip -/
def gos (P : List Nat) : List Ac := P.map fun (c : Nat) => ((1, (c : Int), 0) : Ac)
theorem gos_length (P : List Nat) : (gos P).length = P.length := by simp [gos]
/-- The acts of a trip. -/
def tripL (a b c : List Nat) (s t pod : Int) : List Ac := gos a ++ (2, s, pod) :: (gos b ++ (3, t, pod) :: gos c)
theorem tripL_length (a b c : List Nat) (s t pod : Int) : (tripL a b c s t pod).length = a.length + b.length + c.length + 2 := by
  simp [tripL, gos_length]; omega
section
variable {near : Int → Int → Bool} {lane : Int → Bool} {dock : Int}
end

/-! ### A way's cells -/
end Go.Proofs.YtakgkocdkondhaaGreatDoor.Tr
