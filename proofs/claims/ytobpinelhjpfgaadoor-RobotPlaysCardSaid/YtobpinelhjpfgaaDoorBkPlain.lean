/-
  Layer 8, plain: orders of claims, the least of them, that trying each finds it, and what stays safe.
-/
import Derived.Test.YtobpinelhjpfgaaDoorRows
set_option linter.unusedVariables false
namespace Go.Proofs.YtobpinelhjpfgaaDoor
namespace Bk

/-- Claims: what each holds, and what it needs. -/
abbrev Cm := List (List Int × List Int)

/-- Places, one behind the other, such that what one needs is held by none behind it. -/
def Okp (nd : Nat → List Int) (hd : Nat → Int → Bool) (p : List Nat) : Prop := p.Pairwise fun a b => ∀ z ∈ nd a, hd b z = false
/-- One can come to an end ahead of the others. -/
def can (nd : Nat → List Int) (hd : Nat → Int → Bool) (S : List Nat) (a : Nat) : Bool := (nd a).all fun z => S.all fun b => b == a || !hd b z
theorem can_iff {nd : Nat → List Int} {hd : Nat → Int → Bool} {S : List Nat} {a : Nat} : can nd hd S a = true ↔ ∀ z ∈ nd a, ∀ b ∈ S, b ≠ a → hd b z = false := by
  simp only [can, List.all_eq_true, Bool.or_eq_true, beq_iff_eq, Bool.not_eq_true']
  constructor
  · intro h z hz b hb hne
    rcases h z hz b hb with h | h
    · exact absurd h hne
    · exact h
  · intro h z hz b hb
    by_cases e : b = a
    · exact .inl e
    · exact .inr (h z hz b hb e)
/-- All of them can come to an end. -/
def Saf (nd : Nat → List Int) (hd : Nat → Int → Bool) (S : List Nat) : Prop := ∃ p : List Nat, p.Nodup ∧ (∀ a, a ∈ p ↔ a ∈ S) ∧ Okp nd hd p
theorem Saf.nil (nd : Nat → List Int) (hd : Nat → Int → Bool) : Saf nd hd [] := ⟨[], List.nodup_nil, fun _ => Iff.rfl, List.Pairwise.nil⟩
/-- What is safe stays so, where less is held, less is needed, or some are gone, and whatever the places are called. -/
theorem Saf.sim {nd nd' : Nat → List Int} {hd hd' : Nat → Int → Bool} {S S' : List Nat} (f : Nat → Nat) (hS : S'.Nodup) (hf : ∀ a ∈ S', f a ∈ S) (hi : ∀ a ∈ S', ∀ b ∈ S', f a = f b → a = b)
    (hn : ∀ a ∈ S', ∀ z ∈ nd' a, z ∈ nd (f a)) (hh : ∀ a ∈ S', ∀ b ∈ S', a ≠ b → ∀ z ∈ nd' a, hd' b z = true → hd (f b) z = true) (h : Saf nd hd S) : Saf nd' hd' S' := by
  obtain ⟨p, hp1, hp2, hp3⟩ := h
  have hone : ∀ x, (S'.filter fun a => f a == x).Pairwise fun _ _ => False := by
    intro x
    refine List.Pairwise.imp_of_mem ?_ (hS.sublist List.filter_sublist)
    intro a b ha hb hne
    simp only [List.mem_filter, beq_iff_eq] at ha hb
    exact hne (hi a ha.1 b hb.1 (ha.2.trans hb.2.symm))
  refine ⟨p.flatMap fun x => S'.filter fun a => f a == x, ?_, ?_, ?_⟩
  · unfold List.Nodup
    rw [List.pairwise_flatMap]
    refine ⟨fun x _ => (hone x).imp (fun h => h.elim), hp1.imp_of_mem ?_⟩
    intro x y hx hy hne a ha b hb e
    simp only [List.mem_filter, beq_iff_eq] at ha hb
    exact hne (by rw [← ha.2, ← hb.2, e])
  · intro a
    simp only [List.mem_flatMap, List.mem_filter, beq_iff_eq]
    constructor
    · rintro ⟨x, _, h, _⟩; exact h
    · intro h; exact ⟨f a, (hp2 _).2 (hf a h), h, rfl⟩
  · unfold Okp
    rw [List.pairwise_flatMap]
    refine ⟨fun x _ => (hone x).imp (fun h => h.elim), (hp1.and hp3).imp_of_mem ?_⟩
    intro x y hx hy hne a ha b hb z hz
    simp only [List.mem_filter, beq_iff_eq] at ha hb
    have h1 := hne.2 z (by rw [← ha.2]; exact hn a ha.1 z hz)
    cases h2 : hd' b z with
    | false => rfl
    | true =>
      have h3 := hh a ha.1 b hb.1 (fun e => hne.1 (by rw [← ha.2, ← hb.2, e])) z hz h2
      rw [hb.2, h1] at h3
      cases h3
theorem Saf.less {nd : Nat → List Int} {hd : Nat → Int → Bool} {S S' : List Nat} (hS : S'.Nodup) (hf : ∀ a ∈ S', a ∈ S) (h : Saf nd hd S) : Saf nd hd S' :=
  Saf.sim id hS hf (fun _ _ _ _ e => e) (fun _ _ _ h => h) (fun _ _ _ _ _ _ _ h => h) h
/-- One that can come to an end ahead of the others has no part in it. -/
theorem Saf.first {nd : Nat → List Int} {hd : Nat → Int → Bool} {S : List Nat} {a : Nat} (ha : a ∈ S) (hc : can nd hd S a = true) (S' : List Nat) (hm : ∀ b, b ∈ S' ↔ b ∈ S ∧ b ≠ a) (h : Saf nd hd S') : Saf nd hd S := by
  obtain ⟨p, h1, h2, h3⟩ := h
  refine ⟨a :: p, List.nodup_cons.2 ⟨fun h => ((hm a).1 ((h2 a).1 h)).2 rfl, h1⟩, ?_, ?_⟩
  · intro b
    rw [List.mem_cons, h2, hm]
    constructor
    · rintro (rfl | h); exact ha; exact h.1
    · intro h
      by_cases e : b = a
      · exact .inl e
      · exact .inr ⟨h, e⟩
  · refine List.pairwise_cons.2 ⟨fun b hb z hz => ?_, h3⟩
    have := (hm b).1 ((h2 b).1 hb)
    exact can_iff.1 hc z hz b this.1 this.2
theorem Saf.one {nd : Nat → List Int} {hd : Nat → Int → Bool} {S : List Nat} (hne : S ≠ []) (h : Saf nd hd S) : ∃ a ∈ S, can nd hd S a = true := by
  obtain ⟨p, h1, h2, h3⟩ := h
  match p, h1, h2, h3 with
  | [], _, h2, _ =>
    obtain ⟨a, ha⟩ := List.exists_mem_of_ne_nil S hne
    exact absurd ((h2 a).2 ha) (by simp)
  | a :: p, h1, h2, h3 =>
    refine ⟨a, (h2 a).1 (by simp), can_iff.2 fun z hz b hb hne => ?_⟩
    have hb' := (h2 b).2 hb
    rcases List.mem_cons.1 hb' with e | e
    · exact absurd e hne
    · exact (List.pairwise_cons.1 h3).1 b e z hz

/-- The program's order: the first that can be next, again and again. -/
def ord (nd : Nat → List Int) (hd : Nat → Int → Bool) : Nat → List Nat → Option (List Nat)
  | 0, _ => some []
  | n + 1, S => match S.findIdx? (can nd hd S) with
    | none => none
    | some i => (ord nd hd n (S.eraseIdx i)).map (S.getD i 0 :: ·)
theorem nodup_inj {S : List Nat} (hS : S.Nodup) {i j : Nat} (hi : i < S.length) (hj : j < S.length) (e : S[i] = S[j]) : i = j := by
  rcases Nat.lt_trichotomy i j with h | h | h
  · exact absurd e (List.pairwise_iff_getElem.1 hS i j hi hj h)
  · exact h
  · exact absurd e.symm (List.pairwise_iff_getElem.1 hS j i hj hi h)
theorem mem_eraseIdx_iff {S : List Nat} (hS : S.Nodup) {i : Nat} (hi : i < S.length) (b : Nat) : b ∈ S.eraseIdx i ↔ b ∈ S ∧ b ≠ S.getD i 0 := by
  have e : S.getD i 0 = S[i] := by simp [List.getD, hi]
  rw [e, List.mem_eraseIdx_iff_getElem]
  constructor
  · rintro ⟨j, hj, hne, rfl⟩
    refine ⟨List.getElem_mem _, fun h => hne (nodup_inj hS _ _ h)⟩
  · rintro ⟨hb, hne⟩
    obtain ⟨j, hj, rfl⟩ := List.getElem_of_mem hb
    exact ⟨j, hj, fun h => hne (by subst h; rfl), rfl⟩
theorem nodup_eraseIdx {S : List Nat} (hS : S.Nodup) (i : Nat) : (S.eraseIdx i).Nodup := hS.sublist (List.eraseIdx_sublist ..)
/-- What the program's order tells is one. -/
theorem ord_some {nd : Nat → List Int} {hd : Nat → Int → Bool} : ∀ {n : Nat} {S o : List Nat}, S.Nodup → S.length = n → ord nd hd n S = some o → o.Nodup ∧ (∀ a, a ∈ o ↔ a ∈ S) ∧ Okp nd hd o ∧ o.length = n
  | 0, S, o, hS, hn, h => by
    obtain rfl : S = [] := List.length_eq_zero_iff.1 hn
    simp only [ord, Option.some.injEq] at h
    subst h
    exact ⟨List.nodup_nil, fun _ => Iff.rfl, List.Pairwise.nil, rfl⟩
  | n + 1, S, o, hS, hn, h => by
    rw [ord] at h
    cases hf : S.findIdx? (can nd hd S) with
    | none => rw [hf] at h; cases h
    | some i =>
      rw [hf] at h
      obtain ⟨hi, hc, _⟩ := List.findIdx?_eq_some_iff_getElem.1 hf
      simp only [Option.map_eq_some_iff] at h
      obtain ⟨o', ho, rfl⟩ := h
      have hl : (S.eraseIdx i).length = n := by rw [List.length_eraseIdx]; simp [hi]; omega
      obtain ⟨h1, h2, h3, h4⟩ := ord_some (nodup_eraseIdx hS i) hl ho
      have e : S.getD i 0 = S[i] := by simp [List.getD, hi]
      refine ⟨List.nodup_cons.2 ⟨fun h => ((mem_eraseIdx_iff hS hi _).1 ((h2 _).1 h)).2 rfl, h1⟩, ?_, ?_, by simp [h4]⟩
      · intro a
        rw [List.mem_cons, h2, mem_eraseIdx_iff hS hi, e]
        constructor
        · rintro (rfl | h); exact List.getElem_mem _; exact h.1
        · intro h
          by_cases e : a = S[i]
          · exact .inl e
          · exact .inr ⟨h, e⟩
      · refine List.pairwise_cons.2 ⟨fun b hb z hz => ?_, h3⟩
        have hb := (mem_eraseIdx_iff hS hi _).1 ((h2 b).1 hb)
        rw [e] at hz hb
        exact can_iff.1 hc z hz b hb.1 hb.2
theorem ord_saf {nd : Nat → List Int} {hd : Nat → Int → Bool} {n : Nat} {S o : List Nat} (hS : S.Nodup) (hn : S.length = n) (h : ord nd hd n S = some o) : Saf nd hd S :=
  let k := ord_some hS hn h; ⟨o, k.1, k.2.1, k.2.2.1⟩
theorem ord_none {nd : Nat → List Int} {hd : Nat → Int → Bool} : ∀ {n : Nat} {S : List Nat}, S.Nodup → S.length = n → ord nd hd n S = none → ¬ Saf nd hd S
  | 0, S, hS, hn, h => by simp [ord] at h
  | n + 1, S, hS, hn, h => by
    intro hs
    rw [ord] at h
    cases hf : S.findIdx? (can nd hd S) with
    | none =>
      obtain ⟨a, ha, hc⟩ := Saf.one (by intro e; subst e; simp at hn) hs
      have := List.findIdx?_eq_none_iff.1 hf a ha
      rw [hc] at this
      cases this
    | some i =>
      rw [hf] at h
      obtain ⟨hi, hc, _⟩ := List.findIdx?_eq_some_iff_getElem.1 hf
      have hl : (S.eraseIdx i).length = n := by rw [List.length_eraseIdx]; simp [hi]; omega
      refine ord_none (nodup_eraseIdx hS i) hl (by simpa using h) (hs.less (nodup_eraseIdx hS i) fun a ha => ((mem_eraseIdx_iff hS hi a).1 ha).1)
theorem ord_iff {nd : Nat → List Int} {hd : Nat → Int → Bool} {n : Nat} {S : List Nat} (hS : S.Nodup) (hn : S.length = n) : (∃ o, ord nd hd n S = some o) ↔ Saf nd hd S := by
  constructor
  · rintro ⟨o, h⟩; exact ord_saf hS hn h
  · intro h
    cases e : ord nd hd n S with
    | none => exact absurd h (ord_none hS hn e)
    | some o => exact ⟨o, rfl⟩

/-- The document's order: each that can be next is tried. -/
def rord (nd : Nat → List Int) (hd : Nat → Int → Bool) : Nat → List Nat → Option (List Nat)
  | 0, _ => some []
  | n + 1, S => S.findSome? fun a => if can nd hd S a then (rord nd hd n (S.erase a)).map (a :: ·) else none
theorem rord_eq {nd : Nat → List Int} {hd : Nat → Int → Bool} : ∀ {n : Nat} {S : List Nat}, S.Nodup → S.length = n → rord nd hd n S = ord nd hd n S
  | 0, S, hS, hn => rfl
  | n + 1, S, hS, hn => by
    have hl : ∀ a ∈ S, (S.erase a).length = n := fun a ha => by rw [List.length_erase_of_mem ha]; omega
    have hm : ∀ a b, b ∈ S.erase a ↔ b ∈ S ∧ b ≠ a := fun a b => by rw [List.Nodup.mem_erase_iff hS]; exact And.comm
    rw [rord]
    cases ho : ord nd hd (n + 1) S with
    | none =>
      rw [List.findSome?_eq_none_iff]
      intro a ha
      by_cases hc : can nd hd S a = true
      · rw [if_pos hc, rord_eq (hS.erase a) (hl a ha)]
        cases hr : ord nd hd n (S.erase a) with
        | none => rfl
        | some o => exact absurd (Saf.first ha hc _ (hm a) (ord_saf (hS.erase a) (hl a ha) hr)) (ord_none hS hn ho)
      · rw [if_neg hc]
    | some o =>
      rw [ord] at ho
      cases hf : S.findIdx? (can nd hd S) with
      | none => rw [hf] at ho; cases ho
      | some i =>
        rw [hf] at ho
        obtain ⟨hi, hc, hb⟩ := List.findIdx?_eq_some_iff_getElem.1 hf
        simp only [Option.map_eq_some_iff] at ho
        obtain ⟨o', ho, rfl⟩ := ho
        have e : S.getD i 0 = S[i] := by simp [List.getD, hi]
        rw [e]
        have he : S.erase S[i] = S.eraseIdx i := by
          rw [List.erase_eq_eraseIdx, (List.idxOf?_eq_some_iff).2]
          refine ⟨hi, by simp, fun j hj => ?_⟩
          have := hb j hj
          intro h
          have := nodup_inj hS _ _ h
          omega
        rw [List.findSome?_eq_some_iff]
        refine ⟨S.take i, S[i], S.drop (i + 1), by rw [List.getElem_cons_drop, List.take_append_drop], ?_, ?_⟩
        · rw [if_pos hc, he, rord_eq (nodup_eraseIdx hS i) (by rw [List.length_eraseIdx]; simp [hi]; omega), ho]; rfl
        · intro a ha
          obtain ⟨j, hj, rfl⟩ := List.getElem_of_mem ha
          rw [List.length_take] at hj
          have := hb j (by omega)
          rw [List.getElem_take, if_neg this]

/-! ### Claims -/
def hold (C : Cm) (i : Nat) : List Int := (C.getD i ([], [])).1
def need (C : Cm) (i : Nat) : List Int := (C.getD i ([], [])).2
def hb (C : Cm) (i : Nat) (z : Int) : Bool := decide (z ∈ hold C i)
def Zn (z : Int) : Prop := 0 ≤ z ∧ z < 26
/-- The claims may stand beside one another. -/
structure Rg (C : Cm) : Prop where
  few : C.length ≤ 8
  zones : ∀ i, i < C.length → (∀ z ∈ hold C i, Zn z) ∧ ∀ z ∈ need C i, Zn z
  apart : ∀ i j, i < C.length → j < C.length → i ≠ j → ∀ z ∈ hold C i, z ∉ hold C j
def SafC (C : Cm) : Prop := Saf (need C) (hb C) (List.range C.length)
def OrdIs (C : Cm) (o : List Nat) (is : Bool) : Prop := (¬ Rg C ∧ o = [] ∧ is = false) ∨ (Rg C ∧ ((ord (need C) (hb C) C.length (List.range C.length) = none ∧ o = [] ∧ is = false) ∨ (ord (need C) (hb C) C.length (List.range C.length) = some o ∧ is = true)))
theorem OrdIs.saf {C : Cm} {o : List Nat} {is : Bool} (h : OrdIs C o is) : is = true ↔ Rg C ∧ SafC C := by
  rcases h with ⟨h1, _, rfl⟩ | ⟨h1, ⟨h2, _, rfl⟩ | ⟨h2, rfl⟩⟩
  · exact ⟨(by intro h; cases h), fun h => absurd h.1 h1⟩
  · exact ⟨(by intro h; cases h), fun h => absurd h.2 (ord_none List.nodup_range List.length_range h2)⟩
  · exact ⟨fun _ => ⟨h1, ord_saf List.nodup_range List.length_range h2⟩, fun _ => rfl⟩
theorem OrdIs.no {C : Cm} {o : List Nat} (h : OrdIs C o false) : o = [] ∧ (0 < C.length ∨ ¬ Rg C) := by
  rcases h with ⟨h1, h2, _⟩ | ⟨h1, ⟨h2, h3, _⟩ | ⟨_, h⟩⟩
  · exact ⟨h2, .inr h1⟩
  · refine ⟨h3, .inl ?_⟩
    rcases Nat.eq_zero_or_pos C.length with h | h
    · rw [h] at h2; simp [ord] at h2
    · exact h
  · cases h
theorem OrdIs.yes {C : Cm} {o : List Nat} (h : OrdIs C o true) : Rg C ∧ SafC C ∧ o.Nodup ∧ (∀ a, a ∈ o ↔ a < C.length) ∧ Okp (need C) (hb C) o ∧ o.length = C.length := by
  have hs := h.saf.1 rfl
  rcases h with ⟨_, _, h⟩ | ⟨h1, ⟨_, _, h⟩ | ⟨h2, _⟩⟩
  · cases h
  · cases h
  · obtain ⟨a, b, c, d⟩ := ord_some List.nodup_range List.length_range h2
    exact ⟨h1, hs.2, a, fun x => by rw [b, List.mem_range], c, d⟩
theorem OrdIs.uniq {C : Cm} {o o' : List Nat} {is is' : Bool} (h : OrdIs C o is) (h' : OrdIs C o' is') : o = o' ∧ is = is' := by
  rcases h with ⟨h1, rfl, rfl⟩ | ⟨h1, ⟨h2, rfl, rfl⟩ | ⟨h2, rfl⟩⟩ <;> rcases h' with ⟨k1, rfl, rfl⟩ | ⟨k1, ⟨k2, rfl, rfl⟩ | ⟨k2, rfl⟩⟩
  all_goals first | exact ⟨rfl, rfl⟩ | exact absurd ‹Rg C› ‹¬ Rg C› | skip
  · rw [h2] at k2; cases k2
  · rw [h2] at k2; cases k2
  · rw [h2] at k2; cases k2; exact ⟨rfl, rfl⟩
theorem rg_nil : Rg [] := ⟨by simp, fun i hi => by simp at hi, fun i j hi => by simp at hi⟩
theorem saf_nil : SafC [] := Saf.nil _ _

theorem getD_eraseIdx (C : Cm) (i j : Nat) : (C.eraseIdx i).getD j ([], []) = C.getD (if j < i then j else j + 1) ([], []) := by
  simp only [List.getD, List.getElem?_eraseIdx]
  split <;> rfl
theorem length_eraseIdx {C : Cm} {i : Nat} (hi : i < C.length) : (C.eraseIdx i).length = C.length - 1 := by rw [List.length_eraseIdx, if_pos hi]
theorem Rg.erase {C : Cm} (h : Rg C) {i : Nat} (hi : i < C.length) : Rg (C.eraseIdx i) := by
  have hl := length_eraseIdx hi
  have e : ∀ j, hold (C.eraseIdx i) j = hold C (if j < i then j else j + 1) := fun j => by unfold hold; rw [getD_eraseIdx]
  have e' : ∀ j, need (C.eraseIdx i) j = need C (if j < i then j else j + 1) := fun j => by unfold need; rw [getD_eraseIdx]
  refine ⟨by have := h.few; omega, fun j hj => ?_, fun j k hj hk hne => ?_⟩
  · rw [e, e']; exact h.zones _ (by split <;> omega)
  · rw [e, e]; exact h.apart _ _ (by split <;> omega) (by split <;> omega) (by split <;> split <;> omega)
theorem SafC.erase {C : Cm} (h : SafC C) {i : Nat} (hi : i < C.length) : SafC (C.eraseIdx i) := by
  have hl := length_eraseIdx hi
  have e : ∀ j, hold (C.eraseIdx i) j = hold C (if j < i then j else j + 1) := fun j => by unfold hold; rw [getD_eraseIdx]
  have e' : ∀ j, need (C.eraseIdx i) j = need C (if j < i then j else j + 1) := fun j => by unfold need; rw [getD_eraseIdx]
  refine Saf.sim (fun j => if j < i then j else j + 1) List.nodup_range (fun a ha => ?_) (fun a ha b hb h => ?_) (fun a ha z hz => ?_) (fun a ha b hb' hne z hz h => ?_) h
  · rw [List.mem_range] at ha ⊢
    split <;> omega
  · split at h <;> split at h <;> omega
  · rw [e'] at hz; exact hz
  · unfold hb at h ⊢; rw [e] at h; exact h
theorem SafC.unerase {C : Cm} {i : Nat} (hi : i < C.length) (h : SafC (C.eraseIdx i)) (hc : can (need C) (hb C) (List.range C.length) i = true) : SafC C := by
  have hl := length_eraseIdx hi
  have e : ∀ j, j ≠ i → (C.eraseIdx i).getD (if j < i then j else j - 1) ([], []) = C.getD j ([], []) := fun j hj => by
    rw [getD_eraseIdx]
    congr 1
    by_cases h : j < i
    · rw [if_pos h, if_pos h]
    · rw [if_neg h, if_neg (by omega)]; omega
  refine Saf.first (List.mem_range.2 hi) hc ((List.range C.length).erase i) (fun b => by rw [List.Nodup.mem_erase_iff List.nodup_range]; exact And.comm) ?_
  have hm : ∀ b, b ∈ (List.range C.length).erase i ↔ b ≠ i ∧ b < C.length := fun b => by rw [List.Nodup.mem_erase_iff List.nodup_range, List.mem_range]
  refine Saf.sim (fun j => if j < i then j else j - 1) (List.nodup_range.erase i) (fun a ha => ?_) (fun a ha b hb h => ?_) (fun a ha z hz => ?_) (fun a ha b hb' hne z hz h => ?_) h
  · rw [List.mem_range, hl]
    have := (hm a).1 ha
    split <;> omega
  · have := (hm a).1 ha
    have := (hm b).1 hb
    split at h <;> split at h <;> omega
  · unfold need at hz ⊢; rw [e a ((hm a).1 ha).1]; exact hz
  · unfold hb hold at h ⊢; rw [e b ((hm b).1 hb').1]; exact h
/-- One of the claims is another one. -/
theorem getD_set (C : Cm) (i j : Nat) (c : List Int × List Int) (hi : i < C.length) : (C.set i c).getD j ([], []) = if j = i then c else C.getD j ([], []) := by
  simp only [List.getD, List.getElem?_set]
  by_cases h : i = j
  · subst h; simp [hi]
  · rw [if_neg h, if_neg (fun e => h e.symm)]
theorem hold_set {C : Cm} {i : Nat} (hi : i < C.length) (c : List Int × List Int) (j : Nat) : hold (C.set i c) j = if j = i then c.1 else hold C j := by unfold hold; rw [getD_set C i j c hi]; split <;> rfl
theorem need_set {C : Cm} {i : Nat} (hi : i < C.length) (c : List Int × List Int) (j : Nat) : need (C.set i c) j = if j = i then c.2 else need C j := by unfold need; rw [getD_set C i j c hi]; split <;> rfl
theorem Rg.less {C : Cm} (h : Rg C) {i : Nat} (hi : i < C.length) (c : List Int × List Int) (h1 : ∀ z ∈ c.1, z ∈ hold C i) (h2 : ∀ z ∈ c.2, z ∈ need C i) : Rg (C.set i c) := by
  have hs : ∀ j, ∀ z ∈ hold (C.set i c) j, z ∈ hold C j := fun j z hz => by
    rw [hold_set hi] at hz
    split at hz
    · rename_i e; subst e; exact h1 z hz
    · exact hz
  refine ⟨by simpa using h.few, fun j hj => ?_, fun j k hj hk hne z hz hz' => ?_⟩
  · rw [List.length_set] at hj
    refine ⟨fun z hz => (h.zones j hj).1 z (hs j z hz), fun z hz => ?_⟩
    rw [need_set hi] at hz
    split at hz
    · rename_i e; subst e; exact (h.zones _ hj).2 z (h2 z hz)
    · exact (h.zones j hj).2 z hz
  · rw [List.length_set] at hj hk
    exact h.apart j k hj hk hne z (hs j z hz) (hs k z hz')
theorem SafC.less {C : Cm} (h : SafC C) {i : Nat} (hi : i < C.length) (c : List Int × List Int) (h1 : ∀ z ∈ c.1, z ∈ hold C i) (h2 : ∀ z ∈ c.2, z ∈ need C i) : SafC (C.set i c) := by
  refine Saf.sim id List.nodup_range (fun a ha => by simpa using ha) (fun _ _ _ _ e => e) (fun a ha z hz => ?_) (fun a ha b hb' hne z hz h => ?_) h
  · rw [need_set hi] at hz
    split at hz
    · rename_i e; subst e; exact h2 z hz
    · exact hz
  · unfold hb at h ⊢
    rw [hold_set hi] at h
    split at h
    · rename_i e; subst e; exact decide_eq_true (h1 z (of_decide_eq_true h))
    · exact h
/-- A zone is given to one. -/
def gv (hd : Nat → Int → Bool) (who : Nat) (z : Int) : Nat → Int → Bool := fun a y => (a == who && y == z) || hd a y
def MayP (C : Cm) (who z : Int) : Prop := Rg C ∧ 0 ≤ who ∧ who < C.length ∧ Zn z ∧ (∀ j, j < C.length → z ∉ hold C j) ∧ Saf (need C) (gv (hb C) who.toNat z) (List.range C.length)
def give (C : Cm) (who : Nat) (z : Int) : Cm := C.set who (hold C who ++ [z], need C who)
theorem hb_give {C : Cm} {who : Nat} (hw : who < C.length) (z : Int) (b : Nat) (y : Int) : hb (give C who z) b y = gv (hb C) who z b y := by
  unfold hb gv give
  rw [hold_set hw]
  by_cases e : b = who
  · subst e
    rw [if_pos rfl, beq_self_eq_true, Bool.true_and]
    by_cases h1 : y = z
    · subst h1; simp
    · rw [beq_eq_false_iff_ne.2 h1]; simp [h1]
  · rw [if_neg e, beq_eq_false_iff_ne.2 e]; simp
theorem need_give {C : Cm} {who : Nat} (hw : who < C.length) (z : Int) (b : Nat) : need (give C who z) b = need C b := by
  unfold give
  rw [need_set hw]
  split
  · rename_i e; rw [e]
  · rfl
theorem saf_give {C : Cm} {who : Nat} (hw : who < C.length) (z : Int) : SafC (give C who z) ↔ Saf (need C) (gv (hb C) who z) (List.range C.length) := by
  unfold SafC
  rw [show need (give C who z) = need C from funext fun b => need_give hw z b, show hb (give C who z) = gv (hb C) who z from funext fun b => funext fun y => hb_give hw z b y, show (give C who z).length = C.length by simp [give]]
theorem rg_give {C : Cm} (h : Rg C) {who : Nat} (hw : who < C.length) {z : Int} (hz : Zn z) (hn : ∀ j, j < C.length → z ∉ hold C j) : Rg (give C who z) := by
  have hs : ∀ j y, y ∈ hold (give C who z) j → y ∈ hold C j ∨ (j = who ∧ y = z) := fun j y hy => by
    unfold give at hy
    rw [hold_set hw] at hy
    split at hy
    · rename_i e
      rcases List.mem_append.1 hy with h | h
      · exact .inl (by rw [e]; exact h)
      · exact .inr ⟨e, by simpa using h⟩
    · exact .inl hy
  have hl : (give C who z).length = C.length := by simp [give]
  refine ⟨by rw [hl]; exact h.few, fun j hj => ⟨fun y hy => ?_, fun y hy => ?_⟩, fun j k hj hk hne y hy hy' => ?_⟩
  · rw [hl] at hj
    rcases hs j y hy with h1 | ⟨_, rfl⟩
    · exact (h.zones j hj).1 y h1
    · exact hz
  · rw [hl] at hj
    rw [need_give hw] at hy
    exact (h.zones j hj).2 y hy
  · rw [hl] at hj hk
    rcases hs j y hy with h1 | ⟨e1, e2⟩ <;> rcases hs k y hy' with h3 | ⟨e3, e4⟩
    · exact h.apart j k hj hk hne y h1 h3
    · exact hn j hj (by rw [← e4]; exact h1)
    · exact hn k hk (by rw [← e2]; exact h3)
    · exact hne (by rw [e1, e3])
/-- The first of an order may be given what it needs. -/
structure Goes (C : Cm) (who : Nat) : Prop where
  lt : who < C.length
  right : Rg C
  safe : SafC C
  can : can (need C) (hb C) (List.range C.length) who = true
theorem Goes.may {C : Cm} {who : Nat} (h : Goes C who) {z : Int} (hz : z ∈ need C who) (hn : z ∉ hold C who) : MayP C who z ∧ Goes (give C who z) who := by
  have hno : ∀ j, j < C.length → z ∉ hold C j := fun j hj => by
    by_cases e : j = who
    · rw [e]; exact hn
    · have := can_iff.1 h.can z hz j (List.mem_range.2 hj) e
      simpa [hb] using this
  have hZ := (h.right.zones who h.lt).2 z hz
  have hs : Saf (need C) (gv (hb C) who z) (List.range C.length) := by
    have hc : Bk.can (need C) (gv (hb C) who z) (List.range C.length) who = true := by
      rw [can_iff]
      intro y hy b hb' hne
      unfold gv
      rw [beq_eq_false_iff_ne.2 hne, can_iff.1 h.can y hy b hb' hne]; rfl
    have hm : ∀ b, b ∈ (List.range C.length).erase who ↔ b ∈ List.range C.length ∧ b ≠ who := fun b => by rw [List.Nodup.mem_erase_iff List.nodup_range]; exact And.comm
    refine Saf.first (List.mem_range.2 h.lt) hc ((List.range C.length).erase who) hm ?_
    refine Saf.sim id (List.nodup_range.erase who) (fun a ha => ((hm a).1 ha).1) (fun _ _ _ _ e => e) (fun _ _ _ h => h) (fun a ha b hb' hne y hy h => ?_) h.safe
    unfold gv at h
    rw [beq_eq_false_iff_ne.2 ((hm b).1 hb').2] at h
    simpa using h
  refine ⟨⟨h.right, Int.natCast_nonneg _, by have := h.lt; omega, hZ, hno, by rw [Int.toNat_natCast]; exact hs⟩, ?_⟩
  have hl : (give C who z).length = C.length := by simp [give]
  refine ⟨by rw [hl]; exact h.lt, rg_give h.right h.lt hZ hno, (saf_give h.lt z).2 hs, ?_⟩
  rw [hl, can_iff]
  intro y hy b hb' hne
  rw [need_give h.lt] at hy
  rw [hb_give h.lt]
  unfold gv
  rw [beq_eq_false_iff_ne.2 hne, can_iff.1 h.can y hy b hb' hne]; rfl
theorem Goes.start {C : Cm} {a : Nat} {o : List Nat} (h : OrdIs C (a :: o) true) : Goes C a := by
  obtain ⟨h1, h2, h3, h4, h5, _⟩ := h.yes
  refine ⟨(h4 a).1 (by simp), h1, h2, can_iff.2 fun z hz b hb' hne => ?_⟩
  have := (h4 b).2 (List.mem_range.1 hb')
  rcases List.mem_cons.1 this with e | e
  · exact absurd e hne
  · exact (List.pairwise_cons.1 h5).1 b e z hz
/-- The claims from one on, and then those ahead of it. -/
def rot (C : Cm) (k : Nat) : Cm := C.drop k ++ C.take k
theorem rot_length {C : Cm} {k : Nat} (hk : k < C.length) : (rot C k).length = C.length := by simp [rot]; omega
theorem rot_get {C : Cm} {k : Nat} (hk : k < C.length) (j : Nat) (hj : j < C.length) : (rot C k).getD j ([], []) = C.getD (if j + k < C.length then j + k else j + k - C.length) ([], []) := by
  simp only [List.getD, rot]
  by_cases h : j + k < C.length
  · rw [if_pos h, List.getElem?_append_left (by rw [List.length_drop]; omega), List.getElem?_drop, Nat.add_comm k j]
  · rw [if_neg h, List.getElem?_append_right (by rw [List.length_drop]; omega), List.length_drop, List.getElem?_take]
    rw [if_pos (by omega)]
    congr 2
    omega
theorem rg_rot {C : Cm} {k : Nat} (hk : k < C.length) : Rg (rot C k) ↔ Rg C := by
  have hl := rot_length hk
  have e : ∀ j, j < C.length → (rot C k).getD j ([], []) = C.getD (if j + k < C.length then j + k else j + k - C.length) ([], []) := rot_get hk
  have e' : ∀ j, j < C.length → (rot C k).getD (if k ≤ j then j - k else j + C.length - k) ([], []) = C.getD j ([], []) := fun j hj => by
    rw [e _ (by split <;> omega)]
    congr 1
    split <;> split <;> omega
  constructor
  · intro h
    refine ⟨by have := h.few; omega, fun j hj => ?_, fun i j hi hj hne => ?_⟩
    · have := h.zones _ (show (if k ≤ j then j - k else j + C.length - k) < (rot C k).length by rw [hl]; split <;> omega)
      unfold hold need at this ⊢
      rw [e' j hj] at this
      exact this
    · have := h.apart _ _ (show (if k ≤ i then i - k else i + C.length - k) < (rot C k).length by rw [hl]; split <;> omega) (show (if k ≤ j then j - k else j + C.length - k) < (rot C k).length by rw [hl]; split <;> omega) (by split <;> split <;> omega)
      unfold hold at this ⊢
      rw [e' i hi, e' j hj] at this
      exact this
  · intro h
    refine ⟨by have := h.few; omega, fun j hj => ?_, fun i j hi hj hne => ?_⟩
    · rw [hl] at hj
      have := h.zones _ (show (if j + k < C.length then j + k else j + k - C.length) < C.length by split <;> omega)
      unfold hold need at this ⊢
      rw [e j hj]
      exact this
    · rw [hl] at hi hj
      have := h.apart _ _ (show (if i + k < C.length then i + k else i + k - C.length) < C.length by split <;> omega) (show (if j + k < C.length then j + k else j + k - C.length) < C.length by split <;> omega) (by split <;> split <;> omega)
      unfold hold at this ⊢
      rw [e i hi, e j hj]
      exact this
theorem saf_rot {C : Cm} {k : Nat} (hk : k < C.length) : SafC (rot C k) ↔ SafC C := by
  have hl := rot_length hk
  have e : ∀ j, j < C.length → (rot C k).getD j ([], []) = C.getD (if j + k < C.length then j + k else j + k - C.length) ([], []) := rot_get hk
  have e' : ∀ j, j < C.length → (rot C k).getD (if k ≤ j then j - k else j + C.length - k) ([], []) = C.getD j ([], []) := fun j hj => by
    rw [e _ (by split <;> omega)]
    congr 1
    split <;> split <;> omega
  constructor
  · intro h
    refine Saf.sim (fun j => if k ≤ j then j - k else j + C.length - k) List.nodup_range (fun a ha => ?_) (fun a ha b hb h => ?_) (fun a ha z hz => ?_) (fun a ha b hb' hne z hz h => ?_) h
    · rw [List.mem_range] at ha ⊢
      rw [hl]; split <;> omega
    · rw [List.mem_range] at ha hb
      split at h <;> split at h <;> omega
    · rw [List.mem_range] at ha
      unfold need at hz ⊢; rw [e' a ha]; exact hz
    · rw [List.mem_range] at hb'
      unfold hb hold at h ⊢; rw [e' b hb']; exact h
  · intro h
    refine Saf.sim (fun j => if j + k < C.length then j + k else j + k - C.length) List.nodup_range (fun a ha => ?_) (fun a ha b hb h => ?_) (fun a ha z hz => ?_) (fun a ha b hb' hne z hz h => ?_) h
    · rw [List.mem_range, hl] at ha
      rw [List.mem_range]
      split <;> omega
    · rw [List.mem_range, hl] at ha hb
      split at h <;> split at h <;> omega
    · rw [List.mem_range, hl] at ha
      unfold need at hz ⊢; rw [e a ha] at hz; exact hz
    · rw [List.mem_range, hl] at hb'
      unfold hb hold at h ⊢; rw [e b hb'] at h; exact h
theorem saf_one (c : List Int × List Int) : SafC [c] := ⟨[0], by simp, fun a => by simp, by simp [Okp]⟩
end Bk
end Go.Proofs.YtobpinelhjpfgaaDoor
