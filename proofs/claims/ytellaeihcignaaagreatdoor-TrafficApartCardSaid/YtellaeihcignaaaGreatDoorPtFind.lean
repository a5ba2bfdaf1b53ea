/-
  Layer 5: Find, Is.
-/
import Derived.Test.YtellaeihcignaaaGreatDoorPtGb
set_option linter.unusedVariables false
set_option maxRecDepth 100000
namespace Go.Proofs.YtellaeihcignaaaGreatDoor
open Go.RowKit Fl Pt

/-- The first of the shortest ways, or why there is none. -/
def WayIs (W H : Int) (s : ByteArray) (c t : Int) (B : Nat → Bool) (P : List Nat) (er : Int) : Prop :=
  (OnFloor W H s c ∧ OnFloor W H s t ∧ er = 0 ∧ Gr (nx5 W.toNat H.toNat (at_ s) c.toNat B) t.toNat c.toNat P ∧ Lv (nx5 W.toNat H.toNat (at_ s) c.toNat B) c.toNat P.length t.toNat) ∨
  (OnFloor W H s c ∧ OnFloor W H s t ∧ er = 2 ∧ P = [] ∧ ∀ m, ¬ Wk (nx5 W.toNat H.toNat (at_ s) c.toNat B) c.toNat m t.toNat) ∨
  (¬ (OnFloor W H s c ∧ OnFloor W H s t) ∧ er = 1 ∧ P = [])
theorem WayIs.uniq {W H : Int} {s : ByteArray} {c t : Int} {B : Nat → Bool} {P Q : List Nat} {e f : Int} (h : WayIs W H s c t B P e) (k : WayIs W H s c t B Q f) : P = Q ∧ e = f := by
  rcases h with ⟨h1, h2, rfl, h3, h4⟩ | ⟨h1, h2, rfl, rfl, h3⟩ | ⟨h1, rfl, rfl⟩ <;> rcases k with ⟨k1, k2, rfl, k3, k4⟩ | ⟨k1, k2, rfl, rfl, k3⟩ | ⟨k1, rfl, rfl⟩
  · exact ⟨h3.uniq k3 (h4.uniq k4), rfl⟩
  · exact absurd h4.1 (k3 _)
  · exact absurd ⟨h1, h2⟩ k1
  · exact absurd k4.1 (h3 _)
  · exact ⟨rfl, rfl⟩
  · exact absurd ⟨h1, h2⟩ k1
  · exact absurd ⟨k1, k2⟩ h1
  · exact absurd ⟨k1, k2⟩ h1
  · exact ⟨rfl, rfl⟩
def WayTold (W H : Int) (s : ByteArray) (c t : Int) (B : Nat → Bool) (w : World) (e : Ending) (w' : World) : Prop :=
  ∃ A n cap P er, e = .returned (.tuple #[.slice A n cap, .int .i64 er]) ∧ n = P.length ∧ (P.length ≤ 256 ∧ (er = 0 ∨ er = 1 ∨ er = 2)) ∧ Il w'.heap.size w' A n cap (fun j => ((P.getD j 0 : Nat) : Int)) ∧ Below w.heap.size w w' ∧ WayIs W H s c t B P er

/-- So much of the way is told, from its end. -/
structure Bk (A : List Int) (n t : Nat) (i : Nat) (c : Nat) (f : Nat → Value) : Prop where
  tl : ∀ x, i ≤ x → x < n → f x = .int .i64 (((back A n t).getD x 0 : Nat) : Int)
  hd : ∃ q, back A n t = back A i c ++ q
theorem back_last (A : List Int) (i c : Nat) (q : List Nat) : (back A (i + 1) c ++ q).getD i 0 = c := by
  have h : (back A (i + 1) c).length = i + 1 := back_length A _ _
  rw [List.getD, List.getElem?_append_left (by omega)]
  show (back A i (A.getD c 0).toNat ++ [c])[i]?.getD 0 = c
  rw [List.getElem?_append_right (by rw [back_length]; exact Nat.le_refl _), back_length, Nat.sub_self]; rfl
theorem Bk.step {A : List Int} {n t i c : Nat} {f : Nat → Value} (h : Bk A n t (i + 1) c f) : Bk A n t i (A.getD c 0).toNat (fun x => if x = i then .int .i64 (c : Int) else f x) := by
  obtain ⟨h1, q, hq⟩ := h
  refine ⟨fun x hx hn => ?_, [c] ++ q, by rw [hq, ← List.append_assoc]; rfl⟩
  show (if x = i then _ else f x) = _
  by_cases e : x = i
  · subst e
    rw [if_pos rfl, hq, back_last]
  · rw [if_neg e]; exact h1 x (by omega) hn
/-- The cells on the way back are cells, and what is ahead of each is told. -/
theorem ahead_nat {nx : Nat → List Nat} {N a j : Nat} {R : List Nd} {A : List Int} {F : List Int} (h : Bf nx N a R R.length j) (hA : Ahd R N A) (hF : Far R N F) : ∀ n c, c < N → F.getD c 0 = ((n + 1 : Nat) : Int) → ∃ d : Nat, A.getD c 0 = (d : Int) ∧ d < N ∧ F.getD d 0 = (n : Int) := by
  intro n c hc hn
  have hd : Pt.Fd R c := by
    by_cases e : Pt.Fd R c
    · exact e
    · rw [hF.no c hc e] at hn; omega
  obtain ⟨i, hi, rfl⟩ := hd
  have e := hF.at_ i hi
  have h0 : 0 < i := by
    rcases Nat.eq_zero_or_pos i with e2 | e2
    · subst e2
      rw [h.h0] at e hn
      have e' : F.getD a 0 = 0 := e
      have hn' : F.getD a 0 = ((n + 1 : Nat) : Int) := hn
      omega
    · exact e2
  obtain ⟨p1, p2⟩ := h.par i h0 hi
  refine ⟨(nd R (nd R i).p).c, hA.at_ i h0 hi, h.lt _ (by omega), ?_⟩
  rw [hF.at_ _ (by omega)]
  omega

/-- The way, as it is laid from its end; z: the next place. -/
structure Lay (w0 : World) (A F : List Int) (N n t gw ga : Nat) (z : Int) (c : Nat) (wr : World) : Prop where
  lo : -1 ≤ z
  hi : z < n
  cN : c < N
  fc : F.getD c 0 = z + 1
  cells : ∃ f, Cells gw n f wr ∧ Bk A n t (z + 1).toNat c f
  ah : Cells ga N (ci A) wr
  below : Below w0.heap.size w0 wr
theorem Lay.step {nx : Nat → List Nat} {w0 : World} {A F : List Int} {N n t gw ga a j m c : Nat} {R : List Nd} {wr : World} (hb : Bf nx N a R R.length j) (hA : Ahd R N A) (hF : Far R N F) (hne : ga ≠ gw) (hw : w0.heap.size ≤ gw) (h : Lay w0 A F N n t gw ga (m : Int) c wr) :
    ∃ d : Nat, A.getD c 0 = (d : Int) ∧ Lay w0 A F N n t gw ga ((m : Int) - 1) d (wr.setCell ⟨gw, m, none⟩ (.int .i64 (c : Int))) := by
  obtain ⟨d, h1, h2, h3⟩ := ahead_nat hb hA hF m c h.cN (by rw [h.fc]; rfl)
  obtain ⟨f, hc, hk⟩ := h.cells
  have hlt : m < n := by have := h.hi; omega
  refine ⟨d, h1, by omega, by omega, h2, by rw [h3]; omega, ⟨_, hc.put m _ hlt (fun x _ => rfl), ?_⟩, h.ah.turn (Turn.setCell (F := fun k => k = gw) wr ⟨gw, m, none⟩ _ rfl) hne, h.below.setCell (p := ⟨gw, m, none⟩) hw _⟩
  have hk' : Bk A n t (m + 1) c f := hk
  have := hk'.step
  rw [h1] at this
  rw [show ((m : Int) - 1 + 1).toNat = m by omega]
  exact this
theorem Lay.later {w0 : World} {A F : List Int} {N n t gw ga c : Nat} {z : Int} {wr w' : World} (h : Lay w0 A F N n t gw ga z c wr) (hb : Below wr.heap.size wr w') : Lay w0 A F N n t gw ga z c w' := by
  obtain ⟨f, hc, hk⟩ := h.cells
  exact ⟨h.lo, h.hi, h.cN, h.fc, ⟨f, hc.later hb, hk⟩, h.ah.later hb, h.below.trans (hb.mono h.below.size)⟩

end Go.Proofs.YtellaeihcignaaaGreatDoor
