/-
  Layer 5: Find, Is.
-/
import Derived.Test.YtakgkocdkondhaaGreatDoorPtGb
set_option linter.unusedVariables false
set_option maxRecDepth 100000
namespace Go.Proofs.YtakgkocdkondhaaGreatDoor
open Go.RowKit Fl Pt

/-- The first of the shortest ways, or why there is none. -/
def WayIs (W H : Int) (s : ByteArray) (c t : Int) (B : Nat → Bool) (P : List Nat) (er : Int) : Prop :=
  (OnFloor W H s c ∧ OnFloor W H s t ∧ er = 0 ∧ Gr (nx5 W.toNat H.toNat (at_ s) c.toNat B) t.toNat c.toNat P ∧ Lv (nx5 W.toNat H.toNat (at_ s) c.toNat B) c.toNat P.length t.toNat) ∨
  (OnFloor W H s c ∧ OnFloor W H s t ∧ er = 2 ∧ P = [] ∧ ∀ m, ¬ Wk (nx5 W.toNat H.toNat (at_ s) c.toNat B) c.toNat m t.toNat) ∨
  (¬ (OnFloor W H s c ∧ OnFloor W H s t) ∧ er = 1 ∧ P = [])
theorem WayIs.uniq {W H : Int} {s : ByteArray} {c t : Int} {B : Nat → Bool} {P Q : List Nat} {e f : Int} (h : WayIs W H s c t B P e) (k : WayIs W H s c t B Q f) : P = Q ∧ e = f := by
  rcases h with ⟨h1, h2, rfl, h3, h4⟩ | ⟨h1, h2, rfl, rfl, h3⟩ | ⟨h1, rfl, rfl⟩ <;> rcases k with ⟨k1, k2, rfl, k3, k4⟩ | ⟨k1, k2, rfl, rfl, k3⟩ | ⟨k1, rfl, rfl⟩
  · exact ⟨h3.uniq k3 (h4.uniq k4), rfl⟩
  · exact absurd h4.1 (k3 _)
  · exact absurd ⟨h1, h2⟩ k1
  · exact absurd k4.1 (h3 _)
  · exact ⟨rfl, rfl⟩
  · exact absurd ⟨h1, h2⟩ k1
  · exact absurd ⟨k1, k2⟩ h1
  · exact absurd ⟨k1, k2⟩ h1
  · exact ⟨rfl, rfl⟩
def WayTold (W H : Int) (s : ByteArray) (c t : Int) (B : Nat → Bool) (w : World) (e : Ending) (w' : World) : Prop :=
  ∃ A n cap P er, e = .returned (.tuple #[.slice A n cap, .int .i64 er]) ∧ n = P.length ∧ (P.length ≤ 256 ∧ (er = 0 ∨ er = 1 ∨ er = 2)) ∧ Il w'.heap.size w' A n cap (fun j => ((P.getD j 0 : Nat) : Int)) ∧ Below w.heap.size w w' ∧ WayIs W H s c t B P er

/-- So much of the way is told, from its end. -/
structure Bk (A : List Int) (n t : Nat) (i : Nat) (c : Nat) (f : Nat → Value) : Prop where
  tl : ∀ x, i ≤ x → x < n → f x = .int .i64 (((back A n t).getD x 0 : Nat) : Int)
  hd : ∃ q, back A n t = back A i c ++ q
/-- The way, as it is laid from its end; z: the next place. -/
structure Lay (w0 : World) (A F : List Int) (N n t gw ga : Nat) (z : Int) (c : Nat) (wr : World) : Prop where
  lo : -1 ≤ z
  hi : z < n
  cN : c < N
  fc : F.getD c 0 = z + 1
  cells : ∃ f, Cells gw n f wr ∧ Bk A n t (z + 1).toNat c f
  ah : Cells ga N (ci A) wr
  below : Below w0.heap.size w0 wr
end Go.Proofs.YtakgkocdkondhaaGreatDoor
