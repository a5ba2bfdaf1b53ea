/-
  Layer 5: the state of the search (spread).
  Layer 5: the search (spread).
  Layer 5: reach, Dist.
-/
import Derived.Test.YtakgkocdkondhaaGreatDoorPtGa
import Derived.Test.YtakgkocdkondhaaGreatDoorHpBase
set_option linter.unusedVariables false
set_option maxRecDepth 100000
section
namespace Go.Proofs.YtakgkocdkondhaaGreatDoor
open Go.RowKit Fl Pt

/-- What is to be asked for, in order. -/
def qs (R : List Nd) (k : Nat) : List E := (List.range' k (R.length - k)).map fun t => ⟨((nd R t).l : Int), ((nd R t).c : Int), (t : Int)⟩
def ci (F : List Int) : Nat → Value := fun x => .int .i64 (F.getD x 0)
theorem Cells.seti {g N : Nat} {F : List Int} {w : World} (h : Cells g N (ci F) w) (x : Nat) (v : Int) (hx : x < N) (hF : F.length = N) : Cells g N (ci (F.set x v)) (w.setCell ⟨g, x, none⟩ (.int .i64 v)) :=
  h.put x _ hx fun y hy => by
    unfold ci
    by_cases e : y = x
    · subst e; rw [if_pos rfl, Pt.getD_set_eq (by omega)]
    · rw [if_neg e, Pt.getD_set_ne (fun e' => e e'.symm)]

/-- What may be written by the search: the steps that are kept, the heap, what is new. -/
def Tn (gt hb S : Nat) (v : Value) : Nat → Prop := fun k => k = gt ∨ HF hb v k ∨ S ≤ k
/-- The blocks are apart. -/
structure Dj (G gf ga hb : Nat) (v : Value) (Q : Nat → Prop) : Prop where
  a1 : G ≠ gf
  a2 : G ≠ ga
  a3 : gf ≠ ga
  q1 : ¬ Q G
  q2 : ¬ Q gf
  q3 : ¬ Q ga
  h1 : ¬ HF hb v G
  h2 : ¬ HF hb v gf
  h3 : ¬ HF hb v ga
  qh : ∀ k, Q k → ¬ HF hb v k

section
variable {w0 : World} {W H : Nat} {s : ByteArray} {a : Nat} {B : Nat → Bool} {base gl gs gt G hb gf ga : Nat} {v0 : Value} {mv : Nat → Value} {F A : List Int} {R : List Nd} {k j : Nat} {v : Value} {M : List E} {wr : World}

/-- Two marks are made. -/
def two (wr : World) (gf ga x : Nat) (l c : Int) : World := (wr.setCell ⟨gf, x, none⟩ (.int .i64 l)).setCell ⟨ga, x, none⟩ (.int .i64 c)
end
end Go.Proofs.YtakgkocdkondhaaGreatDoor
end

section
namespace Go.Proofs.YtakgkocdkondhaaGreatDoor
open Go.RowKit Fl Pt

theorem ci_rep (N a : Nat) (v : Int) (x : Nat) (hx : x < N) : ci (List.replicate N v) x = .int .i64 v := by
  unfold ci; simp [List.getD, hx]

section
variable {w0 : World} {W H : Nat} {s : ByteArray} {a : Nat} {B : Nat → Bool} {base gl gs gt G hb gf ga : Nat} {v0 : Value} {mv : Nat → Value} {F A : List Int} {R : List Nd} {k j : Nat} {v : Value} {M : List E} {wr : World}
end
section
variable {w0 : World} {W H : Nat} {s : ByteArray} {a : Nat} {B : Nat → Bool} {base gl gs gt G hb gf ga : Nat} {v0 : Value} {mv : Nat → Value} {F A : List Int} {R : List Nd} {k j : Nat} {v : Value} {M : List E} {wr : World}
end


def SpreadTold (W H : Nat) (s : ByteArray) (a : Nat) (B : Nat → Bool) (gt hb : Nat) (v0 : Value) (w : World) (e : Ending) (w' : World) : Prop :=
  ∃ gf ga F A R j v, e = .returned (.tuple #[.slice (some ⟨gf, 0, none⟩) s.size s.size, .slice (some ⟨ga, 0, none⟩) s.size s.size]) ∧ Cells gf s.size (ci F) w' ∧ Cells ga s.size (ci A) w' ∧ Bf (nx5 W H (at_ s) a B) s.size a R R.length j ∧ Far R s.size F ∧ Ahd R s.size A ∧ (w.heap.size ≤ gf ∧ w.heap.size ≤ ga) ∧ Turn (Tn gt hb w.heap.size v0) (Tn gt hb w.heap.size v) w w'

end Go.Proofs.YtakgkocdkondhaaGreatDoor
end

section
namespace Go.Proofs.YtakgkocdkondhaaGreatDoor
open Go.RowKit Fl Pt

def ReachTold5 (W H : Nat) (s : ByteArray) (a : Nat) (B : Nat → Bool) (w : World) (e : Ending) (w' : World) : Prop :=
  ∃ gf ga F A R j, e = .returned (.tuple #[.slice (some ⟨gf, 0, none⟩) s.size s.size, .slice (some ⟨ga, 0, none⟩) s.size s.size]) ∧ Cells gf s.size (ci F) w' ∧ Cells ga s.size (ci A) w' ∧ Bf (nx5 W H (at_ s) a B) s.size a R R.length j ∧ Far R s.size F ∧ Ahd R s.size A ∧ (w.heap.size ≤ gf ∧ w.heap.size ≤ ga) ∧ Below w.heap.size w w'
/-- How far each cell is is told. -/
def DistTold (W H : Int) (s : ByteArray) (c : Int) (B : Nat → Bool) (w : World) (e : Ending) (w' : World) : Prop :=
  ∃ A n cap F, e = .returned (.slice A n cap) ∧ n = F.length ∧ Il w'.heap.size w' A n cap (fun j => F.getD j 0) ∧ Below w.heap.size w w' ∧
    (OnFloor W H s c → F.length = s.size ∧ ∀ x, x < s.size → IsD (nx5 W.toNat H.toNat (at_ s) c.toNat B) c.toNat x (F.getD x 0)) ∧ (¬ OnFloor W H s c → F = [])
end Go.Proofs.YtakgkocdkondhaaGreatDoor
end
