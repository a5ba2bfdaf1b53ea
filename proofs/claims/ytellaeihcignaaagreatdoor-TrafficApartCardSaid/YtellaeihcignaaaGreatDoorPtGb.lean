/-
  Layer 5: the state of the search (spread).
  Layer 5: the search (spread).
  Layer 5: reach, Dist.
-/
import Derived.Test.YtellaeihcignaaaGreatDoorPtGa
import Derived.Test.YtellaeihcignaaaGreatDoorHpBase
set_option linter.unusedVariables false
set_option maxRecDepth 100000
section
namespace Go.Proofs.YtellaeihcignaaaGreatDoor
open Go.RowKit Fl Pt

theorem Turn.wide {F F' G G' : Nat → Prop} {w w' : World} (h : Turn F F' w w') (h1 : ∀ k, F k → G k) (h2 : ∀ k, G' k → G k ∨ w.heap.size ≤ k) : Turn G G' w w' :=
  ⟨h.os, h.tape, h.output, h.size, fun k hk hG => h.block k hk (fun x => hG (h1 k x)), h2⟩

/-- What is to be asked for, in order. -/
def qs (R : List Nd) (k : Nat) : List E := (List.range' k (R.length - k)).map fun t => ⟨((nd R t).l : Int), ((nd R t).c : Int), (t : Int)⟩
theorem qs_cons {R : List Nd} {k : Nat} (h : k < R.length) : qs R k = ⟨((nd R k).l : Int), ((nd R k).c : Int), (k : Int)⟩ :: qs R (k + 1) := by
  unfold qs
  rw [show R.length - k = (R.length - (k + 1)) + 1 by omega, List.range'_succ]; rfl
theorem qs_nil {R : List Nd} : qs R R.length = [] := by unfold qs; rw [Nat.sub_self]; rfl
theorem qs_len (R : List Nd) (k : Nat) : (qs R k).length = R.length - k := by simp [qs]
theorem qs_push {R : List Nd} (x : Nd) {k : Nat} (h : k ≤ R.length) : qs (R ++ [x]) k = qs R k ++ [⟨(x.l : Int), (x.c : Int), (R.length : Int)⟩] := by
  unfold qs
  rw [show (R ++ [x]).length - k = (R.length - k) + 1 by simp; omega, List.range'_concat, List.map_append]
  congr 1
  · apply List.map_congr_left
    intro t ht
    have : t < R.length := by
      rw [List.mem_range'_1] at ht; omega
    rw [nd_old R x this]
  · have e : k + 1 * (R.length - k) = R.length := by omega
    simp only [List.map_cons, List.map_nil, e, nd_new]
theorem ins_last (x : E) : ∀ M : List E, (∀ y, y ∈ M → y.k ≤ x.k) → ins x M = M ++ [x]
  | [], _ => rfl
  | a :: l, h => by
    unfold ins
    rw [if_pos (h a (by simp)), ins_last x l (fun y hy => h y (by simp [hy]))]; rfl
theorem qs_ins {nx : Nat → List Nat} {N a k j : Nat} {R : List Nd} (h : Bf nx N a R k j) (hk : k < R.length) (c p : Nat) : ins ⟨((nd R k).l : Int) + 1, (c : Int), (R.length : Int)⟩ (qs R (k + 1)) = qs (R ++ [⟨c, p, (nd R k).l + 1⟩]) (k + 1) := by
  rw [qs_push _ hk, ins_last]
  · congr 1
  · intro y hy
    obtain ⟨t, ht, rfl⟩ := List.mem_map.1 hy
    rw [List.mem_range'_1] at ht
    have := h.lv_le hk t (by omega)
    show ((nd R t).l : Int) ≤ ((nd R k).l : Int) + 1
    omega

def ci (F : List Int) : Nat → Value := fun x => .int .i64 (F.getD x 0)
theorem Cells.seti {g N : Nat} {F : List Int} {w : World} (h : Cells g N (ci F) w) (x : Nat) (v : Int) (hx : x < N) (hF : F.length = N) : Cells g N (ci (F.set x v)) (w.setCell ⟨g, x, none⟩ (.int .i64 v)) :=
  h.put x _ hx fun y hy => by
    unfold ci
    by_cases e : y = x
    · subst e; rw [if_pos rfl, Pt.getD_set_eq (by omega)]
    · rw [if_neg e, Pt.getD_set_ne (fun e' => e e'.symm)]

/-- What may be written by the search: the steps that are kept, the heap, what is new. -/
def Tn (gt hb S : Nat) (v : Value) : Nat → Prop := fun k => k = gt ∨ HF hb v k ∨ S ≤ k
/-- The blocks are apart. -/
structure Dj (G gf ga hb : Nat) (v : Value) (Q : Nat → Prop) : Prop where
  a1 : G ≠ gf
  a2 : G ≠ ga
  a3 : gf ≠ ga
  q1 : ¬ Q G
  q2 : ¬ Q gf
  q3 : ¬ Q ga
  h1 : ¬ HF hb v G
  h2 : ¬ HF hb v gf
  h3 : ¬ HF hb v ga
  qh : ∀ k, Q k → ¬ HF hb v k

section
variable {w0 : World} {W H : Nat} {s : ByteArray} {a : Nat} {B : Nat → Bool} {base gl gs gt G hb gf ga : Nat} {v0 : Value} {mv : Nat → Value} {F A : List Int} {R : List Nd} {k j : Nat} {v : Value} {M : List E} {wr : World}

/-- Two marks are made. -/
def two (wr : World) (gf ga x : Nat) (l c : Int) : World := (wr.setCell ⟨gf, x, none⟩ (.int .i64 l)).setCell ⟨ga, x, none⟩ (.int .i64 c)
theorem two_turn (wr : World) (gf ga x : Nat) (l c : Int) : Turn (fun k => k = gf ∨ k = ga) (fun k => k = gf ∨ k = ga) wr (two wr gf ga x l c) :=
  ((Turn.refl (fun k => k = gf ∨ k = ga) wr).put _ (.inl rfl)).put _ (.inr rfl)
end
end Go.Proofs.YtellaeihcignaaaGreatDoor
end

section
namespace Go.Proofs.YtellaeihcignaaaGreatDoor
open Go.RowKit Fl Pt

theorem lv_idx {nx : Nat → List Nat} {N a k j : Nat} {R : List Nd} (h : Bf nx N a R k j) : ∀ i, i < R.length → (nd R i).l ≤ i := by
  intro i
  induction i using Nat.strongRecOn with
  | ind i ih =>
    intro hi
    by_cases e : i = 0
    · subst e; rw [h.h0]; exact Nat.le_refl _
    · obtain ⟨a1, a2⟩ := h.par i (by omega) hi
      have := ih _ a1 (by omega)
      omega

theorem ci_rep (N a : Nat) (v : Int) (x : Nat) (hx : x < N) : ci (List.replicate N v) x = .int .i64 v := by
  unfold ci; simp [List.getD, hx]

section
variable {w0 : World} {W H : Nat} {s : ByteArray} {a : Nat} {B : Nat → Bool} {base gl gs gt G hb gf ga : Nat} {v0 : Value} {mv : Nat → Value} {F A : List Int} {R : List Nd} {k j : Nat} {v : Value} {M : List E} {wr : World}
end
section
variable {w0 : World} {W H : Nat} {s : ByteArray} {a : Nat} {B : Nat → Bool} {base gl gs gt G hb gf ga : Nat} {v0 : Value} {mv : Nat → Value} {F A : List Int} {R : List Nd} {k j : Nat} {v : Value} {M : List E} {wr : World}
end


def SpreadTold (W H : Nat) (s : ByteArray) (a : Nat) (B : Nat → Bool) (gt hb : Nat) (v0 : Value) (w : World) (e : Ending) (w' : World) : Prop :=
  ∃ gf ga F A R j v, e = .returned (.tuple #[.slice (some ⟨gf, 0, none⟩) s.size s.size, .slice (some ⟨ga, 0, none⟩) s.size s.size]) ∧ Cells gf s.size (ci F) w' ∧ Cells ga s.size (ci A) w' ∧ Bf (nx5 W H (at_ s) a B) s.size a R R.length j ∧ Far R s.size F ∧ Ahd R s.size A ∧ (w.heap.size ≤ gf ∧ w.heap.size ≤ ga) ∧ Turn (Tn gt hb w.heap.size v0) (Tn gt hb w.heap.size v) w w'

end Go.Proofs.YtellaeihcignaaaGreatDoor
end

section
namespace Go.Proofs.YtellaeihcignaaaGreatDoor
open Go.RowKit Fl Pt

def ReachTold5 (W H : Nat) (s : ByteArray) (a : Nat) (B : Nat → Bool) (w : World) (e : Ending) (w' : World) : Prop :=
  ∃ gf ga F A R j, e = .returned (.tuple #[.slice (some ⟨gf, 0, none⟩) s.size s.size, .slice (some ⟨ga, 0, none⟩) s.size s.size]) ∧ Cells gf s.size (ci F) w' ∧ Cells ga s.size (ci A) w' ∧ Bf (nx5 W H (at_ s) a B) s.size a R R.length j ∧ Far R s.size F ∧ Ahd R s.size A ∧ (w.heap.size ≤ gf ∧ w.heap.size ≤ ga) ∧ Below w.heap.size w w'
theorem foot0 {w : World} {W H : Nat} {s : ByteArray} {a : Nat} {B : Nat → Bool} {base gl gs gt hb : Nat} (hg : Gd w W H s a B base gl gs gt (fun _ => .slice none 0 0)) (hl : hb < base) : ∀ k, GF gl gs gt s.size (fun _ => .slice none 0 0) k → ¬ HF hb (.slice none 0 0) k := fun k hk e => by
  have := (hg.foot k hk).1
  rcases e with e | e
  · omega
  · cases e

/-- How far each cell is is told. -/
def DistTold (W H : Int) (s : ByteArray) (c : Int) (B : Nat → Bool) (w : World) (e : Ending) (w' : World) : Prop :=
  ∃ A n cap F, e = .returned (.slice A n cap) ∧ n = F.length ∧ Il w'.heap.size w' A n cap (fun j => F.getD j 0) ∧ Below w.heap.size w w' ∧
    (OnFloor W H s c → F.length = s.size ∧ ∀ x, x < s.size → IsD (nx5 W.toNat H.toNat (at_ s) c.toNat B) c.toNat x (F.getD x 0)) ∧ (¬ OnFloor W H s c → F = [])
theorem cells_il {g N : Nat} {F : List Int} {w : World} (h : Cells g N (ci F) w) (hN : N ≤ 256) : Il w.heap.size w (some ⟨g, 0, none⟩) N N (fun j => F.getD j 0) :=
  ⟨Nat.le_refl _, by unfold maxLen; omega, (fun e => by cases e), fun _ => ⟨g, 0, rfl, h.1, fun j hj => by rw [Nat.zero_add]; exact (h.2 j hj).1⟩⟩
end Go.Proofs.YtellaeihcignaaaGreatDoor
end
