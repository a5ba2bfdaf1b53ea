/-
  Layer 16: both journals in one memory.
-/
import Derived.Test.YtnamnikelgcepaaJrR
import Derived.Test.YtnamnikelgcepaaJrE
import Derived.Test.YtnamnikelgcepaaJrG
set_option linter.unusedVariables false
set_option maxRecDepth 100000
namespace Go.Proofs.Ytnamnikelgcepaa
namespace Jr
open Go.RowKit Go.Maps Bp Ck
open Dk (D DAt DF op kp pwE apE apD syD cuE cuD IW crN crD ctD RD One)

section
variable {w w' : World} {b1 b2 j g jr q n n' bx : Nat} {v : Value} {d d' : D} {cs : Array Value} {F' : Nat → Prop}
theorem apart_DR (h : DAt w b1 g v d) (r : RD w b2 q d') : ∀ k, DF g v k → k ≠ q := by
  rintro k hk rfl
  obtain ⟨c, t, fz, hh, ht⟩ := h.kind k hk
  have := kind_ne hh r.box
  subst this
  revert ht
  decide
theorem rd_turnD (r : RD w b2 q d') (h : DAt w b1 g v d) (ht : Turn (DF g v) F' w w') : RD w' b2 q d' := r.same (ht.block q r.lt (fun e => apart_DR h r q e rfl))
theorem da_turnR (h : DAt w b1 g v d) (r : RD w b2 q d') (ht : Turn (One q) F' w w') : DAt w' b1 g v d := h.turn ht (fun k hk e => apart_DR h r k hk e)
theorem apart_JR (h : JAt w b1 j g v d n) (r : RJ w b2 jr q d' n') : ∀ k, JF j g v k → ¬ RF jr q k := by
  intro k hk hr
  obtain ⟨c, t, fz, hh, ht⟩ := h.kind k hk
  rcases hr with rfl | rfl
  · have := kind_ne hh r.box
    subst this
    revert ht
    decide
  · have := kind_ne hh r.rd.box
    subst this
    revert ht
    decide
theorem rj_turnJ (r : RJ w b2 jr q d' n') (h : JAt w b1 j g v d n) (ht : Turn (JF j g v) F' w w') : RJ w' b2 jr q d' n' :=
  ⟨(ht.block jr r.lt (fun e => apart_JR h r jr e (.inl rfl))).trans r.box, r.rd.same (ht.block q r.rd.lt (fun e => apart_JR h r q e (.inr rfl))), r.lo⟩
theorem ja_turnR (h : JAt w b1 j g v d n) (r : RJ w b2 jr q d' n') (ht : Turn (RF jr q) F' w w') : JAt w' b1 j g v d n := h.turn ht (fun k hk e => apart_JR h r k hk e)
end
/-- Both journals tell the same. -/
structure Pj (w0 w : World) (j g jr q : Nat) (v : Value) (d : D) (n : Nat) : Prop where
  ja : JAt w w0.heap.size j g v d n
  rj : RJ w w0.heap.size jr q d n
  below : Below w0.heap.size w0 w
/-- The one has acted, the other not yet. -/
structure Pm (w0 w : World) (j g jr q : Nat) (v : Value) (d d' : D) (n n' : Nat) : Prop where
  ja : JAt w w0.heap.size j g v d' n'
  rj : RJ w w0.heap.size jr q d n
  below : Below w0.heap.size w0 w
section
variable {w0 w w' : World} {j g jr q n n' bx : Nat} {v v' : Value} {d d' : D}
theorem Pj.later (h : Pj w0 w j g jr q v d n) (hb : Below w.heap.size w w') : Pj w0 w' j g jr q v d n := ⟨h.ja.later hb, h.rj.later hb, h.below.trans (hb.mono h.below.size)⟩
theorem Pm.later (h : Pm w0 w j g jr q v d d' n n') (hb : Below w.heap.size w w') : Pm w0 w' j g jr q v d d' n n' := ⟨h.ja.later hb, h.rj.later hb, h.below.trans (hb.mono h.below.size)⟩
theorem Pj.left (h : Pj w0 w j g jr q v d n) (hj : JAt w' w0.heap.size j g v' d' n') (ht : Turn (JF j g v) (JF j g v') w w') : Pm w0 w' j g jr q v' d d' n n' :=
  ⟨hj, rj_turnJ h.rj h.ja ht, belowJ h.ja ht h.below (Nat.le_refl _) (Nat.le_refl _)⟩
theorem Pj.leftD (h : Pj w0 w j g jr q v d n) (hn : DAt w' w0.heap.size g v' d') (ht : Turn (DF g v) (DF g v') w w') : Pm w0 w' j g jr q v' d d' n n := h.left (h.ja.act hn ht) (widen ht)
theorem belowR (hr : RJ w w0.heap.size jr q d n) (ht : Turn (RF jr q) (RF jr q) w w') (hb : Below w0.heap.size w0 w) : Below w0.heap.size w0 w' :=
  hb.trans (ht.below w0.heap.size hb.size (fun k hk => by rcases hk with rfl | rfl; exact hr.lo; exact hr.rd.lo))
theorem Pm.right (h : Pm w0 w j g jr q v d d' n n') (hr : RJ w' w0.heap.size jr q d' n') (ht : Turn (RF jr q) (RF jr q) w w') : Pj w0 w' j g jr q v d' n' :=
  ⟨ja_turnR h.ja h.rj ht, hr, belowR h.rj ht h.below⟩
theorem Pm.rightD (h : Pm w0 w j g jr q v d d' n n) (hr : RD w' w0.heap.size q d') (ht : Turn (One q) (One q) w w') : Pj w0 w' j g jr q v d' n := h.right (h.rj.act hr ht) (widenR ht)
/-- The act's box. -/
theorem box_turnR {cs : Array Value} (hx : w.heap[bx]? = some (.cells cs 42 (0, 0))) (hr : RJ w w0.heap.size jr q d n) (ht : Turn (RF jr q) (RF jr q) w w') : w'.heap[bx]? = some (.cells cs 42 (0, 0)) :=
  (ht.block bx (lt_of_heap hx) (fun hf => by
    rcases hf with rfl | rfl
    · have := kind_ne hx hr.box
      revert this
      decide
    · have := kind_ne hx hr.rd.box
      revert this
      decide)).trans hx
theorem fr_few (d : D) (h : d.s.size ≤ 1048576) : (fr d.s).length ≤ 262144 := by
  have h1 := fr_le d.s
  have h2 := wl_le d.s
  omega
/-- Both are opened. -/
theorem both_open {w1 : World} (hd : DAt w1 w0.heap.size g v d) (hr : RD w1 w0.heap.size q d) (hb : Below w0.heap.size w0 w1) (hL : Live d) :
    Calls Try.prog 13 #[.pointer (some ⟨g, 0, none⟩)] w1 fun e w2 => ∃ j A c, e = .returned (.tuple #[.pointer (some ⟨j, 0, none⟩), .slice A (fr d.s).length c, .int .i64 0]) ∧ Below w0.heap.size w0 w2 ∧
      Calls Try.prog 14 #[.pointer (some ⟨q, 0, none⟩)] w2 fun e w' => ∃ jr A' c' v', e = .returned (.tuple #[.pointer (some ⟨jr, 0, none⟩), .slice A' (fr d.s).length c', .int .i64 0]) ∧ Pj w0 w' j g jr q v' (kp d (wl d.s)) (fr d.s).length ∧
        Bss w'.heap.size w' A (fr d.s).length c ((fr d.s).map inn) ∧ Bss w'.heap.size w' A' (fr d.s).length c' ((fr d.s).map inn) := by
  refine (Open_any hd hL.1 hL.2).mono ?_
  rintro e w2 ⟨j, A, c, v', rfl, hj, hl, ht, hjn, _⟩
  have hb2 := belowD hd ht hb (Nat.le_refl _) (Nat.le_refl _)
  have hr2 := rd_turnD hr hd ht
  refine ⟨j, A, c, rfl, hb2, ?_⟩
  refine (rOpen_any hr2 hL hb2.size).mono ?_
  rintro e w' ⟨jr, A', c', rfl, hrj, hl', ht', hjr⟩
  have hja : JAt w' w0.heap.size j g v' (kp d (wl d.s)) (fr d.s).length := hj.turn ht' (fun k hk e => by
    have e : k = q := e
    subst e
    obtain ⟨c2, t2, fz2, hh, ht2⟩ := hj.kind k hk
    have := kind_ne hh hr2.box
    subst this
    revert ht2
    decide)
  exact ⟨jr, A', c', v', rfl, ⟨hja, hrj, hb2.trans (ht'.below _ hb2.size (fun k hk => by have e : k = q := hk; rw [e]; exact hr2.lo))⟩, bss_turnR hl hr2 ht', hl'⟩
end
end Jr
end Go.Proofs.Ytnamnikelgcepaa
