/-
  Layer 5: the state of the search (spread).
  Layer 5: the search (spread).
  Layer 5: reach, Dist.
-/
import Derived.Test.YtokjnmgbgflgnaaGreatDoorPtGa
import Derived.Test.YtokjnmgbgflgnaaGreatDoorHpWa
set_option linter.unusedVariables false
set_option maxRecDepth 100000
section
namespace Go.Proofs.YtokjnmgbgflgnaaGreatDoor
open Go.RowKit Fl Pt

theorem Turn.wide {F F' G G' : Nat → Prop} {w w' : World} (h : Turn F F' w w') (h1 : ∀ k, F k → G k) (h2 : ∀ k, G' k → G k ∨ w.heap.size ≤ k) : Turn G G' w w' :=
  ⟨h.os, h.tape, h.output, h.size, fun k hk hG => h.block k hk (fun x => hG (h1 k x)), h2⟩

/-- What is to be asked for, in order. -/
def qs (R : List Nd) (k : Nat) : List E := (List.range' k (R.length - k)).map fun t => ⟨((nd R t).l : Int), ((nd R t).c : Int), (t : Int)⟩
theorem qs_cons {R : List Nd} {k : Nat} (h : k < R.length) : qs R k = ⟨((nd R k).l : Int), ((nd R k).c : Int), (k : Int)⟩ :: qs R (k + 1) := by
  unfold qs
  rw [show R.length - k = (R.length - (k + 1)) + 1 by omega, List.range'_succ]; rfl
theorem qs_nil {R : List Nd} : qs R R.length = [] := by unfold qs; rw [Nat.sub_self]; rfl
theorem qs_len (R : List Nd) (k : Nat) : (qs R k).length = R.length - k := by simp [qs]
theorem qs_push {R : List Nd} (x : Nd) {k : Nat} (h : k ≤ R.length) : qs (R ++ [x]) k = qs R k ++ [⟨(x.l : Int), (x.c : Int), (R.length : Int)⟩] := by
  unfold qs
  rw [show (R ++ [x]).length - k = (R.length - k) + 1 by simp; omega, List.range'_concat, List.map_append]
  congr 1
  · apply List.map_congr_left
    intro t ht
    have : t < R.length := by
      rw [List.mem_range'_1] at ht; omega
    rw [nd_old R x this]
  · have e : k + 1 * (R.length - k) = R.length := by omega
    simp only [List.map_cons, List.map_nil, e, nd_new]
theorem ins_last (x : E) : ∀ M : List E, (∀ y, y ∈ M → y.k ≤ x.k) → ins x M = M ++ [x]
  | [], _ => rfl
  | a :: l, h => by
    unfold ins
    rw [if_pos (h a (by simp)), ins_last x l (fun y hy => h y (by simp [hy]))]; rfl
theorem qs_ins {nx : Nat → List Nat} {N a k j : Nat} {R : List Nd} (h : Bf nx N a R k j) (hk : k < R.length) (c p : Nat) : ins ⟨((nd R k).l : Int) + 1, (c : Int), (R.length : Int)⟩ (qs R (k + 1)) = qs (R ++ [⟨c, p, (nd R k).l + 1⟩]) (k + 1) := by
  rw [qs_push _ hk, ins_last]
  · congr 1
  · intro y hy
    obtain ⟨t, ht, rfl⟩ := List.mem_map.1 hy
    rw [List.mem_range'_1] at ht
    have := h.lv_le hk t (by omega)
    show ((nd R t).l : Int) ≤ ((nd R k).l : Int) + 1
    omega

def ci (F : List Int) : Nat → Value := fun x => .int .i64 (F.getD x 0)
theorem Cells.seti {g N : Nat} {F : List Int} {w : World} (h : Cells g N (ci F) w) (x : Nat) (v : Int) (hx : x < N) (hF : F.length = N) : Cells g N (ci (F.set x v)) (w.setCell ⟨g, x, none⟩ (.int .i64 v)) :=
  h.put x _ hx fun y hy => by
    unfold ci
    by_cases e : y = x
    · subst e; rw [if_pos rfl, Pt.getD_set_eq (by omega)]
    · rw [if_neg e, Pt.getD_set_ne (fun e' => e e'.symm)]

/-- What may be written by the search: the steps that are kept, the heap, what is new. -/
def Tn (gt hb S : Nat) (v : Value) : Nat → Prop := fun k => k = gt ∨ HF hb v k ∨ S ≤ k
/-- The blocks are apart. -/
structure Dj (G gf ga hb : Nat) (v : Value) (Q : Nat → Prop) : Prop where
  a1 : G ≠ gf
  a2 : G ≠ ga
  a3 : gf ≠ ga
  q1 : ¬ Q G
  q2 : ¬ Q gf
  q3 : ¬ Q ga
  h1 : ¬ HF hb v G
  h2 : ¬ HF hb v gf
  h3 : ¬ HF hb v ga
  qh : ∀ k, Q k → ¬ HF hb v k
/-- The search, when so many were found, and those ahead of k were gone from. -/
structure Srch (w0 : World) (W H : Nat) (s : ByteArray) (a : Nat) (B : Nat → Bool) (base gl gs gt G hb gf ga : Nat) (v0 : Value) (mv : Nat → Value) (F A : List Int) (R : List Nd) (k j : Nat) (v : Value) (M : List E) (wr : World) : Prop where
  box : Gx G W H s gl gs gt wr
  gd : Gd wr W H s a B base gl gs gt mv
  hp : HAt wr hb v M R.length
  fr : Cells gf s.size (ci F) wr
  ah : Cells ga s.size (ci A) wr
  bf : Bf (nx5 W H (at_ s) a B) s.size a R k j
  far : Far R s.size F
  ahd : Ahd R s.size A
  dj : Dj G gf ga hb v (GF gl gs gt s.size mv)
  sg : w0.heap.size ≤ gf ∧ w0.heap.size ≤ ga ∧ base ≤ w0.heap.size
  turn : Turn (Tn gt hb w0.heap.size v0) (Tn gt hb w0.heap.size v) w0 wr
/-- An item's box. -/
structure Ib (D : Nat) (x y : Int) (G gf ga hb : Nat) (v : Value) (Q : Nat → Prop) (wr : World) : Prop where
  row : wr.heap[D]? = some (.cells #[.int .i64 x, .int .i64 y] 131 (0, 0))
  a1 : D ≠ G
  a2 : D ≠ gf
  a3 : D ≠ ga
  q : ¬ Q D
  h : ¬ HF hb v D
theorem Ib.cells {D : Nat} {x y : Int} {G gf ga hb : Nat} {v : Value} {Q : Nat → Prop} {wr : World} (h : Ib D x y G gf ga hb v Q wr) : wr.cell? ⟨D, 0, none⟩ = some (.int .i64 x) ∧ wr.cell? ⟨D, 1, none⟩ = some (.int .i64 y) :=
  ⟨by rw [cell_of_row wr D 0 _ _ _ h.row]; rfl, by rw [cell_of_row wr D 1 _ _ _ h.row]; rfl⟩

section
variable {w0 : World} {W H : Nat} {s : ByteArray} {a : Nat} {B : Nat → Bool} {base gl gs gt G hb gf ga : Nat} {v0 : Value} {mv : Nat → Value} {F A : List Int} {R : List Nd} {k j : Nat} {v : Value} {M : List E} {wr : World}

/-- Whatever is new. -/
theorem Srch.later (h : Srch w0 W H s a B base gl gs gt G hb gf ga v0 mv F A R k j v M wr) {w' : World} (hb' : Below wr.heap.size wr w') : Srch w0 W H s a B base gl gs gt G hb gf ga v0 mv F A R k j v M w' :=
  ⟨h.box.later hb', h.gd.later hb', h.hp.below hb', h.fr.later hb', h.ah.later hb', h.bf, h.far, h.ahd, h.dj, h.sg, h.turn.trans (Turn.ofBelow hb' _)⟩
theorem Ib.later {D : Nat} {x y : Int} {Q : Nat → Prop} (h : Ib D x y G gf ga hb v Q wr) {w' : World} (hb' : Below wr.heap.size wr w') : Ib D x y G gf ga hb v Q w' :=
  ⟨(hb'.block D (lt_of_heap h.row)).trans h.row, h.a1, h.a2, h.a3, h.q, h.h⟩
/-- Behind next. -/
theorem Srch.next (h : Srch w0 W H s a B base gl gs gt G hb gf ga v0 mv F A R k j v M wr) {w' : World} {mv' : Nat → Value} (hg : Gd w' W H s a B base gl gs gt mv') (ht : Turn (fun k => k = gt) (fun k => k = gt) wr w')
    (hf : ∀ k, GF gl gs gt s.size mv' k → GF gl gs gt s.size mv k ∨ wr.heap.size ≤ k) : Srch w0 W H s a B base gl gs gt G hb gf ga v0 mv' F A R k j v M w' := by
  have hgt : GF gl gs gt s.size mv gt := .inr (.inr (.inl rfl))
  have d := h.dj
  have nG : G ≠ gt := fun e => d.q1 (by rw [e]; exact hgt)
  have nf : gf ≠ gt := fun e => d.q2 (by rw [e]; exact hgt)
  have na : ga ≠ gt := fun e => d.q3 (by rw [e]; exact hgt)
  have hh : ∀ k, HF hb v k → k ≠ gt := fun k hk e => d.qh gt hgt (by rw [← e]; exact hk)
  have lG := h.box.lt
  have lf := h.fr.1
  have la := h.ah.1
  have lh : ∀ k, HF hb v k → k < wr.heap.size := fun k hk => (h.hp.owned k hk).2
  refine ⟨h.box.turn ht nG, hg, h.hp.same (fun k hk => ht.block k (lh k hk) (hh k hk)), h.fr.turn ht nf, h.ah.turn ht na, h.bf, h.far, h.ahd,
    ⟨d.a1, d.a2, d.a3, fun x => ?_, fun x => ?_, fun x => ?_, d.h1, d.h2, d.h3, fun k hk hk2 => ?_⟩, h.sg, h.turn.trans (ht.wide (fun k hk => .inl hk) (fun k hk => .inl hk))⟩
  · rcases hf G x with y | y
    · exact d.q1 y
    · omega
  · rcases hf gf x with y | y
    · exact d.q2 y
    · omega
  · rcases hf ga x with y | y
    · exact d.q3 y
    · omega
  · rcases hf k hk with y | y
    · exact d.qh k y hk2
    · have := lh k hk2; omega
theorem Ib.next {D : Nat} {x y : Int} (h : Ib D x y G gf ga hb v (GF gl gs gt s.size mv) wr) {w' : World} {mv' : Nat → Value} (ht : Turn (fun k => k = gt) (fun k => k = gt) wr w')
    (hf : ∀ k, GF gl gs gt s.size mv' k → GF gl gs gt s.size mv k ∨ wr.heap.size ≤ k) : Ib D x y G gf ga hb v (GF gl gs gt s.size mv') w' := by
  have lD := lt_of_heap h.row
  have nD : D ≠ gt := fun e => h.q (by rw [e]; exact .inr (.inr (.inl rfl)))
  exact ⟨(ht.block D lD nD).trans h.row, h.a1, h.a2, h.a3, fun x => by rcases hf D x with y | y; exact h.q y; omega, h.h⟩
/-- Two marks are made. -/
def two (wr : World) (gf ga x : Nat) (l c : Int) : World := (wr.setCell ⟨gf, x, none⟩ (.int .i64 l)).setCell ⟨ga, x, none⟩ (.int .i64 c)
theorem two_turn (wr : World) (gf ga x : Nat) (l c : Int) : Turn (fun k => k = gf ∨ k = ga) (fun k => k = gf ∨ k = ga) wr (two wr gf ga x l c) :=
  ((Turn.refl (fun k => k = gf ∨ k = ga) wr).put _ (.inl rfl)).put _ (.inr rfl)
theorem Srch.hp2 (h : Srch w0 W H s a B base gl gs gt G hb gf ga v0 mv F A R k j v M wr) (x : Nat) (l c : Int) : HAt (two wr gf ga x l c) hb v M R.length :=
  h.hp.same fun k hk => (two_turn wr gf ga x l c).block k (h.hp.owned k hk).2 (fun e => by
    rcases e with e | e
    · exact h.dj.h2 (e ▸ hk)
    · exact h.dj.h3 (e ▸ hk))
/-- A cell is found: it is marked, and pushed. -/
theorem Srch.found (h : Srch w0 W H s a B base gl gs gt G hb gf ga v0 mv F A R k j v (qs R (k + 1)) wr) (hk : k < R.length) (hj : j < (nx5 W H (at_ s) a B (nd R k).c).length) (hf : ¬ Pt.Fd R ((nx5 W H (at_ s) a B (nd R k).c).getD j 0)) (hN : (nx5 W H (at_ s) a B (nd R k).c).getD j 0 < s.size)
    {w' : World} {v' : Value} (hp : HAt w' hb v' (ins ⟨((nd R k).l : Int) + 1, (((nx5 W H (at_ s) a B (nd R k).c).getD j 0 : Nat) : Int), (R.length : Int)⟩ (qs R (k + 1))) (R.length + 1)) (ht : Turn (HF hb v) (HF hb v') (two wr gf ga ((nx5 W H (at_ s) a B (nd R k).c).getD j 0) (((nd R k).l : Int) + 1) ((nd R k).c : Int)) w') :
    Srch w0 W H s a B base gl gs gt G hb gf ga v0 mv (F.set ((nx5 W H (at_ s) a B (nd R k).c).getD j 0) (((nd R k).l : Int) + 1)) (A.set ((nx5 W H (at_ s) a B (nd R k).c).getD j 0) ((nd R k).c : Int)) (R ++ [⟨(nx5 W H (at_ s) a B (nd R k).c).getD j 0, k, (nd R k).l + 1⟩]) k (j + 1) v' (qs (R ++ [⟨(nx5 W H (at_ s) a B (nd R k).c).getD j 0, k, (nd R k).l + 1⟩]) (k + 1)) w' := by
  have hbf := h.bf.push hk hj hf hN
  rw [qs_ins h.bf hk _ k] at hp
  generalize (nx5 W H (at_ s) a B (nd R k).c).getD j 0 = x at *
  have d := h.dj
  have t2 := two_turn wr gf ga x (((nd R k).l : Int) + 1) ((nd R k).c : Int)
  have lH : ∀ k, HF hb v' k → HF hb v k ∨ wr.heap.size ≤ k := fun k hk => by
    rcases ht.foot k hk with y | y
    · exact .inl y
    · exact .inr (Nat.le_trans t2.size y)
  have nG : ¬ (G = gf ∨ G = ga) := fun e => by rcases e with e | e; exact d.a1 e; exact d.a2 e
  have nQ : ∀ k, GF gl gs gt s.size mv k → ¬ (k = gf ∨ k = ga) := fun k hk e => by
    rcases e with e | e
    · exact d.q2 (e ▸ hk)
    · exact d.q3 (e ▸ hk)
  have lG := h.box.lt
  have lf := h.fr.1
  have la := h.ah.1
  have hF := h.far.len
  have hA := h.ahd.len
  have f1 : Cells gf s.size (ci (F.set x (((nd R k).l : Int) + 1))) (two wr gf ga x (((nd R k).l : Int) + 1) ((nd R k).c : Int)) :=
    (h.fr.seti x _ hN hF).turn (Turn.setCell (F := fun k => k = ga) _ ⟨ga, x, none⟩ _ rfl) d.a3
  have f2 : Cells ga s.size (ci (A.set x ((nd R k).c : Int))) (two wr gf ga x (((nd R k).l : Int) + 1) ((nd R k).c : Int)) :=
    (h.ah.turn (Turn.setCell (F := fun k => k = gf) wr ⟨gf, x, none⟩ _ rfl) (fun e => d.a3 e.symm)).seti x _ hN hA
  refine ⟨(h.box.turn t2 nG).turn ht d.h1, (h.gd.turn t2 nQ).turn ht d.qh, by rw [List.length_append]; exact hp, f1.turn ht d.h2, f2.turn ht d.h3, hbf, ?_, ?_,
    ⟨d.a1, d.a2, d.a3, d.q1, d.q2, d.q3, fun e => ?_, fun e => ?_, fun e => ?_, fun k hk hk2 => ?_⟩, h.sg, ?_⟩
  · have := h.far.push ⟨x, k, (nd R k).l + 1⟩ hN hf
    simpa using this
  · have := h.ahd.push ⟨x, k, (nd R k).l + 1⟩ hN hf hk (fun i h0 hi => (h.bf.par i h0 hi).1)
    simpa using this
  · rcases lH G e with y | y
    · exact d.h1 y
    · omega
  · rcases lH gf e with y | y
    · exact d.h2 y
    · omega
  · rcases lH ga e with y | y
    · exact d.h3 y
    · omega
  · rcases lH k hk2 with y | y
    · exact d.qh k hk y
    · have := (h.gd.foot k hk).2; omega
  · refine (h.turn.trans (t2.wide (G := Tn gt hb w0.heap.size v) (G' := Tn gt hb w0.heap.size v) (fun k hk => ?_) (fun k hk => .inl hk))).trans (ht.wide (fun k hk => .inr (.inl hk)) (fun k hk => ?_))
    · rcases hk with e | e
      · exact .inr (.inr (by rw [e]; exact h.sg.1))
      · exact .inr (.inr (by rw [e]; exact h.sg.2.1))
    · rcases hk with e | e | e
      · exact .inl (.inl e)
      · rcases ht.foot k e with y | y
        · exact .inl (.inr (.inl y))
        · exact .inr y
      · exact .inl (.inr (.inr e))
theorem Ib.found {D : Nat} {x y : Int} {Q : Nat → Prop} (h : Ib D x y G gf ga hb v Q wr) {w' : World} {v' : Value} {c : Nat} {l u : Int} (ht : Turn (HF hb v) (HF hb v') (two wr gf ga c l u) w') : Ib D x y G gf ga hb v' Q w' := by
  have t2 := two_turn wr gf ga c l u
  have lD := lt_of_heap h.row
  have e1 : (two wr gf ga c l u).heap[D]? = wr.heap[D]? := t2.block D lD (fun e => by rcases e with e | e; exact h.a2 e; exact h.a3 e)
  refine ⟨((ht.block D (Nat.lt_of_lt_of_le lD t2.size) h.h).trans e1).trans h.row, h.a1, h.a2, h.a3, h.q, fun e => ?_⟩
  rcases ht.foot D e with z | z
  · exact h.h z
  · have := t2.size; omega
/-- The next one is taken out. -/
theorem Srch.popped (h : Srch w0 W H s a B base gl gs gt G hb gf ga v0 mv F A R k j v M wr) {k' j' : Nat} (hb' : Bf (nx5 W H (at_ s) a B) s.size a R k' j') {M' : List E} {w' : World} {v' : Value} (hp : HAt w' hb v' M' R.length) (ht : Turn (HF hb v) (HF hb v') wr w') :
    Srch w0 W H s a B base gl gs gt G hb gf ga v0 mv F A R k' j' v' M' w' := by
  have d := h.dj
  have lH := ht.foot
  have lG := h.box.lt
  have lf := h.fr.1
  have la := h.ah.1
  refine ⟨h.box.turn ht d.h1, h.gd.turn ht d.qh, hp, h.fr.turn ht d.h2, h.ah.turn ht d.h3, hb', h.far, h.ahd,
    ⟨d.a1, d.a2, d.a3, d.q1, d.q2, d.q3, fun e => ?_, fun e => ?_, fun e => ?_, fun k hk hk2 => ?_⟩, h.sg, h.turn.trans (ht.wide (fun k hk => .inr (.inl hk)) (fun k hk => ?_))⟩
  · rcases lH G e with y | y
    · exact d.h1 y
    · omega
  · rcases lH gf e with y | y
    · exact d.h2 y
    · omega
  · rcases lH ga e with y | y
    · exact d.h3 y
    · omega
  · rcases lH k hk2 with y | y
    · exact d.qh k hk y
    · have := (h.gd.foot k hk).2; omega
  · rcases hk with e | e | e
    · exact .inl (.inl e)
    · rcases lH k e with y | y
      · exact .inl (.inr (.inl y))
      · exact .inr y
    · exact .inl (.inr (.inr e))
theorem Srch.skip (h : Srch w0 W H s a B base gl gs gt G hb gf ga v0 mv F A R k j v M wr) {k' j' : Nat} (hb' : Bf (nx5 W H (at_ s) a B) s.size a R k' j') : Srch w0 W H s a B base gl gs gt G hb gf ga v0 mv F A R k' j' v M wr :=
  ⟨h.box, h.gd, h.hp, h.fr, h.ah, hb', h.far, h.ahd, h.dj, h.sg, h.turn⟩
end
end Go.Proofs.YtokjnmgbgflgnaaGreatDoor
end

section
namespace Go.Proofs.YtokjnmgbgflgnaaGreatDoor
open Go.RowKit Fl Pt

theorem lv_idx {nx : Nat → List Nat} {N a k j : Nat} {R : List Nd} (h : Bf nx N a R k j) : ∀ i, i < R.length → (nd R i).l ≤ i := by
  intro i
  induction i using Nat.strongRecOn with
  | ind i ih =>
    intro hi
    by_cases e : i = 0
    · subst e; rw [h.h0]; exact Nat.le_refl _
    · obtain ⟨a1, a2⟩ := h.par i (by omega) hi
      have := ih _ a1 (by omega)
      omega
/-- All is laid, ahead of the first push. -/
structure Pre (w : World) (W H : Nat) (s : ByteArray) (a : Nat) (B : Nat → Bool) (base gl gs gt hb gf ga : Nat) (v0 : Value) (w2 : World) : Prop where
  box : Gx w.heap.size W H s gl gs gt w2
  gd : Gd w2 W H s a B base gl gs gt (fun _ => .slice none 0 0)
  hp : HAt w2 hb v0 [] 0
  fr : Cells gf s.size (fun _ => .int .i64 (-1)) w2
  ah : Cells ga s.size (fun _ => .int .i64 0) w2
  o1 : w.heap.size < gf
  o2 : gf < ga
  below : Below w.heap.size w w2
  fg : ∀ k, GF gl gs gt s.size (fun _ => .slice none 0 0) k → k < w.heap.size ∧ ¬ HF hb v0 k
  fh : ∀ k, HF hb v0 k → k < w.heap.size
  ba : base ≤ w.heap.size
theorem pre_of {w w1 w2 : World} {W H : Nat} {s : ByteArray} {a : Nat} {B : Nat → Bool} {base gl gs gt hb gf : Nat} {v0 : Value} {u : Value} (hg : Gd w W H s a B base gl gs gt (fun _ => .slice none 0 0)) (hh : HAt w hb v0 [] 0) (hq : ∀ k, GF gl gs gt s.size (fun _ => .slice none 0 0) k → ¬ HF hb v0 k) (hba : base ≤ w.heap.size)
    (hb1 : Below ((w.alloc (.cells #[.int .i64 (W : Int), .int .i64 (H : Int), .string s, .slice (some ⟨gl, 0, none⟩) s.size s.size, .slice (some ⟨gs, 0, none⟩) s.size s.size, .slice (some ⟨gt, 0, none⟩) s.size s.size] 99)).alloc (.cells #[u] 3)).heap.size
      ((w.alloc (.cells #[.int .i64 (W : Int), .int .i64 (H : Int), .string s, .slice (some ⟨gl, 0, none⟩) s.size s.size, .slice (some ⟨gs, 0, none⟩) s.size s.size, .slice (some ⟨gt, 0, none⟩) s.size s.size] 99)).alloc (.cells #[u] 3)) w1)
    (hcf : Cells gf s.size (fun _ => .int .i64 (-1)) w1) (hgf : ((w.alloc (.cells #[.int .i64 (W : Int), .int .i64 (H : Int), .string s, .slice (some ⟨gl, 0, none⟩) s.size s.size, .slice (some ⟨gs, 0, none⟩) s.size s.size, .slice (some ⟨gt, 0, none⟩) s.size s.size] 99)).alloc (.cells #[u] 3)).heap.size ≤ gf)
    (ho : w2.ownsRow w1.heap.size 3 1 (.slice (some ⟨w1.heap.size, 0, none⟩) s.size s.size) s.size (madeCells (Value.int .i64 0).cells (s.size * 1)).toList) (hg1 : w1.grownBy w2 none) :
    Pre w W H s a B base gl gs gt hb gf w1.heap.size v0 w2 := by
  have e0 := alloc_size w (.cells #[.int .i64 (W : Int), .int .i64 (H : Int), .string s, .slice (some ⟨gl, 0, none⟩) s.size s.size, .slice (some ⟨gs, 0, none⟩) s.size s.size, .slice (some ⟨gt, 0, none⟩) s.size s.size] 99)
  have hx0 : Gx w.heap.size W H s gl gs gt (w.alloc (.cells #[.int .i64 (W : Int), .int .i64 (H : Int), .string s, .slice (some ⟨gl, 0, none⟩) s.size s.size, .slice (some ⟨gs, 0, none⟩) s.size s.size, .slice (some ⟨gt, 0, none⟩) s.size s.size] 99)) := heap_alloc_new w _
  have b0 : Below w.heap.size w (w.alloc (.cells #[.int .i64 (W : Int), .int .i64 (H : Int), .string s, .slice (some ⟨gl, 0, none⟩) s.size s.size, .slice (some ⟨gs, 0, none⟩) s.size s.size, .slice (some ⟨gt, 0, none⟩) s.size s.size] 99)) := (Below.refl _ w).alloc (Nat.le_refl _) _
  generalize w.alloc (.cells #[.int .i64 (W : Int), .int .i64 (H : Int), .string s, .slice (some ⟨gl, 0, none⟩) s.size s.size, .slice (some ⟨gs, 0, none⟩) s.size s.size, .slice (some ⟨gt, 0, none⟩) s.size s.size] 99) = wa at *
  have e1 := alloc_size wa (.cells #[u] 3)
  have b1 : Below wa.heap.size wa (wa.alloc (.cells #[u] 3)) := (Below.refl _ wa).alloc (Nat.le_refl _) _
  generalize wa.alloc (.cells #[u] 3) = wb at *
  have b2 : Below w1.heap.size w1 w2 := Below.grown (Below.refl w1.heap.size w1) hg1 (Nat.le_refl _) (fun k hk => by cases hk)
  have b01 : Below w.heap.size w wb := b0.trans (b1.mono b0.size)
  have b02 : Below w.heap.size w w1 := b01.trans (hb1.mono b01.size)
  have b03 : Below w.heap.size w w2 := b02.trans (b2.mono b02.size)
  have l1 := hcf.1
  exact ⟨(((hx0.later b1).later hb1).later b2), hg.later b03, hh.below b03, hcf.later b2, Cells.made rfl ho, by omega, l1, b03, fun k hk => ⟨(hg.foot k hk).2, hq k hk⟩, fun k hk => (hh.owned k hk).2, hba⟩

theorem gx_at {w w1 : World} {W H : Nat} {s : ByteArray} {gl gs gt : Nat} {u : Value}
    (hb1 : Below ((w.alloc (.cells #[.int .i64 (W : Int), .int .i64 (H : Int), .string s, .slice (some ⟨gl, 0, none⟩) s.size s.size, .slice (some ⟨gs, 0, none⟩) s.size s.size, .slice (some ⟨gt, 0, none⟩) s.size s.size] 99)).alloc (.cells #[u] 3)).heap.size
      ((w.alloc (.cells #[.int .i64 (W : Int), .int .i64 (H : Int), .string s, .slice (some ⟨gl, 0, none⟩) s.size s.size, .slice (some ⟨gs, 0, none⟩) s.size s.size, .slice (some ⟨gt, 0, none⟩) s.size s.size] 99)).alloc (.cells #[u] 3)) w1) : Gx w.heap.size W H s gl gs gt w1 :=
  Gx.later (Gx.later (show Gx w.heap.size W H s gl gs gt _ from heap_alloc_new w _) ((Below.refl _ _).alloc (Nat.le_refl _) _)) hb1
theorem ci_rep (N a : Nat) (v : Int) (x : Nat) (hx : x < N) : ci (List.replicate N v) x = .int .i64 v := by
  unfold ci; simp [List.getD, hx]
theorem Pre.search {w w2 w4 : World} {W H : Nat} {s : ByteArray} {a : Nat} {B : Nat → Bool} {base gl gs gt hb gf ga : Nat} {v0 v4 : Value} (h : Pre w W H s a B base gl gs gt hb gf ga v0 w2) (ha : a < s.size)
    (hp : HAt w4 hb v4 (ins ⟨0, (a : Int), (0 : Nat)⟩ []) (0 + 1)) (ht : Turn (HF hb v0) (HF hb v4) (w2.setCell ⟨gf, a, none⟩ (.int .i64 0)) w4) :
    Srch w W H s a B base gl gs gt w.heap.size hb gf ga v0 (fun _ => .slice none 0 0) ((List.replicate s.size (-1)).set a 0) (List.replicate s.size 0) [⟨a, 0, 0⟩] 0 0 v4 (qs [⟨a, 0, 0⟩] 0) w4 := by
  have t2 : Turn (fun k => k = gf) (fun k => k = gf) w2 (w2.setCell ⟨gf, a, none⟩ (.int .i64 0)) := Turn.setCell w2 ⟨gf, a, none⟩ _ rfl
  have lf := h.fr.1
  have la := h.ah.1
  have o1 := h.o1
  have o2 := h.o2
  have hsz := t2.size
  have hw := h.below.size
  have lG := h.box.lt
  have nh : ∀ k, w.heap.size ≤ k → k < w2.heap.size → ¬ HF hb v4 k := fun k hk hk2 e => by
    rcases ht.foot k e with y | y
    · have := h.fh k y; omega
    · omega
  have f1 : Cells gf s.size (ci ((List.replicate s.size (-1)).set a 0)) (w2.setCell ⟨gf, a, none⟩ (.int .i64 0)) := (h.fr.congr (fun x hx => (ci_rep s.size a (-1) x hx).symm)).seti a 0 ha (by simp)
  have f2 : Cells ga s.size (ci (List.replicate s.size 0)) (w2.setCell ⟨gf, a, none⟩ (.int .i64 0)) := (h.ah.congr (fun x hx => (ci_rep s.size a 0 x hx).symm)).turn t2 (by omega)
  refine ⟨(h.box.turn t2 (by omega)).turn ht (fun e => by have := h.fh _ e; omega), (h.gd.turn t2 (fun k hk e => by have := (h.fg k hk).1; omega)).turn ht (fun k hk => (h.fg k hk).2), hp,
    f1.turn ht (fun e => by have := h.fh _ e; omega), f2.turn ht (fun e => by have := h.fh _ e; omega), Bf.start _ _ _ ha, Far.start a s.size ha, Ahd.start a s.size _ (by simp), ?_, ⟨by omega, by omega, h.ba⟩, ?_⟩
  · refine ⟨by omega, by omega, by omega, fun e => by have := (h.fg _ e).1; omega, fun e => by have := (h.fg _ e).1; omega, fun e => by have := (h.fg _ e).1; omega, nh _ (Nat.le_refl _) lG, nh _ (by omega) lf, nh _ (by omega) la, fun k hk hk2 => ?_⟩
    rcases ht.foot k hk2 with y | y
    · exact (h.fg k hk).2 y
    · have := (h.fg k hk).1; omega
  · refine ((Turn.ofBelow h.below (Tn gt hb w.heap.size v0)).trans (t2.wide (G := Tn gt hb w.heap.size v0) (G' := Tn gt hb w.heap.size v0) (fun k hk => .inr (.inr (by omega))) (fun k hk => .inl hk))).trans (ht.wide (fun k hk => .inr (.inl hk)) (fun k hk => ?_))
    rcases hk with e | e | e
    · exact .inl (.inl e)
    · rcases ht.foot k e with y | y
      · exact .inl (.inr (.inl y))
      · exact .inr y
    · exact .inl (.inr (.inr e))
theorem Pre.begun {w w2 w4 : World} {W H : Nat} {s : ByteArray} {a : Nat} {B : Nat → Bool} {base gl gs gt hb gf ga : Nat} {v0 v4 : Value} (h : Pre w W H s a B base gl gs gt hb gf ga v0 w2) (ha : a < s.size)
    (hp : HAt w4 hb v4 (ins ⟨0, (a : Int), (0 : Nat)⟩ []) (0 + 1)) (ht : Turn (HF hb v0) (HF hb v4) (w2.setCell ⟨gf, a, none⟩ (.int .i64 0)) w4) :
    ∃ F A R, Srch w W H s a B base gl gs gt w.heap.size hb gf ga v0 (fun _ => .slice none 0 0) F A R 0 0 v4 (qs R 0) w4 ∧ 0 < R.length := ⟨_, _, _, h.search ha hp ht, by simp⟩
/-- A new box for an item. -/
theorem ib_new {w0 : World} {W H : Nat} {s : ByteArray} {a : Nat} {B : Nat → Bool} {base gl gs gt G hb gf ga : Nat} {v0 : Value} {mv : Nat → Value} {F A : List Int} {R : List Nd} {k j : Nat} {v : Value} {M : List E} {wr : World} (h : Srch w0 W H s a B base gl gs gt G hb gf ga v0 mv F A R k j v M wr) {w' : World} {D : Nat} (x y : Int)
    (hD : wr.heap.size ≤ D) (hr : w'.heap[D]? = some (.cells #[.int .i64 x, .int .i64 y] 131 (0, 0))) : Ib D x y G gf ga hb v (GF gl gs gt s.size mv) w' := by
  have lG := h.box.lt
  have lf := h.fr.1
  have la := h.ah.1
  exact ⟨hr, by omega, by omega, by omega, fun e => by have := (h.gd.foot D e).2; omega, fun e => by have := (h.hp.owned D e).2; omega⟩

theorem Pre.hpx {w w2 : World} {W H : Nat} {s : ByteArray} {a : Nat} {B : Nat → Bool} {base gl gs gt hb gf ga : Nat} {v0 : Value} (h : Pre w W H s a B base gl gs gt hb gf ga v0 w2) (x : Nat) : HAt (w2.setCell ⟨gf, x, none⟩ (.int .i64 0)) hb v0 [] 0 :=
  h.hp.same fun k hk => (Turn.setCell (F := fun k => k = gf) w2 ⟨gf, x, none⟩ _ rfl).block k (h.hp.owned k hk).2 (fun e => by have := h.fh k hk; have := h.o1; omega)
section
variable {w0 : World} {W H : Nat} {s : ByteArray} {a : Nat} {B : Nat → Bool} {base gl gs gt G hb gf ga : Nat} {v0 : Value} {mv : Nat → Value} {F A : List Int} {R : List Nd} {k j : Nat} {v : Value} {M : List E} {wr : World}
theorem pop_srch {k' : Nat} (h : Srch w0 W H s a B base gl gs gt G hb gf ga v0 mv F A R k j v (qs R k') wr) (hk : k' < R.length) :
    Calls Tryz.prog 76 #[.pointer (some ⟨hb, 0, none⟩)] wr fun e w' => e = .returned (.tuple #[.agg #[.int .i64 ((nd R k').l : Int), .int .i64 ((nd R k').c : Int)], .bool true]) ∧ ∃ v', HAt w' hb v' (qs R (k' + 1)) R.length ∧ Turn (HF hb v) (HF hb v') wr w' := by
  have hp := h.hp
  rw [qs_cons hk] at hp
  exact (pop_any hb v _ R.length wr hp).mono fun e w' ⟨h1, v', h2, h3⟩ => ⟨h1, v', h2, h3⟩
theorem pop_srch_end (h : Srch w0 W H s a B base gl gs gt G hb gf ga v0 mv F A R k j v [] wr) :
    Calls Tryz.prog 76 #[.pointer (some ⟨hb, 0, none⟩)] wr fun e w' => e = .returned (.tuple #[.agg #[.int .i64 0, .int .i64 0], .bool false]) ∧ ∃ v', HAt w' hb v' [] R.length ∧ Turn (HF hb v) (HF hb v') wr w' :=
  (pop_any hb v _ R.length wr h.hp).mono fun e w' ⟨h1, v', h2, h3⟩ => ⟨h1, v', h2, h3⟩
end
section
variable {w0 : World} {W H : Nat} {s : ByteArray} {a : Nat} {B : Nat → Bool} {base gl gs gt G hb gf ga : Nat} {v0 : Value} {mv : Nat → Value} {F A : List Int} {R : List Nd} {k j : Nat} {v : Value} {M : List E} {wr : World}
/-- An item is stored in its box. -/
theorem Srch.store {D : Nat} {x y : Int} (h : Srch w0 W H s a B base gl gs gt G hb gf ga v0 mv F A R k j v M wr) (hi : Ib D x y G gf ga hb v (GF gl gs gt s.size mv) wr) (hD : w0.heap.size ≤ D) (x' y' : Int) :
    Srch w0 W H s a B base gl gs gt G hb gf ga v0 mv F A R k j v M ((wr.setCell ⟨D, 0, none⟩ (.int .i64 x')).setCell ⟨D, 1, none⟩ (.int .i64 y')) ∧ Ib D x' y' G gf ga hb v (GF gl gs gt s.size mv) ((wr.setCell ⟨D, 0, none⟩ (.int .i64 x')).setCell ⟨D, 1, none⟩ (.int .i64 y')) := by
  have t2 : Turn (fun k => k = D) (fun k => k = D) wr ((wr.setCell ⟨D, 0, none⟩ (.int .i64 x')).setCell ⟨D, 1, none⟩ (.int .i64 y')) := ((Turn.refl (fun k => k = D) wr).put _ rfl).put _ rfl
  refine ⟨⟨h.box.turn t2 (fun e => hi.a1 e.symm), h.gd.turn t2 (fun k hk e => hi.q (e ▸ hk)), h.hp.same (fun k hk => t2.block k (h.hp.owned k hk).2 (fun e => hi.h (e ▸ hk))), h.fr.turn t2 (fun e => hi.a2 e.symm), h.ah.turn t2 (fun e => hi.a3 e.symm), h.bf, h.far, h.ahd, h.dj, h.sg,
    h.turn.trans (t2.wide (G := Tn gt hb w0.heap.size v) (fun k hk => .inr (.inr (by rw [show k = D from hk]; exact hD))) (fun k hk => .inl hk))⟩, ⟨?_, hi.a1, hi.a2, hi.a3, hi.q, hi.h⟩⟩
  exact two_cells _ _ hi.row
/-- An item is stored in a new box. -/
theorem Srch.boxed (h : Srch w0 W H s a B base gl gs gt G hb gf ga v0 mv F A R k j v M wr) (x' y' : Int) :
    Srch w0 W H s a B base gl gs gt G hb gf ga v0 mv F A R k j v M (wr.alloc (.cells #[.int .i64 x', .int .i64 y'] 131)) ∧ Ib wr.heap.size x' y' G gf ga hb v (GF gl gs gt s.size mv) (wr.alloc (.cells #[.int .i64 x', .int .i64 y'] 131)) ∧ w0.heap.size ≤ wr.heap.size :=
  ⟨h.later ((Below.refl _ wr).alloc (Nat.le_refl _) _), ib_new h x' y' (Nat.le_refl _) (heap_alloc_new wr _), h.turn.size⟩
theorem Ib.popped {D : Nat} {x y : Int} {Q : Nat → Prop} (h : Ib D x y G gf ga hb v Q wr) {w' : World} {v' : Value} (ht : Turn (HF hb v) (HF hb v') wr w') : Ib D x y G gf ga hb v' Q w' := by
  have lD := lt_of_heap h.row
  exact ⟨(ht.block D lD h.h).trans h.row, h.a1, h.a2, h.a3, h.q, fun e => by rcases ht.foot D e with z | z; exact h.h z; omega⟩
end
/-- At the head of a round: an item, and whether there is one. -/
def Outer (w0 : World) (W H : Nat) (s : ByteArray) (a : Nat) (B : Nat → Bool) (base gl gs gt G hb gf ga : Nat) (v0 : Value) (D : Nat) (bt : Bool) (gg : Nat) (wr : World) : Prop :=
  ∃ mv F A R k v x y, Ib D x y G gf ga hb v (GF gl gs gt s.size mv) wr ∧ ((bt = true ∧ k < R.length ∧ x = ((nd R k).l : Int) ∧ y = ((nd R k).c : Int) ∧ s.size + 1 - k ≤ gg ∧ Srch w0 W H s a B base gl gs gt G hb gf ga v0 mv F A R k 0 v (qs R (k + 1)) wr) ∨
    (bt = false ∧ Srch w0 W H s a B base gl gs gt G hb gf ga v0 mv F A R R.length 0 v [] wr))

/-- At the head of a round over the cells that are one step away. -/
def Inner (w0 : World) (W H : Nat) (s : ByteArray) (a : Nat) (B : Nat → Bool) (base gl gs gt G hb gf ga : Nat) (v0 : Value) (mv : Nat → Value) (D k c l : Nat) (V : Value) (j : Nat) (wr : World) : Prop :=
  ∃ F A R v, Ib D (l : Int) (c : Int) G gf ga hb v (GF gl gs gt s.size mv) wr ∧ Ml wr base V (nx5 W H (at_ s) a B c) ∧ Srch w0 W H s a B base gl gs gt G hb gf ga v0 mv F A R k j v (qs R (k + 1)) wr ∧ k < R.length ∧ (nd R k).c = c ∧ (nd R k).l = l

def SpreadTold (W H : Nat) (s : ByteArray) (a : Nat) (B : Nat → Bool) (gt hb : Nat) (v0 : Value) (w : World) (e : Ending) (w' : World) : Prop :=
  ∃ gf ga F A R j v, e = .returned (.tuple #[.slice (some ⟨gf, 0, none⟩) s.size s.size, .slice (some ⟨ga, 0, none⟩) s.size s.size]) ∧ Cells gf s.size (ci F) w' ∧ Cells ga s.size (ci A) w' ∧ Bf (nx5 W H (at_ s) a B) s.size a R R.length j ∧ Far R s.size F ∧ Ahd R s.size A ∧ (w.heap.size ≤ gf ∧ w.heap.size ≤ ga) ∧ Turn (Tn gt hb w.heap.size v0) (Tn gt hb w.heap.size v) w w'

set_option maxHeartbeats 4000000 in
theorem spread_any (W H a : Nat) (s : ByteArray) (B : Nat → Bool) (base gl gs gt hb : Nat) (v0 : Value) (w : World) (hR : Right (W : Int) (H : Int) s) (hz : at_ s a ≠ 35) (ha : a < s.size) (hba : base ≤ w.heap.size)
    (hg : Gd w W H s a B base gl gs gt (fun _ => .slice none 0 0)) (hh : HAt w hb v0 [] 0) (hq : ∀ k, GF gl gs gt s.size (fun _ => .slice none 0 0) k → ¬ HF hb v0 k) :
    Calls Tryz.prog 74 #[.agg #[.int .i64 (W : Int), .int .i64 (H : Int), .string s, .slice (some ⟨gl, 0, none⟩) s.size s.size, .slice (some ⟨gs, 0, none⟩) s.size s.size, .slice (some ⟨gt, 0, none⟩) s.size s.size], .int .i64 (a : Int), .func (.func 75) #[.pointer (some ⟨hb, 0, none⟩)] #[], .func (.func 76) #[.pointer (some ⟨hb, 0, none⟩)] #[]] w (SpreadTold W H s a B gt hb v0 w) := by
  have h256 := rightLe hR
  have hs1 : 1 ≤ s.size := by omega
  obtain ⟨i0, hi, hz0, hz1, hz2⟩ := info_parts Tryz.infoInt
  have HR := Lib.hid hR
  have HZ := Lib.hid hz
  have HBA := Lib.hid hba
  have HG := Lib.hid hg
  have HH := Lib.hid hh
  have HQ := Lib.hid hq
  clear hR hz hba hg hh hq
  go_enter Tryz.func74, Tryz.ntmps74
  go_wp2_with (first
    | (go_at_call 100; refine (repeat_any _ (-1) s.size _ ⟨hs1, h256⟩ (by simp) (by simp)).mono ?_; rintro e w1 ⟨gf, rfl, hcf, hgf, hb1⟩; have HCF := Lib.hid hcf; have HGF := Lib.hid hgf; have HB1 := Lib.hid hb1; have y5 := (gx_at hb1).cells.2.2.2.2.2; clear hcf hgf hb1)
    | (at_make; refine wpList_make_full _ rfl _ _ 24 rfl w1.heap.size 3 i0 (.int .i64 0) 1 Tryz.underlying24 hi hz0 hz1 .i64 .i64 _ _ s.size rfl rfl rfl rfl (by rw [hz2]; omega) (by unfold maxLen; omega) (Nat.le_refl _) ?_; intro w2 ho1 hg1; have HP := Lib.hid (pre_of HG.out HH.out HQ.out HBA.out HB1.out HCF.out HGF.out ho1 hg1); clear ho1 hg1; have y1 := (HP.out.fr.2 a ha).1; have y2 := (HP.out.fr.2 a ha).2; have y3 := HP.out.box.cells.2.2.2.2.2))
  go_wp2_with (first
    | (go_at_call 75; refine (push_any hb v0 [] 0 0 (a : Int) _ (HP.out.hpx a) (by omega)).mono ?_; rintro e w4 ⟨rfl, v4, hp4, ht4⟩; obtain ⟨F0, A0, R0, hS0, hR0⟩ := HP.out.begun ha hp4 ht4; have HS := Lib.hid hS0; have HR0 := Lib.hid hR0; clear hp4 ht4 y1 y2 y3 hS0 hR0)
    | (go_at_call 76; refine (pop_srch HS.out HR0.out).mono ?_; rintro e w5 ⟨rfl, v5, hp5, ht5⟩; have HS5 := Lib.hid (HS.out.popped HS.out.bf hp5 ht5); clear hp5 ht5))
  go_loopg [10, 11] (s.size + 2) (fun gg s10 s11 wr => ∃ (D : Nat) (bt : Bool), s10 = .pointer (some ⟨D, 0, none⟩) ∧ s11 = .bool bt ∧ Hid (Outer w W H s a B base gl gs gt w.heap.size hb gf w1.heap.size v0 D bt gg wr))
  case atStart =>
    have hx := HS5.out.boxed ((nd R0 0).l : Int) ((nd R0 0).c : Int)
    exact ⟨w5.heap.size, true, rfl, rfl, Lib.hid ⟨_, _, _, _, 0, _, _, _, hx.2.1, .inl ⟨rfl, HR0.out, rfl, rfl, by omega, hx.1⟩⟩⟩
  case round =>
    rename World => wr
    obtain ⟨D, bt, rfl, rfl, HO⟩ := hrel
    obtain ⟨mv, F, A, R, k, v, x, y, hib, ⟨rfl, hk, rfl, rfl, hgg, hS⟩ | ⟨rfl, hS⟩⟩ := HO.out
    · have HI := Lib.hid hib
      have HS := Lib.hid hS
      have HK := Lib.hid hk
      have hc := hS.bf.lt k hk
      have hl : (nd R k).l ≤ 256 := Nat.le_trans (lv_idx hS.bf k hk) (Nat.le_trans (Nat.le_of_lt hk) (Nat.le_trans hS.bf.len h256))
      obtain ⟨i1, i2⟩ := hib.cells
      obtain ⟨g0, g1, g2, g3, g4, g5⟩ := hS.box.cells
      obtain ⟨c, hcc⟩ : ∃ c, c = (nd R k).c := ⟨_, rfl⟩
      obtain ⟨l, hll⟩ : ∃ l, l = (nd R k).l := ⟨_, rfl⟩
      rw [← hcc] at i2 hc HI
      rw [← hll] at i1 hl HI
      have HCC := Lib.hid hcc
      have HLL := Lib.hid hll
      clear hib hS hk hcc hll
      go_wp2_with (go_at_call 101; refine (next_any W H a s B base gl gs gt c mv _ HR.out HZ.out hc (Nat.le_trans HBA.out HS.out.turn.size) HS.out.gd).mono ?_; rintro e w6 ⟨A1, n1, c1, mv', rfl, hn1, hml, hgd, ht, hf, hgf⟩; have HN1 := Lib.hid hn1; have HIN : Hid (Inner w W H s a B base gl gs gt w.heap.size hb gf w1.heap.size v0 mv' D k c l (.slice A1 n1 c1) 0 w6) := Lib.hid ⟨F, A, R, v, HI.out.next ht hf, hml, HS.out.next hgd ht hf, HK.out, HCC.out.symm, HLL.out.symm⟩; have HGF := Lib.hid hgf; clear hn1 hml hgd ht hf hgf)
      have hn4 : n1 ≤ 4 := by rw [HN1.out]; exact nx5_len _ _ _ _ _ _
      clear i1 i2 g0 g1 g2 g3 g4 g5
      go_loopw [46] (fun iv wr => ∃ jj : Nat, jj ≤ n1 ∧ iv = .int .i64 (jj : Int) ∧ Hid (Inner w W H s a B base gl gs gt w.heap.size hb gf w1.heap.size v0 mv' D k c l (.slice A1 n1 c1) jj wr)) (fun iv _ => n1 - (intOf iv).toNat)
      case atStart => exact ⟨0, Nat.zero_le _, rfl, HIN⟩
      case round =>
        rename World => wi
        obtain ⟨jj, hjj, rfl, HJ⟩ := hrel
        obtain ⟨F, A, R, v, hib, hml, hS, hk, hcc, hll⟩ := HJ.out
        have HI := Lib.hid hib
        have HML := Lib.hid hml
        have HS := Lib.hid hS
        have HK := Lib.hid hk
        have HCC := Lib.hid hcc
        have HLL := Lib.hid hll
        obtain ⟨i1, i2⟩ := hib.cells
        have d1 := hS.dj.a3
        have d2 := hib.a2
        have d3 := hib.a3
        clear hib hml hS hk hcc hll
        by_cases hlt : jj < n1
        · have hjx : jj < (nx5 W H (at_ s) a B c).length := by rw [← HN1.out]; exact hlt
          obtain ⟨A', n', c', e1, hn', hil⟩ := HML.out.il
          simp only [Value.slice.injEq] at e1
          obtain ⟨rfl, rfl, rfl⟩ := e1
          obtain ⟨g, off, rfl, _, hcell⟩ := hil.cell (by omega)
          have hcx := hcell jj hlt
          have hxN : (nx5 W H (at_ s) a B c).getD jj 0 < s.size := by
            obtain ⟨W', H', e1, e2, hSd, _⟩ := rightNat HR.out
            obtain rfl : W = W' := by omega
            obtain rfl : H = H' := by omega
            rw [hSd.sz] at hc ⊢
            exact nx5_lt hSd.w1 c _ hc (getD_mem hjx)
          have HSKIP : Hid (Pt.Fd R ((nx5 W H (at_ s) a B c).getD jj 0) → Inner w W H s a B base gl gs gt w.heap.size hb gf w1.heap.size v0 mv' D k c l (.slice (some ⟨g, off, none⟩) n1 c1) (jj + 1) wi) := Lib.hid fun hfd =>
            ⟨F, A, R, v, HI.out, HML.out, HS.out.skip (HS.out.bf.skip (by rw [HCC.out]; exact hjx) (by rw [HCC.out]; exact hfd)), HK.out, HCC.out, HLL.out⟩
          have HFND : Hid (∀ w' v', ¬ Pt.Fd R ((nx5 W H (at_ s) a B c).getD jj 0) → HAt w' hb v' (ins ⟨(l : Int) + 1, (((nx5 W H (at_ s) a B c).getD jj 0 : Nat) : Int), (R.length : Int)⟩ (qs R (k + 1))) (R.length + 1) → Turn (HF hb v) (HF hb v') (two wi gf w1.heap.size ((nx5 W H (at_ s) a B c).getD jj 0) ((l : Int) + 1) (c : Int)) w' →
              Inner w W H s a B base gl gs gt w.heap.size hb gf w1.heap.size v0 mv' D k c l (.slice (some ⟨g, off, none⟩) n1 c1) (jj + 1) w') := Lib.hid fun w' v' hfd hp ht => by
            have hS := HS.out
            have hcc := HCC.out
            have hll := HLL.out
            have hsl := HML.out.same (Nat.le_trans (two_turn wi gf w1.heap.size _ _ _).size ht.size) (fun q hq => ?_)
            · have h2 := hS.found (w' := w') (v' := v') HK.out (by rw [hcc]; exact hjx) (by rw [hcc]; exact hfd) (by rw [hcc]; exact hxN) (by rw [hcc, hll]; exact hp) (by rw [hcc, hll]; exact ht)
              have e2 : ∀ x, nd (R ++ [x]) k = nd R k := fun x => nd_old R x HK.out
              exact ⟨_, _, _, v', HI.out.found ht, hsl, h2, by rw [List.length_append]; exact Nat.lt_succ_of_lt HK.out, by rw [e2]; exact hcc, by rw [e2]; exact hll⟩
            · have hg := HGF.out q hq
              have l1 := (hS.gd.foot q hg).2
              have t2 := two_turn wi gf w1.heap.size ((nx5 W H (at_ s) a B c).getD jj 0) ((l : Int) + 1) (c : Int)
              rw [ht.block q (Nat.lt_of_lt_of_le l1 t2.size) (hS.dj.qh q hg)]
              exact t2.block q l1 (fun e => by rcases e with e | e; exact hS.dj.q2 (e ▸ hg); exact hS.dj.q3 (e ▸ hg))
          have f1 := (HS.out.fr.2 _ hxN).1
          have f2 := (HS.out.fr.2 _ hxN).2
          have f3 := (HS.out.ah.2 _ hxN).1
          have f4 := (HS.out.ah.2 _ hxN).2
          have HISF := Lib.hid (HS.out.far.is hxN)
          have HLN : Hid (R.length < 1000000) := Lib.hid (by have := HS.out.bf.len; omega)
          have HHP := Lib.hid (fun x => HS.out.hp2 x ((l : Int) + 1) (c : Int))
          unfold ci at f1 f3
          clear hjx hcell hil hn'
          generalize (nx5 W H (at_ s) a B c).getD jj 0 = x at *
          by_cases hfd : Pt.Fd R x
          · have hne : (F.getD x 0 == -1) = false := by
              rw [beq_eq_false_iff_ne]
              exact fun e => HISF.out.1 e hfd
            generalize F.getD x 0 = fx at *
            have HFD := Lib.hid hfd
            clear hfd
            go_wp2
            go_roundw
            case rel => exact ⟨jj + 1, by omega, by go_num, Lib.hid (HSKIP.out HFD.out)⟩
            case measure => simp [intOf]; omega
          · rw [HISF.out.2 hfd] at f1
            have HFD := Lib.hid hfd
            generalize A.getD x 0 = ax at *
            clear hfd
            go_wp2_with (go_at_call 75; refine (push_any hb v _ R.length ((l : Int) + 1) (x : Int) _ (HHP.out x) HLN.out).mono ?_; rintro e w7 ⟨rfl, v7, hp7, ht7⟩; have HIN7 := Lib.hid (HFND.out w7 v7 HFD.out hp7 ht7); clear hp7 ht7)
            go_roundw
            case rel => exact ⟨jj + 1, by omega, by go_num, HIN7⟩
            case measure => simp [intOf]; omega
        · obtain rfl : jj = n1 := by omega
          have hpop := HS.out.bf.pop HK.out (by rw [HCC.out, ← HN1.out]; exact Nat.le_refl _)
          have HBF := Lib.hid hpop
          have hS1 := HS.out.skip hpop
          have HBX := Lib.hid (hS1.boxed (l : Int) (c : Int))
          have HKN : Hid (k < s.size) := Lib.hid (Nat.lt_of_lt_of_le HK.out HS.out.bf.len)
          clear hpop hS1
          by_cases hk1 : k + 1 < R.length
          · have HK1 := Lib.hid hk1
            clear hk1
            go_wp2_with (go_at_call 76; refine (pop_srch HBX.out.1 HK1.out).mono ?_; rintro e w8 ⟨rfl, v8, hp8, ht8⟩; have HS8 := Lib.hid (HBX.out.1.popped HBF.out hp8 ht8); have HI8 := Lib.hid (HBX.out.2.1.popped ht8); have r1 := (two_read HI8.out.row).1; have r2 := (two_read HI8.out.row).2.1; have r3 := (two_read HI8.out.row).2.2.1; have r4 := (two_read HI8.out.row).2.2.2; clear hp8 ht8)
            have HST := Lib.hid (HS8.out.store HI8.out HBX.out.2.2 ((nd R (k + 1)).l : Int) ((nd R (k + 1)).c : Int))
            clear r1 r2 r3 r4
            go_roundg (s.size + 1 - (k + 1))
            case measure => have := HKN.out; omega
            case rel => exact ⟨_, true, rfl, rfl, Lib.hid ⟨mv', F, A, R, k + 1, v8, _, _, HST.out.2, .inl ⟨rfl, HK1.out, rfl, rfl, Nat.le_refl _, HST.out.1⟩⟩⟩
          · have hke : k + 1 = R.length := by have := HK.out; omega
            have HBY := Lib.hid (show Srch w W H s a B base gl gs gt w.heap.size hb gf w1.heap.size v0 mv' F A R R.length 0 v [] _ ∧ _ from by
              have := HBX.out
              rw [hke, qs_nil] at this
              exact this)
            have HBG := Lib.hid (show Bf (nx5 W H (at_ s) a B) s.size a R R.length 0 from by rw [← hke]; exact HBF.out)
            clear hke hk1 HBX
            go_wp2_with (go_at_call 76; refine (pop_srch_end HBY.out.1).mono ?_; rintro e w8 ⟨rfl, v8, hp8, ht8⟩; have HS8 := Lib.hid (HBY.out.1.popped HBG.out hp8 ht8); have HI8 := Lib.hid (HBY.out.2.1.popped ht8); have r1 := (two_read HI8.out.row).1; have r2 := (two_read HI8.out.row).2.1; have r3 := (two_read HI8.out.row).2.2.1; have r4 := (two_read HI8.out.row).2.2.2; clear hp8 ht8)
            have HST := Lib.hid (HS8.out.store HI8.out HBY.out.2.2 0 0)
            clear r1 r2 r3 r4
            go_roundg (s.size + 1 - (k + 1))
            case measure => have := HKN.out; omega
            case rel => exact ⟨_, false, rfl, rfl, Lib.hid ⟨mv', F, A, R, k + 1, v8, _, _, HST.out.2, .inr ⟨rfl, HST.out.1⟩⟩⟩
    · have HS := Lib.hid hS
      clear hib hS
      go_wp2
      go_ret2
      exact ⟨gf, w1.heap.size, F, A, R, 0, v, rfl, HS.out.fr, HS.out.ah, HS.out.bf, HS.out.far, HS.out.ahd, ⟨HS.out.sg.1, HS.out.sg.2.1⟩, HS.out.turn⟩
end Go.Proofs.YtokjnmgbgflgnaaGreatDoor
end

section
namespace Go.Proofs.YtokjnmgbgflgnaaGreatDoor
open Go.RowKit Fl Pt

def ReachTold5 (W H : Nat) (s : ByteArray) (a : Nat) (B : Nat → Bool) (w : World) (e : Ending) (w' : World) : Prop :=
  ∃ gf ga F A R j, e = .returned (.tuple #[.slice (some ⟨gf, 0, none⟩) s.size s.size, .slice (some ⟨ga, 0, none⟩) s.size s.size]) ∧ Cells gf s.size (ci F) w' ∧ Cells ga s.size (ci A) w' ∧ Bf (nx5 W H (at_ s) a B) s.size a R R.length j ∧ Far R s.size F ∧ Ahd R s.size A ∧ (w.heap.size ≤ gf ∧ w.heap.size ≤ ga) ∧ Below w.heap.size w w'
theorem foot0 {w : World} {W H : Nat} {s : ByteArray} {a : Nat} {B : Nat → Bool} {base gl gs gt hb : Nat} (hg : Gd w W H s a B base gl gs gt (fun _ => .slice none 0 0)) (hl : hb < base) : ∀ k, GF gl gs gt s.size (fun _ => .slice none 0 0) k → ¬ HF hb (.slice none 0 0) k := fun k hk e => by
  have := (hg.foot k hk).1
  rcases e with e | e
  · omega
  · cases e
set_option maxHeartbeats 2000000 in
theorem reach_any (W H a : Nat) (s : ByteArray) (A : Option Addr) (n cap : Nat) (f : Nat → Int) (w : World) (hR : Right (W : Int) (H : Int) s) (hz : at_ s a ≠ 35) (ha : a < s.size) (h : Il w.heap.size w A n cap f) :
    Calls Tryz.prog 50 #[.agg #[.int .i64 (W : Int), .int .i64 (H : Int), .string s], .int .i64 (a : Int), .slice A n cap] w (ReachTold5 W H s a (mk f n) w) := by
  have HI := Lib.hid h
  have HR := Lib.hid hR
  have HZ := Lib.hid hz
  have HA := Lib.hid ha
  clear h hR hz ha
  go_enter Tryz.func50, Tryz.ntmps50
  go_wp2_with (first
    | (go_at_call 72; refine (new_any _).mono ?_; rintro e w1 ⟨rfl, hH, hB, hlt⟩; rw [alloc_size] at hH hlt; have HX := Lib.hid ((Box.start w (W : Int) (H : Int) s 23).after hB); have HH := Lib.hid hH; have HLT := Lib.hid hlt; have c0 := HX.out.c0; have c1 := HX.out.c1; have c2 := HX.out.c2; clear hH hB hlt)
    | (go_at_call 73; refine (groundOf_any W H a s A n cap f _ HR.out HA.out (args_il HI.out HX.out.below)).mono ?_; rintro e w2 ⟨gl, gs, gt, rfl, hg, hb2⟩; have HG := Lib.hid hg; have HB2 := Lib.hid hb2; clear hg hb2 c0 c1 c2)
    | (go_at_call 74; refine (spread_any W H a s (mk f n) w1.heap.size gl gs gt (w.heap.size + 1) (.slice none 0 0) _ HR.out HZ.out HA.out HB2.out.size HG.out (HH.out.below HB2.out) (foot0 HG.out HLT.out)).mono ?_; rintro e w3 ⟨gf, ga, F, A', R, j, v, rfl, h1, h2, h3, h4, h5, h6, h7⟩))
  go_ret2
  have hb := HX.out.below.size
  have hb2 := HB2.out.size
  refine ⟨gf, ga, F, A', R, j, rfl, h1, h2, h3, h4, h5, ⟨by omega, by omega⟩, ?_⟩
  have hlow : Below w.heap.size w w2 := HX.out.below.trans (HB2.out.mono hb)
  refine hlow.trans (h7.below _ (by omega) (fun k hk => ?_))
  rcases hk with e | e | e
  · have := HG.out.bt; omega
  · rcases e with e | e
    · rw [e]; exact Nat.le_succ _
    · cases e
  · omega

/-- How far each cell is is told. -/
def DistTold (W H : Int) (s : ByteArray) (c : Int) (B : Nat → Bool) (w : World) (e : Ending) (w' : World) : Prop :=
  ∃ A n cap F, e = .returned (.slice A n cap) ∧ n = F.length ∧ Il w'.heap.size w' A n cap (fun j => F.getD j 0) ∧ Below w.heap.size w w' ∧
    (OnFloor W H s c → F.length = s.size ∧ ∀ x, x < s.size → IsD (nx5 W.toNat H.toNat (at_ s) c.toNat B) c.toNat x (F.getD x 0)) ∧ (¬ OnFloor W H s c → F = [])
theorem cells_il {g N : Nat} {F : List Int} {w : World} (h : Cells g N (ci F) w) (hN : N ≤ 256) : Il w.heap.size w (some ⟨g, 0, none⟩) N N (fun j => F.getD j 0) :=
  ⟨Nat.le_refl _, by unfold maxLen; omega, (fun e => by cases e), fun _ => ⟨g, 0, rfl, h.1, fun j hj => by rw [Nat.zero_add]; exact (h.2 j hj).1⟩⟩
end Go.Proofs.YtokjnmgbgflgnaaGreatDoor
end
