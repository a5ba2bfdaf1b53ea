/-
  Layer 5: the state of the search (spread).
-/
import Derived.Test.YtaioiobimenkfaaDoorPtGround
import Derived.Test.YtaioiobimenkfaaDoorHpW6
set_option linter.unusedVariables false
set_option maxRecDepth 100000
namespace Go.Proofs.YtaioiobimenkfaaDoor
open Go.RowKit Fl Pt

theorem Turn.wide {F F' G G' : Nat → Prop} {w w' : World} (h : Turn F F' w w') (h1 : ∀ k, F k → G k) (h2 : ∀ k, G' k → G k ∨ w.heap.size ≤ k) : Turn G G' w w' :=
  ⟨h.os, h.tape, h.output, h.size, fun k hk hG => h.block k hk (fun x => hG (h1 k x)), h2⟩

/-- What is to be asked for, in order. -/
def qs (R : List Nd) (k : Nat) : List E := (List.range' k (R.length - k)).map fun t => ⟨((nd R t).l : Int), ((nd R t).c : Int), (t : Int)⟩
theorem qs_cons {R : List Nd} {k : Nat} (h : k < R.length) : qs R k = ⟨((nd R k).l : Int), ((nd R k).c : Int), (k : Int)⟩ :: qs R (k + 1) := by
  unfold qs
  rw [show R.length - k = (R.length - (k + 1)) + 1 by omega, List.range'_succ]; rfl
theorem qs_nil {R : List Nd} : qs R R.length = [] := by unfold qs; rw [Nat.sub_self]; rfl
theorem qs_len (R : List Nd) (k : Nat) : (qs R k).length = R.length - k := by simp [qs]
theorem qs_push {R : List Nd} (x : Nd) {k : Nat} (h : k ≤ R.length) : qs (R ++ [x]) k = qs R k ++ [⟨(x.l : Int), (x.c : Int), (R.length : Int)⟩] := by
  unfold qs
  rw [show (R ++ [x]).length - k = (R.length - k) + 1 by simp; omega, List.range'_concat, List.map_append]
  congr 1
  · apply List.map_congr_left
    intro t ht
    have : t < R.length := by
      rw [List.mem_range'_1] at ht; omega
    rw [nd_old R x this]
  · have e : k + 1 * (R.length - k) = R.length := by omega
    simp only [List.map_cons, List.map_nil, e, nd_new]
theorem ins_last (x : E) : ∀ M : List E, (∀ y, y ∈ M → y.k ≤ x.k) → ins x M = M ++ [x]
  | [], _ => rfl
  | a :: l, h => by
    unfold ins
    rw [if_pos (h a (by simp)), ins_last x l (fun y hy => h y (by simp [hy]))]; rfl
theorem qs_ins {nx : Nat → List Nat} {N a k j : Nat} {R : List Nd} (h : Bf nx N a R k j) (hk : k < R.length) (c p : Nat) : ins ⟨((nd R k).l : Int) + 1, (c : Int), (R.length : Int)⟩ (qs R (k + 1)) = qs (R ++ [⟨c, p, (nd R k).l + 1⟩]) (k + 1) := by
  rw [qs_push _ hk, ins_last]
  · congr 1
  · intro y hy
    obtain ⟨t, ht, rfl⟩ := List.mem_map.1 hy
    rw [List.mem_range'_1] at ht
    have := h.lv_le hk t (by omega)
    show ((nd R t).l : Int) ≤ ((nd R k).l : Int) + 1
    omega

def ci (F : List Int) : Nat → Value := fun x => .int .i64 (F.getD x 0)
theorem Cells.seti {g N : Nat} {F : List Int} {w : World} (h : Cells g N (ci F) w) (x : Nat) (v : Int) (hx : x < N) (hF : F.length = N) : Cells g N (ci (F.set x v)) (w.setCell ⟨g, x, none⟩ (.int .i64 v)) :=
  h.put x _ hx fun y hy => by
    unfold ci
    by_cases e : y = x
    · subst e; rw [if_pos rfl, Pt.getD_set_eq (by omega)]
    · rw [if_neg e, Pt.getD_set_ne (fun e' => e e'.symm)]

/-- What may be written by the search: the steps that are kept, the heap, what is new. -/
def Tn (gt hb S : Nat) (v : Value) : Nat → Prop := fun k => k = gt ∨ HF hb v k ∨ S ≤ k
/-- The blocks are apart. -/
structure Dj (G gf ga hb : Nat) (v : Value) (Q : Nat → Prop) : Prop where
  a1 : G ≠ gf
  a2 : G ≠ ga
  a3 : gf ≠ ga
  q1 : ¬ Q G
  q2 : ¬ Q gf
  q3 : ¬ Q ga
  h1 : ¬ HF hb v G
  h2 : ¬ HF hb v gf
  h3 : ¬ HF hb v ga
  qh : ∀ k, Q k → ¬ HF hb v k
/-- The search, when so many were found, and those ahead of k were gone from. -/
structure Srch (w0 : World) (W H : Nat) (s : ByteArray) (a : Nat) (B : Nat → Bool) (base gl gs gt G hb gf ga : Nat) (v0 : Value) (mv : Nat → Value) (F A : List Int) (R : List Nd) (k j : Nat) (v : Value) (M : List E) (wr : World) : Prop where
  box : Gx G W H s gl gs gt wr
  gd : Gd wr W H s a B base gl gs gt mv
  hp : HAt wr hb v M R.length
  fr : Cells gf s.size (ci F) wr
  ah : Cells ga s.size (ci A) wr
  bf : Bf (nx5 W H (at_ s) a B) s.size a R k j
  far : Far R s.size F
  ahd : Ahd R s.size A
  dj : Dj G gf ga hb v (GF gl gs gt s.size mv)
  sg : w0.heap.size ≤ gf ∧ w0.heap.size ≤ ga ∧ base ≤ w0.heap.size
  turn : Turn (Tn gt hb w0.heap.size v0) (Tn gt hb w0.heap.size v) w0 wr
/-- An item's box. -/
structure Ib (D : Nat) (x y : Int) (G gf ga hb : Nat) (v : Value) (Q : Nat → Prop) (wr : World) : Prop where
  row : wr.heap[D]? = some (.cells #[.int .i64 x, .int .i64 y] 86 (0, 0))
  a1 : D ≠ G
  a2 : D ≠ gf
  a3 : D ≠ ga
  q : ¬ Q D
  h : ¬ HF hb v D
theorem Ib.cells {D : Nat} {x y : Int} {G gf ga hb : Nat} {v : Value} {Q : Nat → Prop} {wr : World} (h : Ib D x y G gf ga hb v Q wr) : wr.cell? ⟨D, 0, none⟩ = some (.int .i64 x) ∧ wr.cell? ⟨D, 1, none⟩ = some (.int .i64 y) :=
  ⟨by rw [cell_of_row wr D 0 _ _ _ h.row]; rfl, by rw [cell_of_row wr D 1 _ _ _ h.row]; rfl⟩

section
variable {w0 : World} {W H : Nat} {s : ByteArray} {a : Nat} {B : Nat → Bool} {base gl gs gt G hb gf ga : Nat} {v0 : Value} {mv : Nat → Value} {F A : List Int} {R : List Nd} {k j : Nat} {v : Value} {M : List E} {wr : World}

/-- Whatever is new. -/
theorem Srch.later (h : Srch w0 W H s a B base gl gs gt G hb gf ga v0 mv F A R k j v M wr) {w' : World} (hb' : Below wr.heap.size wr w') : Srch w0 W H s a B base gl gs gt G hb gf ga v0 mv F A R k j v M w' :=
  ⟨h.box.later hb', h.gd.later hb', h.hp.below hb', h.fr.later hb', h.ah.later hb', h.bf, h.far, h.ahd, h.dj, h.sg, h.turn.trans (Turn.ofBelow hb' _)⟩
theorem Ib.later {D : Nat} {x y : Int} {Q : Nat → Prop} (h : Ib D x y G gf ga hb v Q wr) {w' : World} (hb' : Below wr.heap.size wr w') : Ib D x y G gf ga hb v Q w' :=
  ⟨(hb'.block D (lt_of_heap h.row)).trans h.row, h.a1, h.a2, h.a3, h.q, h.h⟩
/-- Behind next. -/
theorem Srch.next (h : Srch w0 W H s a B base gl gs gt G hb gf ga v0 mv F A R k j v M wr) {w' : World} {mv' : Nat → Value} (hg : Gd w' W H s a B base gl gs gt mv') (ht : Turn (fun k => k = gt) (fun k => k = gt) wr w')
    (hf : ∀ k, GF gl gs gt s.size mv' k → GF gl gs gt s.size mv k ∨ wr.heap.size ≤ k) : Srch w0 W H s a B base gl gs gt G hb gf ga v0 mv' F A R k j v M w' := by
  have hgt : GF gl gs gt s.size mv gt := .inr (.inr (.inl rfl))
  have d := h.dj
  have nG : G ≠ gt := fun e => d.q1 (by rw [e]; exact hgt)
  have nf : gf ≠ gt := fun e => d.q2 (by rw [e]; exact hgt)
  have na : ga ≠ gt := fun e => d.q3 (by rw [e]; exact hgt)
  have hh : ∀ k, HF hb v k → k ≠ gt := fun k hk e => d.qh gt hgt (by rw [← e]; exact hk)
  have lG := h.box.lt
  have lf := h.fr.1
  have la := h.ah.1
  have lh : ∀ k, HF hb v k → k < wr.heap.size := fun k hk => (h.hp.owned k hk).2
  refine ⟨h.box.turn ht nG, hg, h.hp.same (fun k hk => ht.block k (lh k hk) (hh k hk)), h.fr.turn ht nf, h.ah.turn ht na, h.bf, h.far, h.ahd,
    ⟨d.a1, d.a2, d.a3, fun x => ?_, fun x => ?_, fun x => ?_, d.h1, d.h2, d.h3, fun k hk hk2 => ?_⟩, h.sg, h.turn.trans (ht.wide (fun k hk => .inl hk) (fun k hk => .inl hk))⟩
  · rcases hf G x with y | y
    · exact d.q1 y
    · omega
  · rcases hf gf x with y | y
    · exact d.q2 y
    · omega
  · rcases hf ga x with y | y
    · exact d.q3 y
    · omega
  · rcases hf k hk with y | y
    · exact d.qh k y hk2
    · have := lh k hk2; omega
theorem Ib.next {D : Nat} {x y : Int} (h : Ib D x y G gf ga hb v (GF gl gs gt s.size mv) wr) {w' : World} {mv' : Nat → Value} (ht : Turn (fun k => k = gt) (fun k => k = gt) wr w')
    (hf : ∀ k, GF gl gs gt s.size mv' k → GF gl gs gt s.size mv k ∨ wr.heap.size ≤ k) : Ib D x y G gf ga hb v (GF gl gs gt s.size mv') w' := by
  have lD := lt_of_heap h.row
  have nD : D ≠ gt := fun e => h.q (by rw [e]; exact .inr (.inr (.inl rfl)))
  exact ⟨(ht.block D lD nD).trans h.row, h.a1, h.a2, h.a3, fun x => by rcases hf D x with y | y; exact h.q y; omega, h.h⟩
/-- Two marks are made. -/
def two (wr : World) (gf ga x : Nat) (l c : Int) : World := (wr.setCell ⟨gf, x, none⟩ (.int .i64 l)).setCell ⟨ga, x, none⟩ (.int .i64 c)
theorem two_turn (wr : World) (gf ga x : Nat) (l c : Int) : Turn (fun k => k = gf ∨ k = ga) (fun k => k = gf ∨ k = ga) wr (two wr gf ga x l c) :=
  ((Turn.refl (fun k => k = gf ∨ k = ga) wr).put _ (.inl rfl)).put _ (.inr rfl)
theorem Srch.hp2 (h : Srch w0 W H s a B base gl gs gt G hb gf ga v0 mv F A R k j v M wr) (x : Nat) (l c : Int) : HAt (two wr gf ga x l c) hb v M R.length :=
  h.hp.same fun k hk => (two_turn wr gf ga x l c).block k (h.hp.owned k hk).2 (fun e => by
    rcases e with e | e
    · exact h.dj.h2 (e ▸ hk)
    · exact h.dj.h3 (e ▸ hk))
/-- A cell is found: it is marked, and pushed. -/
theorem Srch.found (h : Srch w0 W H s a B base gl gs gt G hb gf ga v0 mv F A R k j v (qs R (k + 1)) wr) (hk : k < R.length) (hj : j < (nx5 W H (at_ s) a B (nd R k).c).length) (hf : ¬ Pt.Fd R ((nx5 W H (at_ s) a B (nd R k).c).getD j 0)) (hN : (nx5 W H (at_ s) a B (nd R k).c).getD j 0 < s.size)
    {w' : World} {v' : Value} (hp : HAt w' hb v' (ins ⟨((nd R k).l : Int) + 1, (((nx5 W H (at_ s) a B (nd R k).c).getD j 0 : Nat) : Int), (R.length : Int)⟩ (qs R (k + 1))) (R.length + 1)) (ht : Turn (HF hb v) (HF hb v') (two wr gf ga ((nx5 W H (at_ s) a B (nd R k).c).getD j 0) (((nd R k).l : Int) + 1) ((nd R k).c : Int)) w') :
    Srch w0 W H s a B base gl gs gt G hb gf ga v0 mv (F.set ((nx5 W H (at_ s) a B (nd R k).c).getD j 0) (((nd R k).l : Int) + 1)) (A.set ((nx5 W H (at_ s) a B (nd R k).c).getD j 0) ((nd R k).c : Int)) (R ++ [⟨(nx5 W H (at_ s) a B (nd R k).c).getD j 0, k, (nd R k).l + 1⟩]) k (j + 1) v' (qs (R ++ [⟨(nx5 W H (at_ s) a B (nd R k).c).getD j 0, k, (nd R k).l + 1⟩]) (k + 1)) w' := by
  have hbf := h.bf.push hk hj hf hN
  rw [qs_ins h.bf hk _ k] at hp
  generalize (nx5 W H (at_ s) a B (nd R k).c).getD j 0 = x at *
  have d := h.dj
  have t2 := two_turn wr gf ga x (((nd R k).l : Int) + 1) ((nd R k).c : Int)
  have lH : ∀ k, HF hb v' k → HF hb v k ∨ wr.heap.size ≤ k := fun k hk => by
    rcases ht.foot k hk with y | y
    · exact .inl y
    · exact .inr (Nat.le_trans t2.size y)
  have nG : ¬ (G = gf ∨ G = ga) := fun e => by rcases e with e | e; exact d.a1 e; exact d.a2 e
  have nQ : ∀ k, GF gl gs gt s.size mv k → ¬ (k = gf ∨ k = ga) := fun k hk e => by
    rcases e with e | e
    · exact d.q2 (e ▸ hk)
    · exact d.q3 (e ▸ hk)
  have lG := h.box.lt
  have lf := h.fr.1
  have la := h.ah.1
  have hF := h.far.len
  have hA := h.ahd.len
  have f1 : Cells gf s.size (ci (F.set x (((nd R k).l : Int) + 1))) (two wr gf ga x (((nd R k).l : Int) + 1) ((nd R k).c : Int)) :=
    (h.fr.seti x _ hN hF).turn (Turn.setCell (F := fun k => k = ga) _ ⟨ga, x, none⟩ _ rfl) d.a3
  have f2 : Cells ga s.size (ci (A.set x ((nd R k).c : Int))) (two wr gf ga x (((nd R k).l : Int) + 1) ((nd R k).c : Int)) :=
    (h.ah.turn (Turn.setCell (F := fun k => k = gf) wr ⟨gf, x, none⟩ _ rfl) (fun e => d.a3 e.symm)).seti x _ hN hA
  refine ⟨(h.box.turn t2 nG).turn ht d.h1, (h.gd.turn t2 nQ).turn ht d.qh, by rw [List.length_append]; exact hp, f1.turn ht d.h2, f2.turn ht d.h3, hbf, ?_, ?_,
    ⟨d.a1, d.a2, d.a3, d.q1, d.q2, d.q3, fun e => ?_, fun e => ?_, fun e => ?_, fun k hk hk2 => ?_⟩, h.sg, ?_⟩
  · have := h.far.push ⟨x, k, (nd R k).l + 1⟩ hN hf
    simpa using this
  · have := h.ahd.push ⟨x, k, (nd R k).l + 1⟩ hN hf hk (fun i h0 hi => (h.bf.par i h0 hi).1)
    simpa using this
  · rcases lH G e with y | y
    · exact d.h1 y
    · omega
  · rcases lH gf e with y | y
    · exact d.h2 y
    · omega
  · rcases lH ga e with y | y
    · exact d.h3 y
    · omega
  · rcases lH k hk2 with y | y
    · exact d.qh k hk y
    · have := (h.gd.foot k hk).2; omega
  · refine (h.turn.trans (t2.wide (G := Tn gt hb w0.heap.size v) (G' := Tn gt hb w0.heap.size v) (fun k hk => ?_) (fun k hk => .inl hk))).trans (ht.wide (fun k hk => .inr (.inl hk)) (fun k hk => ?_))
    · rcases hk with e | e
      · exact .inr (.inr (by rw [e]; exact h.sg.1))
      · exact .inr (.inr (by rw [e]; exact h.sg.2.1))
    · rcases hk with e | e | e
      · exact .inl (.inl e)
      · rcases ht.foot k e with y | y
        · exact .inl (.inr (.inl y))
        · exact .inr y
      · exact .inl (.inr (.inr e))
theorem Ib.found {D : Nat} {x y : Int} {Q : Nat → Prop} (h : Ib D x y G gf ga hb v Q wr) {w' : World} {v' : Value} {c : Nat} {l u : Int} (ht : Turn (HF hb v) (HF hb v') (two wr gf ga c l u) w') : Ib D x y G gf ga hb v' Q w' := by
  have t2 := two_turn wr gf ga c l u
  have lD := lt_of_heap h.row
  have e1 : (two wr gf ga c l u).heap[D]? = wr.heap[D]? := t2.block D lD (fun e => by rcases e with e | e; exact h.a2 e; exact h.a3 e)
  refine ⟨((ht.block D (Nat.lt_of_lt_of_le lD t2.size) h.h).trans e1).trans h.row, h.a1, h.a2, h.a3, h.q, fun e => ?_⟩
  rcases ht.foot D e with z | z
  · exact h.h z
  · have := t2.size; omega
/-- The next one is taken out. -/
theorem Srch.popped (h : Srch w0 W H s a B base gl gs gt G hb gf ga v0 mv F A R k j v M wr) {k' j' : Nat} (hb' : Bf (nx5 W H (at_ s) a B) s.size a R k' j') {M' : List E} {w' : World} {v' : Value} (hp : HAt w' hb v' M' R.length) (ht : Turn (HF hb v) (HF hb v') wr w') :
    Srch w0 W H s a B base gl gs gt G hb gf ga v0 mv F A R k' j' v' M' w' := by
  have d := h.dj
  have lH := ht.foot
  have lG := h.box.lt
  have lf := h.fr.1
  have la := h.ah.1
  refine ⟨h.box.turn ht d.h1, h.gd.turn ht d.qh, hp, h.fr.turn ht d.h2, h.ah.turn ht d.h3, hb', h.far, h.ahd,
    ⟨d.a1, d.a2, d.a3, d.q1, d.q2, d.q3, fun e => ?_, fun e => ?_, fun e => ?_, fun k hk hk2 => ?_⟩, h.sg, h.turn.trans (ht.wide (fun k hk => .inr (.inl hk)) (fun k hk => ?_))⟩
  · rcases lH G e with y | y
    · exact d.h1 y
    · omega
  · rcases lH gf e with y | y
    · exact d.h2 y
    · omega
  · rcases lH ga e with y | y
    · exact d.h3 y
    · omega
  · rcases lH k hk2 with y | y
    · exact d.qh k hk y
    · have := (h.gd.foot k hk).2; omega
  · rcases hk with e | e | e
    · exact .inl (.inl e)
    · rcases lH k e with y | y
      · exact .inl (.inr (.inl y))
      · exact .inr y
    · exact .inl (.inr (.inr e))
theorem Srch.skip (h : Srch w0 W H s a B base gl gs gt G hb gf ga v0 mv F A R k j v M wr) {k' j' : Nat} (hb' : Bf (nx5 W H (at_ s) a B) s.size a R k' j') : Srch w0 W H s a B base gl gs gt G hb gf ga v0 mv F A R k' j' v M wr :=
  ⟨h.box, h.gd, h.hp, h.fr, h.ah, hb', h.far, h.ahd, h.dj, h.sg, h.turn⟩
end
end Go.Proofs.YtaioiobimenkfaaDoor
