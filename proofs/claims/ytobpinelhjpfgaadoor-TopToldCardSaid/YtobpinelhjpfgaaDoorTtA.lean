/-
  TopTold: blocks that lie apart; a robot and who tells it, two networks between them, what was told and what was done: all in one memory.
-/
import Derived.Test.YtobpinelhjpfgaaDoorRbG
import Derived.Test.YtobpinelhjpfgaaDoorLnN
import Derived.Test.YtobpinelhjpfgaaDoorNwD
set_option linter.unusedVariables false
set_option maxRecDepth 100000
namespace Go.Proofs.YtobpinelhjpfgaaDoor
namespace Tt
open Go.RowKit Go.Maps Bp Ck Ln Rb
open Rc (Aok Shp)
open Nw (NAt NF)
/-- An act. -/
abbrev Rt := Nat × Int × Int
def acl (x : Rt) : List Value := [.int .u8 (x.1 : Int), .int .i64 x.2.1, .int .i64 x.2.2]
def acs (q : List Rt) : List Value := q.flatMap acl
theorem acs_len (q : List Rt) : (acs q).length = q.length * 3 := by
  induction q with
  | nil => rfl
  | cons p q ih =>
    have e : acs (p :: q) = acl p ++ acs q := rfl
    rw [e, List.length_append, ih]
    simp [acl]
    omega
theorem acs_get : ∀ (q : List Rt) (t : Nat) (a : Rt), q[t]? = some a → ∀ j, j < 3 → (acs q)[t * 3 + j]? = (acl a)[j]?
  | [], t, a, h, j, hj => by simp at h
  | p :: q, 0, a, h, j, hj => by
    simp at h
    subst h
    have e : acs (p :: q) = acl p ++ acs q := rfl
    rw [e, Nat.zero_mul, Nat.zero_add, List.getElem?_append_left (by simpa [acl] using hj)]
  | p :: q, t + 1, a, h, j, hj => by
    have ih := acs_get q t a (by simpa using h) j hj
    have e : acs (p :: q) = acl p ++ acs q := rfl
    have l3 : (acl p).length = 3 := rfl
    rw [e, List.getElem?_append_right (by rw [l3]; omega), l3, show (t + 1) * 3 + j - 3 = t * 3 + j by omega]
    exact ih
theorem acl_one (x : Rt) : ∀ u ∈ acl x, u.oneCell' = true := by
  intro u hu
  simp [acl] at hu
  rcases hu with rfl | rfl | rfl <;> rfl
theorem Tryd.infoActA : (Tryd.prog.info? 33).map (fun i => (i.zero, i.size, i.bytes)) = some (some (.agg #[.int .u8 0, .int .i64 0, .int .i64 0]), 3, 24) := by kernel_rfl
/-- Acts in a row of one's own. -/
def Aw (w : World) (base : Nat) (v : Value) (q : List Rt) : Prop := w.ownsRow base 33 3 v q.length (acs q)
def OF (v : Value) : Nat → Prop := fun k => v.ownBlock = some k
theorem Aw.kind {w : World} {base : Nat} {v : Value} {q : List Rt} (h : Aw w base v q) : ∀ k, OF v k → k < w.heap.size ∧ base ≤ k ∧ ∃ c fz, w.heap[k]? = some (.cells c 33 fz) := Nw.own_kind h
theorem Aw.same {w w' : World} {base : Nat} {v : Value} {q : List Rt} (h : Aw w base v q) (hb : ∀ k, OF v k → w'.heap[k]? = w.heap[k]?) : Aw w' base v q := ownsRow_same h hb
theorem Aw.form {w : World} {base : Nat} {v : Value} {q : List Rt} (h : Aw w base v q) : ∃ A c, v = .slice A q.length c := ownsRow_shape h
/-- One act more. -/
theorem app_act {W w : World} {ops : Array Oper} {rest : List Oper} {o : Oper} {a : Act} {P : Exit → Act → World → Prop} (hgd : o.guard = none) (sl x : Operand)
    (ho : o.op = .call { callee := .builtin .append, args := #[sl, x], argTypes := #[77, 77] })
    (base : Nat) (v : Value) (Q : List Rt) (hs : a.eval sl = v) (y : Rt) (h : Aw W base v Q) (hw : w = W.alloc (.cells (acl y).toArray 33))
    (hx : a.eval x = .slice (some ⟨W.heap.size, 0, none⟩) 1 1) (hb : Q.length < 1000) (hB : base ≤ W.heap.size)
    (hK : ∀ A' c' w', Aw w' base (.slice A' (Q.length + 1) c') (Q ++ [y]) → Turn (OF v) (OF (.slice A' (Q.length + 1) c')) W w' → wpList Tryd.prog ops P rest (a.put o.dst (.slice A' (Q.length + 1) c')) w') : wpList Tryd.prog ops P (o :: rest) a w := by
  obtain ⟨i0, hi, hz0, hz1, hz2⟩ := info_parts Tryd.infoActA
  subst hw
  have hal := Rc.below_new W (.cells (acl y).toArray 33)
  have hr : Aw (W.alloc (.cells (acl y).toArray 33)) base v Q := h.same (fun k hk => hal.block k (h.kind k hk).1)
  have hsz : (W.alloc (.cells (acl y).toArray 33)).heap.size = W.heap.size + 1 := by simp
  refine Bk.appG 77 33 i0 _ 3 24 Tryd.underlying77 hi hz0 hz1 hz2 rfl (by decide) (by decide) hgd sl x ho base v Q.length (acs Q) hs hr (some ⟨W.heap.size, 0, none⟩) 1 1 (acl y) hx ?_ (acl_one y) (by omega) (by omega) ?_
  · refine ⟨rfl, Nat.le_refl _, by unfold maxLen; omega, fun h => (by cases h), fun _ => ⟨W.heap.size, 0, rfl, by simp, fun t ht => ?_⟩⟩
    rw [World.cell?_alloc_new, Nat.zero_add]
    simp
  · intro A' c' w' h1 h2 h3 h4
    have e : acs Q ++ acl y = acs (Q ++ [y]) := by simp [acs]
    rw [e] at h1
    have hl : (Q ++ [y]).length = Q.length + 1 := by simp
    refine hK A' c' w' ?_ ?_
    · unfold Aw
      rw [hl]
      exact h1
    · refine ((Turn.ofBelow hal (OF v)).trans (Turn.grown h3 (fun k hk => hk))).sub (fun k hk => ?_)
      rcases h4 with e4 | e4
      · exact .inl (show v.ownBlock = some k by rw [← e4]; exact hk)
      · have hk2 : (Value.slice A' (Q.length + 1) c').ownBlock = some k := hk
        rw [e4] at hk2
        injection hk2 with hk2
        exact .inr (by omega)
/-! ### Blocks that lie apart -/
def F5 (a b c d e : Nat → Prop) : Nat → Nat → Prop
  | 0 => a
  | 1 => b
  | 2 => c
  | 3 => d
  | 4 => e
  | _ + 5 => fun _ => False
theorem f5_0 (a b c d e a' : Nat → Prop) : ∀ j, j ≠ 0 → F5 a' b c d e j = F5 a b c d e j
  | 0, h => absurd rfl h
  | 1, h => rfl
  | 2, h => rfl
  | 3, h => rfl
  | 4, h => rfl
  | n + 5, h => rfl
theorem f5_1 (a b c d e b' : Nat → Prop) : ∀ j, j ≠ 1 → F5 a b' c d e j = F5 a b c d e j
  | 0, h => rfl
  | 1, h => absurd rfl h
  | 2, h => rfl
  | 3, h => rfl
  | 4, h => rfl
  | n + 5, h => rfl
theorem f5_2 (a b c d e c' : Nat → Prop) : ∀ j, j ≠ 2 → F5 a b c' d e j = F5 a b c d e j
  | 0, h => rfl
  | 1, h => rfl
  | 2, h => absurd rfl h
  | 3, h => rfl
  | 4, h => rfl
  | n + 5, h => rfl
theorem f5_3 (a b c d e d' : Nat → Prop) : ∀ j, j ≠ 3 → F5 a b c d' e j = F5 a b c d e j
  | 0, h => rfl
  | 1, h => rfl
  | 2, h => rfl
  | 3, h => absurd rfl h
  | 4, h => rfl
  | n + 5, h => rfl
theorem f5_4 (a b c d e e' : Nat → Prop) : ∀ j, j ≠ 4 → F5 a b c d e' j = F5 a b c d e j
  | 0, h => rfl
  | 1, h => rfl
  | 2, h => rfl
  | 3, h => rfl
  | 4, h => absurd rfl h
  | n + 5, h => rfl
structure Dj (B : Nat) (w : World) (F : Nat → Nat → Prop) : Prop where
  lt : ∀ i k, F i k → k < w.heap.size
  lo : ∀ i k, F i k → B ≤ k
  dis : ∀ i j k, F i k → F j k → i = j
section
variable {B : Nat} {w w' : World} {F G : Nat → Nat → Prop}
theorem Dj.later (h : Dj B w F) (hs : w.heap.size ≤ w'.heap.size) : Dj B w' F := ⟨fun i k hk => Nat.lt_of_lt_of_le (h.lt i k hk) hs, h.lo, h.dis⟩
/-- One of them writes its blocks. -/
theorem Dj.turn (h : Dj B w F) (i : Nat) (hG : ∀ j, j ≠ i → G j = F j) (ht : Turn (F i) (G i) w w') (hB : B ≤ w.heap.size) (hl : ∀ k, G i k → k < w'.heap.size) : Dj B w' G := by
  have hf : ∀ k, G i k → F i k ∨ w.heap.size ≤ k := ht.foot
  have old : ∀ j, j ≠ i → ∀ k, G j k → F j k := fun j hj k hk => by rw [← hG j hj]; exact hk
  refine ⟨fun j k hk => ?_, fun j k hk => ?_, fun j j' k hk hk' => ?_⟩
  · by_cases hj : j = i
    · subst hj; exact hl k hk
    · exact Nat.lt_of_lt_of_le (h.lt j k (old j hj k hk)) ht.size
  · by_cases hj : j = i
    · subst hj
      rcases hf k hk with x | x
      · exact h.lo _ k x
      · omega
    · exact h.lo j k (old j hj k hk)
  · by_cases hj : j = i
    · by_cases hj' : j' = i
      · rw [hj, hj']
      · subst hj
        have h2 := old j' hj' k hk'
        rcases hf k hk with x | x
        · exact h.dis _ _ k x h2
        · have := h.lt j' k h2; omega
    · by_cases hj' : j' = i
      · subst hj'
        have h2 := old j hj k hk
        rcases hf k hk' with x | x
        · exact h.dis _ _ k h2 x
        · have := h.lt j k h2; omega
      · exact h.dis j j' k (old j hj k hk) (old j' hj' k hk')
theorem Dj.kept (h : Dj B w F) (i : Nat) {F' : Nat → Prop} (ht : Turn (F i) F' w w') : ∀ j, j ≠ i → ∀ k, F j k → w'.heap[k]? = w.heap[k]? := fun j hj k hk => ht.block k (h.lt j k hk) (fun x => hj (h.dis j i k hk x))
end
section
variable {w0 w w' : World} {a : Tb} {v u : Value} {z : R} {told : Nat} {pk : List Nat} {heard : Nat}
theorem _root_.Go.Proofs.YtobpinelhjpfgaaDoor.Rb.Tri.same (g : Tri w0 w a v u z told pk heard) (hk : ∀ k, UF a v u k → w'.heap[k]? = w.heap[k]?) (hb : Below w0.heap.size w0 w') : Tri w0 w' a v u z told pk heard :=
  ⟨⟨g.rb.at_.same (fun k h => hk k (.inl h)), hb, g.rb.shp⟩, g.sat.same (fun k h => hk k (.inr (.inl h))), g.rat.same (hk _ (.inr (.inr rfl))), g.lo, g.dis, g.dig⟩
end
/-- Where all lies. -/
structure Mt where
  a : Tb
  g1 : Nat
  g2 : Nat
  b3 : Nat
  b5 : Nat
  b6 : Nat
  b7 : Nat
  b8 : Nat
/-- What is there. -/
structure Zt where
  v : Value
  u : Value
  z : R
  ts : Nat
  ps : List Nat
  hh : Nat
  v1 : Value
  P1 : List Value
  L1 : List ByteArray
  v2 : Value
  P2 : List Value
  L2 : List ByteArray
  vT : Value
  T : List Rt
  vD : Value
  D : List Rt
def FF (m : Mt) (y : Zt) : Nat → Nat → Prop := F5 (UF m.a y.v y.u) (NF m.g1 y.v1 y.P1) (NF m.g2 y.v2 y.P2) (OF y.vT) (OF y.vD)
structure Sm (w0 w : World) (m : Mt) (y : Zt) : Prop where
  tri : Tri w0 w m.a y.v y.u y.z y.ts y.ps y.hh
  n1 : NAt w w0.heap.size m.g1 y.v1 y.P1 y.L1
  n2 : NAt w w0.heap.size m.g2 y.v2 y.P2 y.L2
  rt : Aw w w0.heap.size y.vT y.T
  rd : Aw w w0.heap.size y.vD y.D
  x3 : w.heap[m.b3]? = some (.cells #[.pointer (some ⟨m.a.r, 0, none⟩)] 24 (0, 0))
  x5 : w.heap[m.b5]? = some (.cells #[.pointer (some ⟨m.a.q, 0, none⟩)] 63 (0, 0))
  x6 : w.heap[m.b6]? = some (.cells #[.pointer (some ⟨m.a.g, 0, none⟩)] 65 (0, 0))
  x7 : w.heap[m.b7]? = some (.cells #[.pointer (some ⟨m.g1, 0, none⟩)] 75 (0, 0))
  x8 : w.heap[m.b8]? = some (.cells #[.pointer (some ⟨m.g2, 0, none⟩)] 75 (0, 0))
  dj : Dj w0.heap.size w (FF m y)
def kinds : List Nat := [85, 104, 102, 5, 111, 35, 33]
section
variable {w0 w w' : World} {m : Mt} {y : Zt}
theorem Sm.below (h : Sm w0 w m y) : Below w0.heap.size w0 w := h.tri.below
theorem Sm.kind (h : Sm w0 w m y) : ∀ i k, FF m y i k → ∃ c t fz, w.heap[k]? = some (.cells c t fz) ∧ t ∈ kinds
  | 0, k, hk => by
    rcases hk with e | e | e
    · obtain ⟨c, t, fz, hh, ht⟩ := h.tri.rb.at_.kind k e
      exact ⟨c, t, fz, hh, by rcases ht with rfl | rfl | rfl | rfl <;> decide⟩
    · obtain ⟨c, t, fz, hh, ht⟩ := h.tri.sat.kind k e
      exact ⟨c, t, fz, hh, by rcases ht with rfl | rfl <;> decide⟩
    · subst e; exact ⟨_, _, _, h.tri.rat.box, by decide⟩
  | 1, k, hk => by
    obtain ⟨c, t, fz, hh, ht⟩ := h.n1.kind k hk
    exact ⟨c, t, fz, hh, by rcases ht with rfl | rfl | rfl <;> decide⟩
  | 2, k, hk => by
    obtain ⟨c, t, fz, hh, ht⟩ := h.n2.kind k hk
    exact ⟨c, t, fz, hh, by rcases ht with rfl | rfl | rfl <;> decide⟩
  | 3, k, hk => by
    obtain ⟨_, _, c, fz, hh⟩ := h.rt.kind k hk
    exact ⟨c, _, fz, hh, by decide⟩
  | 4, k, hk => by
    obtain ⟨_, _, c, fz, hh⟩ := h.rd.kind k hk
    exact ⟨c, _, fz, hh, by decide⟩
  | i + 5, k, hk => hk.elim
/-- A box of another make stays. -/
theorem Sm.box (h : Sm w0 w m y) (i : Nat) {F' : Nat → Prop} (ht : Turn (FF m y i) F' w w') {b : Nat} {c : Array Value} {t : TypeId} {fz : Nat × Nat} (hb : w.heap[b]? = some (.cells c t fz)) (hn : t ∉ kinds) : w'.heap[b]? = some (.cells c t fz) := by
  refine (ht.block b (lt_of_heap hb) (fun hk => ?_)).trans hb
  obtain ⟨c2, t2, fz2, hh, hm⟩ := h.kind i b hk
  rw [kind_eq hb hh] at hn
  exact hn hm
theorem Sm.later (h : Sm w0 w m y) (hb : Below w.heap.size w w') : Sm w0 w' m y :=
  ⟨h.tri.later hb, h.n1.later hb, h.n2.later hb, h.rt.same (fun k hk => hb.block k (h.rt.kind k hk).1), h.rd.same (fun k hk => hb.block k (h.rd.kind k hk).1),
   (hb.block _ (lt_of_heap h.x3)).trans h.x3, (hb.block _ (lt_of_heap h.x5)).trans h.x5, (hb.block _ (lt_of_heap h.x6)).trans h.x6, (hb.block _ (lt_of_heap h.x7)).trans h.x7, (hb.block _ (lt_of_heap h.x8)).trans h.x8, h.dj.later hb.size⟩
/-- Where one writes, all that was there ahead of all stays. -/
theorem Sm.beneath (h : Sm w0 w m y) (i : Nat) {F' : Nat → Prop} (ht : Turn (FF m y i) F' w w') : Below w0.heap.size w0 w' := h.below.trans (ht.below _ h.below.size (fun k hk => h.dj.lo i k hk))
theorem Sm.trio (h : Sm w0 w m y) {v' u' : Value} {z' : R} {ts' : Nat} {ps' : List Nat} {hh' : Nat} (hn : Tri w0 w' m.a v' u' z' ts' ps' hh') (ht : Turn (UF m.a y.v y.u) (UF m.a v' u') w w') : Sm w0 w' m { y with v := v', u := u', z := z', ts := ts', ps := ps', hh := hh' } :=
  have ht : Turn (FF m y 0) (FF m { y with v := v', u := u', z := z', ts := ts', ps := ps', hh := hh' } 0) w w' := ht
  ⟨hn, h.n1.same (fun k hk => h.dj.kept 0 ht 1 (by decide) k hk), h.n2.same (fun k hk => h.dj.kept 0 ht 2 (by decide) k hk), h.rt.same (fun k hk => h.dj.kept 0 ht 3 (by decide) k hk), h.rd.same (fun k hk => h.dj.kept 0 ht 4 (by decide) k hk), h.box 0 ht h.x3 (by decide), h.box 0 ht h.x5 (by decide), h.box 0 ht h.x6 (by decide), h.box 0 ht h.x7 (by decide), h.box 0 ht h.x8 (by decide), h.dj.turn 0 (f5_0 _ _ _ _ _ _) ht h.below.size (hn.lt)⟩
theorem Sm.net1 (h : Sm w0 w m y) {v' : Value} {P' : List Value} {L' : List ByteArray} (hn : NAt w' w0.heap.size m.g1 v' P' L') (ht : Turn (NF m.g1 y.v1 y.P1) (NF m.g1 v' P') w w') : Sm w0 w' m { y with v1 := v', P1 := P', L1 := L' } :=
  have ht : Turn (FF m y 1) (FF m { y with v1 := v', P1 := P', L1 := L' } 1) w w' := ht
  ⟨h.tri.same (fun k hk => h.dj.kept 1 ht 0 (by decide) k hk) (h.beneath 1 ht), hn, h.n2.same (fun k hk => h.dj.kept 1 ht 2 (by decide) k hk), h.rt.same (fun k hk => h.dj.kept 1 ht 3 (by decide) k hk), h.rd.same (fun k hk => h.dj.kept 1 ht 4 (by decide) k hk), h.box 1 ht h.x3 (by decide), h.box 1 ht h.x5 (by decide), h.box 1 ht h.x6 (by decide), h.box 1 ht h.x7 (by decide), h.box 1 ht h.x8 (by decide), h.dj.turn 1 (f5_1 _ _ _ _ _ _) ht h.below.size (fun k hk => (hn.blocks k hk).2)⟩
theorem Sm.net2 (h : Sm w0 w m y) {v' : Value} {P' : List Value} {L' : List ByteArray} (hn : NAt w' w0.heap.size m.g2 v' P' L') (ht : Turn (NF m.g2 y.v2 y.P2) (NF m.g2 v' P') w w') : Sm w0 w' m { y with v2 := v', P2 := P', L2 := L' } :=
  have ht : Turn (FF m y 2) (FF m { y with v2 := v', P2 := P', L2 := L' } 2) w w' := ht
  ⟨h.tri.same (fun k hk => h.dj.kept 2 ht 0 (by decide) k hk) (h.beneath 2 ht), h.n1.same (fun k hk => h.dj.kept 2 ht 1 (by decide) k hk), hn, h.rt.same (fun k hk => h.dj.kept 2 ht 3 (by decide) k hk), h.rd.same (fun k hk => h.dj.kept 2 ht 4 (by decide) k hk), h.box 2 ht h.x3 (by decide), h.box 2 ht h.x5 (by decide), h.box 2 ht h.x6 (by decide), h.box 2 ht h.x7 (by decide), h.box 2 ht h.x8 (by decide), h.dj.turn 2 (f5_2 _ _ _ _ _ _) ht h.below.size (fun k hk => (hn.blocks k hk).2)⟩
theorem Sm.rowT (h : Sm w0 w m y) {v' : Value} {Q' : List Rt} (hn : Aw w' w0.heap.size v' Q') (ht : Turn (OF y.vT) (OF v') w w') : Sm w0 w' m { y with vT := v', T := Q' } :=
  have ht : Turn (FF m y 3) (FF m { y with vT := v', T := Q' } 3) w w' := ht
  ⟨h.tri.same (fun k hk => h.dj.kept 3 ht 0 (by decide) k hk) (h.beneath 3 ht), h.n1.same (fun k hk => h.dj.kept 3 ht 1 (by decide) k hk), h.n2.same (fun k hk => h.dj.kept 3 ht 2 (by decide) k hk), hn, h.rd.same (fun k hk => h.dj.kept 3 ht 4 (by decide) k hk), h.box 3 ht h.x3 (by decide), h.box 3 ht h.x5 (by decide), h.box 3 ht h.x6 (by decide), h.box 3 ht h.x7 (by decide), h.box 3 ht h.x8 (by decide), h.dj.turn 3 (f5_3 _ _ _ _ _ _) ht h.below.size (fun k hk => (hn.kind k hk).1)⟩
theorem Sm.rowD (h : Sm w0 w m y) {v' : Value} {Q' : List Rt} (hn : Aw w' w0.heap.size v' Q') (ht : Turn (OF y.vD) (OF v') w w') : Sm w0 w' m { y with vD := v', D := Q' } :=
  have ht : Turn (FF m y 4) (FF m { y with vD := v', D := Q' } 4) w w' := ht
  ⟨h.tri.same (fun k hk => h.dj.kept 4 ht 0 (by decide) k hk) (h.beneath 4 ht), h.n1.same (fun k hk => h.dj.kept 4 ht 1 (by decide) k hk), h.n2.same (fun k hk => h.dj.kept 4 ht 2 (by decide) k hk), h.rt.same (fun k hk => h.dj.kept 4 ht 3 (by decide) k hk), hn, h.box 4 ht h.x3 (by decide), h.box 4 ht h.x5 (by decide), h.box 4 ht h.x6 (by decide), h.box 4 ht h.x7 (by decide), h.box 4 ht h.x8 (by decide), h.dj.turn 4 (f5_4 _ _ _ _ _ _) ht h.below.size (fun k hk => (hn.kind k hk).1)⟩
end
end Tt
end Go.Proofs.YtobpinelhjpfgaaDoor
