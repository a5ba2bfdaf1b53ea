/-
  Layer 8: lists in memory, of whatever make and of one's own: of numbers, of claims; something is appended.
-/
import Derived.Test.YtobpinelhjpfgaaDoorBkPlain
import Derived.Test.YtobpinelhjpfgaaDoorFrame
import Derived.WalkKit
import Derived.WalkSpells
import Derived.WalkLawsBesides
import Derived.RegionTactic
import Derived.Maps.AppendAt
import Derived.Lib.Hide
import Derived.Deep.QuietTactic
import Derived.BigQuiet
import Derived.ChangeAlike
import Derived.OwnWalk
import Derived.IntWalk
import Derived.Laws.AppendOwnNone
set_option linter.unusedVariables false
set_option maxRecDepth 100000
namespace Go.Proofs.YtobpinelhjpfgaaDoor.Bk
open Go.RowKit

theorem Tryd.infoInt8 : (Tryd.prog.info? 3).map (fun i => (i.zero, i.size, i.bytes)) = some (some (.int .i64 0), 1, 8) := by kernel_rfl
theorem add_at (g off i : Nat) : (Addr.add ⟨g, off, none⟩ i) = ⟨g, off + i, none⟩ := by unfold Addr.add; split <;> simp_all
theorem below_drewN (B : Nat) (w : World) (n : Nat) : Below B w (w.drewN n) := ⟨rfl, rfl, rfl, Nat.le_refl _, fun _ _ => rfl⟩
theorem ret_bool {a b : Bool} (h : a = b) : Ending.returned (.bool a) = .returned (.bool b) := by rw [h]

/-- Elements of k cells each at a slice, of whatever make, in a block below B: xs are their cells. -/
structure Gt (k B : Nat) (w : World) (A : Option Addr) (n cap : Nat) (xs : List Value) : Prop where
  len : xs.length = n * k
  le : n ≤ cap
  max : cap ≤ maxLen
  nil : A = none → cap = 0
  cell : 0 < n → ∃ g off, A = some ⟨g, off, none⟩ ∧ g < B ∧ ∀ j, j < n * k → w.cell? ⟨g, off + j, none⟩ = xs[j]?
section
variable {k B B' : Nat} {w w' : World} {A : Option Addr} {n cap : Nat} {xs : List Value}
theorem Gt.below (h : Gt k B w A n cap xs) (hb : Below B w w') : Gt k B w' A n cap xs :=
  ⟨h.len, h.le, h.max, h.nil, fun hn => by
    obtain ⟨g, off, e, hg, hc⟩ := h.cell hn
    exact ⟨g, off, e, hg, fun j hj => (hb.cell (p := ⟨g, off + j, none⟩) hg).trans (hc j hj)⟩⟩
theorem Gt.raise (h : Gt k B w A n cap xs) (hb : B ≤ B') : Gt k B' w A n cap xs :=
  ⟨h.len, h.le, h.max, h.nil, fun hn => by
    obtain ⟨g, off, e, hg, hc⟩ := h.cell hn
    exact ⟨g, off, e, by omega, hc⟩⟩
theorem Gt.later (h : Gt k w.heap.size w A n cap xs) (hb : Below w.heap.size w w') : Gt k w'.heap.size w' A n cap xs := (h.below hb).raise hb.size
theorem Gt.nothing (k B : Nat) (w : World) : Gt k B w none 0 0 [] := ⟨by simp, Nat.le_refl _, by unfold maxLen; omega, fun _ => rfl, fun h => by omega⟩
theorem Gt.size (h : Gt k B w A n cap xs) : n ≤ cap ∧ cap ≤ 9223372036854775807 := by
  have := h.max
  unfold maxLen at this
  exact ⟨h.le, by omega⟩
/-- The first so many. -/
theorem Gt.cut (h : Gt k B w A n cap xs) {m : Nat} (hm : m ≤ n) : Gt k B w A m cap (xs.take (m * k)) := by
  have hmk : m * k ≤ n * k := Nat.mul_le_mul_right _ hm
  refine ⟨by rw [List.length_take, h.len]; omega, Nat.le_trans hm h.le, h.max, h.nil, fun hn => ?_⟩
  obtain ⟨g, off, e, hg, hc⟩ := h.cell (by omega)
  refine ⟨g, off, e, hg, fun j hj => ?_⟩
  rw [hc j (by omega), List.getElem?_take, if_pos hj]
/-- Those from one on. -/
theorem Gt.tail {g off : Nat} (h : Gt k B w (some ⟨g, off, none⟩) n cap xs) {m : Nat} (hm : m ≤ n) (A' : Option Addr) (hA : A' ≠ none) (hA' : m < n → A' = some ⟨g, off + m * k, none⟩) : Gt k B w A' (n - m) (cap - m) (xs.drop (m * k)) := by
  have h1 := h.le
  have h2 := h.max
  refine ⟨by rw [List.length_drop, h.len, Nat.sub_mul], by omega, by omega, fun e => absurd e hA, fun hn => ?_⟩
  obtain ⟨g', off', e, hg, hc⟩ := h.cell (by omega)
  injection e with e
  injection e with e1 e2
  subst e1 e2
  refine ⟨g, off + m * k, hA' (by omega), hg, fun j hj => ?_⟩
  rw [Nat.sub_mul] at hj
  rw [List.getElem?_drop, ← hc (m * k + j) (by omega), Nat.add_assoc]
theorem Gt.cells (h : Gt k B w A n cap xs) (ad : Addr) (hA : A = some ad) : ∀ j u, xs[j]? = some u → w.cell? (ad.add j) = some u := by
  intro j u hu
  have hj : j < xs.length := (List.getElem?_eq_some_iff.1 hu).1
  rw [h.len] at hj
  obtain ⟨g, off, e, hg, hc⟩ := h.cell (by rcases Nat.eq_zero_or_pos n with q | q; (subst q; simp at hj); exact q)
  rw [hA] at e
  injection e with e
  subst e
  rw [add_at, hc j hj, hu]
end
/-- What the call owns reads as of whatever make. -/
theorem gt_own {k base : Nat} {w : World} {e : TypeId} {A : Option Addr} {n m cap : Nat} {xs : List Value} (h : w.ownsRow base e k (.slice A m cap) n xs) : m = n ∧ Gt k w.heap.size w A n cap xs := by
  rcases h.2 with ⟨q, h0⟩ | ⟨g, cap', cur, q, hg, hh, h1, h2, _⟩
  · injection q with q1 q2 q3
    subst q1 q2 q3 h0
    exact ⟨rfl, h.1, Nat.le_refl _, by unfold maxLen; omega, fun _ => rfl, fun h => by omega⟩
  · injection q with q1 q2 q3
    subst q1 q2 q3
    refine ⟨rfl, h.1, h1, h2, fun h => (by cases h), fun _ => ⟨g, 0, rfl, (h.lt g rfl).2, fun j hj => ?_⟩⟩
    rw [Nat.zero_add, h.cellAt _ hj]
theorem own_form {k base : Nat} {w : World} {e : TypeId} {v : Value} {n : Nat} {xs : List Value} (h : w.ownsRow base e k v n xs) : ∃ A cap, v = .slice A n cap := by
  rcases h.2 with ⟨q, h0⟩ | ⟨g, cap', cur, q, _⟩
  · exact ⟨none, 0, by rw [q, h0]⟩
  · exact ⟨_, _, q⟩
theorem own_later {w w' : World} {base k : Nat} {e : TypeId} {v : Value} {n : Nat} {xs : List Value} (h : w.ownsRow base e k v n xs) (hb : Below w.heap.size w w') : w'.ownsRow base e k v n xs :=
  ownsRow_same h (fun g hg => hb.block g (h.lt g hg).2)
theorem own_lower {w : World} {base base' k : Nat} {e : TypeId} {v : Value} {n : Nat} {xs : List Value} (h : w.ownsRow base e k v n xs) (hb : base' ≤ base) : w.ownsRow base' e k v n xs := by
  obtain ⟨h1, h2⟩ := h
  refine ⟨h1, ?_⟩
  rcases h2 with h2 | ⟨g, cap, cur, rfl, hg, r⟩
  · exact .inl h2
  · exact .inr ⟨g, cap, cur, rfl, by omega, r⟩
/-- A slice literal with nothing in it. -/
theorem own_empty (w : World) (e : TypeId) (k base : Nat) (hb : base ≤ w.heap.size) : (w.alloc (.cells #[] e)).ownsRow base e k (.slice (some ⟨w.heap.size, 0, none⟩) 0 0) 0 [] :=
  ⟨by simp, .inr ⟨w.heap.size, 0, #[], rfl, hb, heap_alloc_new w _, Nat.le_refl _, by unfold maxLen; omega, by simp, by simp⟩⟩
/-- Something is appended to what is one's own. -/
theorem run_appG {w : World} (sl e : TypeId) (i0 : TypeInfo) (z : Value) (k bytes : Nat) (hu : Tryd.prog.underlying sl = some (.slice e)) (hi : Tryd.prog.info? e = some i0) (hz0 : i0.zero = some z) (hz1 : i0.size = k) (hz2 : i0.bytes = bytes) (hzs : z.cells.size = k) (hk : 0 < k) (hb0 : bytes ≤ 64)
    (ty : TypeId) (base : Nat) (v : Value) (n : Nat) (xs : List Value) (hown : w.ownsRow base e k v n xs) (A : Option Addr) (m c : Nat) (ys : List Value) (hr : Gt k w.heap.size w A m c ys) (h1 : ∀ u ∈ ys, u.oneCell' = true) (hb : n + m ≤ 1000000) (hbase : base ≤ w.heap.size) :
    ∃ v' w', (Builtin.append_ #[sl, sl] ty #[v, .slice A m c]).run Tryd.prog w = .ok v' w' ∧ w'.ownsRow base e k v' (n + m) (xs ++ ys) ∧ w.grownBy w' v.ownBlock ∧ (v'.ownBlock = v.ownBlock ∨ v'.ownBlock = some w.heap.size) := by
  cases A with
  | none =>
    have hc0 := hr.nil rfl
    have hm0 : m = 0 := by have := hr.le; omega
    subst hm0 hc0
    obtain rfl : ys = [] := List.eq_nil_of_length_eq_zero (by rw [hr.len]; simp)
    exact ⟨v, w, run_append_owned_none (P := Tryd.prog) (w := w) base sl ty e i0 k hu hi v n xs hown, by simpa using hown, ⟨rfl, rfl, rfl, Nat.le_refl _, fun _ _ _ => rfl⟩, .inl rfl⟩
  | some ad =>
    obtain ⟨v', w', hrun, h2, h3, _, h5⟩ := run_append_own_at (P := Tryd.prog) w base sl ty e i0 z k bytes hu hi hz0 hz1 hz2 hzs hk v n xs hown ad m c ys hr.len (hr.cells ad rfl) h1 (by unfold maxLen; omega) (Nat.le_trans (Nat.mul_le_mul hb hb0) (by decide)) hbase
    exact ⟨v', w', hrun, h2, h3, h5⟩
theorem appG {w : World} {ops : Array Oper} {rest : List Oper} {o : Oper} {a : Act} {Q : Exit → Act → World → Prop} (sl e : TypeId) (i0 : TypeInfo) (z : Value) (k bytes : Nat) (hu : Tryd.prog.underlying sl = some (.slice e)) (hi : Tryd.prog.info? e = some i0) (hz0 : i0.zero = some z) (hz1 : i0.size = k) (hz2 : i0.bytes = bytes) (hzs : z.cells.size = k) (hk : 0 < k) (hb0 : bytes ≤ 64)
    (hgd : o.guard = none) (s x : Operand) (ho : o.op = .call { callee := .builtin .append, args := #[s, x], argTypes := #[sl, sl] })
    (base : Nat) (v : Value) (n : Nat) (xs : List Value) (hs : a.eval s = v) (hown : w.ownsRow base e k v n xs)
    (A : Option Addr) (m c : Nat) (ys : List Value) (hx : a.eval x = .slice A m c) (hr : Gt k w.heap.size w A m c ys) (h1 : ∀ u ∈ ys, u.oneCell' = true) (hb : n + m ≤ 1000000) (hbase : base ≤ w.heap.size)
    (h : ∀ A' c' w', w'.ownsRow base e k (.slice A' (n + m) c') (n + m) (xs ++ ys) → Below base w w' → w.grownBy w' v.ownBlock → ((Value.slice A' (n + m) c').ownBlock = v.ownBlock ∨ (Value.slice A' (n + m) c').ownBlock = some w.heap.size) → wpList Tryd.prog ops Q rest (a.put o.dst (.slice A' (n + m) c')) w') : wpList Tryd.prog ops Q (o :: rest) a w := by
  obtain ⟨v', w', hrun, h2, h3, h4⟩ := run_appG sl e i0 z k bytes hu hi hz0 hz1 hz2 hzs hk hb0 o.type base v n xs hown A m c ys hr h1 hb hbase
  obtain ⟨A', c', rfl⟩ := own_form h2
  refine wpList_plain hgd fun K hK => ?_
  unfold Oper.wp execOp
  simp only [ho, resolve, invoke, builtin, Sem.run_bind, Sem.run_pure, Result.andThen_ok, List.map_toArray, List.map_cons, List.map_nil, hs, hx, hrun]
  exact hK _ _ (h A' c' w' h2 (Below.grown (Below.refl _ _) h3 hbase (fun k hk => (hown.lt k hk).1)) h3 h4)

/-! ### Numbers -/
def ivs (L : List Int) : List Value := L.map fun z => Value.int .i64 z
theorem ivs_one (L : List Int) : ∀ u ∈ ivs L, u.oneCell' = true := by
  intro u hu
  simp only [ivs, List.mem_map] at hu
  obtain ⟨z, _, rfl⟩ := hu
  rfl
theorem ivs_get {L : List Int} {j : Nat} (h : j < L.length) : (ivs L)[j]? = some (.int .i64 (L.getD j 0)) := by simp [ivs, List.getD, List.getElem?_eq_getElem h]
/-- Numbers at a slice, of whatever make. -/
def Lt (B : Nat) (w : World) (A : Option Addr) (n cap : Nat) (L : List Int) : Prop := Gt 1 B w A n cap (ivs L)
theorem Lt.len {B : Nat} {w : World} {A : Option Addr} {n cap : Nat} {L : List Int} (h : Lt B w A n cap L) : L.length = n := by have := Gt.len h; simpa [ivs] using this
theorem Lt.cell {B : Nat} {w : World} {A : Option Addr} {n cap : Nat} {L : List Int} (h : Lt B w A n cap L) {j : Nat} (hj : j < n) : ∃ g off, A = some ⟨g, off, none⟩ ∧ g < B ∧ w.cell? ⟨g, off + j, none⟩ = some (.int .i64 (L.getD j 0)) := by
  obtain ⟨g, off, e, hg, hc⟩ := Gt.cell h (by omega)
  exact ⟨g, off, e, hg, by rw [hc j (by omega), ivs_get (by rw [h.len]; exact hj)]⟩
/-- Numbers of one's own. -/
def Iw (w : World) (base : Nat) (v : Value) (L : List Int) : Prop := w.ownsRow base 3 1 v L.length (ivs L)
theorem Iw.lt {w : World} {base : Nat} {A : Option Addr} {n cap : Nat} {L : List Int} (h : Iw w base (.slice A n cap) L) : n = L.length ∧ Lt w.heap.size w A n cap L := by
  obtain ⟨rfl, h2⟩ := gt_own h
  exact ⟨rfl, h2⟩
theorem Iw.later {w w' : World} {base : Nat} {v : Value} {L : List Int} (h : Iw w base v L) (hb : Below w.heap.size w w') : Iw w' base v L := Bk.own_later h hb
theorem Iw.nil (w : World) (base : Nat) : Iw w base (.slice none 0 0) [] := World.ownsRow_nil _ _ _ _
/-- One number, in a block of its own. -/
theorem Lt.one (w : World) (z : Int) : Lt (w.alloc (.cells #[.int .i64 z] 3)).heap.size (w.alloc (.cells #[.int .i64 z] 3)) (some ⟨w.heap.size, 0, none⟩) 1 1 [z] := by
  refine ⟨rfl, Nat.le_refl _, by unfold maxLen; omega, fun h => (by cases h), fun _ => ⟨w.heap.size, 0, rfl, by simp, fun j hj => ?_⟩⟩
  obtain rfl : j = 0 := by omega
  simp [World.cell?_alloc_new, ivs]
theorem app_ints {w : World} {ops : Array Oper} {rest : List Oper} {o : Oper} {a : Act} {Q : Exit → Act → World → Prop} (hgd : o.guard = none) (s x : Operand) (ho : o.op = .call { callee := .builtin .append, args := #[s, x], argTypes := #[58, 58] })
    (base : Nat) (v : Value) (xs : List Int) (hs : a.eval s = v) (hown : Iw w base v xs)
    (A : Option Addr) (m c : Nat) (ys : List Int) (hx : a.eval x = .slice A m c) (hr : Lt w.heap.size w A m c ys) (hb : xs.length + m ≤ 1000000) (hbase : base ≤ w.heap.size)
    (h : ∀ A' n' c' w', n' = (xs ++ ys).length → Iw w' base (.slice A' n' c') (xs ++ ys) → Below base w w' → w.grownBy w' v.ownBlock → ((Value.slice A' n' c').ownBlock = v.ownBlock ∨ (Value.slice A' n' c').ownBlock = some w.heap.size) → wpList Tryd.prog ops Q rest (a.put o.dst (.slice A' n' c')) w') : wpList Tryd.prog ops Q (o :: rest) a w := by
  obtain ⟨i0, hi, hz0, hz1, hz2⟩ := info_parts Tryd.infoInt8
  refine appG 58 3 i0 _ 1 8 Tryd.underlying58 hi hz0 hz1 hz2 rfl (by decide) (by decide) hgd s x ho base v xs.length (ivs xs) hs hown A m c (ivs ys) hx hr (ivs_one ys) hb hbase ?_
  intro A' c' w' h1 h2 h3 h4
  have e : xs.length + m = (xs ++ ys).length := by rw [List.length_append, hr.len]
  refine h A' _ c' w' e (by unfold Iw ivs; rw [List.map_append, ← e]; exact h1) h2 h3 h4

/-! ### Claims -/
def pcl : List (Value × Value) → List Value
  | [] => []
  | x :: l => x.1 :: x.2 :: pcl l
theorem pcl_length : ∀ l, (pcl l).length = l.length * 2
  | [] => rfl
  | x :: l => by simp [pcl, pcl_length l]; omega
theorem pcl_app : ∀ l m, pcl (l ++ m) = pcl l ++ pcl m
  | [], m => rfl
  | x :: l, m => by simp [pcl, pcl_app l m]
theorem pcl_take : ∀ (l : List (Value × Value)) (i : Nat), pcl (l.take i) = (pcl l).take (i * 2)
  | [], i => by simp [pcl]
  | x :: l, 0 => by simp [pcl]
  | x :: l, i + 1 => by
    rw [show (i + 1) * 2 = i * 2 + 1 + 1 by omega]
    simp [pcl, pcl_take l i]
theorem pcl_drop : ∀ (l : List (Value × Value)) (i : Nat), pcl (l.drop i) = (pcl l).drop (i * 2)
  | [], i => by simp [pcl]
  | x :: l, 0 => by simp
  | x :: l, i + 1 => by
    rw [show (i + 1) * 2 = i * 2 + 1 + 1 by omega]
    simp [pcl, pcl_drop l i]
theorem pcl_get : ∀ (l : List (Value × Value)) (i : Nat) (p : Value × Value), l[i]? = some p → (pcl l)[i * 2]? = some p.1 ∧ (pcl l)[i * 2 + 1]? = some p.2
  | [], i, p, h => by simp at h
  | x :: l, 0, p, h => by simp at h; subst h; simp [pcl]
  | x :: l, i + 1, p, h => by
    have ih := pcl_get l i p (by simpa using h)
    have e1 : (i + 1) * 2 = i * 2 + 2 := by omega
    have e2 : (i + 1) * 2 + 1 = i * 2 + 1 + 2 := by omega
    rw [e2, e1]
    simpa [pcl] using ih
/-- A value is a slice with these numbers. -/
def Sl (B : Nat) (w : World) (v : Value) (L : List Int) : Prop := ∃ A n c, v = .slice A n c ∧ Lt B w A n c L
theorem Sl.below {B : Nat} {w w' : World} {v : Value} {L : List Int} (h : Sl B w v L) (hb : Below B w w') : Sl B w' v L := by obtain ⟨A, n, c, e, h⟩ := h; exact ⟨A, n, c, e, Gt.below h hb⟩
theorem Sl.raise {B B' : Nat} {w : World} {v : Value} {L : List Int} (h : Sl B w v L) (hb : B ≤ B') : Sl B' w v L := by obtain ⟨A, n, c, e, h⟩ := h; exact ⟨A, n, c, e, Gt.raise h hb⟩
theorem Sl.one {B : Nat} {w : World} {v : Value} {L : List Int} (h : Sl B w v L) : v.oneCell' = true := by obtain ⟨A, n, c, rfl, h⟩ := h; rfl
/-- Pairs of slices that read as claims. -/
def Rd (B : Nat) (w : World) (P : List (Value × Value)) (C : Cm) : Prop := P.length = C.length ∧ ∀ j p, P[j]? = some p → Sl B w p.1 (hold C j) ∧ Sl B w p.2 (need C j)
theorem Rd.below {B : Nat} {w w' : World} {P : List (Value × Value)} {C : Cm} (h : Rd B w P C) (hb : Below B w w') : Rd B w' P C := ⟨h.1, fun j p e => ⟨(h.2 j p e).1.below hb, (h.2 j p e).2.below hb⟩⟩
theorem Rd.raise {B B' : Nat} {w : World} {P : List (Value × Value)} {C : Cm} (h : Rd B w P C) (hb : B ≤ B') : Rd B' w P C := ⟨h.1, fun j p e => ⟨(h.2 j p e).1.raise hb, (h.2 j p e).2.raise hb⟩⟩
theorem Rd.one {B : Nat} {w : World} {P : List (Value × Value)} {C : Cm} (h : Rd B w P C) : ∀ u ∈ pcl P, u.oneCell' = true := by
  have : ∀ p ∈ P, p.1.oneCell' = true ∧ p.2.oneCell' = true := fun p hp => by
    obtain ⟨j, hj, rfl⟩ := List.getElem_of_mem hp
    have := h.2 j _ (List.getElem?_eq_getElem hj)
    exact ⟨this.1.one, this.2.one⟩
  clear h
  induction P with
  | nil => simp [pcl]
  | cons x l ih =>
    intro u hu
    simp only [pcl, List.mem_cons] at hu
    rcases hu with rfl | rfl | hu
    · exact (this x (by simp)).1
    · exact (this x (by simp)).2
    · exact ih (fun p hp => this p (by simp [hp])) u hu
theorem hold_take {C : Cm} {m j : Nat} (h : j < m) : hold (C.take m) j = hold C j ∧ need (C.take m) j = need C j := by
  unfold hold need
  simp only [List.getD, List.getElem?_take]
  rw [if_pos h]
  exact ⟨rfl, rfl⟩
theorem hold_drop {C : Cm} {m j : Nat} : hold (C.drop m) j = hold C (m + j) ∧ need (C.drop m) j = need C (m + j) := by
  unfold hold need
  constructor <;> simp [List.getD, List.getElem?_drop]
theorem Rd.take {B : Nat} {w : World} {P : List (Value × Value)} {C : Cm} (h : Rd B w P C) (m : Nat) : Rd B w (P.take m) (C.take m) := by
  refine ⟨by rw [List.length_take, List.length_take, h.1], fun j p e => ?_⟩
  rw [List.getElem?_take] at e
  split at e
  · rename_i hj
    rw [(hold_take hj).1, (hold_take hj).2]
    exact h.2 j p e
  · cases e
theorem Rd.drop {B : Nat} {w : World} {P : List (Value × Value)} {C : Cm} (h : Rd B w P C) (m : Nat) : Rd B w (P.drop m) (C.drop m) := by
  refine ⟨by rw [List.length_drop, List.length_drop, h.1], fun j p e => ?_⟩
  rw [List.getElem?_drop] at e
  rw [hold_drop.1, hold_drop.2]
  exact h.2 _ p e
theorem Rd.app {B : Nat} {w : World} {P Q : List (Value × Value)} {C D : Cm} (h : Rd B w P C) (k : Rd B w Q D) : Rd B w (P ++ Q) (C ++ D) := by
  refine ⟨by rw [List.length_append, List.length_append, h.1, k.1], fun j p e => ?_⟩
  rw [List.getElem?_append] at e
  split at e
  · rename_i hj
    have := h.2 j p e
    unfold hold need at this ⊢
    simp only [List.getD] at this ⊢
    rw [List.getElem?_append_left (by rw [← h.1]; exact hj)]
    exact this
  · rename_i hj
    have := k.2 _ p e
    unfold hold need at this ⊢
    simp only [List.getD] at this ⊢
    rw [List.getElem?_append_right (by rw [← h.1]; omega), ← h.1]
    exact this
/-- One of them is another one. -/
theorem Rd.set {B : Nat} {w : World} {P : List (Value × Value)} {C : Cm} (h : Rd B w P C) {i : Nat} (hi : i < C.length) (p : Value × Value) (c : List Int × List Int) (h1 : Sl B w p.1 c.1) (h2 : Sl B w p.2 c.2) : Rd B w (P.set i p) (C.set i c) := by
  refine ⟨by rw [List.length_set, List.length_set, h.1], fun j q e => ?_⟩
  rw [List.getElem?_set] at e
  rw [hold_set hi, need_set hi]
  by_cases hj : i = j
  · subst hj
    rw [if_pos rfl, if_pos (by rw [h.1]; exact hi)] at e
    injection e with e
    subst e
    rw [if_pos rfl, if_pos rfl]
    exact ⟨h1, h2⟩
  · rw [if_neg hj] at e
    rw [if_neg (fun e => hj e.symm), if_neg (fun e => hj e.symm)]
    exact h.2 j q e
/-- Claims at a slice, of whatever make. -/
def Cl (B : Nat) (w : World) (A : Option Addr) (n cap : Nat) (C : Cm) : Prop := ∃ P, Gt 2 B w A n cap (pcl P) ∧ Rd B w P C
section
variable {B B' : Nat} {w w' : World} {A : Option Addr} {n cap : Nat} {C : Cm}
theorem Cl.below (h : Cl B w A n cap C) (hb : Below B w w') : Cl B w' A n cap C := by obtain ⟨P, h1, h2⟩ := h; exact ⟨P, h1.below hb, h2.below hb⟩
theorem Cl.raise (h : Cl B w A n cap C) (hb : B ≤ B') : Cl B' w A n cap C := by obtain ⟨P, h1, h2⟩ := h; exact ⟨P, h1.raise hb, h2.raise hb⟩
theorem Cl.later (h : Cl w.heap.size w A n cap C) (hb : Below w.heap.size w w') : Cl w'.heap.size w' A n cap C := (h.below hb).raise hb.size
theorem Cl.len (h : Cl B w A n cap C) : C.length = n := by obtain ⟨P, h1, h2⟩ := h; have := h1.len; rw [pcl_length] at this; rw [← h2.1]; omega
theorem Cl.size (h : Cl B w A n cap C) : n ≤ cap ∧ cap ≤ 9223372036854775807 := by obtain ⟨P, h1, h2⟩ := h; exact h1.size
theorem Cl.cut (h : Cl B w A n cap C) {m : Nat} (hm : m ≤ n) : Cl B w A m cap (C.take m) := by
  obtain ⟨P, h1, h2⟩ := h
  exact ⟨P.take m, by rw [pcl_take]; exact h1.cut hm, h2.take m⟩
theorem Cl.tail {g off : Nat} (h : Cl B w (some ⟨g, off, none⟩) n cap C) {m : Nat} (hm : m ≤ n) (A' : Option Addr) (hA : A' ≠ none) (hA' : m < n → A' = some ⟨g, off + m * 2, none⟩) : Cl B w A' (n - m) (cap - m) (C.drop m) := by
  obtain ⟨P, h1, h2⟩ := h
  exact ⟨P.drop m, by rw [pcl_drop]; exact h1.tail hm A' hA hA', h2.drop m⟩
/-- What one of them holds, and needs. -/
theorem Cl.cell (h : Cl B w A n cap C) {j : Nat} (hj : j < n) : ∃ g off a1 n1 c1 a2 n2 c2, A = some ⟨g, off, none⟩ ∧ g < B ∧ w.cell? ⟨g, off + j * 2, none⟩ = some (.slice a1 n1 c1) ∧ w.cell? ⟨g, off + j * 2 + 1, none⟩ = some (.slice a2 n2 c2) ∧
    Lt B w a1 n1 c1 (hold C j) ∧ Lt B w a2 n2 c2 (need C j) := by
  have hl := h.len
  obtain ⟨P, h1, h2⟩ := h
  obtain ⟨g, off, e, hg, hc⟩ := h1.cell (by omega)
  obtain ⟨p, hp⟩ : ∃ p, P[j]? = some p := ⟨_, List.getElem?_eq_getElem (by rw [h2.1]; omega)⟩
  obtain ⟨⟨a1, n1, c1, e1, k1⟩, ⟨a2, n2, c2, e2, k2⟩⟩ := h2.2 j p hp
  obtain ⟨q1, q2⟩ := pcl_get P j p hp
  refine ⟨g, off, a1, n1, c1, a2, n2, c2, e, hg, ?_, ?_, k1, k2⟩
  · rw [hc (j * 2) (by omega), q1, e1]
  · rw [Nat.add_assoc, hc (j * 2 + 1) (by omega), q2, e2]
end
end Go.Proofs.YtobpinelhjpfgaaDoor.Bk
