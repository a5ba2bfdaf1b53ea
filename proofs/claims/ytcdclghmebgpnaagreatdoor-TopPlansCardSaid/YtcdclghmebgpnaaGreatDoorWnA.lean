/-
  Layer 6: lists of windows, of whatever make and of one's own; a window is appended.
-/
import Derived.Test.YtcdclghmebgpnaaGreatDoorRows
import Derived.Test.YtcdclghmebgpnaaGreatDoorFrame
import Derived.WalkKit
import Derived.WalkSpells
import Derived.WalkLawsBesides
import Derived.RegionTactic
import Derived.Maps.AppendAt
import Derived.Lib.Hide
import Derived.Deep.QuietTactic
import Derived.BigQuiet
import Derived.ChangeAlike
import Derived.OwnWalk
import Derived.IntWalk
import Derived.Laws.AppendOwnNone
set_option linter.unusedVariables false
set_option maxRecDepth 100000
namespace Go.Proofs.YtcdclghmebgpnaaGreatDoor.Wn
open Go.RowKit

theorem Tryz.infoWin : (Tryz.prog.info? 52).map (fun i => (i.zero, i.size, i.bytes)) = some (some (.agg #[.int .i64 0, .int .i64 0]), 2, 16) := by kernel_rfl
theorem alloc_size (w : World) (o : Obj) : (w.alloc o).heap.size = w.heap.size + 1 := by simp
theorem add_at (g off i : Nat) : (Addr.add ⟨g, off, none⟩ i) = ⟨g, off + i, none⟩ := by unfold Addr.add; split <;> simp_all
theorem below_drewN (B : Nat) (w : World) (n : Nat) : Below B w (w.drewN n) := ⟨rfl, rfl, rfl, Nat.le_refl _, fun _ _ => rfl⟩

/-- Windows lie at a slice, of whatever make, in a block below B. -/
structure Wt (B : Nat) (w : World) (A : Option Addr) (n cap : Nat) (L : List (Int × Int)) : Prop where
  len : n = L.length
  le : n ≤ cap
  max : cap ≤ maxLen
  nil : A = none → cap = 0
  cell : 0 < n → ∃ g off, A = some ⟨g, off, none⟩ ∧ g < B ∧ ∀ j, j < n → w.cell? ⟨g, off + j * 2, none⟩ = some (.int .i64 (L.getD j (0, 0)).1) ∧ w.cell? ⟨g, off + j * 2 + 1, none⟩ = some (.int .i64 (L.getD j (0, 0)).2)
theorem Wt.below {B : Nat} {w w' : World} {A : Option Addr} {n cap : Nat} {L : List (Int × Int)} (h : Wt B w A n cap L) (hb : Below B w w') : Wt B w' A n cap L :=
  ⟨h.len, h.le, h.max, h.nil, fun hn => by
    obtain ⟨g, off, e, hg, hc⟩ := h.cell hn
    exact ⟨g, off, e, hg, fun j hj => ⟨(hb.cell (p := ⟨g, off + j * 2, none⟩) hg).trans (hc j hj).1, (hb.cell (p := ⟨g, off + j * 2 + 1, none⟩) hg).trans (hc j hj).2⟩⟩⟩
theorem Wt.raise {B B' : Nat} {w : World} {A : Option Addr} {n cap : Nat} {L : List (Int × Int)} (h : Wt B w A n cap L) (hb : B ≤ B') : Wt B' w A n cap L :=
  ⟨h.len, h.le, h.max, h.nil, fun hn => by
    obtain ⟨g, off, e, hg, hc⟩ := h.cell hn
    exact ⟨g, off, e, by omega, hc⟩⟩
theorem Wt.later {w w' : World} {A : Option Addr} {n cap : Nat} {L : List (Int × Int)} (h : Wt w.heap.size w A n cap L) (hb : Below w.heap.size w w') : Wt w'.heap.size w' A n cap L := (h.below hb).raise hb.size
theorem Wt.nothing (B : Nat) (w : World) : Wt B w .none 0 0 [] := ⟨rfl, Nat.le_refl _, by unfold maxLen; omega, fun _ => rfl, fun h => by omega⟩
theorem Wt.size {B : Nat} {w : World} {A : Option Addr} {n cap : Nat} {L : List (Int × Int)} (h : Wt B w A n cap L) : n ≤ cap ∧ cap ≤ 9223372036854775807 := by
  have := h.max
  unfold maxLen at this
  exact ⟨h.le, by omega⟩

/-- Many windows' cells. -/
def wcl : List (Int × Int) → List Value
  | [] => []
  | x :: l => .int .i64 x.1 :: .int .i64 x.2 :: wcl l
theorem wcl_length : ∀ l, (wcl l).length = l.length * 2
  | [] => rfl
  | x :: l => by simp [wcl, wcl_length l]; omega
theorem wcl_app : ∀ l m, wcl (l ++ m) = wcl l ++ wcl m
  | [], m => rfl
  | x :: l, m => by simp [wcl, wcl_app l m]
theorem wcl_take : ∀ (l : List (Int × Int)) (i : Nat), wcl (l.take i) = (wcl l).take (i * 2)
  | [], i => by simp [wcl]
  | x :: l, 0 => by simp [wcl]
  | x :: l, i + 1 => by
    rw [show (i + 1) * 2 = i * 2 + 1 + 1 by omega]
    simp [wcl, wcl_take l i]
theorem wcl_drop : ∀ (l : List (Int × Int)) (i : Nat), wcl (l.drop i) = (wcl l).drop (i * 2)
  | [], i => by simp [wcl]
  | x :: l, 0 => by simp
  | x :: l, i + 1 => by
    rw [show (i + 1) * 2 = i * 2 + 1 + 1 by omega]
    simp [wcl, wcl_drop l i]
theorem wcl_get : ∀ (l : List (Int × Int)) (i : Nat), i < l.length → (wcl l)[i * 2]? = some (.int .i64 (l.getD i (0, 0)).1) ∧ (wcl l)[i * 2 + 1]? = some (.int .i64 (l.getD i (0, 0)).2)
  | [], i, h => by simp at h
  | x :: l, 0, h => by simp [wcl]
  | x :: l, i + 1, h => by
    have ih := wcl_get l i (by simpa using h)
    have e1 : (i + 1) * 2 = i * 2 + 2 := by omega
    have e2 : (i + 1) * 2 + 1 = i * 2 + 1 + 2 := by omega
    rw [e2, e1]
    simpa [wcl] using ih
theorem wcl_one (l : List (Int × Int)) : ∀ u ∈ wcl l, u.oneCell' = true := by
  induction l with
  | nil => simp [wcl]
  | cons x l ih => intro u hu; simp [wcl] at hu; rcases hu with rfl | rfl | hu; rfl; rfl; exact ih u hu
/-- Windows that the call owns. -/
def Wow (w : World) (base : Nat) (v : Value) (L : List (Int × Int)) : Prop := w.ownsRow base 52 2 v L.length (wcl L)
theorem Wow.wt {w : World} {base : Nat} {A : Option Addr} {n cap : Nat} {L : List (Int × Int)} (h : Wow w base (.slice A n cap) L) : Wt w.heap.size w A n cap L := by
  unfold Wow at h
  rcases h.2 with ⟨q, h0⟩ | ⟨g, cap', cur, q, hg, hh, h1, h2, _⟩
  · injection q with q1 q2 q3
    subst q1 q2 q3
    exact ⟨h0.symm, Nat.le_refl _, by unfold maxLen; omega, fun _ => rfl, fun h => by omega⟩
  · injection q with q1 q2 q3
    subst q1 q2 q3
    refine ⟨rfl, h1, h2, fun h => (by cases h), fun _ => ⟨g, 0, rfl, (h.lt g rfl).2, fun j hj => ?_⟩⟩
    have := wcl_get L j hj
    rw [Nat.zero_add, h.cellAt _ (by omega), h.cellAt _ (by omega)]
    exact this
theorem Wow.form {w : World} {base : Nat} {v : Value} {L : List (Int × Int)} (h : Wow w base v L) : ∃ A cap, v = .slice A L.length cap := by
  rcases h.2 with ⟨q, h0⟩ | ⟨g, cap', cur, q, _⟩
  · exact ⟨none, 0, by rw [q, h0]⟩
  · exact ⟨_, _, q⟩
theorem Wow.later {w w' : World} {base : Nat} {v : Value} {L : List (Int × Int)} (h : Wow w base v L) (hb : Below w.heap.size w w') : Wow w' base v L := ownsRow_same h (fun k hk => hb.block k (h.lt k hk).2)
theorem Wow.nil (w : World) (base : Nat) : Wow w base (.slice none 0 0) [] := World.ownsRow_nil _ _ _ _
theorem Wow.lower {w : World} {base base' : Nat} {v : Value} {L : List (Int × Int)} (h : Wow w base v L) (hb : base' ≤ base) : Wow w base' v L := by
  obtain ⟨h1, h2⟩ := h
  refine ⟨h1, ?_⟩
  rcases h2 with h2 | ⟨g, cap, cur, rfl, hg, r⟩
  · exact .inl h2
  · exact .inr ⟨g, cap, cur, rfl, by omega, r⟩
/-- The cells of windows at an address. -/
theorem wcl_cells {w : World} {B : Nat} {A : Option Addr} {n cap : Nat} {L : List (Int × Int)} (h : Wt B w A n cap L) : ∀ ad, A = some ad → ∀ j u, (wcl L)[j]? = some u → w.cell? (ad.add j) = some u := by
  intro ad hA j u hu
  have hjl : j < (wcl L).length := (List.getElem?_eq_some_iff.1 hu).1
  rw [wcl_length, ← h.len] at hjl
  obtain ⟨g, off, e, hg, hc⟩ := h.cell (by omega)
  rw [hA] at e
  injection e with e
  subst e
  have hi := wcl_get L (j / 2) (by rw [← h.len]; omega)
  have hci := hc (j / 2) (by omega)
  rw [add_at]
  rcases (by omega : j = j / 2 * 2 ∨ j = j / 2 * 2 + 1) with q | q
  · have e2 : off + j = off + j / 2 * 2 := by omega
    have e3 : (wcl L)[j]? = (wcl L)[j / 2 * 2]? := by rw [← q]
    rw [e2, hci.1, ← hi.1, ← e3, hu]
  · have e2 : off + j = off + j / 2 * 2 + 1 := by omega
    have e3 : (wcl L)[j]? = (wcl L)[j / 2 * 2 + 1]? := by rw [← q]
    rw [e2, hci.2, ← hi.2, ← e3, hu]
/-- Windows are appended to those of one's own. -/
theorem run_app {w : World} (ty : TypeId) (base : Nat) (v : Value) (xs : List (Int × Int)) (hown : Wow w base v xs) (A : Option Addr) (m c : Nat) (ys : List (Int × Int)) (hr : Wt w.heap.size w A m c ys) (hb : xs.length + m ≤ 1000000) (hbase : base ≤ w.heap.size) :
    ∃ v' w', (Builtin.append_ #[49, 49] ty #[v, .slice A m c]).run Tryz.prog w = .ok v' w' ∧ Wow w' base v' (xs ++ ys) ∧ w.grownBy w' v.ownBlock ∧ (v'.ownBlock = v.ownBlock ∨ v'.ownBlock = some w.heap.size) := by
  obtain ⟨i0, hi, hz0, hz1, hz2⟩ := info_parts Tryz.infoWin
  cases A with
  | none =>
    have hc0 := hr.nil rfl
    have hm0 : m = 0 := by have := hr.le; omega
    subst hm0 hc0
    obtain rfl : ys = [] := List.eq_nil_of_length_eq_zero hr.len.symm
    exact ⟨v, w, run_append_owned_none (P := Tryz.prog) (w := w) base 49 ty 52 i0 2 Tryz.underlying49 hi v xs.length (wcl xs) hown, by simpa using hown, ⟨rfl, rfl, rfl, Nat.le_refl _, fun _ _ _ => rfl⟩, .inl rfl⟩
  | some ad =>
    obtain ⟨v', w', hrun, h2, h3, _, h5⟩ := run_append_own_at (P := Tryz.prog) w base 49 ty 52 i0 (.agg #[.int .i64 0, .int .i64 0]) 2 16 Tryz.underlying49 hi hz0 hz1 hz2 rfl (by decide) v xs.length (wcl xs) hown ad m c (wcl ys) (by rw [wcl_length, hr.len]) (wcl_cells hr ad rfl) (wcl_one ys) (by unfold maxLen; omega) (by omega) hbase
    exact ⟨v', w', hrun, by unfold Wow; rw [wcl_app, List.length_append, ← hr.len]; exact h2, h3, h5⟩
theorem app_wins {w : World} {ops : Array Oper} {rest : List Oper} {o : Oper} {a : Act} {Q : Exit → Act → World → Prop} (hgd : o.guard = none) (s x : Operand)
    (ho : o.op = .call { callee := .builtin .append, args := #[s, x], argTypes := #[49, 49] })
    (base : Nat) (v : Value) (xs : List (Int × Int)) (hs : a.eval s = v) (hown : Wow w base v xs)
    (A : Option Addr) (m c : Nat) (ys : List (Int × Int)) (hx : a.eval x = .slice A m c) (hr : Wt w.heap.size w A m c ys) (hb : xs.length + m ≤ 1000000) (hbase : base ≤ w.heap.size)
    (h : ∀ A' c' w', Wow w' base (.slice A' (xs ++ ys).length c') (xs ++ ys) → Below base w w' → w.grownBy w' v.ownBlock → ((Value.slice A' (xs ++ ys).length c').ownBlock = v.ownBlock ∨ (Value.slice A' (xs ++ ys).length c').ownBlock = some w.heap.size) → wpList Tryz.prog ops Q rest (a.put o.dst (.slice A' (xs ++ ys).length c')) w') : wpList Tryz.prog ops Q (o :: rest) a w := by
  obtain ⟨v', w', hrun, h1, h2, h3⟩ := run_app o.type base v xs hown A m c ys hr hb hbase
  obtain ⟨A', c', rfl⟩ := h1.form
  refine wpList_plain hgd fun K hK => ?_
  unfold Oper.wp execOp
  simp only [ho, resolve, invoke, builtin, Sem.run_bind, Sem.run_pure, Result.andThen_ok, List.map_toArray, List.map_cons, List.map_nil, hs, hx, hrun]
  exact hK _ _ (h A' c' w' h1 (Below.grown (Below.refl _ _) h2 hbase (fun k hk => (hown.lt k hk).1)) h2 h3)
/-- One window, in a block of its own. -/
theorem Wt.one (w : World) (x y : Int) : Wt (w.alloc (.cells #[.int .i64 x, .int .i64 y] 52)).heap.size (w.alloc (.cells #[.int .i64 x, .int .i64 y] 52)) (some ⟨w.heap.size, 0, none⟩) 1 1 [(x, y)] := by
  refine ⟨rfl, Nat.le_refl _, by unfold maxLen; omega, fun h => (by cases h), fun _ => ⟨w.heap.size, 0, rfl, by simp, fun j hj => ?_⟩⟩
  obtain rfl : j = 0 := by omega
  exact ⟨by simp [World.cell?_alloc_new], by simp [World.cell?_alloc_new]⟩
end Go.Proofs.YtcdclghmebgpnaaGreatDoor.Wn
