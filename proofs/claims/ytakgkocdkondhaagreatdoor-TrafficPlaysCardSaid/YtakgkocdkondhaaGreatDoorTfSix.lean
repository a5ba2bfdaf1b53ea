/-
  Layer 11: the document's state in memory; Has, in, needs.
  Layer 11: the document's needs, Claims.
  Layer 11: the document's Claims.
  Layer 11: the document's Done.
  Layer 11: the document's Start.
  Layer 11: the document's Grant.
-/
import Derived.Test.YtakgkocdkondhaaGreatDoorTfT
import Derived.Test.YtakgkocdkondhaaGreatDoorTrR
import Derived.Test.YtakgkocdkondhaaGreatDoorBkThr
set_option linter.unusedVariables false
set_option maxRecDepth 100000
section
namespace Go.Proofs.YtakgkocdkondhaaGreatDoor
namespace Tf
open Go.RowKit Fl Tr Pt
open Bk (Gt Lt Iw ivs Cm hold need Cl MayP)
open Lk (Ow T0 zns at9 LkAt Only Tb)

/-- The zone of a cell, or -1. -/
def zf (s : ByteArray) (c : Int) : Int := if isL (bAt s c) = true then ((bAt s c - 97 : Nat) : Int) else -1
def zfs (s : ByteArray) (n : Nat) : List Int := (List.range n).map fun c : Nat => zf s (c : Int)
theorem zfs_len (s : ByteArray) (n : Nat) : (zfs s n).length = n := by simp [zfs]
theorem zfs_get (s : ByteArray) {n c : Nat} (h : c < n) : (zfs s n).getD c 0 = zf s (c : Int) := by
  unfold zfs
  simp [List.getD, h]
theorem zfs_succ (s : ByteArray) (n : Nat) : zfs s (n + 1) = zfs s n ++ [zf s (n : Int)] := by
  unfold zfs
  rw [List.range_succ, List.map_append]
  rfl
theorem zf_zc (s : ByteArray) (c : Int) : (zf s c = -1 ∧ zc s c = []) ∨ (0 ≤ zf s c ∧ zf s c < 26 ∧ zc s c = [zf s c]) := by
  unfold zf zc
  by_cases h : isL (bAt s c) = true
  · have := isL_lt h
    rw [if_pos h, if_pos h]
    exact .inr ⟨by omega, by omega, rfl⟩
  · rw [if_neg h, if_neg h]
    exact .inl ⟨rfl, rfl⟩
/-- Acts at a slice whose block is not below a place. -/
def La (top : Nat) (w : World) (v : Value) (L : List Ac) : Prop := ∃ A n c, v = .slice A n c ∧ Gh top 3 w A n c (acv L)
theorem La.keep {top : Nat} {w w' : World} {v : Value} {L : List Ac} (h : La top w v L) (hk : KeepT top w w') : La top w' v L := by
  obtain ⟨A, n, c, e, h1⟩ := h
  exact ⟨A, n, c, e, h1.keep hk⟩
theorem La.nil (top : Nat) (w : World) : La top w (.slice none 0 0) [] := ⟨none, 0, 0, rfl, ⟨Gt.nothing _ _ _, fun ad e => by cases e⟩⟩
theorem La.al {top : Nat} {w : World} {A : Option Addr} {n c : Nat} {L : List Ac} (h : La top w (.slice A n c) L) : Al w.heap.size w A n c L := by
  obtain ⟨A', n', c', e, h1⟩ := h
  injection e with e1 e2 e3
  subst e1 e2 e3
  exact h1.gt
theorem La.tail {top : Nat} {w : World} {g off n c : Nat} {L : List Ac} (h : La top w (.slice (some ⟨g, off, none⟩) n c) L) {m : Nat} (hm : m ≤ n) (A' : Option Addr) (hA : A' ≠ none) (hA' : m < n → A' = some ⟨g, off + m * 3, none⟩) (hg : ∀ ad, A' = some ad → ad.block = g) : La top w (.slice A' (n - m) (c - m)) (L.drop m) := by
  obtain ⟨A, n', c', e, h2⟩ := h
  injection e with e1 e2 e3
  subst e1 e2 e3
  refine ⟨A', _, _, rfl, ⟨?_, fun ad e => by rw [hg ad e]; exact h2.up _ rfl⟩⟩
  rw [acv_drop]
  exact h2.gt.tail hm A' hA hA'
theorem La.own {top base : Nat} {w : World} {A : Option Addr} {n c : Nat} {L : List Ac} (h : Aw w base (.slice A n c) L) (hb : top ≤ base) : La top w (.slice A n c) L := by
  obtain ⟨e, h2⟩ := h.al
  refine ⟨A, n, c, rfl, h2, fun ad ea => ?_⟩
  subst ea
  rcases h.2 with ⟨q, _⟩ | ⟨g, cap, cur, q, hg, _⟩
  · injection q with q; cases q
  · injection q with q
    injection q with q
    rw [q]
    exact Nat.le_trans hb hg
/-- A robot of the document as it lies there: cell, left, busy, hold. -/
abbrev Rp := Int × Value × Bool × Value
def rcl : List Rp → List Value
  | [] => []
  | m :: l => .int .i64 m.1 :: m.2.1 :: .bool m.2.2.1 :: m.2.2.2 :: rcl l
theorem rcl_length : ∀ l, (rcl l).length = l.length * 4
  | [] => rfl
  | a :: l => by simp [rcl, rcl_length l]; omega
theorem rcl_app : ∀ l m, rcl (l ++ m) = rcl l ++ rcl m
  | [], m => rfl
  | a :: l, m => by simp [rcl, rcl_app l m]
theorem rcl_get : ∀ (l : List Rp) (i : Nat) (m : Rp), l[i]? = some m → (rcl l)[i * 4]? = some (.int .i64 m.1) ∧ (rcl l)[i * 4 + 1]? = some m.2.1 ∧ (rcl l)[i * 4 + 2]? = some (.bool m.2.2.1) ∧ (rcl l)[i * 4 + 3]? = some m.2.2.2
  | [], i, t, h => by simp at h
  | x :: l, 0, t, h => by simp at h; subst h; simp [rcl]
  | x :: l, i + 1, t, h => by
    have ih := rcl_get l i t (by simpa using h)
    have e1 : (i + 1) * 4 = i * 4 + 4 := by omega
    have e2 : (i + 1) * 4 + 1 = i * 4 + 1 + 4 := by omega
    have e3 : (i + 1) * 4 + 2 = i * 4 + 2 + 4 := by omega
    have e4 : (i + 1) * 4 + 3 = i * 4 + 3 + 4 := by omega
    rw [e4, e3, e2, e1]
    simpa [rcl] using ih
theorem rcl_set1 : ∀ (P : List Rp) (i : Nat) (m : Rp) (v : Value), P[i]? = some m → (rcl P).set (i * 4 + 1) v = rcl (P.set i (m.1, v, m.2.2))
  | [], i, m, v, h => by simp at h
  | x :: l, 0, m, v, h => by simp at h; subst h; simp [rcl]
  | x :: l, i + 1, m, v, h => by
    rw [show (i + 1) * 4 + 1 = i * 4 + 1 + 1 + 1 + 1 + 1 by omega]
    simp only [rcl, List.set_cons_succ]
    rw [rcl_set1 l i m v (by simpa using h)]
theorem rcl_set2 : ∀ (P : List Rp) (i : Nat) (m : Rp) (v : Bool), P[i]? = some m → (rcl P).set (i * 4 + 2) (.bool v) = rcl (P.set i (m.1, m.2.1, v, m.2.2.2))
  | [], i, m, v, h => by simp at h
  | x :: l, 0, m, v, h => by simp at h; subst h; simp [rcl]
  | x :: l, i + 1, m, v, h => by
    rw [show (i + 1) * 4 + 2 = i * 4 + 2 + 1 + 1 + 1 + 1 by omega]
    simp only [rcl, List.set_cons_succ]
    rw [rcl_set2 l i m v (by simpa using h)]
theorem rcl_set3 : ∀ (P : List Rp) (i : Nat) (m : Rp) (v : Value), P[i]? = some m → (rcl P).set (i * 4 + 3) v = rcl (P.set i (m.1, m.2.1, m.2.2.1, v))
  | [], i, m, v, h => by simp at h
  | x :: l, 0, m, v, h => by simp at h; subst h; simp [rcl]
  | x :: l, i + 1, m, v, h => by
    rw [show (i + 1) * 4 + 3 = i * 4 + 3 + 1 + 1 + 1 + 1 by omega]
    simp only [rcl, List.set_cons_succ]
    rw [rcl_set3 l i m v (by simpa using h)]
/-- Robots: what lies there, and what it reads (the robots R; who holds which zone, T). -/
structure Rr (top : Nat) (w : World) (P : List Rp) (R : List Mv) (T : List Ow) : Prop where
  len : P.length = R.length
  at_ : ∀ r p, P[r]? = some p → p.1 = (getM R r).1 ∧ p.2.2.1 = (getM R r).2.2 ∧ La top w p.2.1 (getM R r).2.1 ∧ Zs top w p.2.2.2 (zns T ((r : Int), true) 26)
theorem Rr.keep {top : Nat} {w w' : World} {P : List Rp} {R : List Mv} {T : List Ow} (h : Rr top w P R T) (hk : KeepT top w w') : Rr top w' P R T :=
  ⟨h.len, fun r p e => ⟨(h.at_ r p e).1, (h.at_ r p e).2.1, (h.at_ r p e).2.2.1.keep hk, (h.at_ r p e).2.2.2.keep hk⟩⟩
theorem Rr.set {top : Nat} {w : World} {P : List Rp} {R : List Mv} {T T' : List Ow} (h : Rr top w P R T) {r : Nat} (hr : r < R.length) (p : Rp) (m : Mv) (h1 : p.1 = m.1) (h2 : p.2.2.1 = m.2.2) (h3 : La top w p.2.1 m.2.1) (h4 : Zs top w p.2.2.2 (zns T' ((r : Int), true) 26)) (hT : ∀ j : Nat, j ≠ r → zns T' ((j : Int), true) 26 = zns T ((j : Int), true) 26) : Rr top w (P.set r p) (R.set r m) T' := by
  refine ⟨by rw [List.length_set, List.length_set, h.len], fun j q e => ?_⟩
  rw [List.getElem?_set] at e
  rw [getM_set R r j m hr]
  by_cases hj : r = j
  · subst hj
    rw [if_pos rfl, if_pos (by rw [h.len]; exact hr)] at e
    injection e with e
    subst e
    rw [if_pos rfl]
    exact ⟨h1, h2, h3, h4⟩
  · rw [if_neg hj] at e
    rw [if_neg (fun e => hj e.symm), hT j (fun e => hj e.symm)]
    exact h.at_ j q e
/-- The document's state lies in block q, its zones in block z, its robots in block m; its lists in blocks from top on. -/
structure RS (w : World) (q z m cz cap top : Nat) (W H : Int) (s : ByteArray) (R : List Mv) (T : List Ow) : Prop where
  box : w.heap[q]? = some (.cells #[.int .i64 W, .int .i64 H, .string s, .slice (some ⟨z, 0, none⟩) s.size cz, .slice (some ⟨m, 0, none⟩) R.length cap] 49 (0, 0))
  zt : w.ownsRow 0 3 1 (.slice (some ⟨z, 0, none⟩) s.size cz) s.size (ivs (zfs s s.size))
  mv : ∃ P : List Rp, w.ownsRow 0 57 4 (.slice (some ⟨m, 0, none⟩) R.length cap) R.length (rcl P) ∧ Rr top w P R T
  tops : q < top ∧ z < top ∧ m < top ∧ top ≤ w.heap.size
theorem row_block {w : World} {base k n cap g : Nat} {e : TypeId} {m : Nat} {xs : List Value} (h : w.ownsRow base e k (.slice (some ⟨g, 0, none⟩) m cap) n xs) : ∃ c, w.heap[g]? = some (.cells c e (0, 0)) := by
  rcases h.2 with ⟨q, _⟩ | ⟨g2, cp, cur, q, _, hh, _⟩
  · cases q
  · injection q with q
    injection q with q
    injection q with q
    subst q
    exact ⟨cur, hh⟩
theorem block_ne {w : World} {a b : Nat} {c c' : Array Value} {t t' : TypeId} {f f' : Nat × Nat} (h : w.heap[a]? = some (.cells c t f)) (h' : w.heap[b]? = some (.cells c' t' f')) (hne : t ≠ t') : a ≠ b := by
  rintro rfl
  have := h.symm.trans h'
  injection this with this
  injection this with _ this _
  exact hne this
section
variable {w w' : World} {q z m cz cap top : Nat} {W H : Int} {s : ByteArray} {R : List Mv} {T : List Ow}
theorem RS.cells (h : RS w q z m cz cap top W H s R T) : w.cell? ⟨q, 0, none⟩ = some (.int .i64 W) ∧ w.cell? ⟨q, 1, none⟩ = some (.int .i64 H) ∧ w.cell? ⟨q, 2, none⟩ = some (.string s) ∧ w.cell? ⟨q, 3, none⟩ = some (.slice (some ⟨z, 0, none⟩) s.size cz) ∧ w.cell? ⟨q, 4, none⟩ = some (.slice (some ⟨m, 0, none⟩) R.length cap) ∧ q < w.heap.size :=
  ⟨by rw [cell_of_row w q 0 _ _ _ h.box]; rfl, by rw [cell_of_row w q 1 _ _ _ h.box]; rfl, by rw [cell_of_row w q 2 _ _ _ h.box]; rfl, by rw [cell_of_row w q 3 _ _ _ h.box]; rfl, by rw [cell_of_row w q 4 _ _ _ h.box]; rfl, lt_of_heap h.box⟩
theorem RS.size (h : RS w q z m cz cap top W H s R T) : (R.length ≤ cap ∧ cap ≤ 9223372036854775807) ∧ s.size ≤ cz ∧ cz ≤ 9223372036854775807 := by
  obtain ⟨P, h1, h2⟩ := h.mv
  exact ⟨(Bk.gt_own h1).2.size, (Bk.gt_own h.zt).2.size⟩
/-- Where its three blocks are as they were, and what lies from top on. -/
theorem RS.kept (h : RS w q z m cz cap top W H s R T) (hk : KeepT top w w') (h1 : w'.heap[q]? = w.heap[q]?) (h2 : w'.heap[z]? = w.heap[z]?) (h3 : w'.heap[m]? = w.heap[m]?) : RS w' q z m cz cap top W H s R T := by
  obtain ⟨P, p1, p2⟩ := h.mv
  refine ⟨h1.trans h.box, ownsRow_same h.zt (fun k e => ?_), ⟨P, ownsRow_same p1 (fun k e => ?_), p2.keep hk⟩, ⟨h.tops.1, h.tops.2.1, h.tops.2.2.1, Nat.le_trans h.tops.2.2.2 hk.1⟩⟩
  · have e : some z = some k := e
    injection e with e; subst e; exact h2
  · have e : some m = some k := e
    injection e with e; subst e; exact h3
theorem RS.later (h : RS w q z m cz cap top W H s R T) (hb : Below w.heap.size w w') : RS w' q z m cz cap top W H s R T := by
  have ht := h.tops
  exact h.kept (KeepT.of hb) (hb.block q (by omega)) (hb.block z (by omega)) (hb.block m (by omega))
/-- The zone of a cell. -/
theorem RS.zone (h : RS w q z m cz cap top W H s R T) {c : Nat} (hc : c < s.size) : w.cell? ⟨z, c, none⟩ = some (.int .i64 (zf s (c : Int))) ∧ z < w.heap.size := by
  obtain ⟨_, hg⟩ := Bk.gt_own h.zt
  obtain ⟨g', off, e, hlt, hx⟩ := hg.cell (by omega)
  injection e with e
  injection e with e e'
  subst e e'
  have h1 := hx c (by omega)
  rw [Nat.zero_add] at h1
  rw [h1, Bk.ivs_get (by rw [zfs_len]; exact hc), zfs_get s hc]
  exact ⟨rfl, hlt⟩
/-- One of the robots. -/
theorem RS.robot (h : RS w q z m cz cap top W H s R T) {r : Nat} (hr : r < R.length) : ∃ A n c A2 n2 c2, w.cell? ⟨m, r * 4, none⟩ = some (.int .i64 (getM R r).1) ∧ w.cell? ⟨m, r * 4 + 1, none⟩ = some (.slice A n c) ∧ w.cell? ⟨m, r * 4 + 2, none⟩ = some (.bool (getM R r).2.2) ∧ w.cell? ⟨m, r * 4 + 3, none⟩ = some (.slice A2 n2 c2) ∧
    La top w (.slice A n c) (getM R r).2.1 ∧ Gh top 1 w A2 n2 c2 (ivs (zns T ((r : Int), true) 26)) ∧ (∀ j, w.frozen? ⟨m, j, none⟩ = false) ∧ m < w.heap.size := by
  obtain ⟨P, h1, h2⟩ := h.mv
  obtain ⟨p, hp⟩ : ∃ p, P[r]? = some p := ⟨_, List.getElem?_eq_getElem (by rw [h2.len]; exact hr)⟩
  obtain ⟨e1, e2, e3, e4⟩ := h2.at_ r p hp
  obtain ⟨A, n, c, ev, hgh⟩ := e3
  obtain ⟨A2, n2, c2, ev2, hgh2⟩ := e4
  obtain ⟨q0, q1, q2, q3⟩ := rcl_get P r p hp
  obtain ⟨_, hgt⟩ := Bk.gt_own h1
  obtain ⟨g', off, e, hg, hc⟩ := hgt.cell (by omega)
  injection e with e
  injection e with e e'
  subst e e'
  have hfz : ∀ j, w.frozen? ⟨m, j, none⟩ = false := fun j => by
    obtain ⟨cur, hh⟩ := row_block h1
    exact frozen_of_row w m j _ _ hh
  refine ⟨A, n, c, A2, n2, c2, ?_, ?_, ?_, ?_, ⟨A, n, c, rfl, hgh⟩, hgh2, hfz, hg⟩
  · have := hc (r * 4) (by omega)
    rw [Nat.zero_add] at this
    rw [this, q0, e1]
  · have := hc (r * 4 + 1) (by omega)
    rw [Nat.zero_add] at this
    rw [this, q1, ev]
  · have := hc (r * 4 + 2) (by omega)
    rw [Nat.zero_add] at this
    rw [this, q2, e2]
  · have := hc (r * 4 + 3) (by omega)
    rw [Nat.zero_add] at this
    rw [this, q3, ev2]
/-- Only the document's robots are written. -/
def Fm (m : Nat) (w w' : World) : Prop := Turn (fun k => k = m) (fun k => k = m) w w'
theorem RS.blocks (h : RS w q z m cz cap top W H s R T) : (∃ c, w.heap[z]? = some (.cells c 3 (0, 0))) ∧ ∃ c, w.heap[m]? = some (.cells c 57 (0, 0)) := by
  obtain ⟨P, h1, h2⟩ := h.mv
  exact ⟨row_block h.zt, row_block h1⟩
theorem RS.put {T' : List Ow} (h : RS w q z m cz cap top W H s R T) {r x : Nat} (hr : r < R.length) (v : Value) (a : Mv) (hx : x < R.length * 4) (hT : ∀ j : Nat, j ≠ r → zns T' ((j : Int), true) 26 = zns T ((j : Int), true) 26)
    (hp : ∀ P p, Rr top w P R T → P[r]? = some p → ∃ p', (rcl P).set x v = rcl (P.set r p') ∧ p'.1 = a.1 ∧ p'.2.2.1 = a.2.2 ∧ La top w p'.2.1 a.2.1 ∧ Zs top w p'.2.2.2 (zns T' ((r : Int), true) 26)) :
    RS (w.setCell ⟨m, x, none⟩ v) q z m cz cap top W H s (R.set r a) T' := by
  obtain ⟨t1, t2, t3, t4⟩ := h.tops
  obtain ⟨⟨c1, hz⟩, c2, hm⟩ := h.blocks
  obtain ⟨P, h1, h2⟩ := h.mv
  obtain ⟨p, hpr⟩ : ∃ p, P[r]? = some p := ⟨_, List.getElem?_eq_getElem (by rw [h2.len]; exact hr)⟩
  obtain ⟨p', e, k1, k2, k3, k4⟩ := hp P p h2 hpr
  have d1 : q ≠ m := block_ne h.box hm (by decide)
  have d2 : z ≠ m := block_ne hz hm (by decide)
  refine ⟨?_, ?_, ⟨P.set r p', ?_, ?_⟩, ⟨t1, t2, t3, by simp [World.setCell]; exact t4⟩⟩
  · rw [List.length_set, heap_setCell_other w ⟨m, x, none⟩ q v d1]
    exact h.box
  · refine ownsRow_same h.zt (fun k e => ?_)
    have e : some z = some k := e
    injection e with e
    subst e
    exact heap_setCell_other w ⟨m, x, none⟩ z v d2
  · have := Bk.own_put h1 (x := x) (by rw [rcl_length, h2.len]; exact hx) v
    rw [e] at this
    rw [List.length_set]
    exact this
  · exact (h2.keep (KeepT.put w v t3)).set hr p' a k1 k2 (k3.keep (KeepT.put w v t3)) (k4.keep (KeepT.put w v t3)) hT
end
/-! ### Has, in, needs -/
theorem rhas_any {w : World} {q z m cz cap top : Nat} {W H : Int} {s : ByteArray} {R : List Mv} {T : List Ow} (h : RS w q z m cz cap top W H s R T) (r : Int) : Calls Tryz.prog 22 #[.pointer (some ⟨q, 0, none⟩), .int .i64 r] w fun e w' => e = .returned (.bool (decide (0 ≤ r ∧ r < R.length))) ∧ w = w' := by
  obtain ⟨-, -, -, -, c4, -⟩ := h.cells
  obtain ⟨⟨hs1, hs2⟩, -⟩ := h.size
  by_cases h0 : 0 ≤ r
  · have d0 : decide (0 ≤ r) = true := decide_eq_true h0
    by_cases h1 : r < R.length
    · have d1 : decide (r < (R.length : Int)) = true := decide_eq_true h1
      rw [decide_eq_true (show 0 ≤ r ∧ r < (R.length : Int) from ⟨h0, h1⟩)]
      clear h
      generalize R.length = n at *
      go_enter Tryz.func22, Tryz.ntmps22
      go_wp2_with fail
      go_ret
      exact ⟨rfl, rfl⟩
    · have d1 : decide (r < (R.length : Int)) = false := decide_eq_false h1
      rw [decide_eq_false (show ¬ (0 ≤ r ∧ r < (R.length : Int)) from fun q => h1 q.2)]
      clear h
      generalize R.length = n at *
      go_enter Tryz.func22, Tryz.ntmps22
      go_wp2_with fail
      go_ret
      exact ⟨rfl, rfl⟩
  · have d0 : decide (0 ≤ r) = false := decide_eq_false h0
    rw [decide_eq_false (show ¬ (0 ≤ r ∧ r < (R.length : Int)) from fun q => h0 q.1)]
    clear h
    go_enter Tryz.func22, Tryz.ntmps22
    go_wp2_with fail
    go_ret
    exact ⟨rfl, rfl⟩
set_option maxHeartbeats 2000000 in
theorem rin11_any (x : Int) (A : Option Addr) (n c : Nat) (L : List Int) (w : World) (h : Lt w.heap.size w A n c L) (hn : n ≤ 1000) : Calls Tryz.prog 89 #[.int .i64 x, .slice A n c] w fun e w' => e = .returned (.bool (decide (x ∈ L))) ∧ w = w' := by
  have HL := Lib.hid h
  have hlen := h.len
  have hs := Bk.Gt.size h
  have hs1 := hs.1
  have hs2 := hs.2
  have HLN := Lib.hid hlen
  obtain ⟨b, hb⟩ : ∃ b, b = decide (x ∈ L) := ⟨_, rfl⟩
  rw [← hb]
  have HB := Lib.hid hb
  clear h hs hlen hb
  go_enter Tryz.func89, Tryz.ntmps89
  go_wp2_with fail
  go_loopw [5] (fun iv wr => ∃ j : Nat, iv = .int .i64 (j : Int) ∧ j ≤ n ∧ Hid (∀ t, t < j → L.getD t 0 ≠ x) ∧ w = wr) (fun iv _ => n - (intOf iv).toNat)
  case atStart => exact ⟨0, rfl, Nat.zero_le _, Lib.hid (fun t ht => by omega), rfl⟩
  case round =>
    rename World => wr
    obtain ⟨j, rfl, hj, HD, rfl⟩ := hrel
    by_cases hlj : j < n
    · obtain ⟨g1, o1, rfl, -, k1⟩ := HL.out.cell hlj
      have hjI : (j : Int) < (n : Int) := by omega
      by_cases he : L.getD j 0 = x
      · have dE : (L.getD j 0 == x) = true := by rw [beq_iff_eq]; exact he
        obtain rfl : b = true := HB.out.trans (decide_eq_true (by
          rw [← he, List.getD_eq_getElem?_getD, List.getElem?_eq_getElem (by rw [HLN.out]; exact hlj)]
          exact List.getElem_mem _))
        clear he
        generalize L.getD j 0 = y at *
        go_wp2_with fail
        go_ret
        exact ⟨rfl, rfl⟩
      · have dE : (L.getD j 0 == x) = false := by rw [beq_eq_false_iff_ne]; exact he
        have HD' : Hid (∀ t, t < j + 1 → L.getD t 0 ≠ x) := Lib.hid (fun t ht => by
          rcases Nat.lt_or_ge t j with q | q
          · exact HD.out t q
          · obtain rfl : t = j := by omega
            exact he)
        clear he
        generalize L.getD j 0 = y at *
        go_wp2_with fail
        go_roundw
        case rel => first | exact ⟨j + 1, by go_num, by omega, HD', rfl⟩ | exact ⟨j + 1, by go_num, by omega, HD', trivial⟩ | ((repeat apply Exists.intro); exact ⟨⟨j + 1, by go_num, by omega, HD', rfl⟩, rfl⟩)
        case measure => simp [intOf]; omega
    · obtain rfl : j = n := by omega
      obtain rfl : b = false := HB.out.trans (decide_eq_false (fun q => by
        obtain ⟨t, ht, e⟩ := List.getElem_of_mem q
        refine HD.out t (by rw [← HLN.out]; exact ht) ?_
        rw [List.getD_eq_getElem?_getD, List.getElem?_eq_getElem ht]
        exact e))
      go_wp2_with fail
      go_ret
      exact ⟨rfl, rfl⟩
end Tf
end Go.Proofs.YtakgkocdkondhaaGreatDoor
end

section
namespace Go.Proofs.YtakgkocdkondhaaGreatDoor
namespace Tf
open Go.RowKit Fl Tr Pt
open Bk (Gt Lt Iw ivs Cm hold need Cl MayP Cw Rd pcl app_ints app_claims Sl)
open Lk (Ow T0 zns at9 LkAt Only Tb ToldI)

/-- Does one of the acts go through a zone. -/
def thr (s : ByteArray) (z : Nat) (a : Ac) : Bool := a.1 == 1 && (isL (bAt s a.2.1) && (bAt s a.2.1 - 97 == z))
theorem thr_zf (s : ByteArray) (z : Nat) (a : Ac) : thr s z a = (((a.1 : Int) == 1) && (zf s a.2.1 == (z : Int))) := by
  rw [Bool.eq_iff_iff]
  unfold thr zf
  simp only [Bool.and_eq_true, beq_iff_eq]
  by_cases h : isL (bAt s a.2.1) = true
  · have := isL_lt h
    rw [if_pos h]
    constructor
    · rintro ⟨h1, _, h2⟩; exact ⟨by omega, by omega⟩
    · rintro ⟨h1, h2⟩; exact ⟨by omega, h, by omega⟩
  · rw [if_neg h]
    constructor
    · rintro ⟨_, h1, _⟩; exact absurd h1 h
    · rintro ⟨_, h2⟩; omega
def nds (s : ByteArray) (L : List Ac) (k : Nat) : List Int := toI ((List.range k).filter fun z => L.any (thr s z))
theorem nds_all (s : ByteArray) (L : List Ac) : nds s L 26 = zl s L := rfl
theorem nds_succ (s : ByteArray) (L : List Ac) (k : Nat) : nds s L (k + 1) = nds s L k ++ if L.any (thr s k) = true then [(k : Int)] else [] := by
  unfold nds toI
  rw [List.range_succ, List.filter_append, List.map_append]
  by_cases h : L.any (thr s k) = true
  · rw [if_pos h, List.filter_cons, if_pos h]; rfl
  · rw [if_neg h, List.filter_cons, if_neg h]; rfl
theorem nds_len (s : ByteArray) (L : List Ac) (k : Nat) : (nds s L k).length ≤ k := by
  unfold nds
  rw [toI_length]
  exact Nat.le_trans (List.length_filter_le _ _) (by simp)
theorem any_take {α : Type} (p : α → Bool) (L : List α) (i : Nat) (d : α) (h : i < L.length) : (L.take (i + 1)).any p = ((L.take i).any p || p (L.getD i d)) := by
  rw [List.take_succ_eq_append_getElem h, List.any_append]
  simp [List.getD, h]
set_option maxHeartbeats 4000000 in
theorem rneeds_any {w : World} {q z m cz cap top : Nat} {W H : Int} {s : ByteArray} {R : List Mv} {T : List Ow} (h : RS w q z m cz cap top W H s R T) (A : Option Addr) (n c : Nat) (L : List Ac) (hA : Al w.heap.size w A n c L) (hn : n ≤ 1024) (hC : ∀ a, a ∈ L → 0 ≤ a.2.1 ∧ a.2.1 < s.size) :
    Calls Tryz.prog 52 #[.pointer (some ⟨q, 0, none⟩), .slice A n c] w (ToldI (zl s L) w) := by
  have HR := Lib.hid h
  have HL := Lib.hid hA
  have HC := Lib.hid hC
  have HLN := Lib.hid hA.len
  obtain ⟨hc1, hc2⟩ := hA.size
  obtain ⟨-, hz1, hz2⟩ := h.size
  have HNIL : Hid (Iw w w.heap.size (.slice none 0 0) (nds s L 0)) := Lib.hid (Iw.nil w w.heap.size)
  clear h hA hC
  go_enter Tryz.func52, Tryz.ntmps52
  go_wp2_with fail
  go_loopw [5, 6] (fun ov iv wr => ∃ (k : Nat) (A1 : Option Addr) (n1 c1 : Nat), iv = .int .i64 (k : Int) ∧ ov = .slice A1 n1 c1 ∧ k ≤ 26 ∧ Hid (n1 = (nds s L k).length ∧ Iw wr w.heap.size (.slice A1 n1 c1) (nds s L k)) ∧ Hid (Below w.heap.size w wr)) (fun _ iv _ => 26 - (intOf iv).toNat)
  case atStart => exact ⟨0, none, 0, 0, rfl, rfl, Nat.zero_le _, Lib.hid ⟨rfl, HNIL.out⟩, Lib.hid (Below.refl _ _)⟩
  case round =>
    rename World => wr
    obtain ⟨k, A1, n1, c1, rfl, rfl, hk, HO, HB⟩ := hrel
    by_cases hlk : k < 26
    · have hkI : (k : Int) < 26 := by omega
      go_wp2_with fail
      go_loopw [7, 8] (fun bv iv wz => ∃ (i : Nat) (t : Bool), iv = .int .i64 (i : Int) ∧ bv = .bool t ∧ i ≤ n ∧ Hid (t = (L.take i).any (thr s k)) ∧ Hid (Below wr.heap.size wr wz)) (fun _ iv _ => n - (intOf iv).toNat)
      case atStart => exact ⟨0, false, rfl, rfl, Nat.zero_le _, Lib.hid rfl, Lib.hid (Below.refl _ _)⟩
      case round =>
        rename World => wz
        obtain ⟨i, t, rfl, rfl, hi, HT, HBz⟩ := hrel
        by_cases hli : i < n
        · have hBz := HB.out.trans (HBz.out.mono HB.out.size)
          obtain ⟨g1, o1, rfl, -, k0, k1, -⟩ := (HL.out.later hBz).cell hli
          have hiI : (i : Int) < (n : Int) := by omega
          have hRz := HR.out.later hBz
          obtain ⟨-, -, -, c3, -, -⟩ := hRz.cells
          have hiL : i < L.length := by rw [HLN.out]; exact hli
          have HS := Lib.hid (any_take (thr s k) L i (0, 0, 0) hiL)
          have hcc := HC.out (L.getD i (0, 0, 0)) (by
            rw [List.getD_eq_getElem?_getD, List.getElem?_eq_getElem hiL]
            exact List.getElem_mem _)
          rw [thr_zf] at HS
          obtain ⟨a, ha⟩ : ∃ a, a = L.getD i (0, 0, 0) := ⟨_, rfl⟩
          rw [← ha] at HS hcc k0 k1
          clear ha hiL hBz
          obtain ⟨a1, a2, a3⟩ := a
          simp only at HS hcc k0 k1
          obtain ⟨cn, rfl⟩ := Int.eq_ofNat_of_zero_le hcc.1
          have hcn : cn < s.size := by have := hcc.2; omega
          have hcI : (cn : Int) < (s.size : Int) := by omega
          obtain ⟨zc1, -⟩ := hRz.zone hcn
          clear hRz hcc
          generalize zf s (cn : Int) = zz at *
          cases t with
          | true =>
            have HT' : Hid (true = (L.take (i + 1)).any (thr s k)) := Lib.hid (by rw [HS.out, ← HT.out]; rfl)
            go_wp2_with fail
            go_big_quiet (fail)
            go_wp2_with fail
            go_roundw
            case rel => first | exact ⟨i + 1, true, by go_num, rfl, by omega, HT', Lib.hid (HBz.out.trans (Bk.below_drewN _ _ _))⟩ | ((repeat apply Exists.intro); exact ⟨⟨i + 1, true, by go_num, rfl, by omega, HT', Lib.hid (HBz.out.trans (Bk.below_drewN _ _ _))⟩, rfl⟩)
            case measure => simp [intOf]; omega
          | false =>
            cases h1 : ((a1 : Int) == 1) with
            | false =>
              have HT' : Hid (false = (L.take (i + 1)).any (thr s k)) := Lib.hid (by rw [HS.out, ← HT.out, h1]; rfl)
              go_wp2_with fail
              go_big_quiet (fail)
              go_wp2_with fail
              go_roundw
              case rel => first | exact ⟨i + 1, false, by go_num, rfl, by omega, HT', Lib.hid (HBz.out.trans (Bk.below_drewN _ _ _))⟩ | ((repeat apply Exists.intro); exact ⟨⟨i + 1, false, by go_num, rfl, by omega, HT', Lib.hid (HBz.out.trans (Bk.below_drewN _ _ _))⟩, rfl⟩)
              case measure => simp [intOf]; omega
            | true =>
              cases h2 : (zz == (k : Int)) with
              | false =>
                have HT' : Hid (false = (L.take (i + 1)).any (thr s k)) := Lib.hid (by rw [HS.out, ← HT.out, h1, h2]; rfl)
                go_wp2_with fail
                go_big_quiet (fail)
                go_wp2_with fail
                go_roundw
                case rel => first | exact ⟨i + 1, false, by go_num, rfl, by omega, HT', Lib.hid (HBz.out.trans (Bk.below_drewN _ _ _))⟩ | ((repeat apply Exists.intro); exact ⟨⟨i + 1, false, by go_num, rfl, by omega, HT', Lib.hid (HBz.out.trans (Bk.below_drewN _ _ _))⟩, rfl⟩)
                case measure => simp [intOf]; omega
              | true =>
                have HT' : Hid (true = (L.take (i + 1)).any (thr s k)) := Lib.hid (by rw [HS.out, ← HT.out, h1, h2]; rfl)
                go_wp2_with fail
                go_big_quiet (fail)
                go_wp2_with fail
                go_roundw
                case rel => first | exact ⟨i + 1, true, by go_num, rfl, by omega, HT', Lib.hid (HBz.out.trans (Bk.below_drewN _ _ _))⟩ | ((repeat apply Exists.intro); exact ⟨⟨i + 1, true, by go_num, rfl, by omega, HT', Lib.hid (HBz.out.trans (Bk.below_drewN _ _ _))⟩, rfl⟩)
                case measure => simp [intOf]; omega
        · obtain rfl : i = n := by omega
          have htk : L.take i = L := List.take_of_length_le (by rw [HLN.out]; exact Nat.le_refl _)
          rw [htk] at HT
          have HS := Lib.hid (nds_succ s L k)
          rw [← HT.out] at HS
          have HLE := Lib.hid (nds_len s L k)
          have HOz := Lib.hid (HO.out.2.later HBz.out)
          have HBw := Lib.hid (HB.out.trans (HBz.out.mono HB.out.size))
          clear htk HT
          cases t with
          | false =>
            have HO' : Hid (n1 = (nds s L (k + 1)).length ∧ Iw wz w.heap.size (.slice A1 n1 c1) (nds s L (k + 1))) := Lib.hid (by
              have e : nds s L (k + 1) = nds s L k := by rw [HS.out]; simp
              rw [e]; exact ⟨HO.out.1, HOz.out⟩)
            go_wp2_with fail
            go_roundw
            case rel => first | exact ⟨k + 1, A1, n1, c1, by go_num, rfl, by omega, HO', HBw⟩ | ((repeat apply Exists.intro); exact ⟨⟨k + 1, A1, n1, c1, by go_num, rfl, by omega, HO', HBw⟩, rfl⟩)
            case measure => simp [intOf]; omega
          | true =>
            have hA1 := (Below.refl wz.heap.size wz).alloc (Nat.le_refl _) (.cells #[.int .i64 (k : Int)] 3)
            have HOa := Lib.hid (HOz.out.later hA1)
            have HBa := Lib.hid (HBw.out.trans (hA1.mono HBw.out.size))
            have HOne := Lib.hid (Lt.one wz (k : Int))
            clear hA1
            go_wp2_with (at_builtin; refine app_ints rfl _ _ rfl w.heap.size (.slice A1 n1 c1) (nds s L k) rfl HOa.out (some ⟨wz.heap.size, 0, none⟩) 1 1 [(k : Int)] rfl HOne.out (by have := HLE.out; omega) HBa.out.size ?_; intro A3 n3 c3 w3 hn3 ho3 hb3 _ _; have HN3 := Lib.hid hn3; have HO3 := Lib.hid ho3; have HB3 := Lib.hid (HBa.out.trans hb3); clear hn3 ho3 hb3)
            have HO' : Hid (n3 = (nds s L (k + 1)).length ∧ Iw w3 w.heap.size (.slice A3 n3 c3) (nds s L (k + 1))) := Lib.hid (by
              have e : nds s L (k + 1) = nds s L k ++ [(k : Int)] := by rw [HS.out]; simp
              rw [e]; exact ⟨HN3.out, HO3.out⟩)
            go_roundw
            case rel => first | exact ⟨k + 1, A3, n3, c3, by go_num, rfl, by omega, HO', HB3⟩ | ((repeat apply Exists.intro); exact ⟨⟨k + 1, A3, n3, c3, by go_num, rfl, by omega, HO', HB3⟩, rfl⟩)
            case measure => simp [intOf]; omega
    · obtain rfl : k = 26 := by omega
      go_wp2_with fail
      go_ret
      exact ⟨A1, n1, c1, rfl, by rw [← nds_all]; exact HO.out.1, by rw [← nds_all]; exact HO.out.2, HB.out⟩
end Tf
end Go.Proofs.YtakgkocdkondhaaGreatDoor
end

section
namespace Go.Proofs.YtakgkocdkondhaaGreatDoor
namespace Tf
open Go.RowKit Fl Tr Pt
open Bk (Gt Lt Iw ivs Cm hold need Cl MayP Cw Rd pcl app_ints app_claims Sl ClsTold cl_of pcl_length)
open Lk (Ow T0 zns at9 LkAt Only Tb ToldI)

theorem gh_sl {top : Nat} {w : World} {A : Option Addr} {n c : Nat} {L : List Int} (h : Gh top 1 w A n c (ivs L)) : Sl w.heap.size w (.slice A n c) L := ⟨A, n, c, rfl, h.gt⟩
theorem row_kind11 {w : World} {base k n : Nat} {e : TypeId} {v : Value} {xs : List Value} (h : w.ownsRow base e k v n xs) : ∀ g, v.ownBlock = some g → ∃ c fz, w.heap[g]? = some (.cells c e fz) := by
  intro g hg
  rcases h.2 with ⟨q, _⟩ | ⟨g0, c0, cur, q, _, hh, _⟩
  · rw [q] at hg; cases hg
  · have : g = g0 := by rw [q] at hg; simpa [Value.ownBlock] using hg.symm
    subst this; exact ⟨cur, _, hh⟩
/-- Pairs of what is held, as it lay there, and what is needed, of the call's own. -/
def Pd (w0 wr : World) (P : List (Value × Value)) (C : Cm) (i : Nat) : Prop := P.length = i ∧ ∀ j p, P[j]? = some p → Sl w0.heap.size w0 p.1 (hold C j) ∧ Iw wr w0.heap.size p.2 (need C j)
theorem Pd.later {w0 wr w' : World} {P : List (Value × Value)} {C : Cm} {i : Nat} (h : Pd w0 wr P C i) (hb : Below wr.heap.size wr w') : Pd w0 w' P C i := ⟨h.1, fun j p e => ⟨(h.2 j p e).1, (h.2 j p e).2.later hb⟩⟩
/-- Where a list of claims alone grows. -/
theorem iw_claims {w w' : World} {base base' : Nat} {v v' : Value} {L : List Int} {P : List (Value × Value)} (h : Iw w base v L) (hc : Cw w base' v' P) (hg : w.grownBy w' v'.ownBlock) : Iw w' base v L :=
  ownsRow_same h (fun k hk => hg.block k (World.ownsRow.lt h k hk).2 (fun e => by
    obtain ⟨c1, f1, h1⟩ := row_kind11 h k hk
    obtain ⟨c2, f2, h2⟩ := row_kind11 hc k e.symm
    exact block_ne h1 h2 (by decide) rfl))
theorem Pd.add {w0 w6 : World} {s : ByteArray} {R : List Mv} {T : List Ow} {P : List (Value × Value)} {i : Nat} (hi : i < R.length) (h : Pd w0 w6 P (clm s R T) i) {u v : Value} (hu : Sl w0.heap.size w0 u (zns T ((i : Int), true) 26)) (hv : Iw w6 w0.heap.size v (zl s (getM R i).2.1)) : Pd w0 w6 (P ++ [(u, v)]) (clm s R T) (i + 1) := by
  refine ⟨by rw [List.length_append, h.1]; rfl, fun j p e => ?_⟩
  rw [List.getElem?_append] at e
  split at e
  · exact h.2 j p e
  · rename_i hj
    have hl : j = i := by
      have := (List.getElem?_eq_some_iff.1 e).1
      simp at this
      have := h.1
      omega
    subst hl
    have e2 : (u, v) = p := by
      rw [h.1, Nat.sub_self] at e
      simpa using e
    subst e2
    obtain ⟨e1, e2⟩ := clm_get s R T hi
    rw [e1, e2]
    exact ⟨hu, hv⟩
theorem Pd.rd {w0 wr : World} {s : ByteArray} {R : List Mv} {T : List Ow} {P : List (Value × Value)} (h : Pd w0 wr P (clm s R T) R.length) (hb : Below w0.heap.size w0 wr) : Rd wr.heap.size wr P (clm s R T) := by
  refine ⟨by rw [h.1, clm_len], fun j p e => ?_⟩
  obtain ⟨h1, h2⟩ := h.2 j p e
  refine ⟨(h1.below hb).raise hb.size, ?_⟩
  obtain ⟨A, c, ev⟩ := Bk.own_form h2
  rw [ev] at h2 ⊢
  exact ⟨A, _, c, rfl, h2.lt.2⟩
theorem step_app_claims2 {w : World} {ops : Array Oper} {o : Oper} {a : Act} {K : Act → World → Prop} {Q : Exit → Act → World → Prop} {F : Prop} (hgd : o.guard = none) (s x : Operand)
    (ho : o.op = .call { callee := .builtin .append, args := #[s, x], argTypes := #[44, 44] })
    (base : Nat) (v : Value) (P : List (Value × Value)) (hs : a.eval s = v) (hown : Cw w base v P)
    (A : Option Addr) (m c : Nat) (R : List (Value × Value)) (hx : a.eval x = .slice A m c) (hr : Gt 2 w.heap.size w A m c (pcl R)) (h1 : ∀ u ∈ pcl R, u.oneCell' = true) (hb : P.length + m ≤ 1000000) (hbase : base ≤ w.heap.size)
    (h : ∀ A' n' c' w', n' = (P ++ R).length → Cw w' base (.slice A' n' c') (P ++ R) → Below base w w' → w.grownBy w' v.ownBlock → K (a.put o.dst (.slice A' n' c')) w') : if Region.wanted o (yielded ops a.tmps) = true then Oper.wp Tryz.prog o a w K Q else F := by
  have hw : Region.wanted o (yielded ops a.tmps) = true := by simp [Region.wanted, hgd]
  rw [if_pos hw]
  obtain ⟨A', n', c', w', hrun, h2, h3, h4, h5, _⟩ := Bk.run_app_claims o.type base v P hown A m c R hr h1 hb hbase
  unfold Oper.wp execOp
  simp only [ho, resolve, invoke, builtin, Sem.run_bind, Sem.run_pure, Result.andThen_ok, List.map_toArray, List.map_cons, List.map_nil, hs, hx, hrun]
  exact h A' n' c' w' h2 h3 h4 h5
theorem gt_claim (w : World) (u v : Value) : Gt 2 (w.alloc (.cells #[u, v] 64)).heap.size (w.alloc (.cells #[u, v] 64)) (some ⟨w.heap.size, 0, none⟩) 1 1 (pcl [(u, v)]) := by
  refine ⟨rfl, Nat.le_refl _, by unfold maxLen; omega, fun h => (by cases h), fun _ => ⟨w.heap.size, 0, rfl, by simp, fun j hj => ?_⟩⟩
  rcases (by omega : j = 0 ∨ j = 1) with rfl | rfl <;> simp [World.cell?_alloc_new, pcl]
/-- Behind needs, with the claim in a block of its own. -/
structure C5 (w0 w2 : World) (u v v1 : Value) (P : List (Value × Value)) (q m x1 x3 : Nat) (d1 d2 d3 : Value) (wx : World) : Prop where
  cw : Cw wx w0.heap.size v1 P
  one : Gt 2 wx.heap.size wx (some ⟨w2.heap.size, 0, none⟩) 1 1 (pcl [(u, v)])
  le : w0.heap.size ≤ wx.heap.size
  be : Below w0.heap.size w0 wx
  lt : q < wx.heap.size ∧ m < wx.heap.size
  cs : wx.cell? ⟨q, 4, none⟩ = some d1 ∧ wx.cell? ⟨m, x1, none⟩ = some d2 ∧ wx.cell? ⟨m, x3, none⟩ = some d3
theorem C5.start {w0 wr w2 : World} {u v v1 : Value} {P : List (Value × Value)} {q m x1 x3 : Nat} {d1 d2 d3 : Value} (h : Cw wr w0.heap.size v1 P) (hb : Below w0.heap.size w0 wr) (hb2 : Below wr.heap.size wr w2) (hq : q < wr.heap.size) (hm : m < wr.heap.size) (y1 : w2.cell? ⟨q, 4, none⟩ = some d1) (y2 : w2.cell? ⟨m, x1, none⟩ = some d2) (y3 : w2.cell? ⟨m, x3, none⟩ = some d3) :
    C5 w0 w2 u v v1 P q m x1 x3 d1 d2 d3 (w2.alloc (.cells #[u, v] 64)) := by
  have hA := (Below.refl w2.heap.size w2).alloc (Nat.le_refl _) (.cells #[u, v] 64)
  have hz : (w2.alloc (.cells #[u, v] 64)).heap.size = w2.heap.size + 1 := by simp
  have h2 := hb2.size
  have h3 := hb.size
  have hq2 : q < w2.heap.size := by omega
  have hm2 : m < w2.heap.size := by omega
  have hbe := hb.trans (hb2.mono hb.size)
  exact ⟨(h.later hb2).later hA, gt_claim w2 u v, by omega, hbe.trans (hA.mono hbe.size), ⟨by omega, by omega⟩, ⟨(hA.cell (p := ⟨q, 4, none⟩) hq2).trans y1, (hA.cell (p := ⟨m, x1, none⟩) hm2).trans y2, (hA.cell (p := ⟨m, x3, none⟩) hm2).trans y3⟩⟩
set_option maxHeartbeats 8000000 in
theorem rclaims_any {w : World} {q z m cz cap top : Nat} {W H : Int} {s : ByteArray} {R : List Mv} {T : List Ow} (h : RS w q z m cz cap top W H s R T) (h8 : R.length ≤ 8) (hlen : ∀ r, r < R.length → (getM R r).2.1.length ≤ 1024) (hC : ∀ r, r < R.length → ∀ a, a ∈ (getM R r).2.1 → 0 ≤ a.2.1 ∧ a.2.1 < s.size) :
    Calls Tryz.prog 19 #[.pointer (some ⟨q, 0, none⟩)] w (ClsTold (clm s R T) w) := by
  have HR := Lib.hid h
  have HLEN := Lib.hid hlen
  have HC := Lib.hid hC
  obtain ⟨⟨hc1, hc2⟩, -⟩ := h.size
  have HNIL : Hid (Cw w w.heap.size (.slice none 0 0) []) := Lib.hid (World.ownsRow_nil _ _ _ _)
  have HRD0 : Hid (Pd w w [] (clm s R T) 0) := Lib.hid ⟨rfl, fun j p e => by simp at e⟩
  have HQL : Hid (q < w.heap.size ∧ m < w.heap.size) := Lib.hid (by have := h.tops; omega)
  clear h hlen hC
  obtain ⟨n, hn⟩ : ∃ n, n = R.length := ⟨_, rfl⟩
  rw [← hn] at hc1 h8
  have HN := Lib.hid hn
  clear hn
  go_enter Tryz.func19, Tryz.ntmps19
  go_wp2_with fail
  go_loopw [3, 4] (fun ov iv wr => ∃ (i : Nat) (A1 : Option Addr) (n1 c1 : Nat), iv = .int .i64 (i : Int) ∧ ov = .slice A1 n1 c1 ∧ i ≤ n ∧ Hid (∃ P, n1 = P.length ∧ Cw wr w.heap.size (.slice A1 n1 c1) P ∧ Pd w wr P (clm s R T) i) ∧ Hid (Below w.heap.size w wr)) (fun _ iv _ => n - (intOf iv).toNat)
  case atStart => exact ⟨0, none, 0, 0, rfl, rfl, Nat.zero_le _, Lib.hid ⟨[], rfl, HNIL.out, HRD0.out⟩, Lib.hid (Below.refl _ _)⟩
  case round =>
    rename World => wr
    obtain ⟨i, A1, n1, c1, rfl, rfl, hi, HO, HB⟩ := hrel
    have hRw := HR.out.later HB.out
    obtain ⟨-, -, -, -, c4, cq⟩ := hRw.cells
    rw [← HN.out] at c4
    by_cases hli : i < n
    · have hiI : (i : Int) < (n : Int) := by omega
      have hiR : i < R.length := by rw [← HN.out]; exact hli
      obtain ⟨A, nl, cl, A2, n2, c2, -, r1, -, r3, hla, hgh, -, hmm⟩ := hRw.robot hiR
      have HLA := Lib.hid hla
      have HGH := Lib.hid hgh
      have hRd := hRw.later (Below.refl wr.heap.size wr).drew
      have HND := Lib.hid (rneeds_any hRd A nl cl (getM R i).2.1 (hla.al.later (Below.refl wr.heap.size wr).drew) (by rw [← hla.al.len]; exact HLEN.out i hiR) (HC.out i hiR))
      obtain ⟨P, hPn, hcw, hpd⟩ := HO.out
      have HP := Lib.hid (And.intro hcw hpd)
      have HP8 : Hid (P.length ≤ 8) := Lib.hid (by rw [hpd.1]; omega)
      have HSL : Hid (Sl w.heap.size w (.slice A2 n2 c2) (zns T ((i : Int), true) 26)) := Lib.hid (by
        obtain ⟨A', nl', cl', A2', n2', c2', -, -, -, q3, -, hg2, -, hm2⟩ := HR.out.robot hiR
        have e := ((HB.out.cell (p := ⟨m, i * 4 + 3, none⟩) HQL.out.2).trans q3).symm.trans r3
        injection e with e
        rw [← e]
        exact gh_sl hg2)
      clear hRw hRd hla hgh hPn hcw hpd HO
      go_wp2_with fail
      go_region_held3 (fun w' => w'.cell? ⟨q, 4, none⟩ = some (.slice (some ⟨m, 0, none⟩) n cap) ∧ w'.cell? ⟨m, i * 4 + 1, none⟩ = some (.slice A nl cl) ∧ w'.cell? ⟨m, i * 4 + 3, none⟩ = some (.slice A2 n2 c2)) (go_keep)
        ((first
          | (have _k := HO5; refine step_app_claims2 (by rfl) _ _ (by rfl) w.heap.size (.slice A1 n1 c1) P (by rfl) HO5.out.cw (some ⟨w2.heap.size, 0, none⟩) 1 1 [(.slice A2 n2 c2, .slice A3 n3 c3)] (by rfl) HO5.out.one (by intro u hu; simp [pcl] at hu; rcases hu with rfl | rfl <;> rfl) (by have := HP8.out; omega) HO5.out.le ?_; intro A6 n6 c6 w6 hn6 ho6 hb6 hg6; have HB6 := Lib.hid (HO5.out.be.trans hb6); have HO6 := Lib.hid (And.intro hn6 ho6); have HG6 := Lib.hid hg6; have y61 := (hb6.cell (p := ⟨q, 4, none⟩) HQL.out.1).trans HO5.out.cs.1; have y62 := (hb6.cell (p := ⟨m, i * 4 + 1, none⟩) HQL.out.2).trans HO5.out.cs.2.1; have y63 := (hb6.cell (p := ⟨m, i * 4 + 3, none⟩) HQL.out.2).trans HO5.out.cs.2.2; clear hn6 ho6 hb6 hg6)
          | (go_at_call 52; refine HND.out.mono ?_; rintro e w2 ⟨A3, n3, c3, rfl, hn3, ho3, hb3⟩; have HB3 := Lib.hid ((Below.refl wr.heap.size wr).drew.trans hb3); have HO3 := Lib.hid ho3; have y1 := (HB3.out.cell (p := ⟨q, 4, none⟩) cq).trans c4; have y2 := (HB3.out.cell (p := ⟨m, i * 4 + 1, none⟩) hmm).trans r1; have y3 := (HB3.out.cell (p := ⟨m, i * 4 + 3, none⟩) hmm).trans r3; have HO5 := Lib.hid (C5.start (u := .slice A2 n2 c2) (v := .slice A3 n3 c3) HP.out.1 HB.out HB3.out cq hmm y1 y2 y3); clear hn3 ho3 hb3)))
      have HO' : Hid (∃ P, n6 = P.length ∧ Cw w6 w.heap.size (.slice A6 n6 c6) P ∧ Pd w w6 P (clm s R T) (i + 1)) := Lib.hid (by
        have hA := (Below.refl w2.heap.size w2).alloc (Nat.le_refl _) (.cells #[.slice A2 n2 c2, .slice A3 n3 c3] 64)
        have hp5 := (HP.out.2.later HB3.out).later hA
        have hn5 : Iw _ w.heap.size (.slice A3 n3 c3) _ := Bk.own_lower (HO3.out.later hA) HB.out.size
        have hp6 : Pd w w6 P (clm s R T) i := ⟨hp5.1, fun j p e => ⟨(hp5.2 j p e).1, iw_claims (hp5.2 j p e).2 HO5.out.cw HG6.out⟩⟩
        exact ⟨_, HO6.out.1, HO6.out.2, hp6.add (by rw [← HN.out]; exact hli) HSL.out (iw_claims hn5 HO5.out.cw HG6.out)⟩)
      go_wp2_with fail
      go_roundw
      case rel => first | exact ⟨i + 1, A6, n6, c6, by go_num, rfl, by omega, HO', HB6⟩ | ((repeat apply Exists.intro); exact ⟨⟨i + 1, A6, n6, c6, by go_num, rfl, by omega, HO', HB6⟩, rfl⟩)
      case measure => simp [intOf]; omega
    · obtain rfl : i = n := by omega
      clear hRw
      obtain ⟨P, hPn, hcw, hpd⟩ := HO.out
      rw [HN.out] at hpd
      have HF : Hid (Cl wr.heap.size wr A1 n1 c1 (clm s R T)) := Lib.hid (cl_of (w0 := w) hcw (hpd.rd HB.out))
      clear hcw hpd hPn
      go_wp2_with fail
      go_ret
      exact ⟨A1, n1, c1, rfl, HF.out, HB.out⟩
end Tf
end Go.Proofs.YtakgkocdkondhaaGreatDoor
end

section
namespace Go.Proofs.YtakgkocdkondhaaGreatDoor
namespace Tf
open Go.RowKit Fl Tr Pt
open Bk (Gt Lt Iw ivs Cm hold need Cl MayP)
open Lk (Ow T0 zns at9 LkAt Only Tb ToldI)

theorem zns_strict (T : List Ow) (p : Ow) (n : Nat) : (zns T p n).Pairwise (· < ·) := toI_strict (List.pairwise_lt_range.sublist List.filter_sublist)
theorem zns_ext {T T' : List Ow} {p p' : Int} (h : ∀ z, at9 T z = (p, true) ↔ at9 T' z = (p', true)) : zns T (p, true) 26 = zns T' (p', true) 26 :=
  strict_ext _ _ (zns_strict _ _ _) (zns_strict _ _ _) (fun z => by rw [at9_mem, at9_mem]; exact h z)
section
variable {W H : Int} {s : ByteArray} {R : List Mv} {T : List Ow}
theorem relF_zns (h : Inv W H s R T) {k : Nat} (hk : k < R.length) {c : Int} {a : Ac} {l : List Ac} (hm : getM R k = (c, a :: l, true)) : zns (relF T (k : Int) (az s a)) ((k : Int), true) 26 = az s a := by
  refine strict_ext _ _ (zns_strict _ _ _) ?_ (fun z => ?_)
  · have := az_len s a
    match az s a, this with
    | [], _ => exact List.Pairwise.nil
    | [x], _ => exact List.pairwise_singleton _ _
  · rw [at9_mem, relF_at]
    have hown := h.own k hk z
    rw [hm] at hown
    have hs' : z ∈ az s a → z ∈ hs s (c, a :: l, true) := fun q => by
      unfold hs
      simp only [if_true]
      exact List.mem_append_right _ q
    by_cases q : z ∈ az s a
    · have h1 := hown.2 (hs' q)
      rw [if_neg (fun x => x.2 q)]
      exact ⟨fun _ => q, fun _ => h1⟩
    · by_cases e : at9 T z = ((k : Int), true)
      · rw [if_pos ⟨e, q⟩]
        exact ⟨fun x => (by cases x), fun x => absurd x q⟩
      · rw [if_neg (fun x => e x.1)]
        exact ⟨fun x => absurd x e, fun x => absurd x q⟩
theorem relF_other (T : List Ow) {k j : Nat} (hj : j ≠ k) (here : List Int) : zns (relF T (k : Int) here) ((j : Int), true) 26 = zns T ((j : Int), true) 26 := by
  refine zns_ext (fun z => ?_)
  rw [relF_at]
  split
  · rename_i q
    constructor
    · intro x; cases x
    · intro x
      rw [q.1] at x
      have := congrArg Prod.fst x
      simp only at this
      omega
  · exact Iff.rfl
end
theorem rcl_set4 : ∀ (P : List Rp) (i : Nat) (a : Int) (b : Value) (c : Bool) (d : Value), i < P.length → ((((rcl P).set (i * 4) (.int .i64 a)).set (i * 4 + 1) b).set (i * 4 + 2) (.bool c)).set (i * 4 + 3) d = rcl (P.set i (a, b, c, d))
  | [], i, a, b, c, d, h => by simp at h
  | x :: l, 0, a, b, c, d, h => by simp [rcl]
  | x :: l, i + 1, a, b, c, d, h => by
    have ih := rcl_set4 l i a b c d (by simpa using h)
    rw [show (i + 1) * 4 = i * 4 + 1 + 1 + 1 + 1 by omega]
    have e1 : i * 4 + 1 + 1 + 1 + 1 + 1 = i * 4 + 1 + 1 + 1 + 1 + 1 := rfl
    rw [show i * 4 + 1 + 1 + 1 + 1 + 2 = i * 4 + 2 + 1 + 1 + 1 + 1 by omega, show i * 4 + 1 + 1 + 1 + 1 + 3 = i * 4 + 3 + 1 + 1 + 1 + 1 by omega]
    simp only [rcl, List.set_cons_succ, ih]
section
variable {w w' : World} {q z m cz cap top : Nat} {W H : Int} {s : ByteArray} {R : List Mv} {T : List Ow}
/-- A robot is written anew. -/
theorem RS.put4 {T' : List Ow} (h : RS w q z m cz cap top W H s R T) {r : Nat} (hr : r < R.length) (x : Int) (v1 : Value) (b : Bool) (v3 : Value) (L : List Ac) (hT : ∀ j : Nat, j ≠ r → zns T' ((j : Int), true) 26 = zns T ((j : Int), true) 26) (h1 : La top w v1 L) (h3 : Zs top w v3 (zns T' ((r : Int), true) 26)) :
    RS ((((w.setCell ⟨m, r * 4, none⟩ (.int .i64 x)).setCell ⟨m, r * 4 + 1, none⟩ v1).setCell ⟨m, r * 4 + 2, none⟩ (.bool b)).setCell ⟨m, r * 4 + 3, none⟩ v3) q z m cz cap top W H s (R.set r (x, L, b)) T' := by
  obtain ⟨t1, t2, t3, t4⟩ := h.tops
  obtain ⟨⟨c1, hz⟩, c2, hm⟩ := h.blocks
  obtain ⟨P, p1, p2⟩ := h.mv
  have d1 : q ≠ m := block_ne h.box hm (by decide)
  have d2 : z ≠ m := block_ne hz hm (by decide)
  have hP : r < P.length := by rw [p2.len]; exact hr
  have hT4 := Turn.put (F := fun k => k = m) (F' := fun k => k = m) (Turn.put (Turn.put (Turn.put (Turn.refl (fun k => k = m) w) (b := m) (o := r * 4) (.int .i64 x) rfl) (b := m) (o := r * 4 + 1) v1 rfl) (b := m) (o := r * 4 + 2) (.bool b) rfl) (b := m) (o := r * 4 + 3) v3 rfl
  have hl : (rcl P).length = R.length * 4 := by rw [rcl_length, p2.len]
  have o1 := Bk.own_put p1 (x := r * 4) (by omega) (.int .i64 x)
  have o2 := Bk.own_put o1 (x := r * 4 + 1) (by rw [List.length_set]; omega) v1
  have o3 := Bk.own_put o2 (x := r * 4 + 2) (by rw [List.length_set, List.length_set]; omega) (.bool b)
  have o4 := Bk.own_put o3 (x := r * 4 + 3) (by rw [List.length_set, List.length_set, List.length_set]; omega) v3
  rw [rcl_set4 P r x v1 b v3 hP] at o4
  generalize (((w.setCell ⟨m, r * 4, none⟩ (.int .i64 x)).setCell ⟨m, r * 4 + 1, none⟩ v1).setCell ⟨m, r * 4 + 2, none⟩ (.bool b)).setCell ⟨m, r * 4 + 3, none⟩ v3 = w4 at *
  have hk4 := KeepT.turn (top := top) hT4 (fun k hk => by have hk : k = m := hk; omega)
  refine ⟨?_, ?_, ⟨P.set r (x, v1, b, v3), ?_, ?_⟩, ⟨t1, t2, t3, Nat.le_trans t4 hT4.size⟩⟩
  · rw [List.length_set]
    exact (hT4.block q (by omega) d1).trans h.box
  · refine ownsRow_same h.zt (fun k e => ?_)
    have e : some z = some k := e
    injection e with e
    subst e
    exact hT4.block z (by omega) d2
  · rw [List.length_set]
    exact o4
  · exact (p2.keep hk4).set hr _ _ rfl rfl (h1.keep hk4) (h3.keep hk4) hT
theorem Fm.put4 {w0 : World} (h : Fm m w0 w) (x0 x1 x2 x3 : Nat) (u0 u1 u2 u3 : Value) : Fm m w0 ((((w.setCell ⟨m, x0, none⟩ u0).setCell ⟨m, x1, none⟩ u1).setCell ⟨m, x2, none⟩ u2).setCell ⟨m, x3, none⟩ u3) :=
  (((Turn.put h u0 rfl).put u1 rfl).put u2 rfl).put u3 rfl
end
theorem on_lt {W H : Int} {s : ByteArray} {c : Int} (h : OnFloor W H s c) : 0 ≤ c ∧ c < s.size := by
  refine Classical.byContradiction fun q => h.2 ?_
  unfold bAt
  rw [if_neg q]
/-- What the document's acts tell. -/
def RDone (q z m cz cap top : Nat) (W H : Int) (s : ByteArray) (D : Int × List Mv × List Ow) (w : World) (e : Ending) (w' : World) : Prop :=
  e = .returned (.int .i64 D.1) ∧ RS w' q z m cz cap top W H s D.2.1 D.2.2 ∧ Fm m w w'
/-- A box of a robot; of an act. -/
def Rb4 (b : Nat) (x : Int) (v1 : Value) (y : Bool) (v3 : Value) (w : World) : Prop := w.heap[b]? = some (.cells #[.int .i64 x, v1, .bool y, v3] 57 (0, 0))
theorem Rb4.cells {b : Nat} {x : Int} {v1 : Value} {y : Bool} {v3 : Value} {w : World} (h : Rb4 b x v1 y v3 w) : (w.cell? ⟨b, 0, none⟩ = some (.int .i64 x) ∧ w.cell? ⟨b, 1, none⟩ = some v1 ∧ w.cell? ⟨b, 2, none⟩ = some (.bool y) ∧ w.cell? ⟨b, 3, none⟩ = some v3) ∧ (∀ j, w.frozen? ⟨b, j, none⟩ = false) ∧ b < w.heap.size :=
  ⟨⟨by rw [cell_of_row w b 0 _ _ _ h]; rfl, by rw [cell_of_row w b 1 _ _ _ h]; rfl, by rw [cell_of_row w b 2 _ _ _ h]; rfl, by rw [cell_of_row w b 3 _ _ _ h]; rfl⟩, fun j => frozen_of_row w b j _ _ h, lt_of_heap h⟩
theorem Rb4.later {b : Nat} {x : Int} {v1 : Value} {y : Bool} {v3 : Value} {w w' : World} (h : Rb4 b x v1 y v3 w) (hb : Below w.heap.size w w') : Rb4 b x v1 y v3 w' := (hb.block b (lt_of_heap h)).trans h
theorem two_boxes (w : World) (x : Int) (v1 : Value) (y : Bool) (v3 : Value) (ai a2 a3 : Int) (a1 : Nat) (hai : ai = (a1 : Int)) : ∃ wb, wb = (w.alloc (.cells #[.int .i64 x, v1, .bool y, v3] 57)).alloc (.cells #[.int .u8 ai, .int .i64 a2, .int .i64 a3] 39) ∧ Below w.heap.size w wb ∧ Rb4 w.heap.size x v1 y v3 wb ∧ Ab (w.heap.size + 1) (a1, a2, a3) wb ∧ wb.heap.size = w.heap.size + 2 := by
  subst hai
  have e : (w.alloc (.cells #[.int .i64 x, v1, .bool y, v3] 57)).heap.size = w.heap.size + 1 := by simp
  have h1 := heap_alloc_new w (.cells #[.int .i64 x, v1, .bool y, v3] 57)
  have hb := (Below.refl w.heap.size w).alloc (Nat.le_refl _) (.cells #[.int .i64 x, v1, .bool y, v3] 57)
  have h2 := heap_alloc_new (w.alloc (.cells #[.int .i64 x, v1, .bool y, v3] 57)) (.cells #[.int .u8 (a1 : Int), .int .i64 a2, .int .i64 a3] 39)
  rw [e] at h2
  have hb2 := (Below.refl (w.heap.size + 1) (w.alloc (.cells #[.int .i64 x, v1, .bool y, v3] 57))).alloc (by rw [e]; exact Nat.le_refl _) (.cells #[.int .u8 (a1 : Int), .int .i64 a2, .int .i64 a3] 39)
  refine ⟨_, rfl, hb.alloc (by simp) _, ?_, h2, by simp⟩
  exact (hb2.block w.heap.size (by omega)).trans h1
theorem Rb4.put3 {b : Nat} {x : Int} {v1 : Value} {y : Bool} {v3 : Value} {w : World} (h : Rb4 b x v1 y v3 w) (u : Value) : Rb4 b x v1 y u (w.setCell ⟨b, 3, none⟩ u) := heap_setCell_same w b 3 _ _ u h
section
variable {w we : World} {q z m cz cap top : Nat} {W H : Int} {s : ByteArray} {R : List Mv} {T T' : List Ow}
theorem done_end (h : RS w q z m cz cap top W H s R T) (hb : Below w.heap.size w we) {k : Nat} (hk : k < R.length) (x : Int) (v1 v3 : Value) (l : List Ac) (h1 : La top w v1 l) (h3 : Zs top we v3 (zns T' ((k : Int), true) 26)) (hT : ∀ j : Nat, j ≠ k → zns T' ((j : Int), true) 26 = zns T ((j : Int), true) 26) :
    RDone q z m cz cap top W H s (0, R.set k (x, l, false), T') w (.returned (.int .i64 0)) ((((we.setCell ⟨m, k * 4, none⟩ (.int .i64 x)).setCell ⟨m, k * 4 + 1, none⟩ v1).setCell ⟨m, k * 4 + 2, none⟩ (.bool false)).setCell ⟨m, k * 4 + 3, none⟩ v3) :=
  ⟨rfl, (h.later hb).put4 hk x v1 false v3 l hT (h1.keep (KeepT.of hb)) h3, Fm.put4 (Turn.ofBelow hb _) _ _ _ _ _ _ _ _⟩
end
theorem Zs.nil (top : Nat) (w : World) : Zs top w (.slice none 0 0) [] := ⟨none, 0, 0, rfl, ⟨Gt.nothing _ _ _, fun ad e => by cases e⟩⟩
theorem Zs.one (top : Nat) (w : World) (x : Int) (h : top ≤ w.heap.size) : Zs top (w.alloc (.cells #[.int .i64 x] 3)) (.slice (some ⟨w.heap.size, 0, none⟩) 1 1) [x] := ⟨_, 1, 1, rfl, ⟨Lt.one w x, fun ad e => by injection e with e; rw [← e]; exact h⟩⟩
theorem hold_new {wd : World} {b top : Nat} {x : Int} {v1 : Value} {y : Bool} {v3 : Value} (h : Rb4 b x v1 y v3 wd) (ht : top ≤ wd.heap.size) (zz : Int) : ∃ wx, wx = ((wd.setCell ⟨b, 3, none⟩ (.slice (some ⟨wd.heap.size, 0, none⟩) 1 1)).alloc (.cells #[.int .i64 zz] 3)).drew ∧ Below b wd wx ∧ Rb4 b x v1 y (.slice (some ⟨wd.heap.size, 0, none⟩) 1 1) wx ∧ Zs top wx (.slice (some ⟨wd.heap.size, 0, none⟩) 1 1) [zz] := by
  have hr := h.put3 (.slice (some ⟨wd.heap.size, 0, none⟩) 1 1)
  have hb := (Below.refl b wd).setCell (p := ⟨b, 3, none⟩) (Nat.le_refl _) (.slice (some ⟨wd.heap.size, 0, none⟩) 1 1)
  have e : (wd.setCell ⟨b, 3, none⟩ (.slice (some ⟨wd.heap.size, 0, none⟩) 1 1)).heap.size = wd.heap.size := by simp [World.setCell]
  have hlt := lt_of_heap hr
  have hz := Zs.one top (wd.setCell ⟨b, 3, none⟩ (.slice (some ⟨wd.heap.size, 0, none⟩) 1 1)) zz (by rw [e]; exact ht)
  rw [e] at hz
  generalize wd.setCell ⟨b, 3, none⟩ (.slice (some ⟨wd.heap.size, 0, none⟩) 1 1) = w1 at *
  have hb2 := ((Below.refl w1.heap.size w1).alloc (Nat.le_refl _) (.cells #[.int .i64 zz] 3)).drew
  exact ⟨_, rfl, hb.trans (hb2.mono (by omega)), hr.later hb2, hz.keep (KeepT.of (Below.refl _ _).drew)⟩
set_option maxHeartbeats 8000000 in
theorem rdone_any {w : World} {q z m cz cap top : Nat} {W H : Int} {s : ByteArray} {R : List Mv} {T : List Ow} (h : RS w q z m cz cap top W H s R T) (hI : Inv W H s R T) (r : Int) :
    Calls Tryz.prog 47 #[.pointer (some ⟨q, 0, none⟩), .int .i64 r] w (RDone q z m cz cap top W H s (doneF s R T r) w) := by
  have HH := Lib.hid (rhas_any h r)
  have HR := Lib.hid h
  by_cases hr : 0 ≤ r ∧ r < R.length
  · obtain ⟨k, rfl⟩ := Int.eq_ofNat_of_zero_le hr.1
    have hk : k < R.length := by omega
    obtain ⟨A, n, c, A2, n2, c2, r0, r1, r2, r3, hla, hgh, hfz, hmlt⟩ := h.robot hk
    obtain ⟨-, -, -, e3, e4, hq⟩ := h.cells
    obtain ⟨⟨hs1, hs2⟩, hz1, hz2⟩ := h.size
    rw [decide_eq_true hr] at HH
    have hkI : (k : Int) < (R.length : Int) := by omega
    cases hb : (getM R k).2.2 with
    | false =>
      rw [doneF_none hk hb]
      rw [hb] at r2
      generalize hN : R.length = N at *
      clear h hla hgh hfz hb hr
      generalize (getM R k).1 = x0 at *
      go_enter Tryz.func47, Tryz.ntmps47
      go_wp2_with fail
      refine HH.out.mono ?_
      rintro e w1 ⟨rfl, rfl⟩
      go_wp2_with fail
      go_ret
      have hb := (Below.refl w.heap.size w).alloc (Nat.le_refl _) (.cells #[.int .i64 x0, .slice A n c, .bool false, .slice A2 n2 c2] 57)
      exact ⟨rfl, HR.out.later hb, Turn.ofBelow hb _⟩
    | true =>
      cases hl : (getM R k).2.1 with
      | nil => exact absurd hl (hI.busy k hk hb)
      | cons a l =>
        obtain ⟨x0, hx0⟩ : ∃ x0, x0 = (getM R k).1 := ⟨_, rfl⟩
        have hm : getM R k = (x0, a :: l, true) := by rw [hx0, ← hl, ← hb]
        rw [doneF_go hk hm]
        rw [hb] at r2
        rw [← hx0] at r0
        rw [hl] at hla
        have hal := hla.al
        have hn1 : 0 < n := by rw [← hal.len]; simp
        obtain ⟨ga, oa, rfl, hga, k0, k1, k2⟩ := hal.cell hn1
        have hcel := (right_cells (hI.each k hk) a (by rw [hl]; simp)).2
        obtain ⟨hac1, hac2⟩ := hal.size
        have HLA := Lib.hid hla
        have HZN := Lib.hid (And.intro (relF_zns hI hk hm) (zf_zc s a.2.1))
        have HGH := Lib.hid hgh
        have HAZ : Hid (az s a = if a.1 = 1 then zc s a.2.1 else []) := Lib.hid rfl
        obtain ⟨a1, a2, a3⟩ := a
        simp only [List.getD_cons_zero, Nat.zero_mul, Nat.add_zero] at k0 k1 k2
        have hcel : 0 ≤ a2 ∧ a2 < s.size := on_lt hcel
        obtain ⟨cn, rfl⟩ := Int.eq_ofNat_of_zero_le hcel.1
        have hcn : cn < s.size := by omega
        have hcI : (cn : Int) < (s.size : Int) := by omega
        obtain ⟨zc1, hzlt⟩ := h.zone hcn
        have HLT : Hid (La top w (.slice (if c = 1 then (some ⟨ga, oa, none⟩ : Option Addr) else some ⟨ga, oa + 3, none⟩) (n - 1) (c - 1)) l) := Lib.hid (by
          have := hla.tail (m := 1) (by omega) (if c = 1 then (some ⟨ga, oa, none⟩ : Option Addr) else some ⟨ga, oa + 3, none⟩) (by split <;> simp) (fun hlt => by rw [if_neg (by omega)]) (fun ad e => by split at e <;> (injection e with e; rw [← e]))
          simpa using this)
        have HQL : Hid (q < w.heap.size ∧ m < w.heap.size ∧ z < w.heap.size ∧ top ≤ w.heap.size) := Lib.hid (by have := h.tops; omega)
        generalize hN : R.length = N at *
        have HN := Lib.hid hN
        clear h hla hal hgh hb hl hm hx0 hr hcel hN
        clear hcel
        by_cases h1 : a1 = 1
        · subst h1
          rw [if_pos rfl] at HAZ
          rw [HAZ.out] at HZN
          rw [if_pos rfl, if_pos rfl, HAZ.out]
          clear HAZ
          go_enter Tryz.func47, Tryz.ntmps47
          go_wp2_with fail
          refine HH.out.mono ?_
          rintro e w1 ⟨rfl, rfl⟩
          go_wp2_with fail
          all_goals
            obtain ⟨wb, A3, n3, c3, hwb, hB, hRb, hAb, hsz, HL1⟩ : ∃ wb A3 n3 c3, wb = _ ∧ Below w.heap.size w wb ∧ Rb4 w.heap.size (cn : Int) (.slice A3 n3 c3) false (.slice none 0 0) wb ∧ Ab (w.heap.size + 1) (1, (cn : Int), a3) wb ∧ wb.heap.size = w.heap.size + 2 ∧ Hid (La top w (.slice A3 n3 c3) l) := by
              first
                | (obtain ⟨wb, e, h2, h3, h4, h5⟩ := two_boxes w (cn : Int) (.slice (some ⟨ga, oa, none⟩) (n - 1) 0) false (.slice none 0 0) 1 (cn : Int) a3 1 rfl
                   refine ⟨wb, _, _, _, e, h2, h3, h4, h5, Lib.hid ?_⟩
                   have := HLT.out
                   have e1 : c = 1 := by assumption
                   rw [if_pos e1, e1] at this
                   exact this)
                | (obtain ⟨wb, e, h2, h3, h4, h5⟩ := two_boxes w (cn : Int) (.slice (some ⟨ga, oa + 3, none⟩) (n - 1) (c - 1)) false (.slice none 0 0) 1 (cn : Int) a3 1 rfl
                   refine ⟨wb, _, _, _, e, h2, h3, h4, h5, Lib.hid ?_⟩
                   have := HLT.out
                   rw [if_neg (by assumption)] at this
                   exact this)
          all_goals
            rw [← hwb]
            clear hwb
            have f3 := (hB.cell (p := ⟨q, 3, none⟩) hq).trans e3
            have f4 := (hB.cell (p := ⟨q, 4, none⟩) hq).trans e4
            have fz := (hB.cell (p := ⟨z, cn, none⟩) hzlt).trans zc1
            obtain ⟨⟨b0, b1, b2, b3⟩, bf, bl⟩ := hRb.cells
            obtain ⟨a0, a1, a2, al, -⟩ := hAb.cells
            rcases HZN.out.2 with ⟨y0, y1⟩ | ⟨y0, y1, y2⟩
            · rw [y0] at fz
              go_big_quiet (fail)
              go_upto_region 14 with (fail)
              generalize hwd : World.drewN wb _ = wd
              have hD : Below wb.heap.size wb wd := hwd ▸ Bk.below_drewN _ _ _
              clear hwd
              have HB' : Hid (Below w.heap.size w wd) := Lib.hid (hB.trans (hD.mono hB.size))
              obtain ⟨⟨b0, b1, b2, b3⟩, bf, bl⟩ := (hRb.later hD).cells
              have g4 := (HB'.out.cell (p := ⟨q, 4, none⟩) hq).trans e4
              go_still_tail 7, (by kernel_rfl)
              change wpList _ _ _ _ _ wd.drew
              have hB2 : Below w.heap.size w wd.drew := HB'.out.drew
              generalize wd.drew = we at hB2 ⊢
              obtain ⟨_, _, _, _, _, _, s0, s1, s2, s3, -, -, hf2, hm2⟩ := (HR.out.later hB2).robot (r := k) (by rw [HN.out]; exact hk)
              go_wp2_with fail
              go_ret
              exact done_end HR.out hB2 (by rw [HN.out]; exact hk) _ _ _ l HL1.out (by have := HZN.out.1; rw [y1] at this; rw [this]; exact Zs.nil _ _) (fun j hj => relF_other T hj _)
            · have Y := Lib.hid (And.intro y1 y2)
              have d0 : decide (0 ≤ zf s (cn : Int)) = true := decide_eq_true y0
              clear y0 y1 y2
              obtain ⟨zz, hzz⟩ : ∃ zz, zz = zf s (cn : Int) := ⟨_, rfl⟩
              rw [← hzz] at fz d0 Y
              clear hzz
              go_big_quiet (fail)
              go_upto_region 13 with (fail)
              generalize hwd : World.drewN wb _ = wd
              have hD : Below wb.heap.size wb wd := hwd ▸ Bk.below_drewN _ _ _
              clear hwd
              have HB' : Hid (Below w.heap.size w wd) := Lib.hid (hB.trans (hD.mono hB.size))
              have HRB := Lib.hid (hRb.later hD)
              obtain ⟨⟨b0, b1, b2, b3⟩, bf, bl⟩ := HRB.out.cells
              obtain ⟨a0, a1, a2, al, -⟩ := (hAb.later hD).cells
              have g3 := (HB'.out.cell (p := ⟨q, 3, none⟩) hq).trans e3
              have g4 := (HB'.out.cell (p := ⟨q, 4, none⟩) hq).trans e4
              have gz := (hD.cell (p := ⟨z, cn, none⟩) (Nat.lt_of_lt_of_le hzlt hB.size)).trans fz
              have hne1 : w.heap.size ≠ q := by omega
              have hne2 : w.heap.size ≠ z := by omega
              clear f3 f4 fz hRb hAb
              go_region_held3 (fun w' => w'.cell? ⟨q, 3, none⟩ = some (.slice (some ⟨z, 0, none⟩) s.size cz) ∧ w'.cell? ⟨z, cn, none⟩ = some (.int .i64 zz) ∧ w'.cell? ⟨w.heap.size + 1, 1, none⟩ = some (.int .i64 (cn : Int))) (go_keep) (fail)
              obtain ⟨wx, hwx, hX, hRX, hZX⟩ := hold_new (top := top) HRB.out (Nat.le_trans HQL.out.2.2.2 HB'.out.size) zz
              rw [← hwx]
              rename_i hHeld
              clear hwx hHeld b0 b1 b2 b3 bf bl a0 a1 a2 al g3 gz
              have HBX : Hid (Below w.heap.size w wx) := Lib.hid (HB'.out.trans hX)
              have HZX := Lib.hid hZX
              obtain ⟨⟨b0, b1, b2, b3⟩, bf, bl⟩ := hRX.cells
              have g5 := (HBX.out.cell (p := ⟨q, 4, none⟩) hq).trans e4
              clear g4 hX
              go_upto_region 14 with (fail)
              go_still_tail 7, (by kernel_rfl)
              change wpList _ _ _ _ _ wx.drew
              have hB2 : Below w.heap.size w wx.drew := HBX.out.drew
              have HZ2 := Lib.hid (HZX.out.keep (KeepT.of (Below.refl _ wx).drew))
              generalize wx.drew = we at hB2 HZ2 ⊢
              obtain ⟨_, _, _, _, _, _, s0, s1, s2, s3, -, -, hf2, hm2⟩ := (HR.out.later hB2).robot (r := k) (by rw [HN.out]; exact hk)
              go_wp2_with fail
              go_ret
              exact done_end HR.out hB2 (by rw [HN.out]; exact hk) _ _ _ l HL1.out (by have := HZN.out.1; rw [Y.out.2] at this ⊢; rw [this]; exact HZ2.out) (fun j hj => relF_other T hj _)
        · have d1 : ((a1 : Int) == 1) = false := by rw [beq_eq_false_iff_ne]; omega
          rw [if_neg h1, if_neg h1]
          clear HZN HAZ
          go_enter Tryz.func47, Tryz.ntmps47
          go_wp2_with fail
          refine HH.out.mono ?_
          rintro e w1 ⟨rfl, rfl⟩
          go_wp2_with fail
          all_goals
            obtain ⟨wb, A3, n3, c3, hwb, hB, hRb, hsz, HL1⟩ : ∃ wb A3 n3 c3, wb = _ ∧ Below w.heap.size w wb ∧ Rb4 w.heap.size x0 (.slice A3 n3 c3) false (.slice A2 n2 c2) wb ∧ wb.heap.size = w.heap.size + 2 ∧ Hid (La top w (.slice A3 n3 c3) l) := by
              first
                | (obtain ⟨wb, e, h2, h3, h4, h5⟩ := two_boxes w x0 (.slice (some ⟨ga, oa, none⟩) (n - 1) 0) false (.slice A2 n2 c2) (a1 : Int) (cn : Int) a3 a1 rfl
                   refine ⟨wb, _, _, _, e, h2, h3, h5, Lib.hid ?_⟩
                   have := HLT.out
                   have e1 : c = 1 := by assumption
                   rw [if_pos e1, e1] at this
                   exact this)
                | (obtain ⟨wb, e, h2, h3, h4, h5⟩ := two_boxes w x0 (.slice (some ⟨ga, oa + 3, none⟩) (n - 1) (c - 1)) false (.slice A2 n2 c2) (a1 : Int) (cn : Int) a3 a1 rfl
                   refine ⟨wb, _, _, _, e, h2, h3, h5, Lib.hid ?_⟩
                   have := HLT.out
                   rw [if_neg (by assumption)] at this
                   exact this)
          all_goals
            rw [← hwb]
            clear hwb
            obtain ⟨⟨b0, b1, b2, b3⟩, bf, bl⟩ := hRb.cells
            have g4 := (hB.cell (p := ⟨q, 4, none⟩) hq).trans e4
            go_still_tail 7, (by kernel_rfl)
            change wpList _ _ _ _ _ wb.drew
            have hB2 : Below w.heap.size w wb.drew := hB.drew
            generalize wb.drew = we at hB2 ⊢
            obtain ⟨_, _, _, _, _, _, s0, s1, s2, s3, -, -, hf2, hm2⟩ := (HR.out.later hB2).robot (r := k) (by rw [HN.out]; exact hk)
            go_wp2_with fail
            go_ret
            exact done_end HR.out hB2 (by rw [HN.out]; exact hk) _ _ _ l HL1.out (Zs.keep ⟨A2, n2, c2, rfl, HGH.out⟩ (KeepT.of hB2)) (fun j hj => rfl)
  · rw [doneF_out hr]
    rw [decide_eq_false hr] at HH
    clear h hr
    go_enter Tryz.func47, Tryz.ntmps47
    go_wp2_with fail
    refine HH.out.mono ?_
    rintro e w1 ⟨rfl, rfl⟩
    go_wp2_with fail
    go_ret
    exact ⟨rfl, HR.out, Turn.refl _ _⟩
end Tf
end Go.Proofs.YtakgkocdkondhaaGreatDoor
end

section
namespace Go.Proofs.YtakgkocdkondhaaGreatDoor
namespace Tf
open Go.RowKit Fl Tr Pt
open Bk (Gt Lt Iw ivs Cm hold need Cl MayP run_appG own_form)
open Lk (Ow T0 zns at9 LkAt Only Tb ToldI)

theorem step_app_acts {w : World} {ops : Array Oper} {o : Oper} {a : Act} {K : Act → World → Prop} {Q : Exit → Act → World → Prop} {F : Prop} (hgd : o.guard = none) (s x : Operand)
    (ho : o.op = .call { callee := .builtin .append, args := #[s, x], argTypes := #[35, 35] })
    (base : Nat) (v : Value) (xs : List Ac) (hs : a.eval s = v) (hown : Aw w base v xs)
    (A : Option Addr) (m c : Nat) (ys : List Ac) (hx : a.eval x = .slice A m c) (hr : Al w.heap.size w A m c ys) (hb : xs.length + m ≤ 1000000) (hbase : base ≤ w.heap.size)
    (h : ∀ A' n' c' w', n' = (xs ++ ys).length → Aw w' base (.slice A' n' c') (xs ++ ys) → Below base w w' → K (a.put o.dst (.slice A' n' c')) w') : if Region.wanted o (yielded ops a.tmps) = true then Oper.wp Tryz.prog o a w K Q else F := by
  have hw : Region.wanted o (yielded ops a.tmps) = true := by simp [Region.wanted, hgd]
  rw [if_pos hw]
  obtain ⟨i0, hi, hz0, hz1, hz2⟩ := info_parts Tryz.infoAct
  obtain ⟨v', w', hrun, h2, h3, h4⟩ := run_appG 35 39 i0 _ 3 24 Tryz.underlying35 hi hz0 hz1 hz2 rfl (by decide) (by decide) o.type base v xs.length (acv xs) hown A m c (acv ys) hr (acv_one ys) hb hbase
  obtain ⟨A', c', rfl⟩ := own_form h2
  unfold Oper.wp execOp
  simp only [ho, resolve, invoke, builtin, Sem.run_bind, Sem.run_pure, Result.andThen_ok, List.map_toArray, List.map_cons, List.map_nil, hs, hx, hrun]
  have e : xs.length + m = (xs ++ ys).length := by rw [List.length_append, hr.len]
  exact h A' _ c' w' e (by unfold Aw; rw [acv_app, ← e]; exact h2) (Below.grown (Below.refl _ _) h3 hbase (fun k hk => (World.ownsRow.lt hown k hk).1))
theorem hal_alloc {w : World} {A : Option Addr} {n c : Nat} {L : List Ac} (h : Al w.heap.size w A n c L) : Al (w.alloc (.cells #[] 39)).heap.size (w.alloc (.cells #[] 39)) A n c L := h.later ((Below.refl _ w).alloc (Nat.le_refl _) _)
theorem one_put {w : World} {g x : Nat} {u : Value} {p : Addr} (h : p.block ≠ g) : (w.setCell ⟨g, x, none⟩ u).cell? p = w.cell? p :=
  World.cell?_of_block (a := p) (heap_setCell_other _ ⟨g, x, none⟩ p.block u h)
section
variable {w w1 : World} {q z m cz cap top : Nat} {W H : Int} {s : ByteArray} {R : List Mv} {T : List Ow}
def RStart (q z m cz cap top : Nat) (W H : Int) (s : ByteArray) (R : List Mv) (T : List Ow) (r : Int) (L : List Ac) (w : World) (e : Ending) (w' : World) : Prop :=
  e = .returned (.int .i64 (startF W H s R r L).1) ∧ RS w' q z m cz cap top W H s (startF W H s R r L).2 T ∧ Fm m w w'
theorem RS.putLeft (h : RS w q z m cz cap top W H s R T) {k : Nat} (hk : k < R.length) {v : Value} {L : List Ac} (hv : La top w v L) : RS (w.setCell ⟨m, k * 4 + 1, none⟩ v) q z m cz cap top W H s (R.set k ((getM R k).1, L, (getM R k).2.2)) T :=
  h.put hk v _ (by omega) (fun j hj => rfl) (fun P p hP e => ⟨(p.1, v, p.2.2), rcl_set1 P k p v e, (hP.at_ k p e).1, (hP.at_ k p e).2.1, hv, (hP.at_ k p e).2.2.2⟩)
set_option maxHeartbeats 8000000 in
theorem rstart_any (h : RS w q z m cz cap top W H s R T) (hI : Inv W H s R T) (hs : s.size ≤ maxLen) (r : Int) (A : Option Addr) (n c : Nat) (L : List Ac) (hA : Al w.heap.size w A n c L) :
    Calls Tryz.prog 48 #[.pointer (some ⟨q, 0, none⟩), .int .i64 r, .slice A n c] w (RStart q z m cz cap top W H s R T r L w) := by
  have HR := Lib.hid h
  have HA := Lib.hid hA
  have HDK := Lib.hid (rdock_of_any W H s hs r w)
  have HRT := Lib.hid (fun a wx (hb : Below w.heap.size w wx) => rright10_any W H s hs r a A n c L wx (hA.later hb))
  obtain ⟨b0, b1, b2, -, e40, hq⟩ := h.cells
  have HQM : Hid (q ≠ m) := Lib.hid (by obtain ⟨-, c2, hm⟩ := h.blocks; exact block_ne h.box hm (by decide))
  have hIn := hI.n
  unfold RStart
  by_cases hr : 0 ≤ r ∧ r < R.length
  · obtain ⟨k, rfl⟩ := Int.eq_ofNat_of_zero_le hr.1
    have hk : k < R.length := by omega
    have HROB : Hid (IsRobot W H s (k : Int)) := Lib.hid ⟨hI.right, by omega, by omega⟩
    clear h hA hI hIn hr
    go_enter Tryz.func48, Tryz.ntmps48
    go_wp2_with fail
    refine HDK.out.mono ?_
    rintro e w1 ⟨d, b, rfl, h1, -, hb1⟩
    obtain ⟨hf1, rfl⟩ := h1 HROB.out
    have HB1 := Lib.hid hb1
    have HD1 := Lib.hid (dk_is hf1)
    clear h1 hf1 hb1
    obtain ⟨c0, c1, c2, -, -, hq1⟩ := (HR.out.later HB1.out).cells
    go_wp2_with fail
    refine (HRT.out (d : Int) w1 HB1.out).mono ?_
    rintro e w2 ⟨b, rfl, hbr, hb2⟩
    have HB2 := Lib.hid (HB1.out.trans (hb2.mono HB1.out.size))
    have HBR := Lib.hid hbr
    clear hbr hb2 b0 b1 b2 c0 c1 c2
    cases b with
    | false =>
      have HF : Hid (startF W H s R (k : Int) L = (1, R)) := Lib.hid (by
        unfold startF
        rw [if_pos ⟨by omega, by omega⟩, if_neg]
        rw [HD1.out]
        intro q
        have := HBR.out.2 q
        cases this)
      go_wp2_with fail
      go_ret
      rw [HF.out]
      exact ⟨rfl, HR.out.later HB2.out, Turn.ofBelow HB2.out _⟩
    | true =>
      have HRI := Lib.hid (HBR.out.1 rfl)
      have HR2 := Lib.hid (HR.out.later HB2.out)
      obtain ⟨-, -, -, -, e4, hq2⟩ := HR2.out.cells
      obtain ⟨⟨hs1, hs2⟩, -⟩ := HR2.out.size
      obtain ⟨A5, n5, c5, _, _, _, -, r1, -, -, hla, -, hfz, hmlt⟩ := HR2.out.robot hk
      have hl5 := hla.al.len
      have HL5 := Lib.hid hl5
      have hkI : (k : Int) < (R.length : Int) := by omega
      generalize hN : R.length = N at *
      have HN := Lib.hid hN
      clear hN hla
      by_cases h0 : n5 = 0
      · subst h0
        have HE : Hid ((getM R k).2.1 = []) := Lib.hid (List.eq_nil_of_length_eq_zero HL5.out)
        have HF : Hid (startF W H s R (k : Int) L = (0, R.set k ((getM R k).1, L, (getM R k).2.2))) := Lib.hid (by
          unfold startF
          rw [if_pos ⟨by omega, by rw [HN.out]; omega⟩, if_pos (by rw [HD1.out]; exact HRI.out), Int.toNat_natCast, if_neg (by rw [HE.out]; simp)])
        clear hl5
        have HOWN : Hid (Aw (w2.alloc (.cells #[] 39)).drew w2.heap.size (.slice (some ⟨w2.heap.size, 0, none⟩) 0 0) []) := Lib.hid (Aw.later (Bk.own_empty w2 39 3 w2.heap.size (Nat.le_refl _)) (Below.refl _ _).drew)
        have HAL := Lib.hid ((hal_alloc (HA.out.later HB2.out)).later (Below.refl _ (w2.alloc (.cells #[] 39))).drew)
        have HLEN := Lib.hid (right_len HRI.out)
        go_upto_region 6 with (fail)
        have HTP := Lib.hid (HR2.out.tops)
        have HBA := Lib.hid ((Below.refl w2.heap.size w2).alloc (Nat.le_refl _) (.cells #[] 39)).drew
        go_region_held3 (fun w' => w'.cell? ⟨q, 4, none⟩ = some (.slice (some ⟨m, 0, none⟩) N cap)) (first | go_keep | exact (one_put (p := ⟨q, 4, none⟩) HQM.out).trans (by assumption))
          ((refine step_app_acts (by rfl) _ _ (by rfl) w2.heap.size (.slice (some ⟨w2.heap.size, 0, none⟩) 0 0) [] (by rfl) HOWN.out A n c L (by rfl) HAL.out (by have := HLEN.out; have := HA.out.len; simp; omega) HBA.out.size ?_; intro A6 n6 c6 w6 hn6 ho6 hb6; have HO6 := Lib.hid ho6; have HB6 : Hid (Below w.heap.size w w6) := Lib.hid (HB2.out.trans ((HBA.out.trans hb6).mono HB2.out.size)); have y6 := (HB6.out.cell (p := ⟨q, 4, none⟩) hq).trans e40; obtain ⟨_, _, _, _, _, _, -, r16, -, -, -, -, hf6, hm6⟩ := (HR.out.later HB6.out).robot (r := k) (by rw [HN.out]; exact hk); clear ho6 hb6))
        go_wp2_with fail
        go_ret
        rw [HF.out]
        rw [← HN.out]
        refine ⟨rfl, ?_, (Turn.ofBelow HB6.out _).put _ rfl⟩
        exact (HR.out.later HB6.out).putLeft (by rw [HN.out]; exact hk) (by first | exact La.own HO6.out HTP.out.2.2.2 | (have := La.own HO6.out HTP.out.2.2.2; rw [hn6] at this; simpa using this))
      · have HNE : Hid ((getM R k).2.1 ≠ []) := Lib.hid (fun q => h0 (by rw [← HL5.out, q]; rfl))
        have HF : Hid (startF W H s R (k : Int) L = (3, R)) := Lib.hid (by
          unfold startF
          rw [if_pos ⟨by omega, by rw [HN.out]; omega⟩, if_pos (by rw [HD1.out]; exact HRI.out), Int.toNat_natCast, if_pos HNE.out])
        have hnI : (0 : Int) < (n5 : Int) := by omega
        clear hl5
        go_wp2_with fail
        go_ret
        rw [HF.out]
        exact ⟨rfl, HR2.out, Turn.ofBelow HB2.out _⟩
  · have HROB : Hid (¬ IsRobot W H s r) := Lib.hid (fun q => hr ⟨q.2.1, by have := q.2.2; omega⟩)
    have HF : Hid (startF W H s R r L = (1, R)) := Lib.hid (by unfold startF; rw [if_neg hr])
    clear h hA hI hIn hr
    go_enter Tryz.func48, Tryz.ntmps48
    go_wp2_with fail
    refine HDK.out.mono ?_
    rintro e w1 ⟨d, b, rfl, -, h1, hb1⟩
    obtain ⟨rfl, rfl⟩ := h1 HROB.out
    have HB1 := Lib.hid hb1
    clear h1 hb1
    go_wp2_with fail
    go_ret
    rw [HF.out]
    exact ⟨rfl, HR.out.later HB1.out, Turn.ofBelow HB1.out _⟩
end
end Tf
end Go.Proofs.YtakgkocdkondhaaGreatDoor
end

section
namespace Go.Proofs.YtakgkocdkondhaaGreatDoor
namespace Tf
open Go.RowKit Fl Tr Pt
open Bk (Gt Lt Iw ivs Cm hold need Cl MayP r8may_any ClsTold app_ints)
open Lk (Ow T0 zns at9 LkAt Only Tb ToldI zns_succ zns_len mem_zns at9_set)

section
variable {wB w wx : World} {q z m cz cap top : Nat} {W H : Int} {s : ByteArray} {R : List Mv} {T T' : List Ow}
/-! ### Who holds what behind a grant -/
theorem give_at (h : Inv W H s R T) {k : Nat} {z : Int} (hm : MayP (clm s R T) (k : Int) z) (y : Int) : at9 (T.set z.toNat ((k : Int), true)) y = if y = z then ((k : Int), true) else at9 T y := at9_set h.tb hm.2.2.2.1 _
theorem give_other (h : Inv W H s R T) {k : Nat} {z : Int} (hm : MayP (clm s R T) (k : Int) z) (j : Nat) (hj : j ≠ k) : zns (T.set z.toNat ((k : Int), true)) ((j : Int), true) 26 = zns T ((j : Int), true) 26 := by
  refine zns_ext (fun y => ?_)
  rw [give_at h hm]
  by_cases e : y = z
  · subst e
    rw [if_pos rfl]
    have := h.free hm
    constructor
    · intro x; injection x with x _; omega
    · intro x; rw [x] at this; cases this
  · rw [if_neg e]
theorem give_getD (h : Inv W H s R T) {k : Nat} {z : Int} (hm : MayP (clm s R T) (k : Int) z) {n : Nat} (hn : n < 26) : ((T.set z.toNat ((k : Int), true)).getD n (0, false) = ((k : Int), true)) ↔ ((n : Int) = z ∨ (n : Int) ∈ zns T ((k : Int), true) 26) := by
  have e1 : ((n : Int) ∈ zns (T.set z.toNat ((k : Int), true)) ((k : Int), true) 26) ↔ (T.set z.toNat ((k : Int), true)).getD n (0, false) = ((k : Int), true) := by
    rw [mem_zns, Int.toNat_natCast]
    exact ⟨fun q => q.2.2, fun q => ⟨by omega, by omega, q⟩⟩
  rw [← e1, at9_mem, give_at h hm, at9_mem]
  by_cases e : (n : Int) = z
  · rw [if_pos e]; exact ⟨fun _ => .inl e, fun _ => rfl⟩
  · rw [if_neg e]; exact ⟨fun x => .inr x, fun x => x.resolve_left e⟩
/-! ### The state behind it -/
def RGrant (wB : World) (q z m cz cap top : Nat) (W H : Int) (s : ByteArray) (G : (Ac × Int) × List Mv × List Ow) (w : World) (e : Ending) (w' : World) : Prop :=
  e = .returned (.tuple #[actV G.1.1, .int .i64 G.1.2]) ∧ (∀ w'', w'.heap.size ≤ w''.heap.size → (∀ k, (k < wB.heap.size ∨ w.heap.size ≤ k) → w''.heap[k]? = w'.heap[k]?) → RS w'' q z m cz cap top W H s G.2.1 G.2.2) ∧ Fm m w w'
/-- A box of the call's own is written. -/
def box3 (b : Nat) (a : Ac) (w : World) : World := ((w.setCell ⟨b, 0, none⟩ (.int .u8 (a.1 : Int))).setCell ⟨b, 1, none⟩ (.int .i64 a.2.1)).setCell ⟨b, 2, none⟩ (.int .i64 a.2.2)
theorem box3_other (b : Nat) (a : Ac) (w : World) {k : Nat} (hk : k ≠ b) : (box3 b a w).heap[k]? = w.heap[k]? := by
  unfold box3
  rw [heap_setCell_other _ ⟨b, 2, none⟩ k _ hk, heap_setCell_other _ ⟨b, 1, none⟩ k _ hk, heap_setCell_other _ ⟨b, 0, none⟩ k _ hk]
theorem box3_size (b : Nat) (a : Ac) (w : World) : (box3 b a w).heap.size = w.heap.size := by simp [box3, World.setCell]
theorem box3_below {b : Nat} {a : Ac} {w w' : World} {B : Nat} (h : Below B w w') (hb : B ≤ b) : Below B w (box3 b a w') :=
  ((h.setCell (p := ⟨b, 0, none⟩) hb _).setCell (p := ⟨b, 1, none⟩) hb _).setCell (p := ⟨b, 2, none⟩) hb _
/-- A robot that lies elsewise, the rest as it was. -/
theorem RS.anew {w' : World} (h : RS w q z m cz cap top W H s R T) (hsz : w.heap.size ≤ w'.heap.size) (hF : ∀ j, j < w.heap.size → j ≠ m → w'.heap[j]? = w.heap[j]?) {k : Nat} (hk : k < R.length) (a : Mv) (hT : ∀ j : Nat, j ≠ k → zns T' ((j : Int), true) 26 = zns T ((j : Int), true) 26)
    (hp : ∀ P p, w.ownsRow 0 57 4 (.slice (some ⟨m, 0, none⟩) R.length cap) R.length (rcl P) → Rr top w P R T → P[k]? = some p → ∃ p', w'.ownsRow 0 57 4 (.slice (some ⟨m, 0, none⟩) R.length cap) R.length (rcl (P.set k p')) ∧ p'.1 = a.1 ∧ p'.2.2.1 = a.2.2 ∧ La top w' p'.2.1 a.2.1 ∧ Zs top w' p'.2.2.2 (zns T' ((k : Int), true) 26)) : RS w' q z m cz cap top W H s (R.set k a) T' := by
  obtain ⟨t1, t2, t3, t4⟩ := h.tops
  obtain ⟨⟨c1, hz⟩, c2, hm⟩ := h.blocks
  obtain ⟨P, p1, p2⟩ := h.mv
  obtain ⟨p, hpr⟩ : ∃ p, P[k]? = some p := ⟨_, List.getElem?_eq_getElem (by rw [p2.len]; exact hk)⟩
  obtain ⟨p', e, k1, k2, k3, k4⟩ := hp P p p1 p2 hpr
  have d1 : q ≠ m := block_ne h.box hm (by decide)
  have d2 : z ≠ m := block_ne hz hm (by decide)
  have hkt : KeepT top w w' := ⟨hsz, fun j q1 q2 => hF j q2 (by omega)⟩
  refine ⟨?_, ?_, ⟨P.set k p', by rw [List.length_set]; exact e, ?_⟩, ⟨t1, t2, t3, Nat.le_trans t4 hsz⟩⟩
  · rw [List.length_set]
    exact (hF q (by omega) d1).trans h.box
  · refine ownsRow_same h.zt (fun j ej => ?_)
    have ej : some z = some j := ej
    injection ej with ej
    subst ej
    exact hF z (by omega) d2
  · exact (p2.keep hkt).set hk p' a k1 k2 k3 k4 hT
/-- In each world that is like this one, but for blocks between two places. -/
def RN (wB w wf : World) (P : World → Prop) : Prop := ∀ w'', wf.heap.size ≤ w''.heap.size → (∀ k, (k < wB.heap.size ∨ w.heap.size ≤ k) → w''.heap[k]? = wf.heap[k]?) → P w''
theorem RS.near0 {w' : World} (h : RS w q z m cz cap top W H s R T) (hsz : w.heap.size ≤ w'.heap.size) (hk : ∀ j, j < w.heap.size → w'.heap[j]? = w.heap[j]?) : RS w' q z m cz cap top W H s R T := by
  obtain ⟨t1, t2, t3, t4⟩ := h.tops
  exact h.kept ⟨hsz, fun j _ q2 => hk j q2⟩ (hk q (by omega)) (hk z (by omega)) (hk m (by omega))
theorem fm_one {b : Nat} {a : Ac} {k : Nat} {u : Value} (hb : Below w.heap.size w wx) (hbs : w.heap.size ≤ b) : Fm m w (box3 b a (wx.setCell ⟨m, k, none⟩ u)) :=
  ((((((Turn.ofBelow hb (fun k => k = m)).sub (G' := fun k => k = m ∨ w.heap.size ≤ k) (fun k hk => by rcases hk with e | e; exact .inl e; exact .inr e)).put (b := m) (o := k) u (.inl rfl)).put (b := b) (o := 0) _ (.inr hbs)).put (b := b) (o := 1) _ (.inr hbs)).put (b := b) (o := 2) _ (.inr hbs)).sub (fun k hk => .inl (.inl hk))
theorem fm_two {b : Nat} {a : Ac} {k l : Nat} {u v : Value} (hb : Below w.heap.size w wx) (hbs : w.heap.size ≤ b) : Fm m w (box3 b a ((wx.setCell ⟨m, k, none⟩ u).setCell ⟨m, l, none⟩ v)) :=
  (((((((Turn.ofBelow hb (fun k => k = m)).sub (G' := fun k => k = m ∨ w.heap.size ≤ k) (fun k hk => by rcases hk with e | e; exact .inl e; exact .inr e)).put (b := m) (o := k) u (.inl rfl)).put (b := m) (o := l) v (.inl rfl)).put (b := b) (o := 0) _ (.inr hbs)).put (b := b) (o := 1) _ (.inr hbs)).put (b := b) (o := 2) _ (.inr hbs)).sub (fun k hk => .inl (.inl hk))
/-- Granted, nothing newly held. -/
theorem grant_end1 {b : Nat} {a : Ac} (h : RS wB q z m cz cap top W H s R T) (hBB : Below wB.heap.size wB w) (hb : Below w.heap.size w wx) (hbs : w.heap.size ≤ b) {k : Nat} (hk : k < R.length) :
    RN wB w (box3 b a (wx.setCell ⟨m, k * 4 + 2, none⟩ (.bool true))) (fun w'' => RS w'' q z m cz cap top W H s (R.set k ((getM R k).1, (getM R k).2.1, true)) T) := by
  have hmB : m < wB.heap.size := by have := h.tops; omega
  have hBs := hBB.size
  have hbx : ∀ j, j ≠ b → (box3 b a (wx.setCell ⟨m, k * 4 + 2, none⟩ (.bool true))).heap[j]? = (wx.setCell ⟨m, k * 4 + 2, none⟩ (.bool true)).heap[j]? := fun j hj => box3_other b a _ hj
  have hwp : ∀ j, j ≠ m → (wx.setCell ⟨m, k * 4 + 2, none⟩ (.bool true)).heap[j]? = wx.heap[j]? := fun j hj => heap_setCell_other _ ⟨m, k * 4 + 2, none⟩ j _ hj
  have hrow : ∀ P p, P.length = R.length → P[k]? = some p → wB.ownsRow 0 57 4 (.slice (some ⟨m, 0, none⟩) R.length cap) R.length (rcl P) → (wx.setCell ⟨m, k * 4 + 2, none⟩ (.bool true)).ownsRow 0 57 4 (.slice (some ⟨m, 0, none⟩) R.length cap) R.length (rcl (P.set k (p.1, p.2.1, true, p.2.2.2))) := fun P p hl e p1 => by
    have o1 : wx.ownsRow 0 57 4 (.slice (some ⟨m, 0, none⟩) R.length cap) R.length (rcl P) := ownsRow_same p1 (fun g eg => by
      have eg : some m = some g := eg
      injection eg with eg; subst eg; exact (hb.block m (by omega)).trans (hBB.block m hmB))
    have o2 := Bk.own_put o1 (x := k * 4 + 2) (by rw [rcl_length, hl]; omega) (.bool true)
    rw [rcl_set2 P k p true e] at o2
    exact o2
  have hs1 : (box3 b a (wx.setCell ⟨m, k * 4 + 2, none⟩ (.bool true))).heap.size = wx.heap.size := by rw [box3_size]; simp [World.setCell]
  generalize box3 b a (wx.setCell ⟨m, k * 4 + 2, none⟩ (.bool true)) = wf at *
  generalize wx.setCell ⟨m, k * 4 + 2, none⟩ (.bool true) = wp at *
  intro w'' hsz hn
  have hbz := hb.size
  have hF : ∀ j, j < wB.heap.size → j ≠ m → w''.heap[j]? = wB.heap[j]? := fun j hj hm => by
    rw [hn j (.inl hj), hbx j (by omega), hwp j hm, hb.block j (by omega), hBB.block j hj]
  have hkt : KeepT top wB w'' := ⟨by omega, fun j q1 q2 => hF j q2 (by have := h.tops; omega)⟩
  refine h.anew (by omega) hF hk _ (fun j hj => rfl) (fun P p p1 p2 e => ⟨(p.1, p.2.1, true, p.2.2.2), ?_, (p2.at_ k p e).1, rfl, (p2.at_ k p e).2.2.1.keep hkt, (p2.at_ k p e).2.2.2.keep hkt⟩)
  exact ownsRow_same (hrow P p p2.len e p1) (fun g eg => by
      have eg : some m = some g := eg
      injection eg with eg; subst eg; exact (hn m (.inl hmB)).trans (hbx m (by omega)))
/-- Granted, and a zone is held. -/
theorem grant_end2 {b base : Nat} {a : Ac} {v : Value} (h : RS wB q z m cz cap top W H s R T) (hBB : Below wB.heap.size wB w) (hb : Below w.heap.size w wx) (hbs : w.heap.size ≤ b) {k : Nat} (hk : k < R.length) (hv : Iw wx base v (zns T' ((k : Int), true) 26)) (hbase : b < base)
    (hT : ∀ j : Nat, j ≠ k → zns T' ((j : Int), true) 26 = zns T ((j : Int), true) 26) :
    RN wB w (box3 b a ((wx.setCell ⟨m, k * 4 + 3, none⟩ v).setCell ⟨m, k * 4 + 2, none⟩ (.bool true))) (fun w'' => RS w'' q z m cz cap top W H s (R.set k ((getM R k).1, (getM R k).2.1, true)) T') := by
  have hmB : m < wB.heap.size := by have := h.tops; omega
  have hBs := hBB.size
  have hbx : ∀ j, j ≠ b → (box3 b a ((wx.setCell ⟨m, k * 4 + 3, none⟩ v).setCell ⟨m, k * 4 + 2, none⟩ (.bool true))).heap[j]? = ((wx.setCell ⟨m, k * 4 + 3, none⟩ v).setCell ⟨m, k * 4 + 2, none⟩ (.bool true)).heap[j]? := fun j hj => box3_other b a _ hj
  have hwp : ∀ j, j ≠ m → ((wx.setCell ⟨m, k * 4 + 3, none⟩ v).setCell ⟨m, k * 4 + 2, none⟩ (.bool true)).heap[j]? = wx.heap[j]? := fun j hj => (heap_setCell_other _ ⟨m, k * 4 + 2, none⟩ j _ hj).trans (heap_setCell_other _ ⟨m, k * 4 + 3, none⟩ j _ hj)
  have hrow : ∀ P p, P.length = R.length → P[k]? = some p → wB.ownsRow 0 57 4 (.slice (some ⟨m, 0, none⟩) R.length cap) R.length (rcl P) → ((wx.setCell ⟨m, k * 4 + 3, none⟩ v).setCell ⟨m, k * 4 + 2, none⟩ (.bool true)).ownsRow 0 57 4 (.slice (some ⟨m, 0, none⟩) R.length cap) R.length (rcl (P.set k (p.1, p.2.1, true, v))) := fun P p hl e p1 => by
    have o1 : wx.ownsRow 0 57 4 (.slice (some ⟨m, 0, none⟩) R.length cap) R.length (rcl P) := ownsRow_same p1 (fun g eg => by
      have eg : some m = some g := eg
      injection eg with eg; subst eg; exact (hb.block m (by omega)).trans (hBB.block m hmB))
    have hll : (rcl P).length = R.length * 4 := by rw [rcl_length, hl]
    have o2 := Bk.own_put o1 (x := k * 4 + 3) (by omega) v
    have o3 := Bk.own_put o2 (x := k * 4 + 2) (by rw [List.length_set]; omega) (.bool true)
    have hkP : k < P.length := by rw [hl]; exact hk
    rw [rcl_set3 P k p v e, rcl_set2 _ k (p.1, p.2.1, p.2.2.1, v) true (by rw [List.getElem?_set_self hkP]), List.set_set] at o3
    exact o3
  have hs1 : (box3 b a ((wx.setCell ⟨m, k * 4 + 3, none⟩ v).setCell ⟨m, k * 4 + 2, none⟩ (.bool true))).heap.size = wx.heap.size := by rw [box3_size]; simp [World.setCell]
  generalize box3 b a ((wx.setCell ⟨m, k * 4 + 3, none⟩ v).setCell ⟨m, k * 4 + 2, none⟩ (.bool true)) = wf at *
  generalize (wx.setCell ⟨m, k * 4 + 3, none⟩ v).setCell ⟨m, k * 4 + 2, none⟩ (.bool true) = wp at *
  intro w'' hsz hn
  have hbz := hb.size
  have hF : ∀ j, j < wB.heap.size → j ≠ m → w''.heap[j]? = wB.heap[j]? := fun j hj hm => by
    rw [hn j (.inl hj), hbx j (by omega), hwp j hm, hb.block j (by omega), hBB.block j hj]
  have hkt : KeepT top wB w'' := ⟨by omega, fun j q1 q2 => hF j q2 (by have := h.tops; omega)⟩
  refine h.anew (by omega) hF hk _ hT (fun P p p1 p2 e => ⟨(p.1, p.2.1, true, v), ?_, (p2.at_ k p e).1, rfl, (p2.at_ k p e).2.2.1.keep hkt, ?_⟩)
  · exact ownsRow_same (hrow P p p2.len e p1) (fun g eg => by
      have eg : some m = some g := eg
      injection eg with eg; subst eg; exact (hn m (.inl hmB)).trans (hbx m (by omega)))
  · have hv2 : Iw w'' base v (zns T' ((k : Int), true) 26) := ownsRow_same hv (fun g eg => by
      have := (World.ownsRow.lt hv g eg).1
      rw [hn g (.inr (by omega)), hbx g (by omega), hwp g (by omega)])
    obtain ⟨A', c', rfl⟩ := Bk.own_form hv2
    exact Zs.own hv2 (by have := h.tops; omega)
end
end Tf
end Go.Proofs.YtakgkocdkondhaaGreatDoor
end
