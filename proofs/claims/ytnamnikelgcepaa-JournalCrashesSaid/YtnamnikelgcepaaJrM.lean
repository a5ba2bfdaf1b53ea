/-
  Layer 16: what was found lies apart from the disk; a list that begins with it.
-/
import Derived.Test.YtnamnikelgcepaaJrL
set_option linter.unusedVariables false
set_option maxRecDepth 100000
namespace Go.Proofs.Ytnamnikelgcepaa
namespace Jr
open Go.RowKit Go.Maps Bp Ck
open Dk (D DAt DF op kp pwE apE apD syD cuE cuD IW crN crD)

/-- The slices of a row lie in none of the blocks F. -/
def BsX (F : Nat → Prop) (w : World) (A : Option Addr) (n : Nat) (ls : List (List Nat)) : Prop := ∀ g0 off, A = some ⟨g0, off, none⟩ → ∀ t, t < n → ∃ A' n' c', w.cell? ⟨g0, off + t, none⟩ = some (.slice A' n' c') ∧ By w.heap.size w A' n' c' (ls.getD t []) ∧ (0 < n' → ∀ x, A' = some x → ¬ F x.block)
theorem open_bsx {w ws w' : World} {j g n c : Nat} {v v' : Value} {A : Option Addr} {ls : List (List Nat)} (hb : Below w.heap.size w ws) (ht : Turn (DF g v) (DF g v') ws w') (hl : Bss ws.heap.size ws A n c ls) (hi : Inn w.heap.size ws A n c) (hd : ∀ k, DF g v k → k < w.heap.size) (hj : ws.heap.size ≤ j) : BsX (JF j g v') w' A n ls := by
  intro g0 off hA t ht'
  obtain ⟨g1, off1, hA1, hlt, hc⟩ := hl.cell (by omega)
  rw [hA] at hA1
  simp only [Option.some.injEq, Addr.mk.injEq, and_true] at hA1
  obtain ⟨rfl, rfl⟩ := hA1
  obtain ⟨A', n', c', e1, e2⟩ := hc t ht'
  have hx := hi.2.2 g0 off hA t ht' A' n' c' e1
  have hg0 : ¬ DF g v g0 := fun hf => by
    have h1 := hd _ hf
    have h2 : w.heap.size ≤ g0 := hi.2.1 _ hA
    omega
  have hby : By w'.heap.size w' A' n' c' (ls.getD t []) := ⟨e2.len, e2.le, e2.max, e2.nil, e2.byte, fun hn => by
    obtain ⟨g2, o2, q, q2, q3⟩ := e2.cell hn
    exact ⟨g2, o2, q, Nat.lt_of_lt_of_le q2 ht.size, fun i hi2 => (Dk.cell_block (ht.block g2 q2 (fun hf => by
      have h1 := hd _ hf
      have h2 : w.heap.size ≤ g2 := hx _ q
      omega))).trans (q3 i hi2)⟩⟩
  refine ⟨A', n', c', (Dk.cell_block (ht.block g0 hlt hg0)).trans e1, hby, fun hn x hxe hf => ?_⟩
  obtain ⟨g2, o2, q, q2, _⟩ := e2.cell hn
  have h1 : w.heap.size ≤ x.block := hx _ hxe
  rw [hxe] at q
  simp only [Option.some.injEq] at q
  have hx2 : x.block = g2 := by rw [q]
  rcases hf with e | hf
  · omega
  · rcases ht.foot _ hf with z | z
    · have := hd _ z
      omega
    · omega
/-- A slice in a memory, apart from F. -/
def PX (F : Nat → Prop) (w1 : World) : PS := fun A n c zs => By w1.heap.size w1 A n c zs ∧ (0 < n → ∀ x, A = some x → ¬ F x.block)
theorem px_by {F F' : Nat → Prop} {w1 w : World} {A : Option Addr} {n c : Nat} {zs : List Nat} (h : PX F w1 A n c zs) (ht : Turn F F' w1 w) : By w.heap.size w A n c zs := by
  obtain ⟨h1, h2⟩ := h
  refine ⟨h1.len, h1.le, h1.max, h1.nil, h1.byte, fun hn => ?_⟩
  obtain ⟨g, o, q, q2, q3⟩ := h1.cell hn
  exact ⟨g, o, q, Nat.lt_of_lt_of_le q2 ht.size, fun i hi => (Dk.cell_block (ht.block g q2 (h2 hn _ q))).trans (q3 i hi)⟩
theorem turn_row {F F' : Nat → Prop} {w1 w w' : World} {row : Option Nat} (ht : Turn F F' w1 w) (hg : w.grownBy w' row) (hr : ∀ k, row = some k → w1.heap.size ≤ k) : Turn F F' w1 w' :=
  ⟨hg.os.trans ht.os, hg.tape.trans ht.tape, hg.output.trans ht.output, Nat.le_trans ht.size hg.size, fun k hk hF => (hg.block k (Nat.lt_of_lt_of_le hk ht.size) (fun e => by
    have := hr k e.symm
    omega)).trans (ht.block k hk hF), ht.foot⟩
theorem turn_later {F F' : Nat → Prop} {w1 w w' : World} (ht : Turn F F' w1 w) (hb : Below w.heap.size w w') : Turn F F' w1 w' := ht.trans (Turn.ofBelow hb _)
theorem chosen {α : Type} [Inhabited α] {n : Nat} {P : Nat → α → Prop} (h : ∀ i, i < n → ∃ q, P i q) : ∃ f : Nat → α, ∀ i, i < n → P i (f i) := by
  classical
  exact ⟨fun i => if hi : i < n then Classical.choose (h i hi) else default, fun i hi => by simp only [hi, dite_true]; exact Classical.choose_spec (h i hi)⟩
theorem Ls.empty (P : PS) (w : World) (base : Nat) (hb : base ≤ w.heap.size) : Ls P (w.alloc (.cells #[] 22)) base (.slice (some ⟨w.heap.size, 0, none⟩) 0 0) [] :=
  ⟨[], Bk.own_empty w 22 1 base hb, fun j hj => by simp at hj⟩
/-- All of a list. -/
theorem app_lss {P : PS} {w : World} {ops : Array Oper} {rest : List Oper} {o : Oper} {a : Act} {Q : Exit → Act → World → Prop} (hgd : o.guard = none) (s x : Operand)
    (ho : o.op = .call { callee := .builtin .append, args := #[s, x], argTypes := #[33, 33] })
    (base : Nat) (v : Value) (hs : a.eval s = v) (hl : Ls P w base v []) (A : Option Addr) (m c : Nat) (ls : List (List Nat)) (hx : a.eval x = .slice A m c) (hr : Bss w.heap.size w A m c ls) (hnil : A = none → c = 0)
    (hP : ∀ g0 off, A = some ⟨g0, off, none⟩ → ∀ t, t < m → ∃ A' n' c', w.cell? ⟨g0, off + t, none⟩ = some (.slice A' n' c') ∧ P A' n' c' (ls.getD t [])) (hb : m ≤ 1000000) (hbase : base ≤ w.heap.size)
    (h : ∀ A' c' w', Ls P w' base (.slice A' m c') ls → w.grownBy w' v.ownBlock → wpList Try.prog ops Q rest (a.put o.dst (.slice A' m c')) w') : wpList Try.prog ops Q (o :: rest) a w := by
  obtain ⟨i0, hi, hz0, hz1, hz2⟩ := info_parts Try.infoBs
  obtain ⟨cs, hown, _⟩ := hl
  obtain rfl : cs = [] := List.eq_nil_of_length_eq_zero (by have := hown.1; simpa using this)
  have key : ∃ ys : List Value, ys.length = m ∧ Bk.Gt 1 w.heap.size w A m c ys ∧ ∀ t, t < m → ∃ A' n' c', ys[t]? = some (.slice A' n' c') ∧ P A' n' c' (ls.getD t []) := by
    rcases Nat.eq_zero_or_pos m with h0 | h0
    · subst h0
      exact ⟨[], rfl, ⟨rfl, hr.le, hr.max, hnil, fun hn => by omega⟩, fun t ht => by omega⟩
    · obtain ⟨g0, off, hA, hg, _⟩ := hr.cell h0
      have h5 : ∀ t, t < m → ∃ q : Option Addr × Nat × Nat, w.cell? ⟨g0, off + t, none⟩ = some (.slice q.1 q.2.1 q.2.2) ∧ P q.1 q.2.1 q.2.2 (ls.getD t []) := fun t ht => by
        obtain ⟨A', n', c', h1, h2⟩ := hP g0 off hA t ht
        exact ⟨(A', n', c'), h1, h2⟩
      obtain ⟨f, hf⟩ := chosen h5
      have hy : ∀ t, t < m → ((List.range m).map fun t => Value.slice (f t).1 (f t).2.1 (f t).2.2)[t]? = some (.slice (f t).1 (f t).2.1 (f t).2.2) := fun t ht => by simp [ht]
      refine ⟨(List.range m).map fun t => Value.slice (f t).1 (f t).2.1 (f t).2.2, by simp, ⟨by simp, hr.le, hr.max, hnil, fun _ => ⟨g0, off, hA, hg, fun t ht => ?_⟩⟩, fun t ht => ⟨_, _, _, hy t ht, (hf t ht).2⟩⟩
      rw [Nat.mul_one] at ht
      rw [(hf t ht).1, hy t ht]
  obtain ⟨ys, hyl, hgt, hyp⟩ := key
  have hone : ∀ u ∈ ys, u.oneCell' = true := fun u hu => by
    obtain ⟨t, ht, rfl⟩ := List.getElem_of_mem hu
    obtain ⟨A', n', c', e, _⟩ := hyp t (by omega)
    rw [List.getElem?_eq_getElem ht] at e
    injection e with e
    rw [e]
    rfl
  refine Bk.appG 33 22 i0 _ 1 24 Try.underlying33 hi hz0 hz1 hz2 rfl (by decide) (by decide) hgd s x ho base v 0 [] hs hown A m c ys hx hgt hone (by omega) hbase ?_
  intro A' c' w' h1 h2 h3 h4
  rw [Nat.zero_add] at h1 ⊢
  rw [List.nil_append] at h1
  refine h A' c' w' ⟨ys, ?_, fun t ht => hyp t (by rw [hr.len] at ht; exact ht)⟩ h3
  rw [hr.len]
  exact h1
end Jr
end Go.Proofs.Ytnamnikelgcepaa
