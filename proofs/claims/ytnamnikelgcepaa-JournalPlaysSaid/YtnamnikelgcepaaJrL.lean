/-
  Layer 16: a list of things, of one's own, beside a journal: each is a slice of which something is known that stays.
-/
import Derived.Test.YtnamnikelgcepaaJrF
import Derived.Deep.AppendLies
set_option linter.unusedVariables false
set_option maxRecDepth 100000
namespace Go.Proofs.Ytnamnikelgcepaa
namespace Jr
open Go.RowKit Go.Maps Bp Ck
open Dk (D DAt DF op kp pwE apE apD syD cuE cuD IW crN crD)

abbrev PS := Option Addr → Nat → Nat → List Nat → Prop
/-- Each slice of the list is what it reads as, in the sense of P. -/
def Ls (P : PS) (w : World) (base : Nat) (v : Value) (ls : List (List Nat)) : Prop := ∃ cs : List Value, w.ownsRow base 22 1 v ls.length cs ∧ ∀ j, j < ls.length → ∃ A n c, cs[j]? = some (.slice A n c) ∧ P A n c (ls.getD j [])
section
variable {P : PS} {w w' w0 : World} {base b j g n s : Nat} {v v' va : Value} {d d' : D} {ls ms : List (List Nat)}
theorem Ls.nil (P : PS) (w : World) (base : Nat) : Ls P w base (.slice none 0 0) [] := ⟨[], World.ownsRow_nil _ _ _ _, fun j hj => by simp at hj⟩
theorem Ls.kind (h : Ls P w base va ls) : ∀ k, va.ownBlock = some k → k < w.heap.size ∧ base ≤ k ∧ ∃ c fz, w.heap[k]? = some (.cells c 22 fz) := by
  obtain ⟨cs, h1, _⟩ := h
  exact Nw.own_kind h1
theorem Ls.same (h : Ls P w base va ls) (hb : ∀ k, va.ownBlock = some k → w'.heap[k]? = w.heap[k]?) : Ls P w' base va ls := by
  obtain ⟨cs, h1, h2⟩ := h
  exact ⟨cs, ownsRow_same h1 hb, h2⟩
theorem Ls.later (h : Ls P w base va ls) (hb : Below w.heap.size w w') : Ls P w' base va ls := h.same fun k hk => hb.block k (h.kind k hk).1
theorem kind_ne {w : World} {k : Nat} {c c' : Array Value} {t t' : TypeId} {fz fz' : Nat × Nat} (h : w.heap[k]? = some (.cells c t fz)) (h' : w.heap[k]? = some (.cells c' t' fz')) : t = t' := by
  have := h.symm.trans h'
  injection this with this
  injection this
theorem Ls.notJ (h : Ls P w base va ls) (hj : JAt w b j g v d n) : ∀ k, va.ownBlock = some k → ¬ JF j g v k := by
  intro k hk hf
  obtain ⟨_, _, c, fz, hh⟩ := h.kind k hk
  obtain ⟨c2, t2, fz2, hh2, ht⟩ := hj.kind k hf
  have := kind_ne hh hh2
  subst this
  revert ht
  decide
theorem Ls.turn {F' : Nat → Prop} (h : Ls P w base va ls) (hj : JAt w b j g v d n) (ht : Turn (JF j g v) F' w w') : Ls P w' base va ls :=
  h.same fun k hk => ht.block k (h.kind k hk).1 (h.notJ hj k hk)
theorem Ls.turnD {F' : Nat → Prop} (h : Ls P w base va ls) (hn : DAt w b g v d) (ht : Turn (DF g v) F' w w') : Ls P w' base va ls :=
  h.same fun k hk => ht.block k (h.kind k hk).1 (fun hf => by
    obtain ⟨_, _, c, fz, hh⟩ := h.kind k hk
    obtain ⟨c2, t2, fz2, hh2, ht2⟩ := hn.kind k hf
    have := kind_ne hh hh2
    subst this
    revert ht2
    decide)
/-- The list grows: the journal is as it was. -/
theorem Jo.grown (h : Jo w0 w j g v d ms s) (hl : Ls P w base va ls) (hg : w.grownBy w' va.ownBlock) (hb : w0.heap.size ≤ base) : Jo w0 w' j g v d ms s :=
  ⟨h.at_.same (fun k hk => hg.block k (h.at_.blocks k hk).2 (fun e => hl.notJ h.at_ k e.symm hk)), h.hs,
    Below.grown h.below hg h.below.size (fun k hk => Nat.le_trans hb (hl.kind k hk).2.1)⟩
theorem Ls.form (h : Ls P w base va ls) : ∃ A c, va = .slice A ls.length c := by
  obtain ⟨cs, h1, _⟩ := h
  exact ownsRow_shape h1
/-- What it reads as. -/
theorem Ls.bss {A : Option Addr} {n c : Nat} (h : Ls P w base (.slice A n c) ls) (hP : ∀ A n c zs, P A n c zs → By w.heap.size w A n c zs) : n = ls.length ∧ Bss w.heap.size w A n c ls := by
  obtain ⟨cs, ho, hc⟩ := h
  have hcl := ho.1
  rcases ho.2 with ⟨e, h0⟩ | ⟨g, cap, cur, e, hg, hh, hnc, hcm, _⟩
  · injection e with e1 e2 e3
    have : ls = [] := List.eq_nil_of_length_eq_zero h0
    subst this e1 e2 e3
    exact ⟨rfl, rfl, Nat.le_refl _, Nat.zero_le _, fun h => by omega⟩
  · injection e with e1 e2 e3
    subst e1 e2 e3
    refine ⟨rfl, rfl, hnc, hcm, fun hn => ⟨g, 0, rfl, lt_of_heap hh, fun j hj => ?_⟩⟩
    obtain ⟨A', n', c', h1, h2⟩ := hc j hj
    exact ⟨A', n', c', by rw [Nat.zero_add, ho.cellAt j (by omega)]; exact h1, hP _ _ _ _ h2⟩
end
/-- One thing more. -/
theorem app_ls {P : PS} {w : World} {ops : Array Oper} {rest : List Oper} {o : Oper} {a : Act} {Q : Exit → Act → World → Prop} (hgd : o.guard = none) (s x : Operand)
    (ho : o.op = .call { callee := .builtin .append, args := #[s, x], argTypes := #[33, 33] })
    (base : Nat) (v : Value) (ls : List (List Nat)) (hs : a.eval s = v) (A : Option Addr) (n c : Nat) (zs : List Nat) (w0 : World) (hw : w = w0.alloc (.cells #[.slice A n c] 22)) (hl : Ls P w0 base v ls)
    (hx : a.eval x = .slice (some ⟨w0.heap.size, 0, none⟩) 1 1) (hr : P A n c zs) (hf : ls.length ≤ 1048576) (hbase : base ≤ w0.heap.size)
    (h : ∀ A' c' w', Ls P w' base (.slice A' (ls.length + 1) c') (ls ++ [zs]) → w.grownBy w' v.ownBlock → wpList Try.prog ops Q rest (a.put o.dst (.slice A' (ls.length + 1) c')) w') : wpList Try.prog ops Q (o :: rest) a w := by
  obtain ⟨i0, hi, hz0, hz1, hz2⟩ := info_parts Try.infoBs
  obtain ⟨cs, hown, hc⟩ := hl
  subst hw
  refine wpList_append_own_at _ hgd s x 33 ho base 22 i0 (.slice none 0 0) 1 24 Try.underlying33 hi hz0 hz1 hz2 rfl (by decide) v ls.length cs hs (hown.alloc _) ⟨w0.heap.size, 0, none⟩ 1 1 [.slice A n c] hx rfl ?_ ?_ (by unfold maxLen; omega) (by omega) (by simp; omega) ?_
  · intro j u hj
    match j, hj with
    | 0, hj => simp at hj; subst hj; simp [Addr.add]
  · intro u hu; simp at hu; subst hu; rfl
  intro v' w' h1 h2 h3 h4
  obtain ⟨A', c', hv⟩ := ownsRow_shape h1
  subst hv
  have hcl := hown.1
  refine h A' c' w' ⟨cs ++ [.slice A n c], by simpa using h1, fun j hj => ?_⟩ h2
  rw [List.length_append, List.length_singleton] at hj
  rcases Nat.lt_or_ge j ls.length with hj' | hj'
  · obtain ⟨A2, n2, c2, e1, e2⟩ := hc j hj'
    refine ⟨A2, n2, c2, by rw [List.getElem?_append_left (by omega)]; exact e1, ?_⟩
    rw [getD_snoc_lt hj']; exact e2
  · have hj2 : j = ls.length := by omega
    subst hj2
    refine ⟨A, n, c, by rw [List.getElem?_append_right (by omega)]; simp [hcl], ?_⟩
    rw [getD_snoc_eq]; exact hr
theorem fln_strict {ls : List (List Nat)} {i j : Nat} (h : i < j) (hj : j ≤ ls.length) : fln ls i < fln ls j := by
  have h1 := fln_mono ls (i + 1) j (by omega) hj
  have h2 := fln_succ ls i (by omega)
  omega
section
variable {w0 w w' : World} {j g s : Nat} {v : Value} {d : D} {ms : List (List Nat)}
/-- Behind a crash that keeps nothing else, just what was safe is found. -/
theorem Jo.crash0 (h : Jo w0 w j g v d ms s) :
    ∀ w1 v1, DAt w1 w0.heap.size g v1 (crD d 0) → Below w0.heap.size w0 w1 → Calls Try.prog 13 #[.pointer (some ⟨g, 0, none⟩)] w1 fun e w' => ∃ j' A c v' d', e = .returned (.tuple #[.pointer (some ⟨j', 0, none⟩), .slice A s c, .int .i64 0]) ∧ Jo w0 w' j' g v' d' (ms.take s) s ∧ Live d' ∧ Bss w'.heap.size w' A s c (ms.take s) ∧ Turn (DF g v1) (DF g v') w1 w' := by
  obtain ⟨i, i1, i2, hf, hs, i3⟩ := h.hs.crash h.at_.disk.le 0
  have hi : i = s := by
    have h1 : crN d 0 = d.safe := by unfold crN; simp
    rw [h1, h.hs.safe] at i3
    rcases Nat.lt_or_ge s i with q | q
    · have := fln_strict q i2
      omega
    · omega
  subst hi
  intro w1 v1 hn hb
  refine (Open_any hn rfl rfl).mono ?_
  rintro e w' ⟨j', A, c, v', rfl, hj, hl, ht, _, _⟩
  have hf0 : (fr (crD d 0).s).length = i := by rw [hf, frs_len _ _ i2]
  rw [hf0] at hj hl ⊢
  rw [hf, frs_inn] at hl
  refine ⟨j', A, c, v', _, rfl, ⟨?_, hs, belowD hn ht hb (Nat.le_refl _) (Nat.le_refl _)⟩, live_kp (live_cr d 0) _, hl, ht⟩
  rw [List.length_take, Nat.min_eq_left i2]
  exact hj
end
end Jr
end Go.Proofs.Ytnamnikelgcepaa
