/-
  Layer 16: a list of one's own whose end was cut off; a journal that is opened anew behind a crash.
-/
import Derived.Test.YtnamnikelgcepaaJrM
import Derived.Test.YtnamnikelgcepaaChkQ
set_option linter.unusedVariables false
set_option maxRecDepth 100000
namespace Go.Proofs.Ytnamnikelgcepaa
namespace Jr
open Go.RowKit Go.Maps Bp Ck
open Dk (D DAt DF op kp pwE apE apD syD cuE cuD IW crN crD ctD)

/-- A list of one's own, or its first so many with no room behind them. -/
def Lq (P : PS) (w : World) (base : Nat) (v : Value) (ls : List (List Nat)) : Prop :=
  ∃ A c, v = .slice A ls.length c ∧ ((Ls P w base (.slice A ls.length c) ls) ∨ (c = ls.length ∧ ∃ N C rest, Ls P w base (.slice A N C) (ls ++ rest)))
section
variable {P : PS} {w w' w0 : World} {base b j g n s : Nat} {v v' va : Value} {d d' : D} {ls ms : List (List Nat)}
theorem Ls.lq (h : Ls P w base va ls) : Lq P w base va ls := by
  obtain ⟨A, c, rfl⟩ := h.form
  exact ⟨A, c, rfl, .inl h⟩
theorem Lq.und (h : Lq P w base va ls) : ∃ vo lo, va.ownBlock = vo.ownBlock ∧ Ls P w base vo lo := by
  obtain ⟨A, c, rfl, h | ⟨_, N, C, rest, h⟩⟩ := h
  · exact ⟨_, _, rfl, h⟩
  · exact ⟨_, _, by cases A <;> rfl, h⟩
theorem Lq.kind (h : Lq P w base va ls) : ∀ k, va.ownBlock = some k → k < w.heap.size ∧ base ≤ k ∧ ∃ c fz, w.heap[k]? = some (.cells c 22 fz) := by
  obtain ⟨vo, lo, e, h⟩ := h.und
  rw [e]
  exact h.kind
theorem Lq.same (h : Lq P w base va ls) (hb : ∀ k, va.ownBlock = some k → w'.heap[k]? = w.heap[k]?) : Lq P w' base va ls := by
  obtain ⟨A, c, rfl, h | ⟨hc, N, C, rest, h⟩⟩ := h
  · exact ⟨A, c, rfl, .inl (h.same hb)⟩
  · exact ⟨A, c, rfl, .inr ⟨hc, N, C, rest, h.same (fun k hk => hb k (by cases A <;> exact hk))⟩⟩
theorem Lq.later (h : Lq P w base va ls) (hb : Below w.heap.size w w') : Lq P w' base va ls := h.same fun k hk => hb.block k (h.kind k hk).1
theorem Lq.turn {F' : Nat → Prop} (h : Lq P w base va ls) (hj : JAt w b j g v d n) (ht : Turn (JF j g v) F' w w') : Lq P w' base va ls := by
  obtain ⟨vo, lo, e, ho⟩ := h.und
  exact h.same fun k hk => ht.block k (h.kind k hk).1 (ho.notJ hj k (by rw [← e]; exact hk))
theorem Lq.turnD {F' : Nat → Prop} (h : Lq P w base va ls) (hn : DAt w b g v d) (ht : Turn (DF g v) F' w w') : Lq P w' base va ls :=
  h.same fun k hk => ht.block k (h.kind k hk).1 (fun hf => by
    obtain ⟨_, _, c, fz, hh⟩ := h.kind k hk
    obtain ⟨c2, t2, fz2, hh2, ht2⟩ := hn.kind k hf
    have := kind_ne hh hh2
    subst this
    revert ht2
    decide)
/-- The list grows: the journal is as it was. -/
theorem Jo.grown2 (h : Jo w0 w j g v d ms s) (hl : Lq P w base va ls) (hg : w.grownBy w' va.ownBlock) (hb : w0.heap.size ≤ base) : Jo w0 w' j g v d ms s := by
  obtain ⟨vo, lo, e, ho⟩ := hl.und
  exact h.grown ho (by rw [← e]; exact hg) hb
theorem Lq.form (h : Lq P w base va ls) : ∃ A c, va = .slice A ls.length c := by
  obtain ⟨A, c, e, _⟩ := h
  exact ⟨A, c, e⟩
theorem take_app {α : Type} (a b : List α) : (a ++ b).take a.length = a := by simp
/-- What it reads as. -/
theorem Lq.bss {A : Option Addr} {n c : Nat} (h : Lq P w base (.slice A n c) ls) (hP : ∀ A n c zs, P A n c zs → By w.heap.size w A n c zs) : n = ls.length ∧ Bss w.heap.size w A n c ls := by
  obtain ⟨A', c', e, h | ⟨hc, N, C, rest, h⟩⟩ := h
  · injection e with e1 e2 e3
    subst e1 e2 e3
    exact h.bss hP
  · injection e with e1 e2 e3
    subst e1 e2 e3 hc
    obtain ⟨e4, hb⟩ := h.bss hP
    have hl : ls.length ≤ N := by rw [e4, List.length_append]; omega
    have := hb.take ls.length hl
    rw [take_app] at this
    exact ⟨rfl, this.len, Nat.le_refl _, by have := hb.le; have := hb.max; omega, this.cell⟩
/-- Its end is cut off. -/
theorem Lq.cut {A : Option Addr} {n c i : Nat} (h : Lq P w base (.slice A n c) ls) (hi : i ≤ ls.length) : Lq P w base (.slice A i i) (ls.take i) := by
  have hl : (ls.take i).length = i := by rw [List.length_take]; omega
  obtain ⟨A', c', e, h | ⟨hc, N, C, rest, h⟩⟩ := h
  · injection e with e1 e2 e3
    subst e1 e2 e3
    refine ⟨A, i, by rw [hl], .inr ⟨hl.symm, ls.length, c, ls.drop i, ?_⟩⟩
    rw [List.take_append_drop]
    exact h
  · injection e with e1 e2 e3
    subst e1 e2 e3
    refine ⟨A, i, by rw [hl], .inr ⟨hl.symm, N, C, ls.drop i ++ rest, ?_⟩⟩
    rw [← List.append_assoc, List.take_append_drop]
    exact h
end
theorem slice_hm2 (A : Option Addr) (n cap e : Nat) (w : World) (h : e ≤ cap) : (Instr.slice 33 (.slice A n cap) none (some (.int .i64 (e : Int))) (some (.int .i64 (e : Int)))).run Try.prog w = .ok (.slice A e e) w := by
  rw [run_slice_hm w 33 A n cap Try.underlying33 .i64 .i64 (e : Int) (e : Int) (by omega) (by omega) (by omega)]
  cases A <;> simp [go_sem, Try.sizeOf22, Addr.add]
/-- One thing more behind a list that may be cut. -/
theorem app_lq {P : PS} {w : World} {ops : Array Oper} {rest : List Oper} {o : Oper} {a : Act} {Q : Exit → Act → World → Prop} (hgd : o.guard = none) (s x : Operand)
    (ho : o.op = .call { callee := .builtin .append, args := #[s, x], argTypes := #[33, 33] })
    (base : Nat) (v : Value) (ls : List (List Nat)) (hs : a.eval s = v) (A : Option Addr) (n c : Nat) (zs : List Nat) (w0 : World) (hw : w = w0.alloc (.cells #[.slice A n c] 22)) (hl : Lq P w0 base v ls)
    (hx : a.eval x = .slice (some ⟨w0.heap.size, 0, none⟩) 1 1) (hr : P A n c zs) (hf : ls.length ≤ 1048576) (hbase : base ≤ w0.heap.size)
    (h : ∀ A' c' w', Ls P w' base (.slice A' (ls.length + 1) c') (ls ++ [zs]) → w.grownBy w' v.ownBlock → wpList Try.prog ops Q rest (a.put o.dst (.slice A' (ls.length + 1) c')) w') : wpList Try.prog ops Q (o :: rest) a w := by
  obtain ⟨B, C, rfl, hl | ⟨hc, N, C', more, hl⟩⟩ := hl
  · exact app_ls hgd s x ho base _ ls hs A n c zs w0 hw hl hx hr hf hbase h
  · subst hc
    obtain ⟨cs, hown, hcs⟩ := hl
    rcases hown.2 with ⟨e, h0⟩ | ⟨g, cap', cur, e, hg, hh, hnc, hcm, hsz, htk⟩
    · injection e with e1 e2 e3
      subst e1 e2 e3
      obtain rfl : ls = [] := List.eq_nil_of_length_eq_zero (by rw [List.length_append] at h0; omega)
      exact app_ls hgd s x ho base _ [] hs A n c zs w0 hw (Ls.nil _ _ _) hx hr hf hbase h
    · injection e with e1 e2 e3
      subst e1 e2 e3
      obtain ⟨i0, hi, hz0, hz1, hz2⟩ := info_parts Try.infoBs
      have hll : (ls ++ more).length = ls.length + more.length := List.length_append
      have hcl : cs.length = ls.length + more.length := by rw [← hll, hown.1, Nat.mul_one]
      have hold : ∀ t u, (cs.take ls.length)[t]? = some u → w.cell? ((⟨g, 0, none⟩ : Addr).add t) = some u := fun t u hu => by
        have ht : t < ls.length := by
          have := (List.getElem?_eq_some_iff.1 hu).1
          rw [List.length_take] at this
          omega
        rw [List.getElem?_take, if_pos ht] at hu
        have e1 : ((⟨g, 0, none⟩ : Addr).add t) = ⟨g, t, none⟩ := by rw [plain_add, Nat.zero_add]
        rw [e1, hw, World.cell?_alloc_lt _ _ _ (lt_of_heap hh), hown.cellAt t (by omega)]
        exact hu
      have hnew : ∀ t u, ([Value.slice A n c])[t]? = some u → w.cell? ((⟨w0.heap.size, 0, none⟩ : Addr).add t) = some u := fun t u hu => by
        match t, hu with
        | 0, hu => simp at hu; subst hu; rw [hw]; simp [Addr.add]
      have hrun := run_append_grow (P := Try.prog) (w := w) 33 o.type 22 i0 (.slice none 0 0) Try.underlying33 hi hz0 ⟨g, 0, none⟩ ls.length ls.length (cs.take ls.length) (by rw [List.length_take, hz1]; omega) hold ⟨w0.heap.size, 0, none⟩ 1 1 [.slice A n c] (by rw [hz1]; rfl) hnew (by omega) (by omega) (by rw [hz2]; exact growslice_fits (by omega) (by omega))
      have hge := grownCap_ge w (ls.length + 1) ls.length 22
      have hle := grownCap_le_maxLen w (ls.length + 1) ls.length 22 (by unfold maxLen; omega)
      generalize grownCap w (ls.length + 1) ls.length 22 = K at *
      refine wpList_plain hgd fun KK hK => ?_
      unfold Oper.wp execOp
      simp only [ho, resolve, invoke, builtin, Sem.run_bind, Sem.run_pure, Result.andThen_ok, List.map_toArray, List.map_cons, List.map_nil, hs, hx, hrun]
      refine hK _ _ (h _ _ _ ⟨cs.take ls.length ++ [.slice A n c], ?_, fun t ht => ?_⟩ ⟨rfl, rfl, rfl, by simp, fun k hk _ => Below.heap_alloc w.drew _ k hk⟩)
      · refine ⟨by simp; omega, .inr ⟨w.heap.size, K, _, by simp, by rw [hw]; simp; omega, heap_alloc_new w.drew _, by simp; omega, hle, ?_, ?_⟩⟩
        · rw [Array.size_append, size_zeroCells]
          simp [Value.cells]
          omega
        · have e2 : ((cs.take ls.length).toArray ++ [Value.slice A n c].toArray ++ Builtin.zeroCells (Value.slice none 0 0).cells (K - (ls.length + 1))).toList = (cs.take ls.length ++ [Value.slice A n c]) ++ (Builtin.zeroCells (Value.slice none 0 0).cells (K - (ls.length + 1))).toList := by simp
          rw [e2, List.take_left' (by simp; omega)]
      · rw [List.length_append, List.length_singleton] at ht
        rcases Nat.lt_or_ge t ls.length with q | q
        · obtain ⟨A2, n2, c2, e1, e2⟩ := hcs t (by omega)
          refine ⟨A2, n2, c2, ?_, ?_⟩
          · rw [List.getElem?_append_left (by rw [List.length_take]; omega), List.getElem?_take, if_pos q]
            exact e1
          · rw [getD_snoc_lt q]
            have : (ls ++ more).getD t [] = ls.getD t [] := by simp [List.getD, List.getElem?_append_left q]
            rwa [this] at e2
        · obtain rfl : t = ls.length := by omega
          refine ⟨A, n, c, ?_, by rw [getD_snoc_eq]; exact hr⟩
          rw [List.getElem?_append_right (by rw [List.length_take]; omega)]
          simp [List.length_take, Nat.min_eq_left (show ls.length ≤ cs.length by omega)]
end Jr
end Go.Proofs.Ytnamnikelgcepaa
