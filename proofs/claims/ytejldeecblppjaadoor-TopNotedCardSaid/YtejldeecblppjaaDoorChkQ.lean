/-
  A list of lists of bytes that came in; rows that grow beside one another; frames laid one behind the other.
-/
import Derived.Test.YtejldeecblppjaaDoorChkL
set_option linter.unusedVariables false
set_option maxRecDepth 100000
namespace Go.Proofs.YtejldeecblppjaaDoor
open Go.ChangeShapes Go.WideShapes Go.ChangeAt Go.RowKit Go.Deep Bp Ck

theorem open_lists {H : Type} {enc : TypeId × Value → H} {W : World} {a : Option Addr} {len cap : Nat} {d : DataW H} {p : List MemPlace}
    (h : DataW.Trod enc Tryd.prog W 0 (fun _ => true) true 45 (.slice a len cap) d p) :
    ∃ ls : List (List Nat), Bss W.heap.size W a len cap ls ∧ ls.length = len := by
  obtain ⟨fuel, hf⟩ := h
  have hf' : DataW.trod enc Tryd.prog W 0 (fun _ => true) true fuel 45 [.slice a len cap] = some (d, p) := by simpa [Value.cells] using hf
  rcases open_slice Tryd.underlying45 hf' with ⟨hcs, _⟩ | ⟨b, len', cap', m, n, D, Pl, hcs, _, hl, hm, hmm, _, hi⟩
  · simp at hcs
    obtain ⟨rfl, rfl, rfl⟩ := hcs
    exact ⟨[], ⟨rfl, Nat.le_refl _, Nat.zero_le _, fun h => by omega⟩, rfl⟩
  · simp at hcs
    obtain ⟨rfl, rfl, rfl⟩ := hcs
    simp at hmm
    have hC : Tryd.prog.cellsOf 24 = 1 := by kernel_rfl
    have h5 : ∀ i, i < len → ∃ zs : List Nat, ∃ A' n' c', W.cell? (b.add i) = some (.slice A' n' c') ∧ By W.heap.size W A' n' c' zs := fun i him => by
      obtain ⟨cs, hc, htr⟩ := hi i (by omega)
      rw [hC] at hc
      obtain ⟨_, hlen, hat⟩ := World.cells?_some hc
      have h1 := hat 0 (by omega)
      match cs, hlen, h1, htr with
      | [v], _, h1, htr =>
        simp only [List.getElem?_cons_zero] at h1
        rw [Go.Deep.add_add, Nat.mul_one, Nat.add_zero] at h1
        have hsh : ∃ A' n' c', v = .slice A' n' c' := by
          rcases open_ints Tryd.underlying24 Tryd.underlying5 (by kernel_rfl) htr with ⟨hcs, _⟩ | ⟨x, l, c, zs, hcs, _⟩
          · simp at hcs; exact ⟨_, _, _, hcs⟩
          · simp at hcs; exact ⟨_, _, _, hcs⟩
        obtain ⟨A', n', c', rfl⟩ := hsh
        obtain ⟨f, hA, hfb⟩ := open_bytes (W := W) (a := A') (len := n') (cap := c') (enc := enc) ⟨n, by simpa [Value.cells] using htr⟩
        exact ⟨_, A', n', c', h1, By.arg hA hfb n' (Nat.le_refl _)⟩
    obtain ⟨F, hF⟩ := choose_lt h5
    refine ⟨(List.range len).map F, ⟨by simp, hl, hm, fun hn => ?_⟩, by simp⟩
    obtain ⟨A0, n0, c0, hc0, _⟩ := hF 0 hn
    obtain ⟨g, off, rfl, hg⟩ := plain_addr hc0
    refine ⟨g, off, rfl, hg, fun j hj => ?_⟩
    obtain ⟨A', n', c', hc, hy⟩ := hF j hj
    rw [plain_add] at hc
    refine ⟨A', n', c', hc, ?_⟩
    have : ((List.range len).map F).getD j [] = F j := by simp [List.getD, hj]
    rw [this]; exact hy

theorem slice_h2 (A : Option Addr) (n cap e : Nat) (w : World) (h : e ≤ cap) : (Instr.slice 45 (.slice A n cap) none (some (.int .i64 (e : Int))) none).run Tryd.prog w = .ok (.slice A e cap) w := by
  rw [run_slice_h w 45 A n cap Tryd.underlying45 .i64 (e : Int) (by omega) (by omega)]
  cases A <;> simp [go_sem, Tryd.sizeOf24, Addr.add]
theorem slice_l2 (A : Option Addr) (n cap l : Nat) (w : World) (h : l ≤ n) : (Instr.slice 45 (.slice A n cap) (some (.int .i64 (l : Int))) none none).run Tryd.prog w = .ok (.slice (cutA A l cap) (n - l) (cap - l)) w := by
  rw [run_slice_l w 45 A n cap Tryd.underlying45 .i64 (l : Int) (by omega) (by omega)]
  simp [go_sem, cutA, Tryd.sizeOf24]

/-- Bytes are appended to bytes of one's own: just that row grows. -/
theorem app_by2 {w : World} {ops : Array Oper} {rest : List Oper} {o : Oper} {a : Act} {Q : Exit → Act → World → Prop} (hgd : o.guard = none) (s x : Operand)
    (ho : o.op = .call { callee := .builtin .append, args := #[s, x], argTypes := #[24, 24] })
    (base : Nat) (v : Value) (n : Nat) (xs : List Nat) (hs : a.eval s = v) (hown : w.ownsRow base 5 1 v n (bc xs))
    (B : Nat) (A : Option Addr) (m c : Nat) (zs : List Nat) (hx : a.eval x = .slice A m c) (hr : By B w A m c zs) (hf : n + m ≤ 1048576) (hbase : base ≤ w.heap.size)
    (h : ∀ A' c' w', w'.ownsRow base 5 1 (.slice A' (n + m) c') (n + m) (bc (xs ++ zs)) → Below base w w' → w.grownBy w' v.ownBlock → wpList Tryd.prog ops Q rest (a.put o.dst (.slice A' (n + m) c')) w') : wpList Tryd.prog ops Q (o :: rest) a w := by
  obtain ⟨i0, hi, hz0, hz1, hz2⟩ := info_parts Tryd.infoU8
  rcases hr.bytesAt with ⟨e, rfl⟩ | ⟨ad, c', e, hcells⟩
  · simp only [Value.slice.injEq] at e
    obtain ⟨rfl, rfl, rfl⟩ := e
    obtain ⟨va, vc, rfl⟩ := ownsRow_shape hown
    exact wpList_append_own_none hgd s x 24 ho base 5 i0 1 Tryd.underlying24 hi _ n (bc xs) hs hown hx (h va vc w (by simpa using hown) (Below.refl _ _) (World.grownBy.refl w _))
  · rw [hr.len] at e
    simp only [Value.slice.injEq, true_and] at e
    obtain ⟨rfl, rfl⟩ := e
    refine wpList_append_own_at w hgd s x 24 ho base 5 i0 (.int .u8 0) 1 1 Tryd.underlying24 hi hz0 hz1 hz2 rfl (by decide) v n (bc xs) hs hown ad m c (bc zs) hx (by rw [bc_length, hr.len]; omega) hcells (bc_one zs) (by unfold maxLen; omega) (by omega) hbase ?_
    intro v' w' h1 h2 h3 h4
    obtain ⟨va, vc, rfl⟩ := ownsRow_shape h1
    exact h va vc w' (by rw [bc_app]; exact h1) (Below.grown (Below.refl _ _) h2 hbase (fun k hk => (hown.lt k hk).1)) h2

/-- Rows of other types lie in other blocks. -/
theorem rows_apart {w : World} {base base' n n' : Nat} {e e' : TypeId} {v v' : Value} {xs xs' : List Value} (h : w.ownsRow base e 1 v n xs) (h' : w.ownsRow base' e' 1 v' n' xs') (hne : e ≠ e') : v.ownBlock = none ∨ v.ownBlock ≠ v'.ownBlock := by
  rcases h.2 with ⟨rfl, _⟩ | ⟨g, cap, cur, rfl, _, hh, _⟩
  · exact .inl rfl
  · right
    intro e1
    rcases h'.2 with ⟨rfl, _⟩ | ⟨g', cap', cur', rfl, _, hh', _⟩
    · cases e1
    · have : g = g' := by simpa [Value.ownBlock] using e1
      subst this
      rw [hh] at hh'
      simp only [Option.some.injEq, Obj.cells.injEq] at hh'
      exact hne hh'.2.1

/-- Integers as cells. -/
def ic (l : List Nat) : List Value := l.map fun n : Nat => Value.int .i64 (n : Int)
theorem ic_length (l : List Nat) : (ic l).length = l.length := by simp [ic]
theorem Tryd.infoInt : (Tryd.prog.info? 3).map (fun i => (i.zero, i.size, i.bytes)) = some (some (.int .i64 0), 1, 8) := by kernel_rfl
/-- A number is appended to a row of one's own: just that row grows. -/
theorem app_int {w : World} {ops : Array Oper} {rest : List Oper} {o : Oper} {a : Act} {Q : Exit → Act → World → Prop} (hgd : o.guard = none) (s x : Operand)
    (ho : o.op = .call { callee := .builtin .append, args := #[s, x], argTypes := #[62, 62] })
    (base : Nat) (v : Value) (n : Nat) (xs : List Nat) (hs : a.eval s = v) (y : Nat) (Y : Int) (hY : Y = y) (w0 : World) (hw : w = w0.alloc (.cells #[.int .i64 Y] 3)) (hown : w0.ownsRow base 3 1 v n (ic xs))
    (hx : a.eval x = .slice (some ⟨w0.heap.size, 0, none⟩) 1 1) (hf : n ≤ 1048576) (hbase : base ≤ w0.heap.size)
    (h : ∀ A' c' w', w'.ownsRow base 3 1 (.slice A' (n + 1) c') (n + 1) (ic (xs ++ [y])) → Below base w0 w' → w0.grownBy w' v.ownBlock → wpList Tryd.prog ops Q rest (a.put o.dst (.slice A' (n + 1) c')) w') : wpList Tryd.prog ops Q (o :: rest) a w := by
  obtain ⟨i0, hi, hz0, hz1, hz2⟩ := info_parts Tryd.infoInt
  subst hY
  subst hw
  refine wpList_append_own_at _ hgd s x 62 ho base 3 i0 (.int .i64 0) 1 8 Tryd.underlying62 hi hz0 hz1 hz2 rfl (by decide) v n (ic xs) hs (hown.alloc _) ⟨w0.heap.size, 0, none⟩ 1 1 [.int .i64 (y : Int)] hx rfl ?_ ?_ (by unfold maxLen; omega) (by omega) (by simp; omega) ?_
  · intro j u hj
    match j, hj with
    | 0, hj => simp at hj; subst hj; simp [Addr.add]
  · intro u hu; simp at hu; subst hu; rfl
  intro v' w' h1 h2 h3 h4
  obtain ⟨A', c', rfl⟩ := ownsRow_shape h1
  refine h A' c' w' (by simpa [ic] using h1) (Below.grown ((Below.refl _ _).alloc hbase _) h2 (by simp; omega) (fun k hk => (hown.lt k hk).1)) ?_
  exact ⟨h2.os, h2.tape, h2.output, by have := h2.size; simp at this; omega, fun k hk hne => (h2.block k (by simp; omega) hne).trans (Below.heap_alloc _ _ _ hk)⟩

end Go.Proofs.YtejldeecblppjaaDoor
