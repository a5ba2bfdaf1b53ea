/-
  Layer 5: lists of integers that came in; the first so many of them; lists laid one behind the other.
-/
import Derived.Test.YtokjnmgbgflgnaaGreatDoorPathBackW
import Derived.Laws.AppendOwnNone
import Derived.ProofKit
import Derived.OpenShut
set_option linter.unusedVariables false
set_option maxRecDepth 100000
namespace Go.Proofs.YtokjnmgbgflgnaaGreatDoor
open Go.RowKit Fl Pt Go.ChangeShapes Go.WideShapes Go.ChangeAt

def IW (x : Int) : Prop := -9223372036854775808 ≤ x ∧ x ≤ 9223372036854775807
theorem plain_addr5 {w : World} {x : Addr} {v : Value} (h : w.cell? (x.add 0) = some v) : ∃ g off, x = ⟨g, off, none⟩ ∧ g < w.heap.size := by
  obtain ⟨g, off, spot⟩ := x
  have e0 : (Addr.add ⟨g, off, spot⟩ 0) = ⟨g, off, spot⟩ := by simp [Addr.add]
  rw [e0] at h
  have hs : spot = none := World.cell?_spot h
  subst hs
  exact ⟨g, off, rfl, World.block_lt_of_cell? w _ h⟩
theorem open_ilist {H : Type} {enc : TypeId × Value → H} {W : World} {a : Option Addr} {len cap : Nat} {d : DataW H} {p : List MemPlace}
    (h : DataW.Trod enc Tryz.prog W 0 (fun _ => true) true 24 (.slice a len cap) d p) :
    ∃ f : Nat → Int, Il W.heap.size W a len cap f ∧ ∀ j, j < len → IW (f j) := by
  obtain ⟨fuel, hf⟩ := h
  rcases open_ints Tryz.underlying24 Tryz.underlying3 (by kernel_rfl) hf with ⟨hcs, _⟩ | ⟨x, l, c, zs, hcs, _, hl, hm, hz, _, hcell, hwz⟩
  · simp [Value.cells] at hcs
    obtain ⟨rfl, rfl, rfl⟩ := hcs
    exact ⟨fun _ => 0, Il.empty _ _ _, fun j hj => by omega⟩
  · simp [Value.cells] at hcs
    obtain ⟨rfl, rfl, rfl⟩ := hcs
    have hz' : zs.length = cap := by simpa using hz
    refine ⟨fun i => zs.getD i 0, ⟨hl, hm, (fun e => by simp at e), fun h0 => ?_⟩, fun j hj => ?_⟩
    obtain ⟨g, off, rfl, hg⟩ := plain_addr5 (hcell 0 (by omega))
    refine ⟨g, off, rfl, hg, fun i hi => ?_⟩
    rw [← plain_add, hcell i (by omega)]
    have hj2 : j < zs.length := by omega
    have := hwz (zs.getD j 0) (by rw [List.getD, List.getElem?_eq_getElem hj2]; exact List.getElem_mem hj2)
    unfold IW
    simpa [Lit.wf, IntKind.min, IntKind.max, IntKind.signed, IntKind.bits] using this


def iz (l : List Int) : List Value := l.map fun n => Value.int .i64 n
/-- The list of integers xs is owned at v. -/
def OwnI (w : World) (base : Nat) (v : Value) (xs : List Int) : Prop := w.ownsRow base 3 1 v xs.length (iz xs)
theorem OwnI.empty (w : World) (base : Nat) (hb : base ≤ w.heap.size) : OwnI (w.alloc (.cells #[] 3)) base (.slice (some ⟨w.heap.size, 0, none⟩) 0 0) [] :=
  ⟨rfl, .inr ⟨w.heap.size, 0, #[], rfl, hb, heap_alloc_new w _, Nat.le_refl _, Nat.zero_le _, rfl, rfl⟩⟩
theorem OwnI.il {w : World} {base : Nat} {v : Value} {xs : List Int} (h : OwnI w base v xs) : ∃ A cap, v = .slice A xs.length cap ∧ Il w.heap.size w A xs.length cap (fun j => xs.getD j 0) := by
  rcases h.2 with ⟨rfl, h0⟩ | ⟨g, cap, cur, rfl, hg, hh, h1, h2, h3, h4⟩
  · exact ⟨none, 0, by rw [h0], by rw [h0]; exact Il.empty _ _ _⟩
  · refine ⟨_, cap, rfl, h1, h2, (fun e => by cases e), fun h0 => ⟨g, 0, rfl, lt_of_heap hh, fun j hj => ?_⟩⟩
    have := World.ownsRow.cellAt h j (by omega)
    rw [Nat.zero_add, this]
    simp [iz, List.getD, hj]
theorem run_app_ints {w : World} (ty : TypeId) (base : Nat) (v : Value) (xs : List Int) (hown : OwnI w base v xs)
    (A : Option Addr) (m c : Nat) (f : Nat → Int) (hr : Il w.heap.size w A m c f) (hb : xs.length + m ≤ 1000000) (hbase : base ≤ w.heap.size) :
    ∃ v' w', (Builtin.append_ #[24, 24] ty #[v, .slice A m c]).run Tryz.prog w = .ok v' w' ∧ OwnI w' base v' (xs ++ il f m) ∧ Below base w w' := by
  obtain ⟨i0, hi, hz0, hz1, hz2⟩ := info_parts Tryz.infoInt
  cases A with
  | none =>
    obtain ⟨rfl, rfl⟩ := hr.nil rfl
    exact ⟨v, w, run_append_owned_none (P := Tryz.prog) (w := w) base 24 ty 3 i0 1 Tryz.underlying24 hi v xs.length (iz xs) hown, by simpa [il] using hown, Below.refl _ _⟩
  | some ad =>
    have hcells : ∀ j u, (iz (il f m))[j]? = some u → w.cell? (ad.add j) = some u := fun j u hu => by
      have hj : j < m := by
        have := (List.getElem?_eq_some_iff.1 hu).1
        simpa [iz, il] using this
      obtain ⟨g, off, e, _, hc⟩ := hr.cell (by omega)
      obtain rfl : ad = ⟨g, off, none⟩ := by simpa using e
      rw [plain_add, hc j hj]
      simp [iz, il, hj] at hu
      rw [hu]
    obtain ⟨v', w', hrun, h2, h3, _, h5⟩ := run_append_own_at (P := Tryz.prog) w base 24 ty 3 i0 (.int .i64 0) 1 8 Tryz.underlying24 hi hz0 hz1 hz2 rfl (by decide) v xs.length (iz xs) hown ad m c (iz (il f m)) (by simp [iz, il]) hcells (by simp [iz, Value.oneCell']) (by unfold maxLen; omega) (by omega) hbase
    exact ⟨v', w', hrun, by unfold OwnI; rw [List.length_append, il_length]; simpa [iz] using h2, Below.grown (Below.refl _ _) h3 hbase (fun k hk => (hown.lt k hk).1)⟩
theorem step_app_ints {w : World} {ops : Array Oper} {o : Oper} {a : Act} {K : Act → World → Prop} {Q : Exit → Act → World → Prop} {F : Prop} (hgd : o.guard = none) (s x : Operand)
    (ho : o.op = .call { callee := .builtin .append, args := #[s, x], argTypes := #[24, 24] })
    (base : Nat) (v : Value) (xs : List Int) (hs : a.eval s = v) (hown : OwnI w base v xs)
    (A : Option Addr) (m c : Nat) (f : Nat → Int) (hx : a.eval x = .slice A m c) (hr : Il w.heap.size w A m c f) (hb : xs.length + m ≤ 1000000) (hbase : base ≤ w.heap.size)
    (h : ∀ A' c' w', OwnI w' base (.slice A' (xs ++ il f m).length c') (xs ++ il f m) → Below base w w' → K (a.put o.dst (.slice A' (xs ++ il f m).length c')) w') : if Region.wanted o (yielded ops a.tmps) = true then Oper.wp Tryz.prog o a w K Q else F := by
  have hw : Region.wanted o (yielded ops a.tmps) = true := by simp [Region.wanted, hgd]
  rw [if_pos hw]
  obtain ⟨v', w', hrun, h2, h3⟩ := run_app_ints o.type base v xs hown A m c f hr hb hbase
  obtain ⟨A', c', rfl, _⟩ := h2.il
  unfold Oper.wp execOp
  simp only [ho, resolve, invoke, builtin, Sem.run_bind, Sem.run_pure, Result.andThen_ok, List.map_toArray, List.map_cons, List.map_nil, hs, hx, hrun]
  exact h A' c' w' h2 h3
end Go.Proofs.YtokjnmgbgflgnaaGreatDoor
