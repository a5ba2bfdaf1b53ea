/-
  Items in a slice, and how they are sorted.
-/
import Derived.Test.YtbpcigcfdkamaaaHpW6
import Derived.OwnWalk
set_option linter.unusedVariables false
set_option maxRecDepth 100000
namespace Go.Proofs.Ytbpcigcfdkamaaa
open Go.RowKit E

theorem Try.infoItem : (Try.prog.info? 32).map (fun i => (i.zero, i.size, i.bytes)) = some (some (.agg #[.int .i64 0, .int .i64 0]), 2, 16) := by kernel_rfl

/-- Items lie at a slice, of whatever make, in blocks below B. -/
structure It (B : Nat) (w : World) (A : Option Addr) (n cap : Nat) (f : Nat → Int × Int) : Prop where
  le : n ≤ cap
  max : cap ≤ maxLen
  nil : A = none → cap = 0
  cell : 0 < n → ∃ g off, A = some ⟨g, off, none⟩ ∧ g < B ∧ ∀ j, j < n → w.cell? ⟨g, off + j * 2, none⟩ = some (.int .i64 (f j).1) ∧ w.cell? ⟨g, off + j * 2 + 1, none⟩ = some (.int .i64 (f j).2)
theorem It.below {B : Nat} {w w' : World} {A : Option Addr} {n cap : Nat} {f : Nat → Int × Int} (h : It B w A n cap f) (hb : Below B w w') : It B w' A n cap f :=
  ⟨h.le, h.max, h.nil, fun hn => by
    obtain ⟨g, off, e, hg, hc⟩ := h.cell hn
    exact ⟨g, off, e, hg, fun j hj => ⟨(hb.cell (p := ⟨g, off + j * 2, none⟩) hg).trans (hc j hj).1, (hb.cell (p := ⟨g, off + j * 2 + 1, none⟩) hg).trans (hc j hj).2⟩⟩⟩
theorem It.raise {B B' : Nat} {w : World} {A : Option Addr} {n cap : Nat} {f : Nat → Int × Int} (h : It B w A n cap f) (hb : B ≤ B') : It B' w A n cap f :=
  ⟨h.le, h.max, h.nil, fun hn => by
    obtain ⟨g, off, e, hg, hc⟩ := h.cell hn
    exact ⟨g, off, e, by omega, hc⟩⟩

/-- Many items' cells. -/
def pc : List (Int × Int) → List Value
  | [] => []
  | x :: l => .int .i64 x.1 :: .int .i64 x.2 :: pc l
theorem pc_length : ∀ l, (pc l).length = l.length * 2
  | [] => rfl
  | x :: l => by simp [pc, pc_length l]; omega
theorem pc_app : ∀ l m, pc (l ++ m) = pc l ++ pc m
  | [], m => rfl
  | x :: l, m => by simp [pc, pc_app l m]
theorem pc_get : ∀ (l : List (Int × Int)) (i : Nat), i < l.length → (pc l)[i * 2]? = some (.int .i64 (l.getD i (0, 0)).1) ∧ (pc l)[i * 2 + 1]? = some (.int .i64 (l.getD i (0, 0)).2)
  | [], i, h => by simp at h
  | x :: l, 0, h => by simp [pc]
  | x :: l, i + 1, h => by
    have ih := pc_get l i (by simpa using h)
    have e1 : (i + 1) * 2 = i * 2 + 2 := by omega
    have e2 : (i + 1) * 2 + 1 = i * 2 + 1 + 2 := by omega
    rw [e2, e1]
    simpa [pc] using ih
theorem pc_one (l : List (Int × Int)) : ∀ u ∈ pc l, u.oneCell' = true := by
  induction l with
  | nil => simp [pc]
  | cons x l ih => intro u hu; simp [pc] at hu; rcases hu with rfl | rfl | hu; rfl; rfl; exact ih u hu

/-- The block of what is owned is of its elements' type. -/
theorem row_kind {w : World} {base : Nat} {e : TypeId} {size : Nat} {v : Value} {n : Nat} {xs : List Value} (h : w.ownsRow base e size v n xs) : ∀ g, v.ownBlock = some g → ∃ c fz, w.heap[g]? = some (.cells c e fz) := by
  intro g hg
  rcases h.2 with ⟨q, _⟩ | ⟨g0, c0, cur, q, _, hh, _⟩
  · rw [q] at hg; cases hg
  · have : g = g0 := by rw [q] at hg; simpa [Value.ownBlock] using hg.symm
    subst this; exact ⟨cur, _, hh⟩
/-- Items that the call owns. -/
def Iow (w : World) (base : Nat) (v : Value) (l : List (Int × Int)) : Prop := w.ownsRow base 32 2 v l.length (pc l)
theorem Iow.it {w : World} {base : Nat} {A : Option Addr} {n cap : Nat} {l : List (Int × Int)} (h : Iow w base (.slice A n cap) l) : n = l.length ∧ It w.heap.size w A n cap (fun i => l.getD i (0, 0)) := by
  unfold Iow at h
  rcases h.2 with ⟨q, h0⟩ | ⟨g, cap', cur, q, hg, hh, h1, h2, _⟩
  · injection q with q1 q2 q3
    subst q1 q2 q3
    exact ⟨h0.symm, ⟨Nat.le_refl _, by unfold maxLen; omega, fun _ => rfl, fun h => by omega⟩⟩
  · injection q with q1 q2 q3
    subst q1 q2 q3
    refine ⟨rfl, ⟨h1, h2, fun h => (by cases h), fun _ => ⟨g, 0, rfl, (h.lt g rfl).2, fun j hj => ?_⟩⟩⟩
    have := pc_get l j hj
    rw [Nat.zero_add, h.cellAt _ (by omega), h.cellAt _ (by omega)]
    exact this
theorem Iow.form {w : World} {base : Nat} {v : Value} {l : List (Int × Int)} (h : Iow w base v l) : ∃ A n cap, v = .slice A n cap := by
  rcases h.2 with ⟨q, _⟩ | ⟨g, cap', cur, q, _⟩
  · exact ⟨none, 0, 0, q⟩
  · exact ⟨_, _, _, q⟩
theorem Iow.below {w w' : World} {base : Nat} {v : Value} {l : List (Int × Int)} (h : Iow w base v l) (hb : Below w.heap.size w w') : Iow w' base v l := ownsRow_same h (fun k hk => hb.block k (h.lt k hk).2)

/-- The entries in order, when so many items were pushed. -/
def mkE (f : Nat → Int × Int) : Nat → List E
  | 0 => []
  | k + 1 => ins ⟨(f k).1, (f k).2, k⟩ (mkE f k)
theorem mkE_length (f : Nat → Int × Int) : ∀ n, (mkE f n).length = n
  | 0 => rfl
  | n + 1 => by simp [mkE, ins_length, mkE_length f n]
/-- The items in order. -/
def outs (f : Nat → Int × Int) (n : Nat) : List (Int × Int) := (mkE f n).map fun x => (x.k, x.v)
theorem outs_length (f : Nat → Int × Int) (n : Nat) : (outs f n).length = n := by simp [outs, mkE_length]

/-- The next item; the zero item if there is none. -/
def nx1 (M : List E) : Int × Int := match M with
  | [] => (0, 0)
  | m :: _ => (m.k, m.v)
theorem Item?_eq (M : List E) : Item? M = .tuple #[.agg #[.int .i64 (nx1 M).1, .int .i64 (nx1 M).2], .bool (decide (0 < M.length))] := by
  cases M <;> simp [Item?, nx1]
theorem nx1_drop (f : Nat → Int × Int) (n j : Nat) : nx1 ((mkE f n).drop j) = (outs f n).getD j (0, 0) := by
  by_cases h : j < n
  · have hl := mkE_length f n
    rw [List.drop_eq_getElem_cons (by omega)]
    simp [nx1, outs, List.getD_eq_getElem?_getD, hl, h]
  · rw [List.drop_eq_nil_of_le (by rw [mkE_length]; omega)]
    rw [List.getD_eq_getElem?_getD, List.getElem?_eq_none (by rw [outs_length]; omega)]
    rfl

theorem HAt.notItem {w : World} {b : Nat} {v : Value} {M : List E} {n : Nat} (h : HAt w b v M n) {k : Nat} {cs : Array Value} {fz : Nat × Nat} (hk : w.heap[k]? = some (.cells cs 32 fz)) : ¬ HF b v k := by
  obtain ⟨es, _, hr⟩ := h.row
  intro hf
  rcases hf with rfl | hf
  · have := h.box; rw [hk] at this; simp at this
  · rcases hr.2 with ⟨q, _⟩ | ⟨g, cap, cur, q, _, hh, _⟩
    · rw [q] at hf; cases hf
    · have : k = g := by rw [q] at hf; simpa [Value.ownBlock] using hf.symm
      subst this; rw [hk] at hh; simp at hh

/-- What lies in memory while items are taken out of a heap: j were laid into a slice of the call's own, the next one lies in block C. -/
structure Outs (w : World) (b : Nat) (f : Nat → Int × Int) (n j C g cap : Nat) (wr : World) : Prop where
  heap : ∃ v, HAt wr b v ((mkE f n).drop (j + 1)) n
  row : wr.ownsRow w.heap.size 32 2 (.slice (some ⟨g, 0, none⟩) j cap) j (pc ((outs f n).take j))
  item : wr.heap[C]? = some (.cells #[.int .i64 ((outs f n).getD j (0, 0)).1, .int .i64 ((outs f n).getD j (0, 0)).2] 32 (0, 0))
  ne : C ≠ g
  lo : w.heap.size ≤ C ∧ w.heap.size ≤ b
  below : Below w.heap.size w wr

theorem outs_take (f : Nat → Int × Int) (n j : Nat) (h : j < n) : (outs f n).take (j + 1) = (outs f n).take j ++ [(outs f n).getD j (0, 0)] := by
  rw [List.take_succ_eq_append_getElem (by rw [outs_length]; exact h)]
  rw [List.getD_eq_getElem?_getD, List.getElem?_eq_getElem (by rw [outs_length]; exact h)]; rfl

theorem Outs.next {w wr w1 w3 : World} {b n j C g cap g' cap' : Nat} {f : Nat → Int × Int} {v v' : Value} (h : Outs w b f n j C g cap wr) (hj : j < n) {D : Obj}
    (hv : HAt wr b v ((mkE f n).drop (j + 1)) n)
    (hown : w1.ownsRow w.heap.size 32 2 (.slice (some ⟨g', 0, none⟩) (j + 1) cap') (j + 1) (pc ((outs f n).take j) ++ [.int .i64 ((outs f n).getD j (0, 0)).1, .int .i64 ((outs f n).getD j (0, 0)).2]))
    (hgr : (wr.alloc D).grownBy w1 (some g)) (hat : g = g' ∨ g' = wr.heap.size + 1) {x y : Int}
    (h3 : HAt w3 b v' ((mkE f n).drop (j + 2)) n) (ht : Turn (HF b v) (HF b v') (w1.alloc (.cells #[.int .i64 x, .int .i64 y] 32)) w3) :
    Outs w b f n (j + 1) w1.heap.size g' cap' ((w3.setCell ⟨w1.heap.size, 0, none⟩ (.int .i64 ((outs f n).getD (j + 1) (0, 0)).1)).setCell ⟨w1.heap.size, 1, none⟩ (.int .i64 ((outs f n).getD (j + 1) (0, 0)).2)) := by
  have hlr := (h.row.lt g rfl)
  have hl1 := hown.lt g' rfl
  have hs1 := hgr.size
  have hg : ∃ cur fz, wr.heap[g]? = some (.cells cur 32 fz) := by
    rcases h.row.2 with ⟨q, _⟩ | ⟨g0, c0, cur, q, _, hh, _⟩
    · cases q
    · injection q with q1; injection q1 with q1; injection q1 with q1; subst q1; exact ⟨cur, _, hh⟩
  obtain ⟨cur, fz, hg⟩ := hg
  have hvg := hv.notItem hg
  simp at hs1
  have hlow : ∀ k, HF b v k → w.heap.size ≤ k ∧ k < wr.heap.size := fun k hk => by have := hv.owned k hk; have := h.lo.2; omega
  -- the world behind the append, and a block more
  have o1 : ∀ k, k < wr.heap.size → k ≠ g → w1.heap[k]? = wr.heap[k]? := fun k hk hn => (hgr.block k (by simp; omega) (by simp; exact hn)).trans (Below.heap_alloc _ _ _ hk)
  obtain ⟨w2, hw2⟩ : ∃ w2, w2 = w1.alloc (.cells #[.int .i64 x, .int .i64 y] 32) := ⟨_, rfl⟩
  rw [← hw2] at ht
  have hs2 : w2.heap.size = w1.heap.size + 1 := by rw [hw2]; simp
  have hC2 : w2.heap[w1.heap.size]? = some (.cells #[.int .i64 x, .int .i64 y] 32 (0, 0)) := by rw [hw2]; exact heap_alloc_new w1 _
  have o2 : ∀ k, k < w1.heap.size → w2.heap[k]? = w1.heap[k]? := fun k hk => by rw [hw2]; exact Below.heap_alloc _ _ _ hk
  have hC3 : w3.heap[w1.heap.size]? = some (.cells #[.int .i64 x, .int .i64 y] 32 (0, 0)) := by rw [ht.block _ (by omega) (fun e => by have := (hlow _ e).2; omega)]; exact hC2
  have hg3 : w3.heap[g']? = w1.heap[g']? := by
    rw [ht.block g' (by omega) (fun e => ?_), o2 g' hl1.2]
    rcases hat with rfl | e2
    · exact hvg e
    · have := (hlow _ e).2; omega
  have hlt3 := ht.size
  have hfin : ∀ k, k ≠ w1.heap.size → ((w3.setCell ⟨w1.heap.size, 0, none⟩ (.int .i64 ((outs f n).getD (j + 1) (0, 0)).1)).setCell ⟨w1.heap.size, 1, none⟩ (.int .i64 ((outs f n).getD (j + 1) (0, 0)).2)).heap[k]? = w3.heap[k]? := fun k hk => by
    rw [Below.heap_setCell _ _ _ _ hk, Below.heap_setCell _ _ _ _ hk]
  have hn3 := h3.notItem hC3
  refine ⟨⟨v', h3.same fun k hk => hfin k (fun e => hn3 (e ▸ hk))⟩, ?_, two_cells _ _ hC3, by omega, ⟨by have := h.below.size; omega, h.lo.2⟩, ?_⟩
  · rw [outs_take f n j hj, pc_app]
    exact ownsRow_same hown fun k hk => by
      have : k = g' := by simpa [Value.ownBlock] using hk.symm
      subst this
      exact (hfin k (by omega)).trans hg3
  · have b1 : Below w.heap.size w w1 := Below.grown (h.below.alloc h.below.size D) hgr (by have := h.below.size; simp; omega) (fun k hk => by injection hk with hk; subst hk; exact hlr.1)
    have b2 : Below w.heap.size w w2 := by rw [hw2]; exact b1.alloc b1.size _
    have b3 : Below w.heap.size w w3 := b2.trans (ht.below _ b2.size (fun k hk => (hlow k hk).1))
    exact (b3.setCell (p := ⟨w1.heap.size, 0, none⟩) b1.size _).setCell (p := ⟨w1.heap.size, 1, none⟩) b1.size _

end Go.Proofs.Ytbpcigcfdkamaaa
