/-
  A heap and a map of how many there are of each key, in one memory.
-/
import Derived.Test.YtbpcigcfdkamaaaHpB
import Derived.Maps.OwnSet
import Derived.Maps.RangeWalk
import Derived.Maps.OwnOps
set_option linter.unusedVariables false
namespace Go.Proofs.Ytbpcigcfdkamaaa
open Go.ChangeShapes Go.WideShapes Go.ChangeAt Go.RowKit Go.Deep E Go.Maps

/-- The keys of the acts are numbers of the machine's. -/
def wfI (x : Int) : Prop := (Lit.int .i64 x).wf = true
theorem open_acts_wf {H : Type} {enc : TypeId × Value → H} {W : World} {a : Option Addr} {len cap : Nat} {d : DataW H} {p : List MemPlace}
    (h : DataW.Trod enc Try.prog W 0 (fun _ => true) true 22 (.slice a len cap) d p) :
    ∃ f : Nat → Bool × Int × Int, Acts W a len cap f ∧ (∀ j, j < len → wfI (f j).2.1 ∧ wfI (f j).2.2) := by
  obtain ⟨f, hA, _⟩ := open_acts h
  refine ⟨f, hA, fun j hj => ?_⟩
  obtain ⟨fuel, hf⟩ := h
  have hf' : DataW.trod enc Try.prog W 0 (fun _ => true) true fuel 22 [.slice a len cap] = some (d, p) := by simpa [Value.cells] using hf
  obtain ⟨h1, h2, h3, h4⟩ := rows_cells (k := 3) Try.underlying22 (by kernel_rfl) (by decide) hf'
  obtain ⟨g, off, n, cs, y, ha, hg, hl, hc, ht⟩ := h4 j hj
  obtain ⟨g2, off2, ha2, hg2, hcc⟩ := hA.cell (by omega)
  rw [ha] at ha2
  injection ha2 with ha2
  injection ha2 with e1 e2
  subst e1 e2
  obtain ⟨k0, k1, k2⟩ := hcc j hj
  have hc0 := hc 0 (by omega)
  have hc1 := hc 1 (by omega)
  have hc2 := hc 2 (by omega)
  obtain ⟨u0, u1, u2, rfl⟩ : ∃ u0 u1 u2, cs = [u0, u1, u2] := by
    match cs, hl with
    | [u0, u1, u2], _ => exact ⟨u0, u1, u2, rfl⟩
  obtain ⟨xs, n', _, _, _, hxl, hfs⟩ := DataW.trod_struct Try.underlying34 ht
  have k1' := hfs 1 _ rfl
  have q1 : Try.prog.cellsOf 32 = 2 := by kernel_rfl
  have q2 : Try.prog.cellsOf 3 = 1 := by kernel_rfl
  simp [q1] at k1'
  simp at hxl
  obtain ⟨y0, y1, rfl⟩ : ∃ y0 y1, xs = [y0, y1] := by
    match xs, hxl with
    | [y0, y1], _ => exact ⟨y0, y1, rfl⟩
  simp at k1'
  obtain ⟨ys, n'', _, _, _, hyl, hgs⟩ := DataW.trod_struct Try.underlying32 k1'
  have k3 := hgs 0 _ rfl
  have k4 := hgs 1 _ rfl
  simp [q2] at k3 k4
  simp at hyl
  obtain ⟨z0, z1, rfl⟩ : ∃ z0 z1, ys = [z0, z1] := by
    match ys, hyl with
    | [z0, z1], _ => exact ⟨z0, z1, rfl⟩
  simp at k3 k4
  obtain ⟨n1, e1, _, w1⟩ := DataW.trod_int Try.underlying3 k3
  obtain ⟨n2, e2, _, w2⟩ := DataW.trod_int Try.underlying3 k4
  simp at e1 e2
  subst e1 e2
  have r1 := hc1.symm.trans k1
  have r2 := hc2.symm.trans k2
  simp at r1 r2
  rw [← r1, ← r2]
  exact ⟨w1, w2⟩

/-- How many entries have a key. -/
def cntI (M : List E) (x : Int) : Int := ((M.filter fun e => decide (e.k = x)).length : Int)
theorem cntI_nil (x : Int) : cntI [] x = 0 := rfl
theorem cntI_cons (e : E) (M : List E) (x : Int) : cntI (e :: M) x = if x = e.k then cntI M e.k + 1 else cntI M x := by
  unfold cntI
  by_cases h : e.k = x
  · subst h; simp
  · rw [if_neg (fun k => h k.symm)]; simp [h]
theorem cntI_ins (e : E) (M : List E) (x : Int) : cntI (ins e M) x = if x = e.k then cntI M e.k + 1 else cntI M x := by
  rw [← cntI_cons]
  unfold cntI
  rw [((ins_perm e M).filter _).length_eq]
theorem cntI_tail (e : E) (M : List E) (x : Int) : cntI M x = if x = e.k then cntI (e :: M) e.k - 1 else cntI (e :: M) x := by
  rw [cntI_cons, cntI_cons, if_pos rfl]
  by_cases h : x = e.k
  · rw [if_pos h, h]; omega
  · rw [if_neg h, if_neg h]
theorem cntI_range (M : List E) (x : Int) : 0 ≤ cntI M x ∧ cntI M x ≤ (M.length : Int) := by
  unfold cntI
  have := List.length_filter_le (fun e => decide (e.k = x)) M
  omega
theorem cntI_head (e : E) (M : List E) : 1 ≤ cntI (e :: M) e.k := by
  rw [cntI_cons, if_pos rfl]
  have := (cntI_range M e.k).1
  omega
theorem cntI_pos {M : List E} {x : Int} (h : 0 < cntI M x) : ∃ e, e ∈ M ∧ e.k = x := by
  unfold cntI at h
  obtain ⟨e, he⟩ := List.exists_mem_of_length_pos (show 0 < (M.filter fun e => decide (e.k = x)).length by omega)
  rw [List.mem_filter] at he
  exact ⟨e, he.1, by simpa using he.2⟩
/-- No key that is there is less than the first. -/
theorem cntI_least {e : E} {M : List E} (hs : Sorted (e :: M)) {x : Int} (h : 0 < cntI (e :: M) x) : e.k ≤ x := by
  obtain ⟨d, hd, rfl⟩ := cntI_pos h
  rcases List.mem_cons.1 hd with rfl | hd
  · exact Int.le_refl _
  · unfold Sorted at hs
    have := (List.pairwise_cons.1 hs).1 d hd
    unfold lt at this
    split at this
    · omega
    · have := of_decide_eq_true this
      omega

theorem HAt.notMap {w : World} {b : Nat} {v : Value} {M : List E} {n : Nat} (h : HAt w b v M n) {k : Nat} {es : Array MapEntry} {cl : Nat} (hk : w.heap[k]? = some (.map es cl)) : ¬ HF b v k := by
  obtain ⟨xs, _, hr⟩ := h.row
  intro hf
  rcases hf with rfl | hf
  · have := h.box; rw [hk] at this; simp at this
  · obtain ⟨c, fz', hc⟩ := row_kind hr k hf
    rw [hk] at hc; simp at hc
theorem HAt.sorted {w : World} {b : Nat} {v : Value} {M : List E} {n : Nat} (h : HAt w b v M n) : Sorted M := by
  obtain ⟨xs, ha, _⟩ := h.row
  exact ha.sorted
theorem owns_same {H : Type} {w w' : World} {P : Program} {k : TypeId} {R : Value → Option (DataW H × List MemPlace)} {b n : Nat} {D : DataW H} (h : w.ownsMap P k R b n D) (he : w'.heap[b]? = w.heap[b]?) : w'.ownsMap P k R b n D := by
  obtain ⟨es, clock, hb, hr⟩ := h
  exact ⟨es, clock, by rw [he]; exact hb, hr⟩

abbrev MI (W : World) (mb N : Nat) (D : DataW Unit) : Prop := W.ownsMap Try.prog 3 (plainElem Try.prog 3) mb N D
/-- A heap in block b, a map in block mb that says so many of each key; both made since w. -/
structure Hk (w : World) (b mb : Nat) (M : List E) (n N : Nat) (g : Int → Int) (W : World) : Prop where
  heap : ∃ v, HAt W b v M n
  lo : w.heap.size ≤ b ∧ w.heap.size ≤ mb
  below : Below w.heap.size w W
  map : ∃ D, MI W mb N D ∧ ∀ x, D.atKey (.int .i64 x) (.lit (.int .i64 0)) = .lit (.int .i64 (g x))
theorem Hk.sorted {w W : World} {b mb n N : Nat} {M : List E} {g : Int → Int} (h : Hk w b mb M n N g W) : Sorted M := by
  obtain ⟨v, hv⟩ := h.heap
  exact hv.sorted
theorem Hk.later {w W W' : World} {b mb n N : Nat} {M : List E} {g : Int → Int} (h : Hk w b mb M n N g W) (hb : Below W.heap.size W W') : Hk w b mb M n N g W' := by
  obtain ⟨v, hv⟩ := h.heap
  obtain ⟨D, hD, hg⟩ := h.map
  exact ⟨⟨v, hv.below hb⟩, h.lo, h.below.trans (hb.mono h.below.size), ⟨D, owns_same hD (hb.block mb hD.lt), hg⟩⟩
theorem Hk.more {w W : World} {b mb n N : Nat} {M : List E} {g : Int → Int} (h : Hk w b mb M n N g W) (o : Obj) : Hk w b mb M n N g (W.alloc o) := h.later ((Below.refl _ W).alloc (Nat.le_refl _) o)
theorem Hk.step {w W w' : World} {b mb n n' N : Nat} {M M' : List E} {g : Int → Int} {v v' : Value} (h : Hk w b mb M n N g W) (hv : HAt W b v M n) (h' : HAt w' b v' M' n') (ht : Turn (HF b v) (HF b v') W w') : Hk w b mb M' n' N g w' ∧ KeptT W w' := by
  obtain ⟨D, hD, hg⟩ := h.map
  refine ⟨⟨⟨v', h'⟩, h.lo, h.below.trans (ht.below _ h.below.size (fun k hk => by have := (hv.owned k hk).1; have := h.lo.1; omega)), ⟨D, owns_same hD (ht.block mb hD.lt ?_), hg⟩⟩, KeptT.ofTurn ht hv.isHp⟩
  obtain ⟨es, cl, hb, _⟩ := hD
  exact hv.notMap hb
theorem Hk.upd {w W w' : World} {b mb n N : Nat} {M : List E} {g g' : Int → Int} (h : Hk w b mb M n N g W) {D : DataW Unit} (hD : MI W mb N D) (hg : ∀ x, D.atKey (.int .i64 x) (.lit (.int .i64 0)) = .lit (.int .i64 (g x))) {x c : Int}
    (hm : MI w' mb (N + 1) (D.put (.int .i64 x) (.lit (.int .i64 c)))) (hgr : W.grownBy w' (some mb)) (hg' : ∀ z, g' z = if z = x then c else g z) : Hk w b mb M n (N + 1) g' w' := by
  obtain ⟨v, hv⟩ := h.heap
  refine ⟨⟨v, hv.same fun k hk => hgr.block k (hv.owned k hk).2 (fun e => ?_)⟩, h.lo, h.below.trans (Below.grown (Below.refl _ _) hgr h.below.size (fun j hj => by cases hj; exact h.lo.2)), ⟨_, hm, fun z => ?_⟩⟩
  · obtain ⟨es, cl, hb, _⟩ := hD
    injection e with e
    subst e
    exact hv.notMap hb hk
  · rw [hg']
    by_cases e : z = x
    · subst e
      rw [if_pos rfl]
      exact atKey_put_same hD.isMap (show WideAt.IsKeyLit (.int .i64 z) from trivial) _ _
    · rw [if_neg e, atKey_put_other (fun k => e (by injection k)) _ _]
      exact hg z
theorem push_k {w W : World} {b mb n N : Nat} {M : List E} {g : Int → Int} (x y : Int) (h : Hk w b mb M n N g W) (hn : n < 1000000) :
    Calls Try.prog 15 #[.pointer (some ⟨b, 0, none⟩), .agg #[.int .i64 x, .int .i64 y]] W fun e w' => e = .returned (.tuple #[]) ∧ Hk w b mb (ins ⟨x, y, n⟩ M) (n + 1) N g w' ∧ KeptT W w' := by
  obtain ⟨v, hv⟩ := h.heap
  refine (push_any b v M n x y W hv hn).mono ?_
  rintro e w' ⟨rfl, v', h1, h2⟩
  exact ⟨rfl, h.step hv h1 h2⟩
theorem pop_k {w W : World} {b mb n N : Nat} {M : List E} {g : Int → Int} (h : Hk w b mb M n N g W) :
    Calls Try.prog 13 #[.pointer (some ⟨b, 0, none⟩)] W fun e w' => e = .returned (Item? M) ∧ Hk w b mb M.tail n N g w' ∧ KeptT W w' := by
  obtain ⟨v, hv⟩ := h.heap
  refine (pop_any b v M n W hv).mono ?_
  rintro e w' ⟨rfl, v', h1, h2⟩
  exact ⟨rfl, h.step hv h1 h2⟩
theorem peek_k {w W : World} {b mb n N : Nat} {M : List E} {g : Int → Int} (h : Hk w b mb M n N g W) :
    Calls Try.prog 17 #[.pointer (some ⟨b, 0, none⟩)] W fun e w' => e = .returned (Item? M) ∧ Hk w b mb M n N g w' := by
  obtain ⟨v, hv⟩ := h.heap
  refine (peek_any b v M n W hv).mono ?_
  rintro e w' ⟨rfl, hb⟩
  exact ⟨rfl, h.later hb⟩
theorem len_k {w W : World} {b mb n N : Nat} {M : List E} {g : Int → Int} (h : Hk w b mb M n N g W) :
    Calls Try.prog 19 #[.pointer (some ⟨b, 0, none⟩)] W fun e w' => e = .returned (.int .i64 (M.length : Int)) ∧ W = w' := by
  obtain ⟨v, hv⟩ := h.heap
  exact len_any b v M n W hv

section
variable {P : Program} (w : World) {ops : Array Oper} {rest : List Oper} {o : Oper} {a : Act} {Q : Exit → Act → World → Prop}
/-- How many of a key? (behind a guard) -/
theorem lookup_int_g {H : Type} (hw : Region.wanted o (yielded ops a.tmps) = true) (m x : Operand) (t : TypeId) (hop : o.op = Op.lookup t m x false)
    (k e : TypeId) (q : IntKind) (K : Keyed P k) (ht : P.underlying t = some (.map k e)) (he : P.underlying e = some (.int q)) (hz : (zeroValue e).run P w = .ok (.int q 0) w) (b n : Nat) (D : DataW H)
    (hm : a.eval m = .map (some b)) (hown : w.ownsMap P k (plainElem P e) b n D) (key : Value) (kl : Lit) (hx : a.eval x = key) (hkey : keyOf P k key = some kl)
    (hK : ∀ c : Int, D.atKey kl (.lit (.int q 0)) = .lit (.int q c) → (Lit.int q c).wf = true → wpList P ops Q rest (a.put o.dst (.int q c)) w) :
    wpList P ops Q (o :: rest) a w := by
  obtain ⟨c, hrun, hat, hwc⟩ := hown.lookup_int K ht he hz hkey
  refine wpList_step fun K' hK' => ?_
  rw [if_pos hw]
  unfold Oper.wp
  simp [execOp, hop, hm, hx, hrun, Result.andThen]
  exact hK' _ _ (hK c hat hwc)
end
theorem zeroInt (w : World) : (zeroValue 3).run Try.prog w = .ok (.int .i64 0) w := by kernel_rfl
theorem law_int : Keyed Try.prog 3 := int_keyed Try.underlying3
theorem run_makeMap_int (w : World) : (Instr.makeMap 45 none).run Try.prog w = .ok (.map (some w.heap.size)) (w.alloc (.map #[] 0)) := by
  simp [Instr.makeMap, Result.andThen]
theorem Hk.start {w w2 : World} {b : Nat} {v : Value} (h : HAt w2 b v [] 0) (hlo : w.heap.size ≤ b) (hb : Below w.heap.size w w2) : Hk w b w2.heap.size [] 0 0 (fun x => cntI [] x) (w2.alloc (.map #[] 0)) :=
  ⟨⟨v, h.more _⟩, ⟨hlo, hb.size⟩, hb.alloc hb.size _, ⟨.map [], World.ownsMap_made w2 _ _ _, fun x => by simp [DataW.atKey, cntI_nil]⟩⟩
end Go.Proofs.Ytbpcigcfdkamaaa
