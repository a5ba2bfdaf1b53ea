/-
  Layer 6: the document's table: its rows in memory; Taken, Right.
-/
import Derived.Test.YtinkpeliinofoaaDoorWnRf
import Derived.Test.YtinkpeliinofoaaDoorWnSu
set_option linter.unusedVariables false
set_option maxRecDepth 100000
namespace Go.Proofs.YtinkpeliinofoaaDoor.Wn
open Go.RowKit Go.Maps

theorem Tryd.infoRow6 : (Tryd.prog.info? 89).map (fun i => (i.zero, i.size, i.bytes)) = some (some (.agg #[.int .i64 0, .int .i64 0, .int .i64 0]), 3, 24) := by kernel_rfl
abbrev R3 := Int × Int × Int
/-- Rows lie at a slice, of whatever make, in a block below B. -/
structure Rt (B : Nat) (w : World) (A : Option Addr) (n cap : Nat) (L : List R3) : Prop where
  len : n = L.length
  le : n ≤ cap
  max : cap ≤ maxLen
  nil : A = none → cap = 0
  cell : 0 < n → ∃ g off, A = some ⟨g, off, none⟩ ∧ g < B ∧ ∀ j, j < n → w.cell? ⟨g, off + j * 3, none⟩ = some (.int .i64 (L.getD j (0, 0, 0)).1) ∧ w.cell? ⟨g, off + j * 3 + 1, none⟩ = some (.int .i64 (L.getD j (0, 0, 0)).2.1) ∧ w.cell? ⟨g, off + j * 3 + 2, none⟩ = some (.int .i64 (L.getD j (0, 0, 0)).2.2)
theorem Rt.same {B : Nat} {w w' : World} {A : Option Addr} {n cap : Nat} {L : List R3} (h : Rt B w A n cap L) (hb : ∀ g, g < B → (∃ off, A = some ⟨g, off, none⟩) → w'.heap[g]? = w.heap[g]?) : Rt B w' A n cap L :=
  ⟨h.len, h.le, h.max, h.nil, fun hn => by
    obtain ⟨g, off, e, hg, hc⟩ := h.cell hn
    have hq := hb g hg ⟨off, e⟩
    exact ⟨g, off, e, hg, fun j hj => ⟨(World.cell?_of_block (a := ⟨g, off + j * 3, none⟩) hq).trans (hc j hj).1, (World.cell?_of_block (a := ⟨g, off + j * 3 + 1, none⟩) hq).trans (hc j hj).2.1, (World.cell?_of_block (a := ⟨g, off + j * 3 + 2, none⟩) hq).trans (hc j hj).2.2⟩⟩⟩
theorem Rt.below {B : Nat} {w w' : World} {A : Option Addr} {n cap : Nat} {L : List R3} (h : Rt B w A n cap L) (hb : Below B w w') : Rt B w' A n cap L := h.same fun g hg _ => hb.block g hg
theorem Rt.raise {B B' : Nat} {w : World} {A : Option Addr} {n cap : Nat} {L : List R3} (h : Rt B w A n cap L) (hb : B ≤ B') : Rt B' w A n cap L :=
  ⟨h.len, h.le, h.max, h.nil, fun hn => by
    obtain ⟨g, off, e, hg, hc⟩ := h.cell hn
    exact ⟨g, off, e, by omega, hc⟩⟩
theorem Rt.later {w w' : World} {A : Option Addr} {n cap : Nat} {L : List R3} (h : Rt w.heap.size w A n cap L) (hb : Below w.heap.size w w') : Rt w'.heap.size w' A n cap L := (h.below hb).raise hb.size
theorem Rt.nothing (B : Nat) (w : World) : Rt B w .none 0 0 [] := ⟨rfl, Nat.le_refl _, by unfold maxLen; omega, fun _ => rfl, fun h => by omega⟩
theorem Rt.size {B : Nat} {w : World} {A : Option Addr} {n cap : Nat} {L : List R3} (h : Rt B w A n cap L) : n ≤ cap ∧ cap ≤ 9223372036854775807 := by
  have := h.max
  unfold maxLen at this
  exact ⟨h.le, by omega⟩
theorem Rt.zero {B : Nat} {w : World} {A : Option Addr} {m c : Nat} {L : List R3} (hL : L = []) (hm : m = 0) (hA : A = none → c = 0) (hc : c ≤ maxLen) : Rt B w A m c L := by
  subst hL hm
  exact ⟨rfl, Nat.zero_le _, hc, hA, fun h => by omega⟩
/-- The first so many, and what is behind them. -/
theorem Rt.take {B : Nat} {w : World} {A : Option Addr} {n cap : Nat} {L : List R3} (h : Rt B w A n cap L) (k : Nat) (hk : k ≤ n) : Rt B w A k cap (L.take k) :=
  ⟨by rw [List.length_take, ← h.len]; omega, Nat.le_trans hk h.le, h.max, h.nil, fun hn => by
    obtain ⟨g, off, e, hg, hc⟩ := h.cell (by omega)
    refine ⟨g, off, e, hg, fun j hj => ?_⟩
    have : (L.take k).getD j (0, 0, 0) = L.getD j (0, 0, 0) := by
      rw [List.getD_eq_getElem?_getD, List.getD_eq_getElem?_getD, List.getElem?_take, if_pos hj]
    rw [this]
    exact hc j (by omega)⟩
theorem Rt.drop {B : Nat} {w : World} {g off n cap : Nat} {L : List R3} (h : Rt B w (some ⟨g, off, none⟩) n cap L) (k : Nat) (hk : k ≤ n) : Rt B w (some ⟨g, off + k * 3, none⟩) (n - k) (cap - k) (L.drop k) := by
  have h1 := h.le
  have h2 := h.max
  refine ⟨by rw [List.length_drop, ← h.len], by omega, by omega, fun e => (by cases e), fun hn => ?_⟩
  obtain ⟨g', off', e, hg, hc⟩ := h.cell (by omega)
  injection e with e
  injection e with e1 e2
  subst e1 e2
  refine ⟨g, off + k * 3, rfl, hg, fun j hj => ?_⟩
  have : (L.drop k).getD j (0, 0, 0) = L.getD (k + j) (0, 0, 0) := by
    rw [List.getD_eq_getElem?_getD, List.getD_eq_getElem?_getD, List.getElem?_drop]
  rw [this]
  have hc := hc (k + j) (by omega)
  have e1 : off + (k + j) * 3 = off + k * 3 + j * 3 := by omega
  rw [e1] at hc
  exact hc
theorem Rt.fin {B B' : Nat} {w w' : World} {g off n cap : Nat} {L : List R3} (h : Rt B w (some ⟨g, off, none⟩) n cap L) {A : Option Addr} {m c' : Nat} (hA : A ≠ none) (hm : m = 0) (hc : c' ≤ cap) : Rt B' w' A m c' (L.drop n) := by
  subst hm
  have h2 := h.max
  exact ⟨by rw [List.length_drop, ← h.len]; omega, by omega, by omega, fun e => absurd e hA, fun hn => by omega⟩
def rcl : List R3 → List Value
  | [] => []
  | x :: l => .int .i64 x.1 :: .int .i64 x.2.1 :: .int .i64 x.2.2 :: rcl l
theorem rcl_length : ∀ l, (rcl l).length = l.length * 3
  | [] => rfl
  | x :: l => by simp [rcl, rcl_length l]; omega
theorem rcl_app : ∀ l m, rcl (l ++ m) = rcl l ++ rcl m
  | [], m => rfl
  | x :: l, m => by simp [rcl, rcl_app l m]
theorem rcl_get : ∀ (l : List R3) (i : Nat), i < l.length → (rcl l)[i * 3]? = some (.int .i64 (l.getD i (0, 0, 0)).1) ∧ (rcl l)[i * 3 + 1]? = some (.int .i64 (l.getD i (0, 0, 0)).2.1) ∧ (rcl l)[i * 3 + 2]? = some (.int .i64 (l.getD i (0, 0, 0)).2.2)
  | [], i, h => by simp at h
  | x :: l, 0, h => by simp [rcl]
  | x :: l, i + 1, h => by
    have ih := rcl_get l i (by simpa using h)
    have e1 : (i + 1) * 3 = i * 3 + 3 := by omega
    have e2 : (i + 1) * 3 + 1 = i * 3 + 1 + 3 := by omega
    have e3 : (i + 1) * 3 + 2 = i * 3 + 2 + 3 := by omega
    rw [e2, e3, e1]
    simpa [rcl] using ih
theorem rcl_one (l : List R3) : ∀ u ∈ rcl l, u.oneCell' = true := by
  induction l with
  | nil => simp [rcl]
  | cons x l ih => intro u hu; simp [rcl] at hu; rcases hu with rfl | rfl | rfl | hu; rfl; rfl; rfl; exact ih u hu
/-- Rows that the call owns. -/
def Row (w : World) (base : Nat) (v : Value) (L : List R3) : Prop := w.ownsRow base 89 3 v L.length (rcl L)
theorem Row.rt {w : World} {base : Nat} {A : Option Addr} {n cap : Nat} {L : List R3} (h : Row w base (.slice A n cap) L) : Rt w.heap.size w A n cap L := by
  unfold Row at h
  rcases h.2 with ⟨q, h0⟩ | ⟨g, cap', cur, q, hg, hh, h1, h2, _⟩
  · injection q with q1 q2 q3
    subst q1 q2 q3
    exact ⟨h0.symm, Nat.le_refl _, by unfold maxLen; omega, fun _ => rfl, fun h => by omega⟩
  · injection q with q1 q2 q3
    subst q1 q2 q3
    refine ⟨rfl, h1, h2, fun h => (by cases h), fun _ => ⟨g, 0, rfl, (h.lt g rfl).2, fun j hj => ?_⟩⟩
    have := rcl_get L j hj
    rw [Nat.zero_add, h.cellAt _ (by omega), h.cellAt _ (by omega), h.cellAt _ (by omega)]
    exact this
theorem Row.form {w : World} {base : Nat} {v : Value} {L : List R3} (h : Row w base v L) : ∃ A cap, v = .slice A L.length cap := by
  rcases h.2 with ⟨q, h0⟩ | ⟨g, cap', cur, q, _⟩
  · exact ⟨none, 0, by rw [q, h0]⟩
  · exact ⟨_, _, q⟩
theorem Row.later {w w' : World} {base : Nat} {v : Value} {L : List R3} (h : Row w base v L) (hb : Below w.heap.size w w') : Row w' base v L := ownsRow_same h (fun k hk => hb.block k (h.lt k hk).2)
theorem Row.nil (w : World) (base : Nat) : Row w base (.slice none 0 0) [] := World.ownsRow_nil _ _ _ _
theorem Row.empty (w : World) (base : Nat) (hb : base ≤ w.heap.size) : Row (w.alloc (.cells #[] 89)) base (.slice (some ⟨w.heap.size, 0, none⟩) 0 0) [] := by
  have := World.ownsRow_lit (base := base) (e := 89) (size := 3) w #[] 0 hb (by unfold maxLen; omega) rfl
  simpa [Row, rcl] using this
/-- The cells of rows at an address. -/
theorem rcl_cells {w : World} {B : Nat} {A : Option Addr} {n cap : Nat} {L : List R3} (h : Rt B w A n cap L) : ∀ ad, A = some ad → ∀ j u, (rcl L)[j]? = some u → w.cell? (ad.add j) = some u := by
  intro ad hA j u hu
  have hjl : j < (rcl L).length := (List.getElem?_eq_some_iff.1 hu).1
  rw [rcl_length, ← h.len] at hjl
  obtain ⟨g, off, e, hg, hc⟩ := h.cell (by omega)
  rw [hA] at e
  injection e with e
  subst e
  have hi := rcl_get L (j / 3) (by rw [← h.len]; omega)
  have hci := hc (j / 3) (by omega)
  rw [add_at]
  rcases (by omega : j = j / 3 * 3 ∨ j = j / 3 * 3 + 1 ∨ j = j / 3 * 3 + 2) with q | q | q
  · have e2 : off + j = off + j / 3 * 3 := by omega
    have e3 : (rcl L)[j]? = (rcl L)[j / 3 * 3]? := by rw [← q]
    rw [e2, hci.1, ← hi.1, ← e3, hu]
  · have e2 : off + j = off + j / 3 * 3 + 1 := by omega
    have e3 : (rcl L)[j]? = (rcl L)[j / 3 * 3 + 1]? := by rw [← q]
    rw [e2, hci.2.1, ← hi.2.1, ← e3, hu]
  · have e2 : off + j = off + j / 3 * 3 + 2 := by omega
    have e3 : (rcl L)[j]? = (rcl L)[j / 3 * 3 + 2]? := by rw [← q]
    rw [e2, hci.2.2, ← hi.2.2, ← e3, hu]
/-- Rows are appended to those of one's own. -/
theorem run_approws {w : World} (ty : TypeId) (base : Nat) (v : Value) (xs : List R3) (hown : Row w base v xs) (A : Option Addr) (m c : Nat) (ys : List R3) (hr : Rt w.heap.size w A m c ys) (hb : xs.length + m ≤ 1000000) (hbase : base ≤ w.heap.size) :
    ∃ v' w', (Builtin.append_ #[57, 57] ty #[v, .slice A m c]).run Tryd.prog w = .ok v' w' ∧ Row w' base v' (xs ++ ys) ∧ w.grownBy w' v.ownBlock ∧ (v'.ownBlock = v.ownBlock ∨ v'.ownBlock = some w.heap.size) := by
  obtain ⟨i0, hi, hz0, hz1, hz2⟩ := info_parts Tryd.infoRow6
  cases A with
  | none =>
    have hc0 := hr.nil rfl
    have hm0 : m = 0 := by have := hr.le; omega
    subst hm0 hc0
    obtain rfl : ys = [] := List.eq_nil_of_length_eq_zero hr.len.symm
    exact ⟨v, w, run_append_owned_none (P := Tryd.prog) (w := w) base 57 ty 89 i0 3 Tryd.underlying57 hi v xs.length (rcl xs) hown, by simpa using hown, ⟨rfl, rfl, rfl, Nat.le_refl _, fun _ _ _ => rfl⟩, .inl rfl⟩
  | some ad =>
    obtain ⟨v', w', hrun, h2, h3, _, h5⟩ := run_append_own_at (P := Tryd.prog) w base 57 ty 89 i0 (.agg #[.int .i64 0, .int .i64 0, .int .i64 0]) 3 24 Tryd.underlying57 hi hz0 hz1 hz2 rfl (by decide) v xs.length (rcl xs) hown ad m c (rcl ys) (by rw [rcl_length, hr.len]) (rcl_cells hr ad rfl) (rcl_one ys) (by unfold maxLen; omega) (by omega) hbase
    exact ⟨v', w', hrun, by unfold Row; rw [rcl_app, List.length_append, ← hr.len]; exact h2, h3, h5⟩
theorem app_rows {w : World} {ops : Array Oper} {rest : List Oper} {o : Oper} {a : Act} {Q : Exit → Act → World → Prop} (hgd : o.guard = none) (s x : Operand)
    (ho : o.op = .call { callee := .builtin .append, args := #[s, x], argTypes := #[57, 57] })
    (base : Nat) (v : Value) (xs : List R3) (hs : a.eval s = v) (hown : Row w base v xs)
    (A : Option Addr) (m c : Nat) (ys : List R3) (hx : a.eval x = .slice A m c) (hr : Rt w.heap.size w A m c ys) (hb : xs.length + m ≤ 1000000) (hbase : base ≤ w.heap.size)
    (h : ∀ A' c' w', Row w' base (.slice A' (xs ++ ys).length c') (xs ++ ys) → Below base w w' → w.grownBy w' v.ownBlock → ((Value.slice A' (xs ++ ys).length c').ownBlock = v.ownBlock ∨ (Value.slice A' (xs ++ ys).length c').ownBlock = some w.heap.size) → wpList Tryd.prog ops Q rest (a.put o.dst (.slice A' (xs ++ ys).length c')) w') : wpList Tryd.prog ops Q (o :: rest) a w := by
  obtain ⟨v', w', hrun, h1, h2, h3⟩ := run_approws o.type base v xs hown A m c ys hr hb hbase
  obtain ⟨A', c', rfl⟩ := h1.form
  refine wpList_plain hgd fun K hK => ?_
  unfold Oper.wp execOp
  simp only [ho, resolve, invoke, builtin, Sem.run_bind, Sem.run_pure, Result.andThen_ok, List.map_toArray, List.map_cons, List.map_nil, hs, hx, hrun]
  exact hK _ _ (h A' c' w' h1 (Below.grown (Below.refl _ _) h2 hbase (fun k hk => (hown.lt k hk).1)) h2 h3)
/-- One row, in a block of its own. -/
theorem Rt.one (w : World) (x y z : Int) : Rt (w.alloc (.cells #[.int .i64 x, .int .i64 y, .int .i64 z] 89)).heap.size (w.alloc (.cells #[.int .i64 x, .int .i64 y, .int .i64 z] 89)) (some ⟨w.heap.size, 0, none⟩) 1 1 [(x, y, z)] := by
  refine ⟨rfl, Nat.le_refl _, by unfold maxLen; omega, fun h => (by cases h), fun _ => ⟨w.heap.size, 0, rfl, by simp, fun j hj => ?_⟩⟩
  obtain rfl : j = 0 := by omega
  exact ⟨by simp [World.cell?_alloc_new], by simp [World.cell?_alloc_new], by simp [World.cell?_alloc_new]⟩

theorem rowkind {w : World} {base : Nat} {e : TypeId} {size : Nat} {v : Value} {n : Nat} {xs : List Value} (h : w.ownsRow base e size v n xs) : ∀ g, v.ownBlock = some g → ∃ c fz, w.heap[g]? = some (.cells c e fz) := by
  intro g hg
  rcases h.2 with ⟨q, _⟩ | ⟨g0, c0, cur, q, _, hh, _⟩
  · rw [q] at hg; cases hg
  · have : g = g0 := by rw [q] at hg; simpa [Value.ownBlock] using hg.symm
    subst this; exact ⟨cur, _, hh⟩
/-- The document's table lies in block rb, its rows at a slice. -/
structure RT (w : World) (rb : Nat) (A : Option Addr) (c : Nat) (R : List R3) : Prop where
  box : w.heap[rb]? = some (.cells #[.slice A R.length c] 59 (0, 0))
  rows : Rt w.heap.size w A R.length c R
  kind : ∀ a, A = some a → ∃ cs fz, w.heap[a.block]? = some (.cells cs 89 fz)
  few : R.length ≤ 100000
  plain : ∀ a, A = some a → ∃ g off, a = ⟨g, off, none⟩
theorem RT.same {w w' : World} {rb : Nat} {A : Option Addr} {c : Nat} {R : List R3} (h : RT w rb A c R) (hs : w.heap.size ≤ w'.heap.size) (hb : w'.heap[rb]? = w.heap[rb]?) (ha : ∀ a, A = some a → w'.heap[a.block]? = w.heap[a.block]?) : RT w' rb A c R :=
  ⟨by rw [hb]; exact h.box, (h.rows.same fun g _ ⟨off, e⟩ => ha _ e).raise hs, fun a e => by rw [ha a e]; exact h.kind a e, h.few, h.plain⟩
theorem RT.turn {F F' : Nat → Prop} {w w' : World} {rb : Nat} {A : Option Addr} {c : Nat} {R : List R3} (h : RT w rb A c R) (ht : Turn F F' w w') (h1 : ¬ F rb) (h2 : ∀ a, A = some a → ¬ F a.block) : RT w' rb A c R :=
  h.same ht.size (ht.block rb (lt_of_heap h.box) h1) (fun a e => by obtain ⟨cs, fz, hk⟩ := h.kind a e; exact ht.block _ (lt_of_heap hk) (h2 a e))
theorem RT.later {w w' : World} {rb : Nat} {A : Option Addr} {c : Nat} {R : List R3} (h : RT w rb A c R) (hb : Below w.heap.size w w') : RT w' rb A c R :=
  h.turn (Turn.ofBelow hb (fun _ => False)) (fun x => x) (fun _ _ x => x)
theorem RT.cells {w : World} {rb : Nat} {A : Option Addr} {c : Nat} {R : List R3} (h : RT w rb A c R) : w.cell? ⟨rb, 0, none⟩ = some (.slice A R.length c) ∧ w.frozen? ⟨rb, 0, none⟩ = false ∧ rb < w.heap.size :=
  ⟨by rw [cell_of_row w rb 0 _ _ _ h.box]; rfl, frozen_of_row w rb 0 _ _ h.box, lt_of_heap h.box⟩
theorem RT.new (w : World) : RT (w.alloc (.cells #[.slice none 0 0] 59)) w.heap.size none 0 [] :=
  ⟨heap_alloc_new w _, Rt.nothing _ _, fun a e => (by cases e), Nat.zero_le _, fun a e => (by cases e)⟩
theorem take_snoc3 (M : List R3) (j : Nat) (h : j < M.length) : M.take (j + 1) = M.take j ++ [M.getD j (0, 0, 0)] := by
  rw [List.take_succ_eq_append_getElem h, List.getD_eq_getElem?_getD, List.getElem?_eq_getElem h]; rfl
theorem tkn_len (R : List R3) (x : Int) : (tkn R x).length ≤ R.length := by
  unfold tkn
  rw [List.length_map]
  exact List.length_filter_le _ _
set_option maxHeartbeats 2000000 in
/-- The windows of a cell are told. -/
theorem r6taken_any (rb : Nat) (A : Option Addr) (c : Nat) (R : List R3) (x : Int) (w : World) (h : RT w rb A c R) :
    Calls Tryd.prog 39 #[.pointer (some ⟨rb, 0, none⟩), .int .i64 x] w fun e w' => ∃ A' c', e = .returned (.slice A' (tkn R x).length c') ∧ Wow w' w.heap.size (.slice A' (tkn R x).length c') (tkn R x) ∧ Below w.heap.size w w' := by
  have HR := Lib.hid h
  have hfew := h.few
  have hs := h.rows.size
  have hs1 := hs.1
  have hs2 := hs.2
  clear h hs
  go_enter Tryd.func39, Tryd.ntmps39
  go_wp2_with fail
  go_loopw [5, 6] (fun ov iv wr => ∃ (j : Nat) (O : List (Int × Int)) (A' : Option Addr) (c' : Nat), ov = .slice A' O.length c' ∧ iv = .int .i64 (j : Int) ∧ j ≤ R.length ∧ Hid (O = tkn (R.take j) x) ∧ Wow wr w.heap.size (.slice A' O.length c') O ∧ Below w.heap.size w wr) (fun _ iv _ => R.length - (intOf iv).toNat)
  case atStart => exact ⟨0, [], none, 0, rfl, rfl, Nat.zero_le _, Lib.hid rfl, Wow.nil _ _, Below.refl _ _⟩
  case round =>
    rename World => wr
    obtain ⟨j, O, A', c', rfl, rfl, hj, HI, ho, hb⟩ := hrel
    have HO := Lib.hid ho
    have HB := Lib.hid hb
    have HRL := Lib.hid (HR.out.later hb)
    obtain ⟨q0, q1, q2⟩ := HRL.out.cells
    have hOl : O.length ≤ 100000 := by
      have h1 := tkn_len (R.take j) x
      rw [List.length_take] at h1
      rw [HI.out]
      omega
    have hOs := ho.wt.size
    have hO1 := hOs.1
    have hO2 := hOs.2
    clear ho hb hOs
    by_cases hlj : j < R.length
    · obtain ⟨g, off, rfl, hg, hc⟩ := HRL.out.rows.cell (by omega)
      obtain ⟨k1, k2, k3⟩ := hc j hlj
      have HTS := Lib.hid (take_snoc3 R j hlj)
      have hjI : (j : Int) < (R.length : Int) := by omega
      clear hc
      generalize hp : R.getD j (0, 0, 0) = p at *
      obtain ⟨py, pa, pb⟩ := p
      clear hp
      simp only at k1 k2 k3
      by_cases he : py = x
      · have de : (py == x) = true := by rw [beq_iff_eq]; exact he
        have HN : Hid (O ++ [(pa, pb)] = tkn (R.take (j + 1)) x) := Lib.hid (by rw [HTS.out, tkn_app, ← HI.out]; simp [tkn, he])
        have HA5 := Lib.hid ((Below.refl wr.heap.size wr).alloc (Nat.le_refl _) (.cells #[.int .i64 pa, .int .i64 pb] 36))
        have HW5 := Lib.hid (Wt.one wr pa pb)
        have HS5 : Hid (w.heap.size ≤ (wr.alloc (.cells #[.int .i64 pa, .int .i64 pb] 36)).heap.size) := Lib.hid (Nat.le_trans HB.out.size HA5.out.size)
        clear he
        go_wp2_with (at_builtin; refine app_wins rfl _ _ rfl w.heap.size _ O rfl (HO.out.later HA5.out) (some ⟨wr.heap.size, 0, none⟩) 1 1 [(pa, pb)] rfl HW5.out (by omega) HS5.out ?_; intro A6 c6 w6 ho6 hb6 _ _; have HO6 := Lib.hid ho6; have HB6 := Lib.hid ((HB.out.trans (HA5.out.mono HB.out.size)).trans hb6); clear ho6 hb6)
        go_roundw
        case rel => exact ⟨j + 1, O ++ [(pa, pb)], A6, c6, by simp, by go_num, by omega, HN, HO6.out, HB6.out⟩
        case measure => simp [intOf]; omega
      · have de : (py == x) = false := by rw [beq_eq_false_iff_ne]; exact he
        have HN : Hid (O = tkn (R.take (j + 1)) x) := Lib.hid (by rw [HTS.out, tkn_app, ← HI.out]; simp [tkn, he])
        clear he
        go_wp2_with fail
        go_roundw
        case rel => exact ⟨j + 1, O, A', c', rfl, by go_num, by omega, HN, HO.out, HB.out⟩
        case measure => simp [intOf]; omega
    · obtain rfl : j = R.length := by omega
      have HE : Hid (O = tkn R x) := Lib.hid (by rw [HI.out, List.take_length])
      go_wp2_with fail
      go_ret
      refine ⟨A', c', by rw [HE.out]; rfl, ?_, HB.out⟩
      have := HO.out
      rw [HE.out] at this
      exact this
set_option maxHeartbeats 1000000 in
theorem r6right_any (a b : Int) (w : World) : Calls Tryd.prog 38 #[.agg #[.int .i64 a, .int .i64 b]] w fun e w' => e = .returned (.bool (rgt a b)) ∧ Below w.heap.size w w' := by
  obtain ⟨b0, b1, hb⟩ := win_box w a b
  have HB := Lib.hid hb
  clear hb
  unfold rgt
  by_cases h0 : 0 ≤ a
  · have d0 : decide (0 ≤ a) = true := decide_eq_true h0
    by_cases h1 : a < b
    · have d1 : decide (a < b) = true := decide_eq_true h1
      rw [d0, d1]
      go_enter Tryd.func38, Tryd.ntmps38
      go_wp2_with fail
      go_ret
      exact ⟨by first | rfl | simp, HB.out⟩
    · have d1 : decide (a < b) = false := decide_eq_false h1
      rw [d0, d1]
      go_enter Tryd.func38, Tryd.ntmps38
      go_wp2_with fail
      go_ret
      exact ⟨by first | rfl | simp, HB.out⟩
  · have d0 : decide (0 ≤ a) = false := decide_eq_false h0
    rw [d0]
    go_enter Tryd.func38, Tryd.ntmps38
    go_wp2_with fail
    go_ret
    exact ⟨by first | rfl | simp, HB.out⟩
end Go.Proofs.YtinkpeliinofoaaDoor.Wn
