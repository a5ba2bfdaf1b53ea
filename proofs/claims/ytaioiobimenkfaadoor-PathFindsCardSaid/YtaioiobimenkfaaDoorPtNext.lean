/-
  Layer 5: the steps out of a cell, asked once (next).
-/
import Derived.Test.YtaioiobimenkfaaDoorPtDel
import Derived.Deep.RegionHeld3
set_option linter.unusedVariables false
set_option maxRecDepth 100000
namespace Go.Proofs.YtaioiobimenkfaaDoor
open Go.RowKit Fl Pt

/-- A list lies at v: none, or in a block from base on. -/
def Ml (w : World) (base : Nat) (v : Value) (xs : List Nat) : Prop :=
  (v = .slice none 0 0 ∧ xs = []) ∨ ∃ g cap, v = .slice (some ⟨g, 0, none⟩) xs.length cap ∧ base ≤ g ∧ xs.length ≤ cap ∧ cap ≤ maxLen ∧ ∃ f, Cells g xs.length f w ∧ ∀ x, x < xs.length → f x = iv xs x
theorem Ml.same {w w' : World} {base : Nat} {v : Value} {xs : List Nat} (h : Ml w base v xs) (hs : w.heap.size ≤ w'.heap.size) (hb : ∀ k, v.ownBlock = some k → w'.heap[k]? = w.heap[k]?) : Ml w' base v xs := by
  rcases h with h | ⟨g, cap, rfl, h1, h2, h3, f, h4, h5⟩
  · exact .inl h
  · exact .inr ⟨g, cap, rfl, h1, h2, h3, f, h4.same hs (hb g rfl), h5⟩
theorem Ml.lt {w : World} {base : Nat} {v : Value} {xs : List Nat} (h : Ml w base v xs) : ∀ k, v.ownBlock = some k → base ≤ k ∧ k < w.heap.size := by
  rcases h with ⟨rfl, _⟩ | ⟨g, cap, rfl, h1, h2, h3, f, h4, h5⟩
  · intro k hk; cases hk
  · intro k hk; cases hk; exact ⟨h1, h4.1⟩
theorem Ml.il {w : World} {base : Nat} {v : Value} {xs : List Nat} (h : Ml w base v xs) : ∃ A n cap, v = .slice A n cap ∧ n = xs.length ∧ Il w.heap.size w A n cap (fun j => ((xs.getD j 0 : Nat) : Int)) := by
  rcases h with ⟨rfl, rfl⟩ | ⟨g, cap, rfl, h1, h2, h3, f, h4, h5⟩
  · exact ⟨none, 0, 0, rfl, rfl, Il.empty _ _ _⟩
  · exact ⟨_, _, _, rfl, rfl, h2, h3, fun e => by (simp at e), fun _ => ⟨g, 0, rfl, h4.1, fun j hj => by rw [Nat.zero_add, (h4.2 j hj).1, h5 j hj]; rfl⟩⟩

/-- A floor as the ways from a cell go over it, in three blocks; mv: the steps that were asked for. -/
structure Gd (w : World) (W H : Nat) (s : ByteArray) (a : Nat) (B : Nat → Bool) (base gl gs gt : Nat) (mv : Nat → Value) : Prop where
  lv : Cells gl s.size (fun x => .bool (outB (at_ s) a x)) w
  sh : Cells gs s.size (fun x => .bool (B x)) w
  tb : Cells gt s.size mv w
  bl : base ≤ gl
  bs : base ≤ gs
  bt : base ≤ gt
  n1 : gl ≠ gt
  n2 : gs ≠ gt
  mem : ∀ c, c < s.size → mv c = .slice none 0 0 ∨ (outB (at_ s) a c = true ∧ (mv c).ownBlock ≠ none ∧ (mv c).ownBlock ≠ some gt ∧ Ml w base (mv c) (nx5 W H (at_ s) a B c))
/-- Its blocks. -/
def GF (gl gs gt n : Nat) (mv : Nat → Value) : Nat → Prop := fun k => k = gl ∨ k = gs ∨ k = gt ∨ ∃ c, c < n ∧ (mv c).ownBlock = some k
theorem Gd.turn {w w' : World} {W H : Nat} {s : ByteArray} {a : Nat} {B : Nat → Bool} {base gl gs gt : Nat} {mv : Nat → Value} {F F' : Nat → Prop} (h : Gd w W H s a B base gl gs gt mv) (ht : Turn F F' w w')
    (hF : ∀ k, GF gl gs gt s.size mv k → ¬ F k) : Gd w' W H s a B base gl gs gt mv := by
  refine ⟨h.lv.turn ht (hF _ (.inl rfl)), h.sh.turn ht (hF _ (.inr (.inl rfl))), h.tb.turn ht (hF _ (.inr (.inr (.inl rfl)))), h.bl, h.bs, h.bt, h.n1, h.n2, fun c hc => ?_⟩
  rcases h.mem c hc with e | ⟨e1, e2, e3, e4⟩
  · exact .inl e
  · exact .inr ⟨e1, e2, e3, e4.same ht.size (fun k hk => ht.block k (e4.lt k hk).2 (hF k (.inr (.inr (.inr ⟨c, hc, hk⟩)))))⟩
theorem Gd.foot {w : World} {W H : Nat} {s : ByteArray} {a : Nat} {B : Nat → Bool} {base gl gs gt : Nat} {mv : Nat → Value} (h : Gd w W H s a B base gl gs gt mv) : ∀ k, GF gl gs gt s.size mv k → base ≤ k ∧ k < w.heap.size := by
  intro k hk
  rcases hk with rfl | rfl | rfl | ⟨c, hc, hk⟩
  · exact ⟨h.bl, h.lv.1⟩
  · exact ⟨h.bs, h.sh.1⟩
  · exact ⟨h.bt, h.tb.1⟩
  · rcases h.mem c hc with e | ⟨e1, e2, e3, e4⟩
    · rw [e] at hk; cases hk
    · exact e4.lt k hk
theorem Gd.later {w w' : World} {W H : Nat} {s : ByteArray} {a : Nat} {B : Nat → Bool} {base gl gs gt : Nat} {mv : Nat → Value} (h : Gd w W H s a B base gl gs gt mv) (hb : Below w.heap.size w w') : Gd w' W H s a B base gl gs gt mv :=
  h.turn (Turn.ofBelow hb (fun _ => False)) (fun _ _ h => h)
/-- Steps are kept. -/
theorem Gd.keep {w : World} {W H : Nat} {s : ByteArray} {a : Nat} {B : Nat → Bool} {base gl gs gt : Nat} {mv : Nat → Value} (h : Gd w W H s a B base gl gs gt mv) (c : Nat) (hc : c < s.size) (v : Value) (ho : outB (at_ s) a c = true) (hne : v.ownBlock ≠ none) (hgt : v.ownBlock ≠ some gt)
    (hm : Ml w base v (nx5 W H (at_ s) a B c)) : Gd (w.setCell ⟨gt, c, none⟩ v) W H s a B base gl gs gt (fun x => if x = c then v else mv x) := by
  have ht : Turn (fun k => k = gt) (fun k => k = gt) w (w.setCell ⟨gt, c, none⟩ v) := Turn.setCell w ⟨gt, c, none⟩ v rfl
  refine ⟨h.lv.turn ht h.n1, h.sh.turn ht h.n2, h.tb.put c v hc (fun x _ => rfl), h.bl, h.bs, h.bt, h.n1, h.n2, fun x hx => ?_⟩
  by_cases e : x = c
  · subst e
    rw [if_pos rfl]
    exact .inr ⟨ho, hne, hgt, hm.same ht.size (fun k hk => ht.block k (hm.lt k hk).2 (fun e => hgt (by rw [hk, e])))⟩
  · rw [if_neg e]
    rcases h.mem x hx with e | ⟨e1, e2, e3, e4⟩
    · exact .inl e
    · exact .inr ⟨e1, e2, e3, e4.same ht.size (fun k hk => ht.block k (e4.lt k hk).2 (fun e => e3 (by rw [hk, e])))⟩

/-- As a value. -/
def gv (W H : Nat) (s : ByteArray) (gl gs gt : Nat) : Value := .agg #[.int .i64 (W : Int), .int .i64 (H : Int), .string s, .slice (some ⟨gl, 0, none⟩) s.size s.size, .slice (some ⟨gs, 0, none⟩) s.size s.size, .slice (some ⟨gt, 0, none⟩) s.size s.size]
def NextTold (W H : Nat) (s : ByteArray) (a : Nat) (B : Nat → Bool) (base gl gs gt : Nat) (mv : Nat → Value) (c : Nat) (w : World) (e : Ending) (w' : World) : Prop :=
  ∃ A n cap mv', e = .returned (.slice A n cap) ∧ n = (nx5 W H (at_ s) a B c).length ∧ Ml w' base (.slice A n cap) (nx5 W H (at_ s) a B c) ∧ Gd w' W H s a B base gl gs gt mv' ∧ Turn (fun k => k = gt) (fun k => k = gt) w w' ∧
    (∀ k, GF gl gs gt s.size mv' k → GF gl gs gt s.size mv k ∨ w.heap.size ≤ k) ∧ ∀ k, (Value.slice A n cap).ownBlock = some k → GF gl gs gt s.size mv' k

/-- What is near to a cell that is no wall. -/
def NrTold (xs : List Nat) (w : World) (e : Ending) (w' : World) : Prop :=
  ∃ g n cap, e = .returned (.slice (some ⟨g, 0, none⟩) n cap) ∧ n = xs.length ∧ (1 ≤ n ∧ n ≤ 4) ∧ (n ≤ cap ∧ cap ≤ maxLen) ∧ Cells g n (iv xs) w' ∧ w.heap.size ≤ g ∧ Below w.heap.size w w'
theorem own_cells {w : World} {base g n cap : Nat} {xs : List Nat} (h : Own w base (.slice (some ⟨g, 0, none⟩) n cap) xs) (hn : n = xs.length) : Cells g n (iv xs) w := by
  subst hn
  refine ⟨(h.lt g rfl).2, fun x hx => ⟨?_, h.frozenAt x⟩⟩
  obtain ⟨g', e, _, hc⟩ := h.at x (by omega)
  obtain rfl : g = g' := by simpa using e
  exact hc
theorem nears_nr (W H c : Nat) (s : ByteArray) : nears (W : Int) (H : Int) s (c : Int) = nr W H (at_ s) c := rfl
theorem near_nr (W H c : Nat) (s : ByteArray) (w : World) (hR : Right (W : Int) (H : Int) s) (hc : c < s.size) (hz : at_ s c ≠ 35) :
    Calls Tryd.prog 20 #[.agg #[.int .i64 (W : Int), .int .i64 (H : Int), .string s], .int .i64 (c : Int)] w (NrTold (nr W H (at_ s) c) w) := by
  have h256 := rightLe hR
  have hOn : OnFloor (W : Int) (H : Int) s (c : Int) := ⟨hR, by unfold bAt; rw [if_pos (by omega)]; exact hz⟩
  obtain ⟨W', H', e1, e2, hS, hN⟩ := rightNat hR
  obtain rfl : W = W' := by omega
  obtain rfl : H = H' := by omega
  refine (near_any (W : Int) (H : Int) s (by unfold maxLen; omega) (c : Int) w).mono fun e w' ⟨A, n, cap, xs, h1, h2, h3, _, h5, h6⟩ => ?_
  obtain rfl := (h3 hOn).trans (nears_nr W H c s)
  have hne := near_some hS.w1 hN (by rw [← hS.sz]; exact hc) hz
  have hl : 1 ≤ (nr W H (at_ s) c).length := by
    rcases Nat.eq_zero_or_pos (nr W H (at_ s) c).length with e | e
    · exact absurd (List.eq_nil_of_length_eq_zero e) hne
    · exact e
  obtain ⟨g, rfl, _, _⟩ := h5.at 0 (by omega)
  have := h5.lt g rfl
  exact ⟨g, n, cap, h1, h2, ⟨by omega, by have := nr_len W H c (at_ s); omega⟩, h5.cap h2, own_cells h5 h2, by omega, h6⟩

/-- The ground's own box. -/
def Gx (G W H : Nat) (s : ByteArray) (gl gs gt : Nat) (w : World) : Prop :=
  w.heap[G]? = some (.cells #[.int .i64 (W : Int), .int .i64 (H : Int), .string s, .slice (some ⟨gl, 0, none⟩) s.size s.size, .slice (some ⟨gs, 0, none⟩) s.size s.size, .slice (some ⟨gt, 0, none⟩) s.size s.size] 53 (0, 0))
theorem Gx.cells {G W H : Nat} {s : ByteArray} {gl gs gt : Nat} {w : World} (h : Gx G W H s gl gs gt w) :
    w.cell? ⟨G, 0, none⟩ = some (.int .i64 (W : Int)) ∧ w.cell? ⟨G, 1, none⟩ = some (.int .i64 (H : Int)) ∧ w.cell? ⟨G, 2, none⟩ = some (.string s) ∧ w.cell? ⟨G, 3, none⟩ = some (.slice (some ⟨gl, 0, none⟩) s.size s.size) ∧
    w.cell? ⟨G, 4, none⟩ = some (.slice (some ⟨gs, 0, none⟩) s.size s.size) ∧ w.cell? ⟨G, 5, none⟩ = some (.slice (some ⟨gt, 0, none⟩) s.size s.size) :=
  ⟨by rw [cell_of_row w G 0 _ _ _ h]; rfl, by rw [cell_of_row w G 1 _ _ _ h]; rfl, by rw [cell_of_row w G 2 _ _ _ h]; rfl, by rw [cell_of_row w G 3 _ _ _ h]; rfl, by rw [cell_of_row w G 4 _ _ _ h]; rfl, by rw [cell_of_row w G 5 _ _ _ h]; rfl⟩
theorem Gx.lt {G W H : Nat} {s : ByteArray} {gl gs gt : Nat} {w : World} (h : Gx G W H s gl gs gt w) : G < w.heap.size := lt_of_heap h
theorem Gx.later {G W H : Nat} {s : ByteArray} {gl gs gt : Nat} {w w' : World} (h : Gx G W H s gl gs gt w) (hb : Below w.heap.size w w') : Gx G W H s gl gs gt w' := (hb.block G h.lt).trans h
theorem Gx.turn {G W H : Nat} {s : ByteArray} {gl gs gt : Nat} {w w' : World} {F F' : Nat → Prop} (h : Gx G W H s gl gs gt w) (ht : Turn F F' w w') (hF : ¬ F G) : Gx G W H s gl gs gt w' := (ht.block G h.lt hF).trans h

/-- Behind the call that tells what is near. -/
structure Ns (W H : Nat) (s : ByteArray) (a : Nat) (B : Nat → Bool) (base gl gs gt : Nat) (mv : Nat → Value) (w : World) (g n : Nat) (f : Nat → Value) (w2 : World) : Prop where
  box : Gx w.heap.size W H s gl gs gt w2
  gd : Gd w2 W H s a B base gl gs gt mv
  below : Below w.heap.size w w2
  foot : ∀ k, GF gl gs gt s.size mv k → k < w.heap.size
  row : Cells g n f w2
  new : w.heap.size < g
theorem near_state {W H : Nat} {s : ByteArray} {a : Nat} {B : Nat → Bool} {base gl gs gt : Nat} {mv : Nat → Value} {w w1 w2 : World} {g n : Nat} {f : Nat → Value} (h : Gd w W H s a B base gl gs gt mv) (hx : Gx w.heap.size W H s gl gs gt w1)
    (hb : Below w.heap.size w w1) (hb2 : Below w1.drew.heap.size w1.drew w2) (hg : w1.drew.heap.size ≤ g) (hc : Cells g n f w2) : Ns W H s a B base gl gs gt mv w g n f w2 := by
  have hb3 : Below w1.heap.size w1 w2 := (Below.refl w1.heap.size w1).drew.trans hb2
  have hlt := hx.lt
  have hg' : w1.heap.size ≤ g := hg
  exact ⟨hx.later hb3, (h.later hb).later hb3, hb.trans (hb3.mono hb.size), fun k hk => (h.foot k hk).2, hc, by omega⟩
theorem Ns.nil {W H : Nat} {s : ByteArray} {a : Nat} {B : Nat → Bool} {base gl gs gt : Nat} {mv : Nat → Value} {w : World} {g n : Nat} {f : Nat → Value} {w2 : World} (h : Ns W H s a B base gl gs gt mv w g n f w2) {c : Nat} (hm : mv c = .slice none 0 0) (hc : c < s.size) :
    w2.cell? ⟨gt, c, none⟩ = some (.slice none 0 0) := by rw [← hm]; exact (h.gd.tb.2 c hc).1
theorem Ns.free {W H : Nat} {s : ByteArray} {a : Nat} {B : Nat → Bool} {base gl gs gt : Nat} {mv : Nat → Value} {w : World} {g n : Nat} {f : Nat → Value} {w2 : World} (h : Ns W H s a B base gl gs gt mv w g n f w2) {c : Nat} (hc : c < s.size) :
    w2.frozen? ⟨gt, c, none⟩ = false := (h.gd.tb.2 c hc).2
theorem Ns.kept {W H : Nat} {s : ByteArray} {a : Nat} {B : Nat → Bool} {base gl gs gt : Nat} {mv : Nat → Value} {w : World} {g n : Nat} {f : Nat → Value} {w2 w3 : World} {ys : List Nat} (h : Ns W H s a B base gl gs gt mv w g n f w2) (ht : Turn (fun k => k = g) (fun k => k = g) w2 w3)
    (hc : ∃ f, Cells g n f w3 ∧ ∀ x, x < ys.length → f x = iv ys x) : ∃ f, Ns W H s a B base gl gs gt mv w g n f w3 ∧ ∀ x, x < ys.length → f x = iv ys x := by
  obtain ⟨f3, h1, h2⟩ := hc
  have hn := h.new
  have hb3 : Below w.heap.size w2 w3 := ht.below _ h.below.size (fun k hk => by omega)
  exact ⟨f3, ⟨h.box.turn ht (by omega), h.gd.turn ht (fun k hk e => by have := h.foot k hk; omega), h.below.trans hb3, h.foot, h1, h.new⟩, h2⟩
theorem pred_of {G W H : Nat} {s : ByteArray} {gl gs gt : Nat} {B : Nat → Bool} {wx : World} {xs : List Nat} (hx : Gx G W H s gl gs gt wx) (hs : Cells gs s.size (fun x => .bool (B x)) wx) (hN : s.size ≤ 256) (hl : ∀ y, y ∈ xs → y < s.size) : Pred G B xs wx :=
  fun y hy => shut_any G gs s.size y (B y) wx hN hx.cells.2.2.2.2.1 (hs.2 y (hl y hy)).1 (hl y hy)
theorem Ns.del {W H : Nat} {s : ByteArray} {a : Nat} {B : Nat → Bool} {base gl gs gt : Nat} {mv : Nat → Value} {w : World} {g n cap c : Nat} {w2 : World} (h : Ns W H s a B base gl gs gt mv w g n (iv (nr W H (at_ s) c)) w2) (hn : n = (nr W H (at_ s) c).length) (hl : 1 ≤ n ∧ n ≤ 4) (hcap : n ≤ cap ∧ cap ≤ maxLen)
    (h256 : s.size ≤ 256) (hR : Right (W : Int) (H : Int) s) (hc : c < s.size) :
    Calls Tryd.prog 52 #[.slice (some ⟨g, 0, none⟩) n cap, .func (.func 51) #[] #[.pointer (some ⟨w.heap.size, 0, none⟩)]] w2 (DelTold g n cap ((nr W H (at_ s) c).filter fun y => !B y) w2) := by
  obtain ⟨W', H', e1, e2, hS, hN⟩ := rightNat hR
  obtain rfl : W = W' := by omega
  obtain rfl : H = H' := by omega
  have hnw := h.new
  refine deleteFunc_any w.heap.size g cap n B _ w2 hn ⟨hl.1, by omega⟩ hcap h.row (fun wx ht => pred_of (h.box.turn ht (by omega)) (h.gd.sh.turn ht ?_) h256 (fun y hy => ?_))
  · intro e
    have := h.foot gs (.inr (.inl rfl))
    have e' : gs = g := e
    omega
  · rw [hS.sz]; exact nr_lt hS.w1 (by rw [← hS.sz]; exact hc) hy

theorem six_kept {w3 : World} {G gt c : Nat} (l : gt < G) {v0 v1 v2 v5 v6 : Value} (h0 : w3.cell? ⟨G, 0, none⟩ = some v0) (h1 : w3.cell? ⟨G, 1, none⟩ = some v1) (h2 : w3.cell? ⟨G, 2, none⟩ = some v2) (h5 : w3.cell? ⟨G, 5, none⟩ = some v5)
    (h6 : w3.cell? ⟨gt, c, none⟩ = some v6) (h7 : w3.frozen? ⟨gt, c, none⟩ = false) (u : Value) :
    (w3.setCell ⟨gt, c, none⟩ u).cell? ⟨G, 0, none⟩ = some v0 ∧ (w3.setCell ⟨gt, c, none⟩ u).cell? ⟨G, 1, none⟩ = some v1 ∧ (w3.setCell ⟨gt, c, none⟩ u).cell? ⟨G, 2, none⟩ = some v2 ∧ (w3.setCell ⟨gt, c, none⟩ u).cell? ⟨G, 5, none⟩ = some v5 ∧
    (∃ u', (w3.setCell ⟨gt, c, none⟩ u).cell? ⟨gt, c, none⟩ = some u') ∧ (w3.setCell ⟨gt, c, none⟩ u).frozen? ⟨gt, c, none⟩ = false := by
  have hne : ∀ o, (⟨gt, c, none⟩ : Addr) ≠ ⟨G, o, none⟩ := fun o e => absurd (congrArg Addr.block e) (Nat.ne_of_lt l)
  exact ⟨by rw [World.cell?_setCell_other (h := hne 0)]; exact h0, by rw [World.cell?_setCell_other (h := hne 1)]; exact h1, by rw [World.cell?_setCell_other (h := hne 2)]; exact h2, by rw [World.cell?_setCell_other (h := hne 5)]; exact h5,
    ⟨_, World.cell?_setCell_same w3 _ u h6⟩, by rw [World.frozen?_setCell]; exact h7⟩
theorem nil_is (w : World) : (binOp BinOp.eql 24 (.slice none 0 0) (.slice none 0 0)).run Tryd.prog w = .ok (.bool true) w := by kernel_rfl
theorem nil_not (w : World) (g n c : Nat) : (binOp BinOp.eql 24 (.slice (some ⟨g, 0, none⟩) n c) (.slice none 0 0)).run Tryd.prog w = .ok (.bool false) w := by kernel_rfl
set_option maxHeartbeats 2000000 in
theorem next_any (W H a : Nat) (s : ByteArray) (B : Nat → Bool) (base gl gs gt c : Nat) (mv : Nat → Value) (w : World) (hR : Right (W : Int) (H : Int) s) (hz : at_ s a ≠ 35) (hc : c < s.size) (hbase : base ≤ w.heap.size)
    (h : Gd w W H s a B base gl gs gt mv) :
    Calls Tryd.prog 29 #[.agg #[.int .i64 (W : Int), .int .i64 (H : Int), .string s, .slice (some ⟨gl, 0, none⟩) s.size s.size, .slice (some ⟨gs, 0, none⟩) s.size s.size, .slice (some ⟨gt, 0, none⟩) s.size s.size], .int .i64 (c : Int)] w (NextTold W H s a B base gl gs gt mv c w) := by
  have h256 := rightLe hR
  have k1 : w.cell? ⟨gl, c, none⟩ = some (.bool (outB (at_ s) a c)) := (h.lv.2 c hc).1
  have k2 := (h.tb.2 c hc).1
  have l1 := h.lv.1
  have l2 := h.tb.1
  have HG := Lib.hid h
  have HR := Lib.hid hR
  have HZ := Lib.hid hz
  have HBA := Lib.hid hbase
  clear h hR hz hbase
  cases ho : outB (at_ s) a c with
  | false =>
    have HO := Lib.hid ho
    have hm : mv c = .slice none 0 0 := by
      rcases HG.out.mem c hc with e | ⟨e, _⟩
      · exact e
      · rw [ho] at e; cases e
    rw [ho] at k1
    rw [hm] at k2
    have HM := Lib.hid hm
    clear ho hm
    go_enter Tryd.func29, Tryd.ntmps29
    go_wp2
    go_ret
    have hb := (Below.refl w.heap.size w).alloc (Nat.le_refl _) (.cells #[.int .i64 (W : Int), .int .i64 (H : Int), .string s, .slice (some ⟨gl, 0, none⟩) s.size s.size, .slice (some ⟨gs, 0, none⟩) s.size s.size, .slice (some ⟨gt, 0, none⟩) s.size s.size] 53)
    exact ⟨none, 0, 0, mv, rfl, by rw [nx5_no HO.out]; rfl, .inl ⟨rfl, nx5_no HO.out⟩, HG.out.later hb, Turn.ofBelow hb _, fun k hk => .inl hk, fun k hk => by cases hk⟩
  | true =>
    have HO := Lib.hid ho
    rw [ho] at k1
    clear ho
    rcases HG.out.mem c hc with hm | ⟨_, hm1, hm2, hm3⟩
    · have hzc : at_ s c ≠ 35 := by
        rcases outB_iff.1 HO.out with e | e
        · rw [e]; exact HZ.out
        · intro e2; rw [e2] at e; revert e; decide
      have HNR := Lib.hid (fun wx => near_nr W H c s wx HR.out hc hzc)
      have k3 := (HG.out.tb.2 c hc).2
      rw [hm] at k2
      have HM := Lib.hid hm
      have HX1 : Hid (Gx w.heap.size W H s gl gs gt (w.alloc (.cells #[.int .i64 (W : Int), .int .i64 (H : Int), .string s, .slice (some ⟨gl, 0, none⟩) s.size s.size, .slice (some ⟨gs, 0, none⟩) s.size s.size, .slice (some ⟨gt, 0, none⟩) s.size s.size] 53))) := Lib.hid (heap_alloc_new w _)
      have HB1 : Hid (Below w.heap.size w (w.alloc (.cells #[.int .i64 (W : Int), .int .i64 (H : Int), .string s, .slice (some ⟨gl, 0, none⟩) s.size s.size, .slice (some ⟨gs, 0, none⟩) s.size s.size, .slice (some ⟨gt, 0, none⟩) s.size s.size] 53))) := Lib.hid ((Below.refl w.heap.size w).alloc (Nat.le_refl _) _)
      have HSZ : Hid ((w.alloc (.cells #[.int .i64 (W : Int), .int .i64 (H : Int), .string s, .slice (some ⟨gl, 0, none⟩) s.size s.size, .slice (some ⟨gs, 0, none⟩) s.size s.size, .slice (some ⟨gt, 0, none⟩) s.size s.size] 53)).heap.size = w.heap.size + 1) := Lib.hid (by simp)
      clear hm hzc
      have nl := fun wx => nil_is wx
      go_enter Tryd.func29, Tryd.ntmps29
      go_wp2_with fail
      have k4 := (HB1.out.frozen (p := ⟨gt, c, none⟩) l2).trans k3
      go_region_held3 (fun w' => w'.cell? ⟨w.heap.size, 0, none⟩ = some (.int .i64 (W : Int)) ∧ w'.cell? ⟨w.heap.size, 1, none⟩ = some (.int .i64 (H : Int)) ∧ w'.cell? ⟨w.heap.size, 2, none⟩ = some (.string s) ∧ w'.cell? ⟨w.heap.size, 5, none⟩ = some (.slice (some ⟨gt, 0, none⟩) s.size s.size) ∧ (∃ u, w'.cell? ⟨gt, c, none⟩ = some u) ∧ w'.frozen? ⟨gt, c, none⟩ = false) (first | exact six_kept l2 e0 e1 e2 e5 e6 e7 _ | go_keep)
        ((first
          | (go_at_call 20; refine (HNR.out _).mono ?_; rintro e w2 ⟨g2, n2, cap2, rfl, hn2, hl2, hcap2, hc2, hg2, hb2⟩; have HS2 := Lib.hid (near_state HG.out HX1.out HB1.out hb2 hg2 hc2); have HN2 := Lib.hid hn2; have HL2 := Lib.hid hl2; have HC2 := Lib.hid hcap2; clear hn2 hl2 hcap2 hc2 hg2 hb2; have e0 := HS2.out.box.cells.1; have e1 := HS2.out.box.cells.2.1; have e2 := HS2.out.box.cells.2.2.1; have e5 := HS2.out.box.cells.2.2.2.2.2; have e6 := HS2.out.nil HM.out hc; have e7 := HS2.out.free hc)
          | (go_at_call 52; refine (HS2.out.del HN2.out HL2.out HC2.out h256 HR.out hc).mono ?_; rintro e w3 ⟨rfl, hl3, hc3, ht3⟩; have HT3 := Lib.hid ht3; obtain ⟨f3, hs3, hf3⟩ := HS2.out.kept ht3 hc3; have HS3 := Lib.hid hs3; have HF3 := Lib.hid hf3; have HL3 := Lib.hid hl3; clear hl3 hc3 ht3 hs3 hf3; have e0 := HS3.out.box.cells.1; have e1 := HS3.out.box.cells.2.1; have e2 := HS3.out.box.cells.2.2.1; have e5 := HS3.out.box.cells.2.2.2.2.2; have e6 := HS3.out.nil HM.out hc; have e7 := HS3.out.free hc)))
      have HEQ := Lib.hid (nx5_yes (W := W) (H := H) (B := B) HO.out)
      have HNL : Hid ((nx5 W H (at_ s) a B c).length ≤ n2) := Lib.hid (by rw [HEQ.out]; exact HL3.out)
      have HF4 : Hid (∀ x, x < (nx5 W H (at_ s) a B c).length → f3 x = iv (nx5 W H (at_ s) a B c) x) := Lib.hid (by rw [HEQ.out]; exact HF3.out)
      rw [← HEQ.out]
      have HML : Hid (Ml w3 base (.slice (some ⟨g2, 0, none⟩) (nx5 W H (at_ s) a B c).length cap2) (nx5 W H (at_ s) a B c)) := Lib.hid (.inr ⟨g2, cap2, rfl, Nat.le_trans HBA.out (Nat.le_of_lt HS3.out.new), Nat.le_trans HNL.out HC2.out.1, HC2.out.2, f3, HS3.out.row.cut HNL.out, HF4.out⟩)
      have HNG : Hid (g2 ≠ gt) := Lib.hid (by have := HS3.out.new; omega)
      have HKP := Lib.hid (HS3.out.gd.keep c hc _ HO.out (fun e => by cases e) (fun e => HNG.out (by injection e)) HML.out)
      have HFT := Lib.hid HS3.out.foot
      have HNW := Lib.hid HS3.out.new
      have HBL := Lib.hid HS3.out.below
      obtain ⟨m, hm⟩ : ∃ m, m = (nx5 W H (at_ s) a B c).length := ⟨_, rfl⟩
      rw [← hm] at HML HKP ⊢
      have HMM := Lib.hid hm
      have r5 := (six_kept l2 e0 e1 e2 e5 e6 e7 (.slice (some ⟨g2, 0, none⟩) m cap2)).2.2.2.1
      have r6 := World.cell?_setCell_same w3 ⟨gt, c, none⟩ (.slice (some ⟨g2, 0, none⟩) m cap2) e6
      have HTU : Hid (Turn (fun k => k = gt) (fun k => k = gt) w3 (w3.setCell ⟨gt, c, none⟩ (.slice (some ⟨g2, 0, none⟩) m cap2))) := Lib.hid (Turn.setCell w3 ⟨gt, c, none⟩ _ rfl)
      clear e0 e1 e2 e5 e6 e7 hm k1 k2 k3 k4 nl
      generalize w3.setCell ⟨gt, c, none⟩ (.slice (some ⟨g2, 0, none⟩) m cap2) = w4 at *
      go_wp2_with fail
      go_ret
      refine ⟨_, m, cap2, _, rfl, HMM.out, HML.out.same HTU.out.size (fun k hk => HTU.out.block k (HML.out.lt k hk).2 (fun e => HNG.out ?_)), HKP.out, (Turn.ofBelow HBL.out _).trans HTU.out, fun k hk => ?_, fun k hk => .inr (.inr (.inr ⟨c, hc, ?_⟩))⟩
      · simp only [Value.ownBlock, Option.some.injEq] at hk
        rw [hk]; exact e
      · rcases hk with h | h | h | ⟨x, hx, h⟩
        · exact .inl (.inl h)
        · exact .inl (.inr (.inl h))
        · exact .inl (.inr (.inr (.inl h)))
        · have h : (if x = c then Value.slice (some ⟨g2, 0, none⟩) m cap2 else mv x).ownBlock = some k := h
          by_cases e : x = c
          · rw [if_pos e] at h
            simp only [Value.ownBlock, Option.some.injEq] at h
            exact .inr (by have := HNW.out; omega)
          · rw [if_neg e] at h
            exact .inl (.inr (.inr (.inr ⟨x, hx, h⟩)))
      · show (if c = c then Value.slice (some ⟨g2, 0, none⟩) m cap2 else mv c).ownBlock = some k
        rw [if_pos rfl]; exact hk
    · obtain ⟨hv, _⟩ | ⟨g, cap, hv, q1, q2, q3, q4⟩ := hm3
      · rw [hv] at hm1; exact absurd rfl hm1
      · have HM := Lib.hid hv
        have HQ : Hid (Ml w base (.slice (some ⟨g, 0, none⟩) (nx5 W H (at_ s) a B c).length cap) (nx5 W H (at_ s) a B c)) := Lib.hid (.inr ⟨g, cap, rfl, q1, q2, q3, q4⟩)
        rw [hv] at k2
        obtain ⟨n, hn⟩ : ∃ n, n = (nx5 W H (at_ s) a B c).length := ⟨_, rfl⟩
        rw [← hn] at k2 HM HQ
        have HN := Lib.hid hn
        clear hv hm1 hm2 q1 q2 q3 q4 hn
        have nl := fun wx => nil_not wx g n cap
        go_enter Tryd.func29, Tryd.ntmps29
        go_wp2
        go_ret
        have hb := (Below.refl w.heap.size w).alloc (Nat.le_refl _) (.cells #[.int .i64 (W : Int), .int .i64 (H : Int), .string s, .slice (some ⟨gl, 0, none⟩) s.size s.size, .slice (some ⟨gs, 0, none⟩) s.size s.size, .slice (some ⟨gt, 0, none⟩) s.size s.size] 53)
        have hml := HQ.out.same hb.size (fun k hk => hb.block k (HQ.out.lt k hk).2)
        exact ⟨_, n, cap, mv, rfl, HN.out, hml, HG.out.later hb, Turn.ofBelow hb _, fun k hk => .inl hk, fun k hk => .inr (.inr (.inr ⟨c, hc, by rw [HM.out]; exact hk⟩))⟩
end Go.Proofs.YtaioiobimenkfaaDoor
