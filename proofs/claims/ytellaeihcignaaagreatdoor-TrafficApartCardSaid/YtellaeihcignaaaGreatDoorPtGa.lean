/-
  Layer 5: what it asks of the library: Contains, Repeat, DeleteFunc.
  Layer 5: the cells that are not blocked (DeleteFunc).
  Layer 5: the steps out of a cell, asked once (next).
  Layer 5: stands, groundOf.
-/
import Derived.Test.YtellaeihcignaaaGreatDoorPtA
import Derived.Test.YtellaeihcignaaaGreatDoorPtLay
import Derived.Laws.CopyOwn
import Derived.Deep.RegionLaw
import Derived.Lib.SliceRun
import Derived.Shelf.Abstract
import Derived.Deep.RegionHeld3
set_option linter.unusedVariables false
set_option maxRecDepth 100000
section
namespace Go.Proofs.YtellaeihcignaaaGreatDoor
open Go.RowKit Fl Pt


/-- Whether a number is in a list. -/
theorem contains_any (B : Nat) (A : Option Addr) (n cap : Nat) (f : Nat → Int) (x : Int) (w : World) (h : Il B w A n cap f) :
    Calls Tryz.prog 102 #[.slice A n cap, .int .i64 x] w fun e w' => e = .returned (.bool ((il f n).contains x)) ∧ w = w' := by
  by_cases h0 : 0 < n
  · obtain ⟨g, off, rfl, _, hc⟩ := h.cell h0
    refine (Any.slices_Contains_int Tryz.lays107 g off n cap (il f n) x w (by simp [il]) h.size (fun j hj => ?_)).mono fun e w' ⟨h1, h2⟩ => ⟨?_, h2.symm⟩
    · have hj' : j < n := by simpa [il] using hj
      rw [hc j hj']
      simp [il, List.getD, hj']
    · rw [h1, List.take_of_length_le (by simp [il])]
  · obtain rfl : n = 0 := by omega
    refine (Any.slices_Contains_int_empty Tryz.lays107 A cap x w).mono fun e w' ⟨h1, h2⟩ => ⟨by rw [h1]; rfl, h2.symm⟩

/-- So many of a list are the same number, then zeros. -/
def rep (N k : Nat) (v : Int) : List Value := List.replicate k (.int .i64 v) ++ List.replicate (N - k) (.int .i64 0)
theorem rep_length (N k : Nat) (v : Int) (h : k ≤ N) : (rep N k v).length = N := by simp [rep]; omega
theorem rep_splice (N k m : Nat) (v : Int) (h : k + m ≤ N) : splice (rep N k v) k (List.replicate m (.int .i64 v)) = rep N (k + m) v := by
  unfold splice rep
  rw [List.take_append_of_le_length (by simp), List.take_of_length_le (by simp)]
  simp only [List.length_replicate]
  rw [List.drop_append, List.drop_of_length_le (by simp)]
  simp only [List.length_replicate, List.nil_append, List.drop_replicate]
  rw [← List.append_assoc, List.replicate_append_replicate]
  congr 2
  omega
def RepTold (N : Nat) (v : Int) (w : World) (e : Ending) (w' : World) : Prop :=
  ∃ g, e = .returned (.slice (some ⟨g, 0, none⟩) N N) ∧ Cells g N (fun _ => .int .i64 v) w' ∧ w.heap.size ≤ g ∧ Below w.heap.size w w'
theorem sizeInt : (Tryz.prog.info? 3).map (·.size) = some 1 := by kernel_rfl
theorem cells_row {w : World} {g n : Nat} {l : List Value} {t : TypeId} (h : w.heap[g]? = some (.cells l.toArray t (0, 0))) (hn : l.length = n) : Cells g n (fun x => l.getD x undef) w := by
  refine ⟨lt_of_heap h, fun x hx => ⟨?_, frozen_of_row w g x _ _ h⟩⟩
  rw [cell_of_row w g x _ _ _ h]
  simp [List.getD, List.getElem?_eq_getElem (show x < l.length by omega)]

theorem made_row {w : World} {base g n : Nat} {e : TypeId} {u : Value} (hu : u.cells = #[u]) (h : w.ownsRow base e 1 (.slice (some ⟨g, 0, none⟩) n n) n (madeCells u.cells (n * 1)).toList) : w.heap[g]? = some (.cells (List.replicate n u).toArray e (0, 0)) := by
  rcases h.2 with ⟨e1, _⟩ | ⟨g', c, cur, e1, _, hh, _, _, hs, ht⟩
  · cases e1
  · simp only [Value.slice.injEq, Option.some.injEq, Addr.mk.injEq, and_true, true_and] at e1
    obtain ⟨rfl, rfl⟩ := e1
    rw [hh]
    congr 2
    have h1 : cur.toList = (madeCells u.cells (n * 1)).toList := by rw [← ht, List.take_of_length_le (by simp [hs])]
    have h2 : (madeCells u.cells (n * 1)).toList = List.replicate n u := by
      rw [hu]
      apply List.ext_getElem?
      intro i
      simp only [madeCells, Array.getElem?_toList, List.getElem?_replicate]
      by_cases hi : i < n
      · simp [hi, Nat.mod_one]
      · simp [hi]
    rw [← h2, ← h1]

theorem rep_src {wr : World} {g N k m : Nat} {v : Int} (h : wr.heap[g]? = some (.cells (rep N k v).toArray 3 (0, 0))) (hkN : k ≤ N) (hm : m ≤ k) :
    0 < (List.replicate m (Value.int .i64 v)).length → some (⟨g, k, none⟩ : Addr) = some ⟨g, k, none⟩ ∧ ∃ ad, some (⟨g, 0, none⟩ : Addr) = some ad ∧ ∀ j u, (List.replicate m (Value.int .i64 v))[j]? = some u → wr.drew.cell? (ad.add j) = some u := fun _ => ⟨rfl, _, rfl, fun j u hj => by
  have hjm : j < m := by
    have := (List.getElem?_eq_some_iff.1 hj).1; simpa using this
  have : u = .int .i64 v := by simp [hjm] at hj; exact hj.symm
  subst this
  rw [plain_add, Nat.zero_add]
  have := ((cells_row h (rep_length N k v hkN)).2 j (by omega)).1
  refine this.trans ?_
  simp [rep, List.getD, List.getElem?_append_left, (show j < k by omega)]⟩

end Go.Proofs.YtellaeihcignaaaGreatDoor
end

section
namespace Go.Proofs.YtellaeihcignaaaGreatDoor
open Go.RowKit Fl Pt


def iv (xs : List Nat) (x : Nat) : Value := .int .i64 ((xs.getD x 0 : Nat) : Int)

/-- The first of those that are so, or -1. -/
def IdxTold (P : Nat → Bool) (xs : List Nat) (w : World) (e : Ending) (w' : World) : Prop :=
  w = w' ∧ ((e = .returned (.int .i64 (-1)) ∧ ∀ j, j < xs.length → P (xs.getD j 0) = false) ∨ ∃ i : Nat, e = .returned (.int .i64 (i : Int)) ∧ i < xs.length ∧ P (xs.getD i 0) = true ∧ ∀ j, j < i → P (xs.getD j 0) = false)


/-- Those of the first so many that stay. -/
def kp (P : Nat → Bool) (xs : List Nat) (j : Nat) : List Nat := (xs.take j).filter fun y => !P y
theorem kp_succ {P : Nat → Bool} {xs : List Nat} {j : Nat} (h : j < xs.length) : kp P xs (j + 1) = kp P xs j ++ if P (xs.getD j 0) = true then [] else [xs.getD j 0] := by
  unfold kp
  rw [List.take_succ_eq_append_getElem h, List.filter_append, List.getD, List.getElem?_eq_getElem h]
  cases e : P xs[j] <;> simp [e]
theorem kp_le (P : Nat → Bool) (xs : List Nat) (j : Nat) : (kp P xs j).length ≤ j := Nat.le_trans (List.length_filter_le _ _) (List.length_take_le _ _)
theorem kp_all {P : Nat → Bool} {xs : List Nat} {j : Nat} (h : ∀ i, i < j → P (xs.getD i 0) = false) (hj : j ≤ xs.length) : kp P xs j = xs.take j := by
  unfold kp
  rw [List.filter_eq_self]
  intro y hy
  obtain ⟨i, hi, rfl⟩ := List.getElem_of_mem hy
  have hi' : i < j := by simp at hi; omega
  have := h i hi'
  rw [List.getD, List.getElem?_eq_getElem (by omega : i < xs.length)] at this
  simpa using this
theorem kp_full (P : Nat → Bool) (xs : List Nat) : kp P xs xs.length = xs.filter fun y => !P y := by unfold kp; rw [List.take_length]
/-- What has become of the list's block. -/
structure Kept (g n : Nat) (P : Nat → Bool) (xs : List Nat) (i j : Nat) (w wr : World) : Prop where
  cnt : i = (kp P xs j).length
  lt : i < j
  turn : Turn (fun k => k = g) (fun k => k = g) w wr
  cells : ∃ f, Cells g n f wr ∧ (∀ x, x < i → f x = iv (kp P xs j) x) ∧ ∀ x, j ≤ x → x < n → f x = iv xs x
theorem Kept.skip {g n : Nat} {P : Nat → Bool} {xs : List Nat} {i j : Nat} {w wr : World} (h : Kept g n P xs i j w wr) (hj : j < xs.length) (hp : P (xs.getD j 0) = true) : Kept g n P xs i (j + 1) w wr := by
  obtain ⟨h1, h2, h3, f, h4, h5, h6⟩ := h
  have e : kp P xs (j + 1) = kp P xs j := by rw [kp_succ hj, if_pos hp, List.append_nil]
  exact ⟨by rw [e]; exact h1, by omega, h3, f, h4, by rw [e]; exact h5, fun x hx hn => h6 x (by omega) hn⟩
theorem Kept.put {g n : Nat} {P : Nat → Bool} {xs : List Nat} {i j : Nat} {w wr : World} (h : Kept g n P xs i j w wr) (hn : n = xs.length) (hj : j < xs.length) (hp : P (xs.getD j 0) = false) : Kept g n P xs (i + 1) (j + 1) w (wr.setCell ⟨g, i, none⟩ (.int .i64 ((xs.getD j 0 : Nat) : Int))) := by
  obtain ⟨h1, h2, h3, f, h4, h5, h6⟩ := h
  have e : kp P xs (j + 1) = kp P xs j ++ [xs.getD j 0] := by rw [kp_succ hj, if_neg (by rw [hp]; simp)]
  refine ⟨by rw [e, List.length_append, ← h1]; rfl, by omega, h3.put _ rfl, fun x => if x = i then .int .i64 ((xs.getD j 0 : Nat) : Int) else f x, h4.put i _ (by omega) (fun x _ => rfl), fun x hx => ?_, fun x hx hxn => ?_⟩
  · show (if x = i then _ else f x) = _
    unfold iv
    rw [e]
    by_cases ex : x = i
    · subst ex
      rw [if_pos rfl, h1]
      congr 2
      simp [List.getD]
    · rw [if_neg ex, h5 x (by omega)]
      unfold iv
      congr 2
      rw [List.getD, List.getD, List.getElem?_append_left (by omega)]
  · show (if x = i then _ else f x) = _
    rw [if_neg (by omega), h6 x (by omega) hxn]

/-- Those that are not so, in the block of the list. -/
def DelTold (g n cap : Nat) (ys : List Nat) (w : World) (e : Ending) (w' : World) : Prop :=
  e = .returned (.slice (some ⟨g, 0, none⟩) ys.length cap) ∧ ys.length ≤ n ∧ (∃ f, Cells g n f w' ∧ ∀ x, x < ys.length → f x = iv ys x) ∧ Turn (fun k => k = g) (fun k => k = g) w w'

theorem Cells.puts {b n : Nat} : ∀ (vs : List Value) (o : Nat) {f : Nat → Value} {w : World}, Cells b n f w → o + vs.length ≤ n → ∃ f', Cells b n f' (w.setCells b o vs) ∧ ∀ x, x < o → f' x = f x
  | [], o, f, w, h, _ => ⟨f, h, fun _ _ => rfl⟩
  | v :: vs, o, f, w, h, hl => by
    simp only [List.length_cons] at hl
    obtain ⟨f', h1, h2⟩ := (h.put o v (by omega) (g := fun x => if x = o then v else f x) (fun _ _ => rfl)).puts vs (o + 1) (by omega)
    exact ⟨f', h1, fun x hx => by rw [h2 x (by omega)]; show (if x = o then v else f x) = _; rw [if_neg (by omega)]⟩
theorem turn_setCells (b : Nat) : ∀ (vs : List Value) (o : Nat) (w : World), Turn (fun k => k = b) (fun k => k = b) w (w.setCells b o vs)
  | [], _, _ => Turn.refl _ _
  | v :: vs, o, w => (Turn.setCell (F := fun k => k = b) w ⟨b, o, none⟩ v rfl).trans (turn_setCells b vs (o + 1) _)

theorem zero_int (w : World) : (zeroValue 3).run Tryz.prog w = .ok (.int .i64 0) w := by kernel_rfl
end Go.Proofs.YtellaeihcignaaaGreatDoor
end

section
namespace Go.Proofs.YtellaeihcignaaaGreatDoor
open Go.RowKit Fl Pt

/-- A list lies at v: none, or in a block from base on. -/
def Ml (w : World) (base : Nat) (v : Value) (xs : List Nat) : Prop :=
  (v = .slice none 0 0 ∧ xs = []) ∨ ∃ g cap, v = .slice (some ⟨g, 0, none⟩) xs.length cap ∧ base ≤ g ∧ xs.length ≤ cap ∧ cap ≤ maxLen ∧ ∃ f, Cells g xs.length f w ∧ ∀ x, x < xs.length → f x = iv xs x
theorem Ml.same {w w' : World} {base : Nat} {v : Value} {xs : List Nat} (h : Ml w base v xs) (hs : w.heap.size ≤ w'.heap.size) (hb : ∀ k, v.ownBlock = some k → w'.heap[k]? = w.heap[k]?) : Ml w' base v xs := by
  rcases h with h | ⟨g, cap, rfl, h1, h2, h3, f, h4, h5⟩
  · exact .inl h
  · exact .inr ⟨g, cap, rfl, h1, h2, h3, f, h4.same hs (hb g rfl), h5⟩
theorem Ml.lt {w : World} {base : Nat} {v : Value} {xs : List Nat} (h : Ml w base v xs) : ∀ k, v.ownBlock = some k → base ≤ k ∧ k < w.heap.size := by
  rcases h with ⟨rfl, _⟩ | ⟨g, cap, rfl, h1, h2, h3, f, h4, h5⟩
  · intro k hk; cases hk
  · intro k hk; cases hk; exact ⟨h1, h4.1⟩
theorem Ml.il {w : World} {base : Nat} {v : Value} {xs : List Nat} (h : Ml w base v xs) : ∃ A n cap, v = .slice A n cap ∧ n = xs.length ∧ Il w.heap.size w A n cap (fun j => ((xs.getD j 0 : Nat) : Int)) := by
  rcases h with ⟨rfl, rfl⟩ | ⟨g, cap, rfl, h1, h2, h3, f, h4, h5⟩
  · exact ⟨none, 0, 0, rfl, rfl, Il.empty _ _ _⟩
  · exact ⟨_, _, _, rfl, rfl, h2, h3, fun e => by (simp at e), fun _ => ⟨g, 0, rfl, h4.1, fun j hj => by rw [Nat.zero_add, (h4.2 j hj).1, h5 j hj]; rfl⟩⟩

/-- A floor as the ways from a cell go over it, in three blocks; mv: the steps that were asked for. -/
structure Gd (w : World) (W H : Nat) (s : ByteArray) (a : Nat) (B : Nat → Bool) (base gl gs gt : Nat) (mv : Nat → Value) : Prop where
  lv : Cells gl s.size (fun x => .bool (outB (at_ s) a x)) w
  sh : Cells gs s.size (fun x => .bool (B x)) w
  tb : Cells gt s.size mv w
  bl : base ≤ gl
  bs : base ≤ gs
  bt : base ≤ gt
  n1 : gl ≠ gt
  n2 : gs ≠ gt
  mem : ∀ c, c < s.size → mv c = .slice none 0 0 ∨ (outB (at_ s) a c = true ∧ (mv c).ownBlock ≠ none ∧ (mv c).ownBlock ≠ some gt ∧ Ml w base (mv c) (nx5 W H (at_ s) a B c))
/-- Its blocks. -/
def GF (gl gs gt n : Nat) (mv : Nat → Value) : Nat → Prop := fun k => k = gl ∨ k = gs ∨ k = gt ∨ ∃ c, c < n ∧ (mv c).ownBlock = some k
theorem Gd.turn {w w' : World} {W H : Nat} {s : ByteArray} {a : Nat} {B : Nat → Bool} {base gl gs gt : Nat} {mv : Nat → Value} {F F' : Nat → Prop} (h : Gd w W H s a B base gl gs gt mv) (ht : Turn F F' w w')
    (hF : ∀ k, GF gl gs gt s.size mv k → ¬ F k) : Gd w' W H s a B base gl gs gt mv := by
  refine ⟨h.lv.turn ht (hF _ (.inl rfl)), h.sh.turn ht (hF _ (.inr (.inl rfl))), h.tb.turn ht (hF _ (.inr (.inr (.inl rfl)))), h.bl, h.bs, h.bt, h.n1, h.n2, fun c hc => ?_⟩
  rcases h.mem c hc with e | ⟨e1, e2, e3, e4⟩
  · exact .inl e
  · exact .inr ⟨e1, e2, e3, e4.same ht.size (fun k hk => ht.block k (e4.lt k hk).2 (hF k (.inr (.inr (.inr ⟨c, hc, hk⟩)))))⟩
theorem Gd.foot {w : World} {W H : Nat} {s : ByteArray} {a : Nat} {B : Nat → Bool} {base gl gs gt : Nat} {mv : Nat → Value} (h : Gd w W H s a B base gl gs gt mv) : ∀ k, GF gl gs gt s.size mv k → base ≤ k ∧ k < w.heap.size := by
  intro k hk
  rcases hk with rfl | rfl | rfl | ⟨c, hc, hk⟩
  · exact ⟨h.bl, h.lv.1⟩
  · exact ⟨h.bs, h.sh.1⟩
  · exact ⟨h.bt, h.tb.1⟩
  · rcases h.mem c hc with e | ⟨e1, e2, e3, e4⟩
    · rw [e] at hk; cases hk
    · exact e4.lt k hk
theorem Gd.later {w w' : World} {W H : Nat} {s : ByteArray} {a : Nat} {B : Nat → Bool} {base gl gs gt : Nat} {mv : Nat → Value} (h : Gd w W H s a B base gl gs gt mv) (hb : Below w.heap.size w w') : Gd w' W H s a B base gl gs gt mv :=
  h.turn (Turn.ofBelow hb (fun _ => False)) (fun _ _ h => h)
/-- Steps are kept. -/
theorem Gd.keep {w : World} {W H : Nat} {s : ByteArray} {a : Nat} {B : Nat → Bool} {base gl gs gt : Nat} {mv : Nat → Value} (h : Gd w W H s a B base gl gs gt mv) (c : Nat) (hc : c < s.size) (v : Value) (ho : outB (at_ s) a c = true) (hne : v.ownBlock ≠ none) (hgt : v.ownBlock ≠ some gt)
    (hm : Ml w base v (nx5 W H (at_ s) a B c)) : Gd (w.setCell ⟨gt, c, none⟩ v) W H s a B base gl gs gt (fun x => if x = c then v else mv x) := by
  have ht : Turn (fun k => k = gt) (fun k => k = gt) w (w.setCell ⟨gt, c, none⟩ v) := Turn.setCell w ⟨gt, c, none⟩ v rfl
  refine ⟨h.lv.turn ht h.n1, h.sh.turn ht h.n2, h.tb.put c v hc (fun x _ => rfl), h.bl, h.bs, h.bt, h.n1, h.n2, fun x hx => ?_⟩
  by_cases e : x = c
  · subst e
    rw [if_pos rfl]
    exact .inr ⟨ho, hne, hgt, hm.same ht.size (fun k hk => ht.block k (hm.lt k hk).2 (fun e => hgt (by rw [hk, e])))⟩
  · rw [if_neg e]
    rcases h.mem x hx with e | ⟨e1, e2, e3, e4⟩
    · exact .inl e
    · exact .inr ⟨e1, e2, e3, e4.same ht.size (fun k hk => ht.block k (e4.lt k hk).2 (fun e => e3 (by rw [hk, e])))⟩

/-- As a value. -/
def gv (W H : Nat) (s : ByteArray) (gl gs gt : Nat) : Value := .agg #[.int .i64 (W : Int), .int .i64 (H : Int), .string s, .slice (some ⟨gl, 0, none⟩) s.size s.size, .slice (some ⟨gs, 0, none⟩) s.size s.size, .slice (some ⟨gt, 0, none⟩) s.size s.size]
def NextTold (W H : Nat) (s : ByteArray) (a : Nat) (B : Nat → Bool) (base gl gs gt : Nat) (mv : Nat → Value) (c : Nat) (w : World) (e : Ending) (w' : World) : Prop :=
  ∃ A n cap mv', e = .returned (.slice A n cap) ∧ n = (nx5 W H (at_ s) a B c).length ∧ Ml w' base (.slice A n cap) (nx5 W H (at_ s) a B c) ∧ Gd w' W H s a B base gl gs gt mv' ∧ Turn (fun k => k = gt) (fun k => k = gt) w w' ∧
    (∀ k, GF gl gs gt s.size mv' k → GF gl gs gt s.size mv k ∨ w.heap.size ≤ k) ∧ ∀ k, (Value.slice A n cap).ownBlock = some k → GF gl gs gt s.size mv' k

/-- What is near to a cell that is no wall. -/
def NrTold (xs : List Nat) (w : World) (e : Ending) (w' : World) : Prop :=
  ∃ g n cap, e = .returned (.slice (some ⟨g, 0, none⟩) n cap) ∧ n = xs.length ∧ (1 ≤ n ∧ n ≤ 4) ∧ (n ≤ cap ∧ cap ≤ maxLen) ∧ Cells g n (iv xs) w' ∧ w.heap.size ≤ g ∧ Below w.heap.size w w'
theorem own_cells {w : World} {base g n cap : Nat} {xs : List Nat} (h : Own w base (.slice (some ⟨g, 0, none⟩) n cap) xs) (hn : n = xs.length) : Cells g n (iv xs) w := by
  subst hn
  refine ⟨(h.lt g rfl).2, fun x hx => ⟨?_, h.frozenAt x⟩⟩
  obtain ⟨g', e, _, hc⟩ := h.at x (by omega)
  obtain rfl : g = g' := by simpa using e
  exact hc
theorem nears_nr (W H c : Nat) (s : ByteArray) : nears (W : Int) (H : Int) s (c : Int) = nr W H (at_ s) c := rfl
theorem near_nr (W H c : Nat) (s : ByteArray) (w : World) (hR : Right (W : Int) (H : Int) s) (hc : c < s.size) (hz : at_ s c ≠ 35) :
    Calls Tryz.prog 149 #[.agg #[.int .i64 (W : Int), .int .i64 (H : Int), .string s], .int .i64 (c : Int)] w (NrTold (nr W H (at_ s) c) w) := by
  have h256 := rightLe hR
  have hOn : OnFloor (W : Int) (H : Int) s (c : Int) := ⟨hR, by unfold bAt; rw [if_pos (by omega)]; exact hz⟩
  obtain ⟨W', H', e1, e2, hS, hN⟩ := rightNat hR
  obtain rfl : W = W' := by omega
  obtain rfl : H = H' := by omega
  refine (near_any (W : Int) (H : Int) s (by unfold maxLen; omega) (c : Int) w).mono fun e w' ⟨A, n, cap, xs, h1, h2, h3, _, h5, h6⟩ => ?_
  obtain rfl := (h3 hOn).trans (nears_nr W H c s)
  have hne := near_some hS.w1 hN (by rw [← hS.sz]; exact hc) hz
  have hl : 1 ≤ (nr W H (at_ s) c).length := by
    rcases Nat.eq_zero_or_pos (nr W H (at_ s) c).length with e | e
    · exact absurd (List.eq_nil_of_length_eq_zero e) hne
    · exact e
  obtain ⟨g, rfl, _, _⟩ := h5.at 0 (by omega)
  have := h5.lt g rfl
  exact ⟨g, n, cap, h1, h2, ⟨by omega, by have := nr_len W H c (at_ s); omega⟩, h5.cap h2, own_cells h5 h2, by omega, h6⟩



theorem six_kept {w3 : World} {G gt c : Nat} (l : gt < G) {v0 v1 v2 v5 v6 : Value} (h0 : w3.cell? ⟨G, 0, none⟩ = some v0) (h1 : w3.cell? ⟨G, 1, none⟩ = some v1) (h2 : w3.cell? ⟨G, 2, none⟩ = some v2) (h5 : w3.cell? ⟨G, 5, none⟩ = some v5)
    (h6 : w3.cell? ⟨gt, c, none⟩ = some v6) (h7 : w3.frozen? ⟨gt, c, none⟩ = false) (u : Value) :
    (w3.setCell ⟨gt, c, none⟩ u).cell? ⟨G, 0, none⟩ = some v0 ∧ (w3.setCell ⟨gt, c, none⟩ u).cell? ⟨G, 1, none⟩ = some v1 ∧ (w3.setCell ⟨gt, c, none⟩ u).cell? ⟨G, 2, none⟩ = some v2 ∧ (w3.setCell ⟨gt, c, none⟩ u).cell? ⟨G, 5, none⟩ = some v5 ∧
    (∃ u', (w3.setCell ⟨gt, c, none⟩ u).cell? ⟨gt, c, none⟩ = some u') ∧ (w3.setCell ⟨gt, c, none⟩ u).frozen? ⟨gt, c, none⟩ = false := by
  have hne : ∀ o, (⟨gt, c, none⟩ : Addr) ≠ ⟨G, o, none⟩ := fun o e => absurd (congrArg Addr.block e) (Nat.ne_of_lt l)
  exact ⟨by rw [World.cell?_setCell_other (h := hne 0)]; exact h0, by rw [World.cell?_setCell_other (h := hne 1)]; exact h1, by rw [World.cell?_setCell_other (h := hne 2)]; exact h2, by rw [World.cell?_setCell_other (h := hne 5)]; exact h5,
    ⟨_, World.cell?_setCell_same w3 _ u h6⟩, by rw [World.frozen?_setCell]; exact h7⟩
theorem nil_is (w : World) : (binOp BinOp.eql 46 (.slice none 0 0) (.slice none 0 0)).run Tryz.prog w = .ok (.bool true) w := by kernel_rfl
theorem nil_not (w : World) (g n c : Nat) : (binOp BinOp.eql 46 (.slice (some ⟨g, 0, none⟩) n c) (.slice none 0 0)).run Tryz.prog w = .ok (.bool false) w := by kernel_rfl
end Go.Proofs.YtellaeihcignaaaGreatDoor
end

section
namespace Go.Proofs.YtellaeihcignaaaGreatDoor
open Go.RowKit Fl Pt

theorem onFloor_some {W H : Int} {s : ByteArray} {c : Int} (h : OnFloor W H s c) : ∃ a b k : Nat, W = a ∧ H = b ∧ c = k ∧ k < s.size ∧ at_ s k ≠ 35 ∧ Sides a b s ∧ RightN a b (at_ s) ∧ nears W H s c = nr a b (at_ s) k ∧ nr a b (at_ s) k ≠ [] := by
  obtain ⟨a, b, rfl, rfl, hS, hN⟩ := rightNat h.1
  obtain ⟨k, rfl, hk, hz⟩ := bAt_in h.2
  have h2 := h.2
  rw [hz] at h2
  exact ⟨a, b, k, rfl, rfl, rfl, hk, h2, hS, hN, rfl, near_some hS.w1 hN (by rw [← hS.sz]; exact hk) h2⟩

theorem infoInts : (Tryz.prog.info? 46).map (fun i => (i.zero, i.size, i.bytes)) = some (some (.slice none 0 0), 1, 24) := by kernel_rfl
theorem run_makeInts (n : Nat) (hn : n ≤ 256) (wx : World) : (Instr.makeSlice 140 (.int .i64 (n : Int)) (.int .i64 (n : Int))).run Tryz.prog wx = .ok (.slice (some ⟨wx.heap.size, 0, none⟩) n n) (wx.alloc (.cells (List.replicate n (Value.slice none 0 0)).toArray 46)) := by
  obtain ⟨i0, hi, hz0, hz1, hz2⟩ := info_parts infoInts
  have := run_make (P := Tryz.prog) wx 140 46 i0 _ Tryz.underlying140 hi hz0 .i64 .i64 n n (by omega) (Int.le_refl _) (by rw [hz2]; omega) (by omega)
  simp only [Int.toNat_natCast, hz1, Nat.mul_one] at this
  rw [this]
  have e : madeCells (Value.slice none 0 0).cells n = (List.replicate n (Value.slice none 0 0)).toArray := by
    have := toList_madeCells_one (Value.slice none 0 0) n
    rw [← this]; rfl
  rw [e]

theorem mk_mem {xs : List Nat} {n x : Nat} (hn : n = xs.length) : mk (fun j => ((xs.getD j 0 : Nat) : Int)) n x = decide (x ∈ xs) := by
  rw [Bool.eq_iff_iff, mk_iff, decide_eq_true_eq]
  constructor
  · rintro ⟨j, hj, e⟩
    obtain rfl : xs.getD j 0 = x := by omega
    exact getD_mem (by omega)
  · intro h
    obtain ⟨j, hj, rfl⟩ := List.getElem_of_mem h
    exact ⟨j, by omega, by rw [List.getD, List.getElem?_eq_getElem hj]; rfl⟩
def GroundTold (W H : Nat) (s : ByteArray) (a : Nat) (B : Nat → Bool) (w : World) (e : Ending) (w' : World) : Prop :=
  ∃ gl gs gt, e = .returned (.agg #[.int .i64 (W : Int), .int .i64 (H : Int), .string s, .slice (some ⟨gl, 0, none⟩) s.size s.size, .slice (some ⟨gs, 0, none⟩) s.size s.size, .slice (some ⟨gt, 0, none⟩) s.size s.size]) ∧
    Gd w' W H s a B w.heap.size gl gs gt (fun _ => .slice none 0 0) ∧ Below w.heap.size w w'
/-- Lanes are marked. -/
def LaneTold (s : ByteArray) (w : World) (v : Value) (w' : World) : Prop := ∃ g, v = .slice (some ⟨g, 0, none⟩) s.size s.size ∧ Cells g s.size (fun x => .bool (isL (at_ s x))) w' ∧ w.heap.size ≤ g ∧ Below w.heap.size w w'

/-- The floor's box and the ground's, behind whatever is new. -/
structure Gs (w : World) (W H : Int) (s : ByteArray) (wx : World) : Prop where
  box : Box w W H s wx
  out : ∃ f, Cells (w.heap.size + 1) 6 f wx
theorem Gs.two {w : World} {W H : Int} {s : ByteArray} {wx : World} (h : Gs w W H s wx) : w.heap.size + 2 ≤ wx.heap.size := by
  obtain ⟨f, h1, _⟩ := h.out; omega
theorem Gs.later {w : World} {W H : Int} {s : ByteArray} {wx wy : World} (h : Gs w W H s wx) (hb : Below wx.heap.size wx wy) : Gs w W H s wy := by
  obtain ⟨f, hf⟩ := h.out
  exact ⟨h.box.after hb, f, hf.later hb⟩
theorem Gs.put {w : World} {W H : Int} {s : ByteArray} {wx : World} (h : Gs w W H s wx) (g x : Nat) (v : Value) (hg : w.heap.size + 2 ≤ g) : Gs w W H s (wx.setCell ⟨g, x, none⟩ v) := by
  obtain ⟨f, hf⟩ := h.out
  have ht : Turn (fun k => k = g) (fun k => k = g) wx (wx.setCell ⟨g, x, none⟩ v) := Turn.setCell wx ⟨g, x, none⟩ v rfl
  exact ⟨h.box.later (ht.below _ h.box.lt (fun k hk => by omega)), f, hf.turn ht (by omega)⟩
theorem Gs.drew {w : World} {W H : Int} {s : ByteArray} {wx : World} (h : Gs w W H s wx) : Gs w W H s wx.drew := ⟨h.box.drew, h.out⟩
theorem Gs.more {w : World} {W H : Int} {s : ByteArray} {wx : World} (h : Gs w W H s wx) (o : Obj) : Gs w W H s (wx.alloc o) := h.later ((Below.refl _ wx).alloc (Nat.le_refl _) o)
theorem args_il {w wx : World} {A : Option Addr} {n cap : Nat} {f : Nat → Int} (h : Il w.heap.size w A n cap f) (hb : Below w.heap.size w wx) : Il wx.heap.size wx A n cap f := (h.below hb).raise hb.size
theorem lanes_marked {s : ByteArray} {xs : List Nat} {n g : Nat} {w : World} (hx : xs = pick isL (at_ s) s.size) (hn : n = xs.length) (h : Cells g s.size (fun x => .bool (mk (fun j => ((xs.getD j 0 : Nat) : Int)) n x)) w) : Cells g s.size (fun x => .bool (isL (at_ s x))) w := by
  refine h.congr fun x hx2 => ?_
  show Value.bool (mk _ n x) = .bool (isL (at_ s x))
  rw [mk_mem hn, hx]
  congr 1
  rw [Bool.eq_iff_iff, decide_eq_true_eq, mem_pick]
  exact ⟨fun h => h.2, fun h => ⟨hx2, h⟩⟩
theorem left_marked {s : ByteArray} {g : Nat} {w : World} (a : Nat) (ha : a < s.size) (h : Cells g s.size (fun x => .bool (isL (at_ s x))) w) : Cells g s.size (fun x => .bool (outB (at_ s) a x)) (w.setCell ⟨g, a, none⟩ (.bool true)) := by
  refine h.put a _ ha fun x hx => ?_
  unfold outB
  by_cases e : x = a
  · rw [if_pos e, e]; simp
  · rw [if_neg e, beq_eq_false_iff_ne.2 e]; rfl

theorem new_ints (wx : World) (n : Nat) : Cells wx.heap.size n (fun _ => .slice none 0 0) (wx.alloc (.cells (Array.replicate n (Value.slice none 0 0)) 46)) := by
  have h := heap_alloc_new wx (.cells (Array.replicate n (Value.slice none 0 0)) 46)
  have e : Array.replicate n (Value.slice none 0 0) = (List.replicate n (Value.slice none 0 0)).toArray := by simp
  rw [e] at h ⊢
  refine (cells_row h (by simp)).congr fun x hx => ?_
  simp [List.getD, hx]
theorem new_ints2 {w4 w5 : World} {n : Nat} (hb : Below (w4.drew.alloc (.cells (Array.replicate n (Value.slice none 0 0)) 46)).heap.size (w4.drew.alloc (.cells (Array.replicate n (Value.slice none 0 0)) 46)) w5) : Cells w4.heap.size n (fun _ => .slice none 0 0) w5 :=
  (show Cells w4.drew.heap.size n (fun _ => .slice none 0 0) w5 from (new_ints w4.drew n).later hb)
theorem cells_new5 {w w4 w5 : World} {W H : Int} {s : ByteArray} {gl n : Nat} {f : Nat → Value} {o : Obj} (hg : Gs w W H s w4) (h : Cells gl n f w4) (hb : Below w4.drew.heap.size w4.drew w5) : Cells gl n f (w5.alloc o) := (h.drew.later hb).more o
theorem cells_new6 {w w4 w5 : World} {W H : Int} {s : ByteArray} {gl n : Nat} {f : Nat → Value} {o : Obj} (hg : Gs w W H s w4) (h : Cells gl n f w4) (hb : Below (w4.drew.alloc o).heap.size (w4.drew.alloc o) w5) : Cells gl n f w5 := ((h.drew).more o).later hb
/-- The ground's values. -/
def gvs (W H : Nat) (s : ByteArray) (gl gs gt : Nat) : Nat → Value
  | 0 => .int .i64 (W : Int)
  | 1 => .int .i64 (H : Int)
  | 2 => .string s
  | 3 => .slice (some ⟨gl, 0, none⟩) s.size s.size
  | 4 => .slice (some ⟨gs, 0, none⟩) s.size s.size
  | _ => .slice (some ⟨gt, 0, none⟩) s.size s.size
structure GEnd (W H : Nat) (s : ByteArray) (a : Nat) (B : Nat → Bool) (gl gs gt : Nat) (w w6 : World) : Prop where
  c : ∀ i, i < 6 → w6.cell? ⟨w.heap.size + 1, i, none⟩ = some (gvs W H s gl gs gt i)
  gd : Gd w6 W H s a B w.heap.size gl gs gt (fun _ => .slice none 0 0)
  below : Below w.heap.size w w6
theorem six_cells {b : Nat} {f : Nat → Value} {w : World} (h : Cells b 6 f w) (g : Nat → Value) : Cells b 6 g ((((((w.setCell ⟨b, 0, none⟩ (g 0)).setCell ⟨b, 1, none⟩ (g 1)).setCell ⟨b, 2, none⟩ (g 2)).setCell ⟨b, 3, none⟩ (g 3)).setCell ⟨b, 4, none⟩ (g 4)).setCell ⟨b, 5, none⟩ (g 5)) := by
  have h0 := h.put 0 (g 0) (by decide) (g := fun x => if x < 1 then g x else f x) (fun x hx => by
    by_cases e : x = 0
    · subst e; rfl
    · rw [if_neg (by omega), if_neg e])
  have h1 := h0.put 1 (g 1) (by decide) (g := fun x => if x < 2 then g x else f x) (fun x hx => by
    by_cases e : x = 1
    · subst e; rfl
    · rw [if_neg e]; show _ = if x < 1 then g x else f x; by_cases e2 : x < 1 <;> simp [e2, (by omega : x < 2 ↔ x < 1)])
  have h2 := h1.put 2 (g 2) (by decide) (g := fun x => if x < 3 then g x else f x) (fun x hx => by
    by_cases e : x = 2
    · subst e; rfl
    · rw [if_neg e]; show _ = if x < 2 then g x else f x; by_cases e2 : x < 2 <;> simp [e2, (by omega : x < 3 ↔ x < 2)])
  have h3 := h2.put 3 (g 3) (by decide) (g := fun x => if x < 4 then g x else f x) (fun x hx => by
    by_cases e : x = 3
    · subst e; rfl
    · rw [if_neg e]; show _ = if x < 3 then g x else f x; by_cases e2 : x < 3 <;> simp [e2, (by omega : x < 4 ↔ x < 3)])
  have h4 := h3.put 4 (g 4) (by decide) (g := fun x => if x < 5 then g x else f x) (fun x hx => by
    by_cases e : x = 4
    · subst e; rfl
    · rw [if_neg e]; show _ = if x < 4 then g x else f x; by_cases e2 : x < 4 <;> simp [e2, (by omega : x < 5 ↔ x < 4)])
  exact h4.put 5 (g 5) (by decide) (fun x hx => by
    by_cases e : x = 5
    · subst e; rfl
    · rw [if_neg e]; show _ = if x < 5 then g x else f x; rw [if_pos (by omega)])
theorem ground_end {w wB : World} {W H : Nat} {s : ByteArray} {a gl gs gt : Nat} {B : Nat → Bool} (hG : Gs w (W : Int) (H : Int) s wB) (hl : Cells gl s.size (fun x => .bool (outB (at_ s) a x)) wB) (hs : Cells gs s.size (fun x => .bool (B x)) wB) (ht : Cells gt s.size (fun _ => .slice none 0 0) wB)
    (bl : w.heap.size + 2 ≤ gl) (bs : w.heap.size + 2 ≤ gs) (bt : w.heap.size + 2 ≤ gt) (n1 : gl ≠ gt) (n2 : gs ≠ gt) :
    GEnd W H s a B gl gs gt w ((((((wB.setCell ⟨w.heap.size + 1, 0, none⟩ (.int .i64 (W : Int))).setCell ⟨w.heap.size + 1, 1, none⟩ (.int .i64 (H : Int))).setCell ⟨w.heap.size + 1, 2, none⟩ (.string s)).setCell ⟨w.heap.size + 1, 3, none⟩ (.slice (some ⟨gl, 0, none⟩) s.size s.size)).setCell ⟨w.heap.size + 1, 4, none⟩ (.slice (some ⟨gs, 0, none⟩) s.size s.size)).setCell ⟨w.heap.size + 1, 5, none⟩ (.slice (some ⟨gt, 0, none⟩) s.size s.size)) := by
  obtain ⟨f, hf⟩ := hG.out
  have h6 := six_cells hf (gvs W H s gl gs gt)
  have ht6 : Turn (fun k => k = w.heap.size + 1) (fun k => k = w.heap.size + 1) wB ((((((wB.setCell ⟨w.heap.size + 1, 0, none⟩ (.int .i64 (W : Int))).setCell ⟨w.heap.size + 1, 1, none⟩ (.int .i64 (H : Int))).setCell ⟨w.heap.size + 1, 2, none⟩ (.string s)).setCell ⟨w.heap.size + 1, 3, none⟩ (.slice (some ⟨gl, 0, none⟩) s.size s.size)).setCell ⟨w.heap.size + 1, 4, none⟩ (.slice (some ⟨gs, 0, none⟩) s.size s.size)).setCell ⟨w.heap.size + 1, 5, none⟩ (.slice (some ⟨gt, 0, none⟩) s.size s.size)) :=
    (((((((Turn.refl (fun k => k = w.heap.size + 1) _).put _ rfl).put _ rfl).put _ rfl).put _ rfl).put _ rfl).put _ rfl)
  refine ⟨fun i hi => (h6.2 i hi).1, ⟨hl.turn ht6 (by omega), hs.turn ht6 (by omega), ht.turn ht6 (by omega), by omega, by omega, by omega, n1, n2, fun c hc => .inl rfl⟩, ?_⟩
  exact hG.box.below.trans (ht6.below _ hG.box.below.size (fun k hk => by omega))

theorem alloc_size (w : World) (o : Obj) : (w.alloc o).heap.size = w.heap.size + 1 := by simp
theorem path_b {w4 : World} {o : Obj} {B gs : Nat} (h : B ≤ w4.heap.size) (hs : (w4.drew.alloc o).heap.size ≤ gs) : B ≤ gs ∧ gs ≠ w4.heap.size := by
  have e := alloc_size w4.drew o
  have e2 : w4.drew.heap.size = w4.heap.size := rfl
  omega

end Go.Proofs.YtellaeihcignaaaGreatDoor
end
