/-
  Layer 10: the robot in memory, with what is near to each cell that was asked; inLane, nearTo.
-/
import Derived.Test.YtakgkocdkondhaaGreatDoorTrA
import Derived.Test.YtakgkocdkondhaaGreatDoorPtSet
set_option linter.unusedVariables false
set_option maxRecDepth 100000
namespace Go.Proofs.YtakgkocdkondhaaGreatDoor
namespace Tr
open Go.RowKit Fl Pt Go.Maps

/-- Lists of numbers stay as they are. -/
def KeptI (w w' : World) : Prop := w.heap.size ≤ w'.heap.size ∧ ∀ (k : Nat) (cs : Array Value) (fz : Nat × Nat), w.heap[k]? = some (Obj.cells cs 3 fz) → w'.heap[k]? = w.heap[k]?
theorem KeptI.of {w w' : World} (h : Below w.heap.size w w') : KeptI w w' := ⟨h.size, fun k cs fz e => h.block k (lt_of_heap e)⟩
theorem own_kept {w w' : World} {base : Nat} {v : Value} {xs : List Nat} (h : Own w base v xs) (hk : KeptI w w') : Own w' base v xs := by
  refine ownsRow_same h (fun g hg => ?_)
  rcases h.2 with ⟨e, _⟩ | ⟨g', cap, cur, e, _, hh, _⟩
  · rw [e] at hg; cases hg
  · rw [e] at hg
    obtain rfl : g' = g := by simpa [Value.ownBlock] using hg
    exact hk.2 _ _ _ hh

/-- A slice value as a map's datum. -/
def slD (g n c : Nat) : DataW Unit := .agg [.lit (.int .i64 (g : Int)), .lit (.int .i64 (n : Int)), .lit (.int .i64 (c : Int))]
def slR : Value → Option (DataW Unit × List MemPlace)
  | .slice none 0 0 => some (.nil, [])
  | .slice (some ⟨g, 0, none⟩) n c => some (slD g n c, [])
  | _ => none
theorem slR_inv {v : Value} {g n c : Nat} {ps : List MemPlace} (h : slR v = some (slD g n c, ps)) : v = .slice (some ⟨g, 0, none⟩) n c := by
  unfold slR at h
  split at h
  · simp [slD] at h
  · simp only [Option.some.injEq, Prod.mk.injEq, slD, DataW.agg.injEq, List.cons.injEq, DataW.lit.injEq, Lit.int.injEq, true_and, and_true] at h
    rename_i g' n' c'
    obtain ⟨⟨h1, h2, h3⟩, _⟩ := h
    obtain rfl : g' = g := by omega
    obtain rfl : n' = n := by omega
    obtain rfl : c' = c := by omega
    rfl
  · cases h
/-- Block b is a map of what is near to cells. -/
def MapN (w : World) (b N : Nat) (W H : Int) (s : ByteArray) : Prop :=
  ∃ D : DataW Unit, w.ownsMap Tryz.prog 3 slR b N D ∧ ∀ x : Int, IW x → has D (kI x) = true → OnFloor W H s x ∧ ∃ g c, (∀ z, D.atKey (kI x) z = slD g (nears W H s x).length c) ∧ Own w 0 (.slice (some ⟨g, 0, none⟩) (nears W H s x).length c) (nears W H s x)
theorem MapN.made (w : World) (W H : Int) (s : ByteArray) : MapN (w.alloc (.map #[] 0)) w.heap.size 0 W H s :=
  ⟨.map [], World.ownsMap_made w _ _ _, fun x _ h => by simp [has] at h⟩
theorem MapN.lt {w : World} {b N : Nat} {W H : Int} {s : ByteArray} (h : MapN w b N W H s) : b < w.heap.size := by
  obtain ⟨D, h1, h2⟩ := h
  exact h1.lt
theorem MapN.block {w : World} {b N : Nat} {W H : Int} {s : ByteArray} (h : MapN w b N W H s) : ∃ es clock, w.heap[b]? = some (.map es clock) := by
  obtain ⟨D, ⟨es, clock, hb, _⟩, _⟩ := h
  exact ⟨es, clock, hb⟩
theorem MapN.kept {w w' : World} {b N : Nat} {W H : Int} {s : ByteArray} (h : MapN w b N W H s) (hk : KeptI w w') (he : w'.heap[b]? = w.heap[b]?) : MapN w' b N W H s := by
  obtain ⟨D, ⟨es, clock, hb, hr⟩, h2⟩ := h
  refine ⟨D, ⟨es, clock, by rw [he]; exact hb, hr⟩, fun x hx hh => ?_⟩
  obtain ⟨h3, g, c, h4, h5⟩ := h2 x hx hh
  exact ⟨h3, g, c, h4, own_kept h5 hk⟩
theorem MapN.later {w w' : World} {b N : Nat} {W H : Int} {s : ByteArray} (h : MapN w b N W H s) (hb : Below w.heap.size w w') : MapN w' b N W H s := h.kept (KeptI.of hb) (hb.block b h.lt)
/-- Is a cell in it, and what is near to it? -/
theorem MapN.asked {w : World} {b N : Nat} {W H : Int} {s : ByteArray} (h : MapN w b N W H s) {X : Int} (hX : IW X) :
    ∃ (v : Value) (q : Bool), (Instr.lookup 114 (.map (some b)) (.int .i64 X) true).run Tryz.prog w = .ok (.tuple #[v, .bool q]) w ∧ (q = true → OnFloor W H s X ∧ ∃ g c, v = .slice (some ⟨g, 0, none⟩) (nears W H s X).length c ∧ Own w 0 v (nears W H s X)) := by
  obtain ⟨D, h1, h2⟩ := h
  have hz : (zeroValue 46).run Tryz.prog w = .ok (.slice none 0 0) w := by kernel_rfl
  obtain ⟨v, ps, hrun, hv⟩ := h1.look_ok (int_keyed Tryz.underlying3) Tryz.underlying114 hz (show slR (.slice none 0 0) = some (.nil, []) from rfl) (keyOf_int_mk Tryz.underlying3 (WalkArith.wf_i64 hX))
  refine ⟨v, _, hrun, fun hq => ?_⟩
  obtain ⟨h3, g, c, h4, h5⟩ := h2 X hX hq
  have h4 : D.atKey (Lit.int IntKind.i64 X) .nil = slD g (nears W H s X).length c := h4 _
  rw [h4] at hv
  obtain rfl := slR_inv hv
  exact ⟨h3, g, c, rfl, h5⟩
/-- What is near to a cell is put. -/
theorem MapN.put_run {w : World} {b N : Nat} {W H : Int} {s : ByteArray} (h : MapN w b N W H s) (hN : N ≤ 1000000) {X : Int} (hX : IW X) (hO : OnFloor W H s X) {g c : Nat} (ho : Own w 0 (.slice (some ⟨g, 0, none⟩) (nears W H s X).length c) (nears W H s X)) :
    ∃ w', (Instr.mapUpdate 114 (.map (some b)) (.int .i64 X) (.slice (some ⟨g, 0, none⟩) (nears W H s X).length c)).run Tryz.prog w = .ok () w' ∧ MapN w' b (N + 1) W H s ∧ KeptI w w' ∧ w.grownBy w' (some b) := by
  have hblk := h.block
  obtain ⟨es, clock, hb⟩ := hblk
  obtain ⟨D, h1, h2⟩ := h
  have hM := h1.isMap
  obtain ⟨w', hrun, hw', hgr⟩ := h1.update (int_keyed Tryz.underlying3) Tryz.underlying114 (by unfold maxLen; omega) (keyOf_int_mk Tryz.underlying3 (WalkArith.wf_i64 hX)) (show slR (.slice (some ⟨g, 0, none⟩) (nears W H s X).length c) = some (slD g (nears W H s X).length c, []) from rfl)
  have hk : KeptI w w' := ⟨hgr.size, fun k cs fz e => hgr.block k (lt_of_heap e) (fun q => by
    injection q with q
    subst q
    rw [hb] at e; cases e)⟩
  refine ⟨w', hrun, ⟨D.put (kI X) (slD g (nears W H s X).length c), hw', fun x hx hh => ?_⟩, hk, hgr⟩
  by_cases e : x = X
  · subst e
    exact ⟨hO, g, c, fun z => atKey_put_same hM (kI_key x) _ z, own_kept ho hk⟩
  · rw [has_put_other (fun h => e (kI_inj h))] at hh
    obtain ⟨h3, g2, c2, h4, h5⟩ := h2 x hx hh
    exact ⟨h3, g2, c2, fun z => by rw [atKey_put_other (fun h => e (kI_inj h))]; exact h4 z, own_kept h5 hk⟩

/-- The lanes of a floor. -/
def lanL (s : ByteArray) : List Nat := pick isL (at_ s) s.size
/-- The robot lies in block D. -/
def Db (D : Nat) (W H : Int) (s : ByteArray) (lv : Value) (mb : Nat) (dock at_ pod : Int) (w : World) : Prop :=
  w.heap[D]? = some (.cells #[.int .i64 W, .int .i64 H, .string s, lv, .map (some mb), .int .i64 dock, .int .i64 at_, .int .i64 pod] 117 (0, 0))
theorem Db.cells {D : Nat} {W H : Int} {s : ByteArray} {lv : Value} {mb : Nat} {dock at_ pod : Int} {w : World} (h : Db D W H s lv mb dock at_ pod w) :
    (w.cell? ⟨D, 0, none⟩ = some (.int .i64 W) ∧ w.cell? ⟨D, 1, none⟩ = some (.int .i64 H) ∧ w.cell? ⟨D, 2, none⟩ = some (.string s)) ∧ w.cell? ⟨D, 3, none⟩ = some lv ∧ w.cell? ⟨D, 4, none⟩ = some (.map (some mb)) ∧ w.cell? ⟨D, 5, none⟩ = some (.int .i64 dock) ∧ w.cell? ⟨D, 6, none⟩ = some (.int .i64 at_) ∧ w.cell? ⟨D, 7, none⟩ = some (.int .i64 pod) ∧
    (w.frozen? ⟨D, 6, none⟩ = false ∧ w.frozen? ⟨D, 7, none⟩ = false) ∧ D < w.heap.size :=
  ⟨⟨by rw [cell_of_row w D 0 _ _ _ h]; rfl, by rw [cell_of_row w D 1 _ _ _ h]; rfl, by rw [cell_of_row w D 2 _ _ _ h]; rfl⟩, by rw [cell_of_row w D 3 _ _ _ h]; rfl, by rw [cell_of_row w D 4 _ _ _ h]; rfl, by rw [cell_of_row w D 5 _ _ _ h]; rfl, by rw [cell_of_row w D 6 _ _ _ h]; rfl, by rw [cell_of_row w D 7 _ _ _ h]; rfl,
    ⟨frozen_of_row w D 6 _ _ h, frozen_of_row w D 7 _ _ h⟩, lt_of_heap h⟩
theorem Db.later {D : Nat} {W H : Int} {s : ByteArray} {lv : Value} {mb : Nat} {dock at_ pod : Int} {w w' : World} (h : Db D W H s lv mb dock at_ pod w) (hb : Below w.heap.size w w') : Db D W H s lv mb dock at_ pod w' := (hb.block D (lt_of_heap h)).trans h
/-- The robot, its lanes, and what was asked. -/
structure Dr (D mb N : Nat) (W H : Int) (s : ByteArray) (lv : Value) (dock at_ pod : Int) (w : World) : Prop where
  box : Db D W H s lv mb dock at_ pod w
  lanes : Own w 0 lv (lanL s)
  map : MapN w mb N W H s
theorem Dr.later {D mb N : Nat} {W H : Int} {s : ByteArray} {lv : Value} {dock at_ pod : Int} {w w' : World} (h : Dr D mb N W H s lv dock at_ pod w) (hb : Below w.heap.size w w') : Dr D mb N W H s lv dock at_ pod w' :=
  ⟨h.box.later hb, h.lanes.later hb, h.map.later hb⟩
/-- Just the robot's two blocks are written. -/
def Two (D mb : Nat) (w w' : World) : Prop := Turn (fun k => k = D ∨ k = mb) (fun k => k = D ∨ k = mb) w w'
theorem Two.of {D mb : Nat} {w w' : World} (h : Below w.heap.size w w') : Two D mb w w' := Turn.ofBelow h _
theorem Two.trans {D mb : Nat} {a b c : World} (h : Two D mb a b) (k : Two D mb b c) : Two D mb a c := Turn.trans h k
theorem Two.below {D mb : Nat} {w w' : World} (h : Two D mb w w') {B : Nat} (hB : B ≤ w.heap.size) (hD : B ≤ D) (hm : B ≤ mb) : Below B w w' := Turn.below h B hB (fun k hk => by rcases hk with rfl | rfl <;> assumption)
theorem Dr.ne {D mb N : Nat} {W H : Int} {s : ByteArray} {lv : Value} {dock at_ pod : Int} {w : World} (h : Dr D mb N W H s lv dock at_ pod w) : D ≠ mb := by
  rintro rfl
  obtain ⟨es, clock, hb⟩ := h.map.block
  have := h.box
  unfold Db at this
  rw [hb] at this; cases this
theorem kept_cell {D : Nat} {w : World} {u : Value} {o : Nat} {cs : Array Value} {fz : Nat × Nat} (h : w.heap[D]? = some (.cells cs 117 fz)) : KeptI w (w.setCell ⟨D, o, none⟩ u) := by
  refine ⟨by simp [World.setCell], fun k cs' fz' e => heap_setCell_other w ⟨D, o, none⟩ k u (fun q => ?_)⟩
  dsimp only at q
  subst q
  rw [h] at e
  injection e with e
  injection e with _ e _
  revert e
  decide
theorem Dr.setAt {D mb N : Nat} {W H : Int} {s : ByteArray} {lv : Value} {dock at_ pod : Int} {w : World} (h : Dr D mb N W H s lv dock at_ pod w) (x : Int) : Dr D mb N W H s lv dock x pod (w.setCell ⟨D, 6, none⟩ (.int .i64 x)) ∧ Two D mb w (w.setCell ⟨D, 6, none⟩ (.int .i64 x)) := by
  refine ⟨⟨?_, own_kept h.lanes (kept_cell h.box), h.map.kept (kept_cell h.box) (heap_setCell_other w ⟨D, 6, none⟩ mb _ (fun q => h.ne q.symm))⟩, Turn.setCell w ⟨D, 6, none⟩ _ (.inl rfl)⟩
  have := heap_setCell_same w D 6 _ _ (.int .i64 x) h.box
  exact this
theorem Dr.setPod {D mb N : Nat} {W H : Int} {s : ByteArray} {lv : Value} {dock at_ pod : Int} {w : World} (h : Dr D mb N W H s lv dock at_ pod w) (x : Int) : Dr D mb N W H s lv dock at_ x (w.setCell ⟨D, 7, none⟩ (.int .i64 x)) ∧ Two D mb w (w.setCell ⟨D, 7, none⟩ (.int .i64 x)) := by
  refine ⟨⟨?_, own_kept h.lanes (kept_cell h.box), h.map.kept (kept_cell h.box) (heap_setCell_other w ⟨D, 7, none⟩ mb _ (fun q => h.ne q.symm))⟩, Turn.setCell w ⟨D, 7, none⟩ _ (.inl rfl)⟩
  have := heap_setCell_same w D 7 _ _ (.int .i64 x) h.box
  exact this

/-- Is a number among the lanes? -/
theorem lan_in (s : ByteArray) (c : Int) : (il (fun j => (((lanL s).getD j 0 : Nat) : Int)) (lanL s).length).contains c = isL (bAt s c) := by
  rw [Bool.eq_iff_iff, List.contains_iff_mem]
  unfold il
  simp only [List.mem_map, List.mem_range]
  constructor
  · rintro ⟨j, hj, rfl⟩
    have hm : (lanL s).getD j 0 ∈ lanL s := by rw [List.getD, List.getElem?_eq_getElem hj]; exact List.getElem_mem hj
    obtain ⟨h1, h2⟩ := mem_pick.1 hm
    rw [bAt_in5 s _ h1]; exact h2
  · intro h
    obtain ⟨k, rfl, hk, e⟩ := bAt_in (s := s) (c := c) (fun e => by rw [e] at h; revert h; decide)
    have hm : k ∈ lanL s := mem_pick.2 ⟨hk, by rw [← e]; exact h⟩
    obtain ⟨j, hj, e2⟩ := List.getElem_of_mem hm
    exact ⟨j, hj, by rw [List.getD, List.getElem?_eq_getElem hj]; simp [e2]⟩
theorem own_slice {w : World} {base : Nat} {v : Value} {xs : List Nat} (h : Own w base v xs) : ∃ A c, v = .slice A xs.length c := by
  rcases h.2 with ⟨e, h0⟩ | ⟨g, c, cur, e, _⟩
  · exact ⟨none, 0, by rw [e, h0]⟩
  · exact ⟨_, _, e⟩
theorem inLane_any {D mb N : Nat} {W H : Int} {s : ByteArray} {lv : Value} {dock at_ pod : Int} {w : World} (h : Dr D mb N W H s lv dock at_ pod w) (c : Int) :
    Calls Tryz.prog 106 #[.pointer (some ⟨D, 0, none⟩), .int .i64 c] w fun e w' => e = .returned (.bool (isL (bAt s c))) ∧ w' = w := by
  obtain ⟨A, k, rfl⟩ := own_slice h.lanes
  obtain ⟨_, q3, _, _, _, _, _, hlt⟩ := h.box.cells
  have HC : Hid (Calls Tryz.prog 102 #[.slice A (lanL s).length k, .int .i64 c] w fun e w' => e = .returned (.bool (isL (bAt s c))) ∧ w = w') := Lib.hid ((contains_any _ A _ k _ c w (h.lanes.il rfl)).mono (fun e w' q => ⟨by rw [q.1, lan_in], q.2⟩))
  clear h
  go_enter Tryz.func106, Tryz.ntmps106
  go_wp2_with (go_at_call 102; refine HC.out.mono ?_; rintro e w' ⟨rfl, rfl⟩)
  go_ret
  exact ⟨rfl, rfl⟩
end Tr
end Go.Proofs.YtakgkocdkondhaaGreatDoor
