/-
  Layer 10: Zones: a set of cells that are gone to; zones sorted, each once.
  Layer 10: Zones: the walk.
-/
import Derived.Test.YtakgkocdkondhaaGreatDoorTrB
import Derived.Test.YtakgkocdkondhaaGreatDoorTrLay
import Derived.Lib.OwnBridge
import Derived.Sort.OwnSortedInts
set_option linter.unusedVariables false
set_option maxRecDepth 100000
section
namespace Go.Proofs.YtakgkocdkondhaaGreatDoor
namespace Tr
open Go.RowKit Fl Pt Go.Maps Go.Sort

/-! ### Plain -/
/-- The zones of a floor that acts go through, rising. -/
def zonL (s : ByteArray) (L : List Ac) : List Nat := (List.range 26).filter fun z => L.any fun a => a.1 == 1 && (isL (bAt s a.2.1) && (bAt s a.2.1 - 97 == z))
def goneL (L : List Ac) (c : Int) : Bool := L.any fun a => a.1 == 1 && (a.2.1 == c)
theorem strict_ext : ∀ (l m : List Int), l.Pairwise (· < ·) → m.Pairwise (· < ·) → (∀ x, x ∈ l ↔ x ∈ m) → l = m
  | [], [], _, _, _ => rfl
  | [], y :: m, _, _, h => absurd ((h y).2 (by simp)) (by simp)
  | x :: l, [], _, _, h => absurd ((h x).1 (by simp)) (by simp)
  | x :: l, y :: m, hl, hm, h => by
    rw [List.pairwise_cons] at hl hm
    have hxy : x = y := by
      rcases List.mem_cons.1 ((h x).1 (by simp)) with e | e
      · exact e
      · rcases List.mem_cons.1 ((h y).2 (by simp)) with e2 | e2
        · exact e2.symm
        · have h1 := hm.1 x e
          have h2 := hl.1 y e2
          omega
    subst hxy
    rw [strict_ext l m hl.2 hm.2 (fun z => ?_)]
    constructor
    · intro hz
      rcases List.mem_cons.1 ((h z).1 (by simp [hz])) with e | e
      · subst e; have := hl.1 z hz; omega
      · exact e
    · intro hz
      rcases List.mem_cons.1 ((h z).2 (by simp [hz])) with e | e
      · subst e; have := hm.1 z hz; omega
      · exact e
theorem kept_at (d : Array Int) {j : Nat} (h : Lib.keeps d j = true) : j = 0 ∨ d[j]! ≠ d[j - 1]! := by simpa [Lib.keeps] using h
/-- What compacting leaves of a sorted list. -/
theorem compact_strict (zs : List Int) (h : zs.Pairwise (· ≤ ·)) : (Lib.compact zs).Pairwise (· < ·) ∧ ∀ x, x ∈ Lib.compact zs ↔ x ∈ zs := by
  have hget : ∀ j, zs.toArray[j]! = zs.getD j 0 := fun j => by
    rw [getElem!_def]
    simp only [List.getElem?_toArray, List.getD]
    cases zs[j]? <;> rfl
  have hmono : ∀ i j, i ≤ j → j < zs.length → zs.getD i 0 ≤ zs.getD j 0 := fun i j hij hj => by
    rcases Nat.lt_or_ge i j with h1 | h1
    · have := (List.pairwise_iff_getElem.1 h) i j (by omega) hj h1
      simpa [List.getD, List.getElem?_eq_getElem hj, List.getElem?_eq_getElem (show i < zs.length by omega)] using this
    · obtain rfl : i = j := by omega
      exact Int.le_refl _
  unfold Lib.compact Lib.compactUpTo
  constructor
  · rw [List.pairwise_map]
    have hr : ((List.range zs.length).filter (Lib.keeps zs.toArray)).Pairwise (· < ·) := List.Pairwise.sublist List.filter_sublist List.pairwise_lt_range
    refine (List.Pairwise.and_mem.1 hr).imp (fun {i j} q => ?_)
    obtain ⟨h1, h2, h3⟩ := q
    have hj := List.mem_filter.1 h2
    have hjl : j < zs.length := List.mem_range.1 hj.1
    rw [hget, hget]
    rcases kept_at _ hj.2 with e | e
    · omega
    · rw [hget, hget] at e
      have a1 := hmono i (j - 1) (by omega) (by omega)
      have a2 := hmono (j - 1) j (by omega) hjl
      omega
  · intro x
    simp only [List.mem_map, List.mem_filter, List.mem_range]
    constructor
    · rintro ⟨j, ⟨hj, _⟩, rfl⟩
      rw [hget, List.getD, List.getElem?_eq_getElem hj]
      exact List.getElem_mem hj
    · intro hx
      obtain ⟨j, hj, e0⟩ := List.getElem_of_mem hx
      have e : zs.getD j 0 = x := by rw [List.getD, List.getElem?_eq_getElem hj]; exact e0
      clear hx e0
      induction j with
      | zero => exact ⟨0, ⟨hj, Lib.keeps_lt_one _ 0 (by omega)⟩, by rw [hget]; exact e⟩
      | succ j ih =>
        by_cases q : zs.getD (j + 1) 0 = zs.getD j 0
        · exact ih (by omega) (by rw [← q]; exact e)
        · refine ⟨j + 1, ⟨hj, Lib.keeps_pos ?_⟩, by rw [hget]; exact e⟩
          rw [hget, hget]; exact q
theorem mem_zonL {s : ByteArray} {L : List Ac} {z : Nat} : z ∈ zonL s L ↔ ∃ a, a ∈ L ∧ a.1 = 1 ∧ isL (bAt s a.2.1) = true ∧ bAt s a.2.1 - 97 = z := by
  unfold zonL
  simp only [List.mem_filter, List.mem_range, List.any_eq_true, Bool.and_eq_true, beq_iff_eq]
  constructor
  · rintro ⟨_, a, h1, h2, h3, h4⟩; exact ⟨a, h1, h2, h3, h4⟩
  · rintro ⟨a, h1, h2, h3, h4⟩
    refine ⟨?_, a, h1, h2, h3, h4⟩
    unfold isL at h3
    simp only [Bool.and_eq_true, decide_eq_true_eq] at h3
    omega
/-- The zones of those lanes that were gone to. -/
def rawL (s : ByteArray) (L : List Ac) : List Nat := ((lanL s).filter fun (c : Nat) => goneL L (c : Int)).map fun (c : Nat) => at_ s c - 97
theorem mem_rawL {s : ByteArray} {L : List Ac} {z : Nat} : z ∈ rawL s L ↔ z ∈ zonL s L := by
  rw [mem_zonL]
  unfold rawL goneL
  simp only [List.mem_map, List.mem_filter, List.any_eq_true, Bool.and_eq_true, beq_iff_eq]
  constructor
  · rintro ⟨c, ⟨hc, a, h1, h2, h3⟩, h4⟩
    obtain ⟨q1, q2⟩ := mem_pick.1 hc
    refine ⟨a, h1, h2, ?_, ?_⟩
    · rw [h3, bAt_in5 s c q1]; exact q2
    · rw [h3, bAt_in5 s c q1]; exact h4
  · rintro ⟨a, h1, h2, h3, h4⟩
    obtain ⟨k, hk, hks, e⟩ := bAt_in (s := s) (c := a.2.1) (fun e => by rw [e] at h3; revert h3; decide)
    refine ⟨k, ⟨mem_pick.2 ⟨hks, by rw [← e]; exact h3⟩, a, h1, h2, hk⟩, by rw [← e]; exact h4⟩
def toI (l : List Nat) : List Int := l.map fun n : Nat => (n : Int)
theorem toI_length (l : List Nat) : (toI l).length = l.length := by simp [toI]
theorem toI_ic (l : List Nat) : (toI l).map (Value.int .i64) = ic l := by simp [toI, ic]
theorem zones_eq (s : ByteArray) (L : List Ac) : Lib.compact ((toI (rawL s L)).mergeSort fun x y => decide (x ≤ y)) = toI (zonL s L) := by
  have hs : ((toI (rawL s L)).mergeSort fun x y => decide (x ≤ y)).Pairwise (· ≤ ·) := by
    have := List.pairwise_mergeSort (le := fun x y : Int => decide (x ≤ y)) (fun a b c h1 h2 => by simp only [decide_eq_true_eq] at *; omega) (fun a b => by simp only [Bool.or_eq_true, decide_eq_true_eq]; omega) (toI (rawL s L))
    exact this.imp (fun h => by simpa using h)
  obtain ⟨h1, h2⟩ := compact_strict _ hs
  refine strict_ext _ _ h1 ?_ (fun x => ?_)
  · unfold toI
    rw [List.pairwise_map]
    refine List.Pairwise.imp (fun {a b} h => ?_) (List.Pairwise.sublist (List.filter_sublist (p := fun z => L.any fun a => a.1 == 1 && (isL (bAt s a.2.1) && (bAt s a.2.1 - 97 == z)))) (List.pairwise_lt_range (n := 26)))
    omega
  · rw [h2, List.mem_mergeSort]
    unfold toI
    simp only [List.mem_map]
    constructor
    · rintro ⟨z, hz, rfl⟩; exact ⟨z, mem_rawL.1 hz, rfl⟩
    · rintro ⟨z, hz, rfl⟩; exact ⟨z, mem_rawL.2 hz, rfl⟩

/-! ### Sorted, each once -/
theorem Own.ints {w : World} {base : Nat} {v : Value} {xs : List Nat} (h : Own w base v xs) : w.ownsRow base 3 1 v (toI xs).length ((toI xs).map (Value.int .i64)) := by rw [toI_length, toI_ic]; exact h
/-- Numbers of one's own. -/
def OwI (w : World) (base : Nat) (v : Value) (zs : List Int) : Prop := w.ownsRow base 3 1 v zs.length (zs.map (Value.int .i64))
theorem sort_any {w : World} {base : Nat} {A : Option Addr} {n c : Nat} {zs : List Int} (h : OwI w base (.slice A n c) zs) (hz : zs.length ≤ 1000000) (hbase : base ≤ w.heap.size) :
    Calls Tryz.prog 93 #[.slice A n c] w fun e w1 => e = .returned (.tuple #[]) ∧ OwI w1 base (.slice A n c) (zs.mergeSort fun x y => decide (x ≤ y)) ∧ Below base w w1 := by
  by_cases h0 : zs = []
  · subst h0
    have hn : n = 0 := by
      rcases h.2 with ⟨e, _⟩ | ⟨g, cap, cur, e, _⟩
      · injection e
      · injection e
    subst hn
    exact (Any.slices_Sort_int_none Tryz.lays189 A c w).mono (fun e w' ⟨h1, h2⟩ => ⟨h1, by rw [h2]; simpa using h, by rw [h2]; exact Below.refl _ _⟩)
  · have hv : (Value.slice A n c) ≠ .slice none 0 0 := fun e => by
      rcases h.2 with ⟨_, e2⟩ | ⟨g, cap, cur, e2, _⟩
      · exact h0 (List.eq_nil_of_length_eq_zero e2)
      · rw [e] at e2; cases e2
    obtain ⟨g, cap, e, hbg, hgl, hncap, hcm, hlen, hH⟩ := Lib.holds_of_ownsRow h hv
    injection e with e1 e2 e3
    subst e1 e2 e3
    refine (Any.slices_Sort_int Tryz.lays189 g 0 c zs w hH hgl (by omega)).mono (fun e w1 ⟨h1, n, os, h2⟩ => ⟨h1, ?_, ?_⟩)
    · rcases h.2 with ⟨e, _⟩ | ⟨g', cap', cur, e, hbase', hb, k1, k2, k3, k4⟩
      · cases e
      · injection e with e1 e2 e3
        injection e1 with e1
        injection e1 with e1
        subst e1 e3
        have hl2 : (zs.mergeSort fun x y => decide (x ≤ y)).length = zs.length := List.length_mergeSort zs
        have := ownsRow_sortedI (n := n) (os := os) (ts := zs.mergeSort fun x y => decide (x ≤ y)) hl2 hbase' hb k1 k2 k3
        rw [h2]
        unfold OwI
        rw [hl2]
        exact this
    · rw [h2]
      exact Below.grown (Below.refl _ _) (grownBy_sortedI _) hbase (fun k hk => by injection hk with hk; subst hk; exact hbg)
theorem compact_any {w : World} {base : Nat} {A : Option Addr} {n c : Nat} {zs : List Int} (h : OwI w base (.slice A n c) zs) (hz : zs.length ≤ 1000000) (hbase : base ≤ w.heap.size) :
    Calls Tryz.prog 94 #[.slice A n c] w fun e w1 => e = .returned (.slice A (Lib.compact zs).length c) ∧ OwI w1 base (.slice A (Lib.compact zs).length c) (Lib.compact zs) ∧ Below base w w1 := by
  by_cases h0 : zs = []
  · subst h0
    have hn : n = 0 := by
      rcases h.2 with ⟨e, _⟩ | ⟨g, cap, cur, e, _⟩
      · injection e
      · injection e
    subst hn
    exact (Any.slices_Compact_int_empty Tryz.laysNm220 A c w).mono (fun e w' ⟨h1, h2⟩ => ⟨h1, by rw [h2]; exact h, by rw [h2]; exact Below.refl _ _⟩)
  · have hv : (Value.slice A n c) ≠ .slice none 0 0 := fun e => by
      rcases h.2 with ⟨_, e2⟩ | ⟨g, cap, cur, e2, _⟩
      · exact h0 (List.eq_nil_of_length_eq_zero e2)
      · rw [e] at e2; cases e2
    obtain ⟨g, cap, e, hbg, hgl, hncap, hcm, hlen, hH⟩ := Lib.holds_of_ownsRow h hv
    injection e with e1 e2 e3
    subst e1 e2 e3
    have hcl := Lib.compact_length_le zs
    refine (Any.slices_Compact_int Tryz.laysNm220 g 0 c zs w hH (by omega) hncap).mono (fun e w1 ⟨h1, q, h2⟩ => ⟨h1, ?_, ?_⟩)
    · have := Lib.ownsRow_putRow (q := q) (k := (Lib.compact zs).length) (ys := Lib.compact zs ++ List.replicate (zs.length - (Lib.compact zs).length) 0) h (by simp; omega) hcl
      rw [List.take_left] at this
      rw [h2]
      exact this
    · rw [h2]
      exact Lib.below_putRow (Below.refl _ _) hbg
end Tr
end Go.Proofs.YtakgkocdkondhaaGreatDoor
end

section
namespace Go.Proofs.YtakgkocdkondhaaGreatDoor
namespace Tr
open Go.RowKit Fl Pt Go.Maps Go.Sort

/-- Block b is a set of numbers. -/
def SetU (w : World) (b n : Nat) (m : Int → Bool) : Prop := ∃ D : DataW Unit, w.ownsMap Tryz.prog 3 unitElem b n D ∧ ∀ x : Int, has D (kI x) = m x
theorem SetU.made (w : World) : SetU (w.alloc (.map #[] 0)) w.heap.size 0 (fun _ => false) := ⟨.map [], World.ownsMap_made w _ _ _, fun x => by simp [has]⟩
theorem SetU.lt {w : World} {b n : Nat} {m : Int → Bool} (h : SetU w b n m) : b < w.heap.size := by
  obtain ⟨D, h1, h2⟩ := h
  exact h1.lt
theorem SetU.same {w w' : World} {b n : Nat} {m : Int → Bool} (h : SetU w b n m) (he : w'.heap[b]? = w.heap[b]?) : SetU w' b n m := by
  obtain ⟨D, ⟨es, clock, hb, hr⟩, h2⟩ := h
  exact ⟨D, ⟨es, clock, by rw [he]; exact hb, hr⟩, h2⟩
theorem SetU.later {w w' : World} {b n : Nat} {m : Int → Bool} (h : SetU w b n m) (hb : Below w.heap.size w w') : SetU w' b n m := h.same (hb.block b h.lt)
theorem SetU.congr {w : World} {b n : Nat} {m m' : Int → Bool} (h : SetU w b n m) (e : ∀ x, m x = m' x) : SetU w b n m' := by
  obtain ⟨D, h1, h2⟩ := h
  exact ⟨D, h1, fun x => by rw [← e x]; exact h2 x⟩
theorem SetU.put_run {w : World} {b n : Nat} {m : Int → Bool} (h : SetU w b n m) (hn : n ≤ 1048576) {X : Int} (hX : IW X) :
    ∃ w', (Instr.mapUpdate 166 (.map (some b)) (.int .i64 X) (.agg #[])).run Tryz.prog w = .ok () w' ∧ SetU w' b (n + 1) (fun x => m x || (X == x)) ∧ w.grownBy w' (some b) := by
  obtain ⟨D, h1, h2⟩ := h
  have hM := h1.isMap
  obtain ⟨w', hrun, hw', hgr⟩ := h1.update (int_keyed Tryz.underlying3) Tryz.underlying166 (by unfold maxLen; omega) (keyOf_int_mk Tryz.underlying3 (WalkArith.wf_i64 hX)) (unitElem_mk (H := Unit))
  refine ⟨w', hrun, ⟨D.put (kI X) (.agg []), hw', fun x => ?_⟩, hgr⟩
  by_cases e : x = X
  · subst e
    rw [has_put_same hM (kI_key x)]; simp
  · have e2 : (X == x) = false := by rw [beq_eq_false_iff_ne]; exact fun k => e k.symm
    show _ = (m x || (X == x))
    rw [has_put_other (fun h => e (kI_inj h)), h2 x, e2, Bool.or_false]
theorem SetU.asked {w : World} {b n : Nat} {m : Int → Bool} (h : SetU w b n m) {X : Int} (hX : IW X) : (Instr.lookup 166 (.map (some b)) (.int .i64 X) true).run Tryz.prog w = .ok (.tuple #[.agg #[], .bool (m X)]) w := by
  obtain ⟨D, h1, h2⟩ := h
  have hz : (zeroValue 167).run Tryz.prog w = .ok (.agg #[]) w := by kernel_rfl
  obtain ⟨v, ps, hrun, hv⟩ := h1.look_ok (int_keyed Tryz.underlying3) Tryz.underlying166 hz (unitElem_mk (H := Unit)) (keyOf_int_mk Tryz.underlying3 (WalkArith.wf_i64 hX))
  obtain ⟨rfl, _⟩ := unitElem_inv hv
  rw [hrun, show has D (Lit.int IntKind.i64 X) = m X from h2 X]
theorem run_makeMapIS (w : World) : (Instr.makeMap 166 none).run Tryz.prog w = .ok (.map (some w.heap.size)) (w.alloc (.map #[] 0)) := by
  simp [Instr.makeMap, Result.andThen]
theorem goneL_take (L : List Ac) (i : Nat) (h : i < L.length) (c : Int) : goneL (L.take (i + 1)) c = (goneL (L.take i) c || ((L.getD i (0, 0, 0)).1 == 1 && ((L.getD i (0, 0, 0)).2.1 == c))) := by
  rw [take_snoc L i (0, 0, 0) h]
  unfold goneL
  simp [List.any_append]
/-- A list of zones is told. -/
def ZTold (W H : Int) (s : ByteArray) (L : List Ac) (w : World) (e : Ending) (w' : World) : Prop :=
  ∃ A n c zs, e = .returned (.slice A n c) ∧ n = zs.length ∧ zs.length ≤ 26 ∧ (Right W H s → zs = zonL s L) ∧ (¬ Right W H s → zs = []) ∧ Il w'.heap.size w' A n c (fun j => ((zs.getD j 0 : Nat) : Int)) ∧ Below w.heap.size w w'
/-- The lanes looked at so far that were gone to. -/
def rawT (s : ByteArray) (L : List Ac) (i : Nat) : List Nat := (((lanL s).take i).filter fun (c : Nat) => goneL L (c : Int)).map fun (c : Nat) => at_ s c - 97
theorem rawT_succ (s : ByteArray) (L : List Ac) (i : Nat) (h : i < (lanL s).length) : rawT s L (i + 1) = rawT s L i ++ if goneL L (((lanL s).getD i 0 : Nat) : Int) = true then [at_ s ((lanL s).getD i 0) - 97] else [] := by
  unfold rawT
  rw [take_snoc (lanL s) i 0 h, List.filter_append, List.map_append]
  congr 1
  by_cases e : goneL L (((lanL s).getD i 0 : Nat) : Int) = true
  · rw [if_pos e, List.filter_cons_of_pos (by simpa using e)]; rfl
  · rw [if_neg e, List.filter_cons_of_neg (by simpa using e)]; rfl
theorem rawT_le (s : ByteArray) (L : List Ac) (i : Nat) : (rawT s L i).length ≤ i := by
  unfold rawT
  rw [List.length_map]
  exact Nat.le_trans (List.length_filter_le _ _) (List.length_take_le _ _)
theorem rawT_all (s : ByteArray) (L : List Ac) {i : Nat} (h : (lanL s).length ≤ i) : rawT s L i = rawL s L := by
  unfold rawT rawL
  rw [List.take_of_length_le h]
theorem zonL_le (s : ByteArray) (L : List Ac) : (zonL s L).length ≤ 26 := by
  have := List.length_filter_le (fun z => L.any fun a => a.1 == 1 && (isL (bAt s a.2.1) && (bAt s a.2.1 - 97 == z))) (List.range 26)
  rw [List.length_range] at this
  exact this
/-- A list of zones of one's own is told. -/
def ZOwn (W H : Int) (s : ByteArray) (L : List Ac) (w : World) (e : Ending) (w' : World) : Prop :=
  ∃ A n c zs, e = .returned (.slice A n c) ∧ n = zs.length ∧ zs.length ≤ 26 ∧ (Right W H s → zs = zonL s L) ∧ (¬ Right W H s → zs = []) ∧ OwI w' w.heap.size (.slice A n c) (toI zs) ∧ Below w.heap.size w w'
theorem OwI.low {w : World} {base base' : Nat} {v : Value} {zs : List Int} (h : OwI w base v zs) (hb : base' ≤ base) : OwI w base' v zs := ownsRow_lower h hb
set_option maxHeartbeats 4000000 in
theorem zones_own (W H : Int) (s : ByteArray) (hs : s.size ≤ maxLen) (A : Option Addr) (n cap : Nat) (L : List Ac) (w : World) (h : Al w.heap.size w A n cap L) (hn : n ≤ 1000000) (hIW : ∀ i, i < n → IW (L.getD i (0, 0, 0)).2.1) :
    Calls Tryz.prog 99 #[.agg #[.int .i64 W, .int .i64 H, .string s], .slice A n cap] w (ZOwn W H s L w) := by
  have HL := Lib.hid h
  have hlen := h.len
  obtain ⟨hc1, hc2⟩ := h.size
  have HIW := Lib.hid hIW
  have HLA := Lib.hid (fun wx => lanes_any W H s hs wx)
  have HZO := Lib.hid (fun c wx => zone_any W H s hs c wx)
  have hmk := run_makeMapIS
  clear h hIW
  go_enter Tryz.func99, Tryz.ntmps99
  go_wp2_with fail
  have HX1 := Lib.hid ((Box.start w W H s 25).after ((Below.refl _ _).alloc (Nat.le_refl _) (.map #[] 0)))
  have HM1 := Lib.hid (SetU.made (w.alloc (.cells #[.int .i64 W, .int .i64 H, .string s] 25)))
  rw [alloc_size] at HM1
  clear hmk
  go_loopw [18] (fun iv wr => ∃ (i N : Nat), i ≤ n ∧ iv = .int .i64 (i : Int) ∧ Hid (N ≤ i) ∧ Hid (SetU wr (w.heap.size + 1) N (goneL (L.take i))) ∧ Hid (Box w W H s wr)) (fun iv _ => n - (intOf iv).toNat)
  case atStart => exact ⟨0, 0, Nat.zero_le _, rfl, Lib.hid (Nat.le_refl _), Lib.hid HM1.out, Lib.hid HX1.out⟩
  case round =>
    rename World => wr
    obtain ⟨i, N, hi, rfl, HN, HM, HX⟩ := hrel
    by_cases hlt : i < n
    · obtain ⟨g, off, rfl, hg, k0, k1, k2⟩ := (HL.out.below HX.out.below).cell hlt
      have hiI : (i : Int) < (n : Int) := by omega
      have hg2 : g < wr.heap.size := Nat.lt_of_lt_of_le hg HX.out.below.size
      have HG := Lib.hid (goneL_take L i (by omega))
      have HI := Lib.hid (HIW.out i hlt)
      generalize L.getD i (0, 0, 0) = ac at *
      obtain ⟨k, c, p⟩ := ac
      have k0 : wr.cell? ⟨g, off + i * 3, none⟩ = some (.int .u8 (k : Int)) := k0
      have k1 : wr.cell? ⟨g, off + i * 3 + 1, none⟩ = some (.int .i64 c) := k1
      have k2 : wr.cell? ⟨g, off + i * 3 + 2, none⟩ = some (.int .i64 p) := k2
      have hal := (Below.refl wr.heap.size wr).alloc (Nat.le_refl _) (.cells #[.int .u8 (k : Int), .int .i64 c, .int .i64 p] 39)
      have HXA := Lib.hid (HX.out.after hal)
      have HMA := Lib.hid (HM.out.later hal)
      clear hal
      generalize hkk : (k : Int) = kk at *
      by_cases e1 : k = 1
      · subst e1
        obtain rfl : kk = 1 := by rw [← hkk]; rfl
        clear hkk
        obtain ⟨w5, hput, hm5, hg5⟩ := HMA.out.put_run (by have := HN.out; omega) (show IW c from HI.out)
        have HM5 : Hid (SetU w5 (w.heap.size + 1) (N + 1) (goneL (L.take (i + 1)))) := Lib.hid (hm5.congr (fun x => by rw [HG.out]; simp))
        have HX5 : Hid (Box w W H s w5) := Lib.hid (HXA.out.later ⟨hg5.os, hg5.tape, hg5.output, hg5.size, fun q hq => hg5.block q (Nat.lt_of_lt_of_le hq HXA.out.lt) (fun e => by injection e with e; omega)⟩)
        clear hm5 hg5
        go_wp2_with fail
        go_roundw
        case rel => exact ⟨i + 1, N + 1, by omega, by go_num, Lib.hid (by have := HN.out; omega), HM5, HX5⟩
        case measure => simp [intOf]; omega
      · have d1 : (kk == 1) = false := by rw [beq_eq_false_iff_ne]; omega
        have HM5 : Hid (SetU (wr.alloc (.cells #[.int .u8 kk, .int .i64 c, .int .i64 p] 39)) (w.heap.size + 1) N (goneL (L.take (i + 1)))) := Lib.hid (HMA.out.congr (fun x => by
          have : (k == 1) = false := by rw [beq_eq_false_iff_ne]; exact e1
          rw [HG.out, this, Bool.false_and, Bool.or_false]))
        go_wp2_with fail
        go_roundw
        case rel => exact ⟨i + 1, N, by omega, by go_num, Lib.hid (by have := HN.out; omega), HM5, HXA⟩
        case measure => simp [intOf]; omega
    · obtain rfl : i = n := by omega
      have HMZ : Hid (SetU wr (w.heap.size + 1) N (goneL L)) := Lib.hid (by have h1 := HM.out; rw [List.take_of_length_le (by omega)] at h1; exact h1)
      have c0 := HX.out.c0
      have c1 := HX.out.c1
      have c2 := HX.out.c2
      clear HM HL HIW
      go_wp2_with fail
      refine (HLA.out _).mono ?_
      rintro e w2 ⟨A2, n2, k2, xs, rfl, hn2, hy2, hz2, ho2, hb2⟩
      have HX2 := Lib.hid (HX.out.after hb2)
      have HM2 := Lib.hid (HMZ.out.later hb2)
      have HO2 := Lib.hid (ho2.lower HX.out.below.size)
      have HY2 := Lib.hid hy2
      have HZ2 := Lib.hid hz2
      have HB2 := Lib.hid (HX.out.after hb2)
      have hxl : n2 ≤ 9223372036854775807 := (ho2.il hn2).size
      have hcap2 := ho2.cap hn2
      obtain ⟨hcap2a, hcap2b⟩ := hcap2
      have hcap2c : k2 ≤ 9223372036854775807 := by unfold maxLen at hcap2b; omega
      have HXS : Hid (n2 = xs.length) := Lib.hid hn2
      have HXL : Hid (n2 ≤ 1000000) := Lib.hid (by
        by_cases hR : Right W H s
        · have h1 := rightLe hR
          have h2 := pick_le isL (at_ s) s.size
          rw [hn2, hy2 hR]; omega
        · rw [hn2, hz2 hR]; simp)
      clear hn2 hy2 hz2 ho2 hb2 hcap2b
      go_wp2_with fail
      go_loopw [8, 33] (fun zv iv wz => ∃ (j : Nat) (A3 : Option Addr) (n3 k3 : Nat), j ≤ n2 ∧ zv = .slice A3 n3 k3 ∧ iv = .int .i64 (j : Int) ∧ Hid (n3 = (rawT s L j).length ∧ (¬ Right W H s → j = 0)) ∧ Hid (Own wz w2.heap.size (.slice A3 n3 k3) (rawT s L j)) ∧ Hid (Below w2.heap.size w2 wz)) (fun _ iv _ => n2 - (intOf iv).toNat)
      case atStart => exact ⟨0, none, 0, 0, Nat.zero_le _, rfl, rfl, Lib.hid ⟨rfl, fun _ => rfl⟩, Lib.hid (Own.nil _ _), Lib.hid (Below.refl _ _)⟩
      case round =>
        rename World => wz
        obtain ⟨j, A3, n3, k3, hj, rfl, rfl, HT, HW, HBZ⟩ := hrel
        have HM := Lib.hid (HM2.out.later HBZ.out)
        have HO := Lib.hid (HO2.out.later HBZ.out)
        have HX := Lib.hid (HX2.out.after HBZ.out)
        by_cases hlt : j < n2
        · have HR : Hid (Right W H s) := Lib.hid (Classical.byContradiction fun q => by have h1 := HZ2.out q; have h2 := HXS.out; rw [h1] at h2; simp at h2; omega)
          obtain rfl := HY2.out HR.out
          have hlen2 : n2 = (lanL s).length := HXS.out
          have hj2 : j < (lanL s).length := by omega
          obtain ⟨g, rfl, hg, hcell0⟩ := HO.out.at j (by rw [← HXS.out]; exact hlt)
          have hjI : (j : Int) < (n2 : Int) := by omega
          have HSU := Lib.hid (rawT_succ s L j hj2)
          have HLE := Lib.hid (rawT_le s L j)
          have hmem : (lanL s).getD j 0 ∈ lanL s := by rw [List.getD, List.getElem?_eq_getElem hj2]; exact List.getElem_mem _
          obtain ⟨hc1', hc2'⟩ := mem_pick.1 hmem
          have hcell : wz.cell? ⟨g, j, none⟩ = some (.int .i64 (((lanL s).getD j 0 : Nat) : Int)) := hcell0
          clear hcell0
          have h256 := rightLe HR.out
          generalize (lanL s).getD j 0 = c at *
          have hask := HM.out.asked (show IW ((c : Nat) : Int) from IW_nat (by omega))
          have hal := (Below.refl wz.heap.size wz).alloc (Nat.le_refl _) (.cells #[] 167)
          have HXA := Lib.hid (HX.out.after hal)
          have HBA := Lib.hid (HBZ.out.trans (hal.mono HBZ.out.size))
          have HWA := Lib.hid (HW.out.later hal)
          have HCL : Hid (OnLane W H s (c : Int) ∧ bAt s (c : Int) = at_ s c ∧ isL (at_ s c) = true) := Lib.hid ⟨⟨HR.out, by rw [bAt_in5 s c hc1']; exact hc2'⟩, bAt_in5 s c hc1', hc2'⟩
          have a0 := HXA.out.c0
          have a1 := HXA.out.c1
          have a2 := HXA.out.c2
          clear hal hmem hc1' hc2' h256 hlen2 hj2
          cases hgo : goneL L (c : Int) with
          | true =>
            rw [hgo] at hask
            have HT2 : Hid (rawT s L (j + 1) = rawT s L j ++ [at_ s c - 97]) := Lib.hid (by rw [HSU.out, if_pos hgo])
            clear hgo
            go_wp2_with fail
            refine (HZO.out (c : Int) _).mono ?_
            rintro e w5 ⟨z, b, rfl, h1, _, hb5⟩
            obtain ⟨rfl, rfl⟩ := h1 HCL.out.1
            have HX5 := Lib.hid (HXA.out.after hb5)
            have HBW := Lib.hid (HBA.out.trans (hb5.mono HBA.out.size))
            have HW5 := Lib.hid (HWA.out.later hb5)
            have HB5 : Hid (w2.heap.size ≤ w5.heap.size) := Lib.hid HBW.out.size
            have hbe : bAt s (c : Int) - 97 = at_ s c - 97 := by rw [HCL.out.2.1]
            rw [hbe]
            clear h1 hb5 hbe a0 a1 a2 hask hcell
            generalize at_ s c - 97 = z at *
            go_wp2_with (at_builtin; refine app_int rfl _ _ rfl w2.heap.size _ (rawT s L j) rfl z _ rfl _ rfl HW5.out rfl (by have h1 := HLE.out; have h2 := HXL.out; omega) HB5.out ?_; intro A' c' n' w6 hn6 ho6 hb6 hg6; have HN6 := Lib.hid hn6; have HO6 := Lib.hid ho6; have HB6 := Lib.hid hb6; have HG6 := Lib.hid hg6; clear hn6 ho6 hb6 hg6)
            go_roundw
            case rel =>
              exact ⟨j + 1, A', n', c', by omega, rfl, by go_num, Lib.hid ⟨by rw [HT2.out]; exact HN6.out, fun q => absurd HR.out q⟩, by rw [HT2.out]; exact HO6, Lib.hid (HBW.out.trans HB6.out)⟩
            case measure => simp [intOf]; omega
          | false =>
            rw [hgo] at hask
            have HT2 : Hid (rawT s L (j + 1) = rawT s L j) := Lib.hid (by rw [HSU.out, if_neg (by rw [hgo]; decide), List.append_nil])
            clear hgo
            go_wp2_with fail
            go_roundw
            case rel =>
              exact ⟨j + 1, A3, n3, k3, by omega, rfl, by go_num, Lib.hid ⟨by rw [HT2.out]; exact HT.out.1, fun q => absurd HR.out q⟩, by rw [HT2.out]; exact HWA, HBA⟩
            case measure => simp [intOf]; omega
        · obtain rfl : j = n2 := by omega
          have hsort := sort_any (zs := toI (rawT s L j)) (base := w2.heap.size) (A := A3) (n := n3) (c := k3) (Own.ints HW.out) (by have h1 := rawT_le s L j; rw [toI_length]; exact Nat.le_trans h1 HXL.out) HBZ.out.size
          have HSORT := Lib.hid hsort
          clear hsort
          go_wp2_with fail
          refine HSORT.out.mono ?_
          rintro e w7 ⟨rfl, ho7, hb7⟩
          have HBW7 := Lib.hid (HBZ.out.trans hb7)
          have hcomp := compact_any (base := w2.heap.size) ho7 (by have h1 := rawT_le s L j; rw [List.length_mergeSort, toI_length]; exact Nat.le_trans h1 HXL.out) HBW7.out.size
          have HCOMP := Lib.hid hcomp
          clear hcomp ho7 hb7
          go_wp2_with fail
          refine HCOMP.out.mono ?_
          rintro e w8 ⟨rfl, ho8, hb8⟩
          have HBW8 := Lib.hid (HBW7.out.trans hb8)
          have HO8 := Lib.hid ho8
          clear ho8 hb8
          have HFX : Hid (∃ zs : List Nat, Lib.compact ((toI (rawT s L j)).mergeSort fun x y => decide (x ≤ y)) = toI zs ∧ zs.length ≤ 26 ∧ (Right W H s → zs = zonL s L) ∧ (¬ Right W H s → zs = [])) := Lib.hid (by
            by_cases hR : Right W H s
            · have e : rawT s L j = rawL s L := rawT_all s L (by have h1 := HXS.out; rw [HY2.out hR] at h1; exact Nat.le_of_eq h1.symm)
              exact ⟨zonL s L, by rw [e]; exact zones_eq s L, zonL_le s L, fun _ => rfl, fun q => absurd hR q⟩
            · have e : rawT s L j = [] := by rw [HT.out.2 hR]; rfl
              exact ⟨[], by rw [e]; simp [toI, Lib.compact, Lib.compactUpTo], by simp, fun q => absurd q hR, fun _ => rfl⟩)
          obtain ⟨zs, hz1, hz2, hz3, hz4⟩ := HFX.out
          rw [hz1] at HO8 ⊢
          have HZL := Lib.hid (And.intro hz2 (And.intro hz3 hz4))
          clear hz1 hz2 hz3 hz4 HFX HCOMP HSORT
          go_wp2_with fail
          go_ret
          exact ⟨A3, _, k3, zs, rfl, toI_length zs, HZL.out.1, HZL.out.2.1, HZL.out.2.2, OwI.low HO8.out HX2.out.below.size, HX2.out.below.trans (HBW8.out.mono HX2.out.below.size)⟩
end Tr
end Go.Proofs.YtakgkocdkondhaaGreatDoor
end
