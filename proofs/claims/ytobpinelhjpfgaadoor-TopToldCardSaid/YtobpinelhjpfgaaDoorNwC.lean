/-
  Layer 13: a network in memory; New, under, there, Len, Peek.
-/
import Derived.Test.YtobpinelhjpfgaaDoorNwB
import Derived.Deep.RegionHeld3
import Derived.StillTailTactics
set_option linter.unusedVariables false
set_option maxRecDepth 100000
namespace Go.Proofs.YtobpinelhjpfgaaDoor
namespace Nw
open Go.RowKit Go.Maps Bk

def bat (L : List ByteArray) (j : Nat) : ByteArray := L.getD j ByteArray.empty
theorem bat_get {L : List ByteArray} {j : Nat} (h : j < L.length) : L[j]? = some (bat L j) := by simp [bat, List.getD, List.getElem?_eq_getElem h]
theorem bat_mem {L : List ByteArray} {j : Nat} (h : j < L.length) : bat L j ∈ L := List.mem_of_getElem? (bat_get h)
theorem bat_of {L : List ByteArray} {j : Nat} {s : ByteArray} (h : L[j]? = some s) : bat L j = s := by simp [bat, List.getD, h]
/-- Packets are under way: the network's block is g, its row v, the packets' values P, their texts L. -/
structure NAt (w : World) (base g : Nat) (v : Value) (P : List Value) (L : List ByteArray) : Prop where
  box : w.heap[g]? = some (.cells #[v] 111 (0, 0))
  own : Rw w base v P
  len : P.length = L.length
  pk : ∀ i p, P[i]? = some p → Yw w base p (bat L i)
  lo : base ≤ g
  few : L.length ≤ 1024
  sm : ∀ s ∈ L, s.size ≤ 100000
/-- Its blocks. -/
def NF (g : Nat) (v : Value) (P : List Value) (k : Nat) : Prop := k = g ∨ v.ownBlock = some k ∨ ∃ p ∈ P, p.ownBlock = some k
section
variable {w w' w1 : World} {base g : Nat} {v v' : Value} {P P' : List Value} {L L' : List ByteArray}
theorem NAt.lt (h : NAt w base g v P L) : g < w.heap.size := lt_of_heap h.box
theorem NAt.mem (h : NAt w base g v P L) {p : Value} (hp : p ∈ P) : ∃ s, Yw w base p s := by
  obtain ⟨i, hi, rfl⟩ := List.getElem_of_mem hp
  exact ⟨_, h.pk i _ (List.getElem?_eq_getElem hi)⟩
theorem NAt.ones (h : NAt w base g v P L) : ∀ u ∈ P, u.oneCell' = true := fun u hu => by obtain ⟨s, hs⟩ := h.mem hu; exact hs.one
theorem NAt.blocks (h : NAt w base g v P L) : ∀ k, NF g v P k → base ≤ k ∧ k < w.heap.size := by
  rintro k (rfl | hk | ⟨p, hp, hk⟩)
  · exact ⟨h.lo, h.lt⟩
  · exact ⟨(own_kind h.own k hk).2.1, (own_kind h.own k hk).1⟩
  · obtain ⟨s, hs⟩ := h.mem hp
    exact ⟨(hs.kind k hk).2.1, (hs.kind k hk).1⟩
theorem NAt.same (h : NAt w base g v P L) (hb : ∀ k, NF g v P k → w'.heap[k]? = w.heap[k]?) : NAt w' base g v P L :=
  ⟨(hb g (.inl rfl)).trans h.box, ownsRow_same h.own (fun k hk => hb k (.inr (.inl hk))), h.len, fun i p e => (h.pk i p e).same (fun k hk => hb k (.inr (.inr ⟨p, List.mem_of_getElem? e, hk⟩))), h.lo, h.few, h.sm⟩
theorem NAt.later (h : NAt w base g v P L) (hb : Below w.heap.size w w') : NAt w' base g v P L := h.same fun k hk => hb.block k (h.blocks k hk).2
theorem NAt.turn {F F' : Nat → Prop} (h : NAt w base g v P L) (ht : Turn F F' w w') (hd : ∀ k, NF g v P k → ¬ F k) : NAt w' base g v P L := h.same fun k hk => ht.block k (h.blocks k hk).2 (hd k hk)
/-- What kind its blocks are of. -/
theorem NAt.kind (h : NAt w base g v P L) : ∀ k, NF g v P k → ∃ c t fz, w.heap[k]? = some (.cells c t fz) ∧ (t = 111 ∨ t = 35 ∨ t = 5) := by
  rintro k (rfl | hk | ⟨p, hp, hk⟩)
  · exact ⟨_, _, _, h.box, .inl rfl⟩
  · obtain ⟨_, _, c, fz, e⟩ := own_kind h.own k hk
    exact ⟨c, _, fz, e, .inr (.inl rfl)⟩
  · obtain ⟨s, hs⟩ := h.mem hp
    obtain ⟨_, _, c, fz, e⟩ := hs.kind k hk
    exact ⟨c, _, fz, e, .inr (.inr rfl)⟩
theorem NAt.cell0 (h : NAt w base g v P L) : w.cell? ⟨g, 0, none⟩ = some v ∧ w.frozen? ⟨g, 0, none⟩ = false :=
  ⟨by rw [cell_of_row w g 0 _ _ _ h.box]; rfl, frozen_of_row w g 0 _ _ h.box⟩
theorem NAt.form (h : NAt w base g v P L) : ∃ A c, v = .slice A L.length c := by
  obtain ⟨A, c, e⟩ := Rw.form h.own
  exact ⟨A, c, by rw [← h.len]; exact e⟩
theorem NAt.size {A : Option Addr} {n c : Nat} (h : NAt w base g (.slice A n c) P L) : n = L.length ∧ n ≤ c ∧ c ≤ 9223372036854775807 := by
  obtain ⟨e, hg⟩ := Rw.gt h.own
  exact ⟨e.trans h.len, hg.size⟩
/-- Where the packet at a place lies. -/
theorem NAt.at_ {A : Option Addr} {n c : Nat} (h : NAt w base g (.slice A n c) P L) {i : Nat} (hi : i < L.length) : ∃ gr off A1 n1 c1, A = some ⟨gr, off, none⟩ ∧ w.cell? ⟨gr, off + i, none⟩ = some (.slice A1 n1 c1) ∧ Yb w.heap.size w A1 n1 c1 (bat L i) ∧ n1 ≤ 100000 := by
  obtain ⟨e, hg⟩ := Rw.gt h.own
  have hl := h.len
  obtain ⟨gr, off, hA, _, hc⟩ := hg.cell (by omega)
  have hp := List.getElem?_eq_getElem (show i < P.length by omega)
  have hy := h.pk i _ hp
  obtain ⟨A1, c1, ep⟩ := hy.form
  refine ⟨gr, off, A1, (bat L i).size, c1, hA, ?_, ?_, h.sm _ (bat_mem hi)⟩
  · rw [hc i (by omega), hp, ep]
  · rw [ep] at hy; exact hy.yb
/-- The row of the network is another one now. -/
theorem NAt.turned (h : NAt w base g v P L) (o : Rw w1 base v' P') (hb : w1.heap[g]? = w.heap[g]?) (hl : P'.length = L'.length) (hp : ∀ i p, P'[i]? = some p → Yw w1 base p (bat L' i)) (h1 : L'.length ≤ 1024) (h2 : ∀ s ∈ L', s.size ≤ 100000) : NAt (w1.setCell ⟨g, 0, none⟩ v') base g v' P' L' := by
  have hbox := hb.trans h.box
  have hv' : v'.ownBlock ≠ some g := by
    intro e
    obtain ⟨_, _, c, fz, hh⟩ := own_kind o g e
    have := hh.symm.trans hbox
    injection this with this
    injection this with _ this _
    revert this
    decide
  refine ⟨?_, ownsRow_same o (fun k hk => Below.heap_setCell _ _ _ _ (fun e => hv' (by rw [hk]; exact congrArg some e))), hl, fun i p e => ?_, h.lo, h1, h2⟩
  · rw [heap_setCell_same w1 g 0 _ _ _ hbox]
    rfl
  · refine (hp i p e).same fun k hk => Below.heap_setCell _ _ _ _ (fun e2 => ?_)
    obtain ⟨_, _, c, fz, hh⟩ := (hp i p e).kind k hk
    have e3 : k = g := e2
    rw [e3] at hh
    have := hh.symm.trans hbox
    injection this with this
    injection this with _ this _
    revert this
    decide
/-- Where the row is written, the network's own block is as it was. -/
theorem kept_box (h : NAt w base g v P L) (hg : w.grownBy w1 v.ownBlock) : w1.frozen? ⟨g, 0, none⟩ = false ∧ (∃ u, w1.cell? ⟨g, 0, none⟩ = some u) ∧ w1.heap[g]? = w.heap[g]? := by
  have hb := hg.block g h.lt (fun e => by
    obtain ⟨_, _, c, fz, hh⟩ := own_kind h.own g e.symm
    have := hh.symm.trans h.box
    injection this with this
    injection this with _ this _
    revert this
    decide)
  have hbx := hb.trans h.box
  exact ⟨frozen_of_row w1 g 0 _ _ hbx, ⟨_, cell_of_row w1 g 0 _ _ _ hbx⟩, hb⟩
theorem NAt.new (w : World) (base : Nat) (hb : base ≤ w.heap.size) : NAt (w.alloc (.cells #[.slice none 0 0] 111)) base w.heap.size (.slice none 0 0) [] [] :=
  ⟨heap_alloc_new w _, World.ownsRow_nil _ _ _ _, rfl, fun i p e => by simp at e, hb, by simp, by simp⟩
end
theorem new_any (w : World) : Calls Tryd.prog 39 #[] w fun e w' => e = .returned (.pointer (some ⟨w.heap.size, 0, none⟩)) ∧ NAt w' w.heap.size w.heap.size (.slice none 0 0) [] [] ∧ Below w.heap.size w w' := by
  have H1 := Lib.hid (NAt.new w w.heap.size (Nat.le_refl _))
  have H2 := Lib.hid ((Below.refl w.heap.size w).alloc (Nat.le_refl _) (.cells #[.slice none 0 0] 111))
  go_enter Tryd.func39, Tryd.ntmps39
  go_wp2_with fail
  go_ret
  exact ⟨rfl, H1.out, H2.out⟩
theorem under_any {w : World} {g : Nat} {v : Value} (h : w.cell? ⟨g, 0, none⟩ = some v) : Calls Tryd.prog 91 #[.pointer (some ⟨g, 0, none⟩)] w fun e w' => e = .returned v ∧ w = w' := by
  go_enter Tryd.func91, Tryd.ntmps91
  go_wp2_with fail
  go_ret
  exact ⟨rfl, rfl⟩
theorem under_nil (w : World) : Calls Tryd.prog 91 #[.pointer none] w fun e w' => e = .returned (.slice none 0 0) ∧ w = w' := by
  go_enter Tryd.func91, Tryd.ntmps91
  go_wp2_with fail
  go_ret
  exact ⟨rfl, rfl⟩
/-- Is there something at a place? -/
def isA (n : Nat) (i : Int) : Bool := decide (0 ≤ i ∧ i < n)
theorem there_any (A : Option Addr) (n c : Nat) (i : Int) (w : World) : Calls Tryd.prog 92 #[.slice A n c, .int .i64 i] w fun e w' => e = .returned (.bool (isA n i)) ∧ w = w' := by
  by_cases h0 : 0 ≤ i
  · by_cases h1 : i < n
    · have HI : Hid (isA n i = true) := Lib.hid (decide_eq_true ⟨h0, h1⟩)
      have d0 : decide (0 ≤ i) = true := decide_eq_true h0
      have d1 : decide (i < (n : Int)) = true := decide_eq_true h1
      go_enter Tryd.func92, Tryd.ntmps92
      go_wp2_with fail
      go_ret
      exact ⟨ret_bool (by rw [HI.out]), rfl⟩
    · have HI : Hid (isA n i = false) := Lib.hid (decide_eq_false (fun h => h1 h.2))
      have d0 : decide (0 ≤ i) = true := decide_eq_true h0
      have d1 : decide (i < (n : Int)) = false := decide_eq_false h1
      go_enter Tryd.func92, Tryd.ntmps92
      go_wp2_with fail
      go_ret
      exact ⟨ret_bool (by rw [HI.out]), rfl⟩
  · have HI : Hid (isA n i = false) := Lib.hid (decide_eq_false (fun h => h0 h.1))
    have d0 : decide (0 ≤ i) = false := decide_eq_false h0
    go_enter Tryd.func92, Tryd.ntmps92
    go_wp2_with fail
    go_ret
    exact ⟨ret_bool (by rw [HI.out]), rfl⟩
/-- The text of the packet at a place. -/
def gtA (L : List ByteArray) (i : Int) : ByteArray := if isA L.length i = true then bat L i.toNat else ByteArray.empty
/-- A packet is told. -/
def PeekTold (L : List ByteArray) (i : Int) (w : World) (e : Ending) (w' : World) : Prop := ∃ A c, e = .returned (.tuple #[.slice A (gtA L i).size c, .bool (isA L.length i)]) ∧ Yw w' w.heap.size (.slice A (gtA L i).size c) (gtA L i) ∧ Below w.heap.size w w'
theorem PeekTold.no {L : List ByteArray} {i : Int} (h : isA L.length i = false) (w : World) : PeekTold L i w (.returned (.tuple #[.slice none 0 0, .bool false])) w := by
  have e : gtA L i = ByteArray.empty := by unfold gtA; rw [h]; rfl
  refine ⟨none, 0, by rw [e, h]; rfl, ?_, Below.refl _ _⟩
  rw [e]
  exact Yw.nil _ _
set_option maxHeartbeats 1000000 in
theorem Peek_any {w : World} {base g : Nat} {v : Value} {P : List Value} {L : List ByteArray} (h : NAt w base g v P L) (i : Int) : Calls Tryd.prog 47 #[.pointer (some ⟨g, 0, none⟩), .int .i64 i] w (PeekTold L i w) := by
  obtain ⟨A, c, rfl⟩ := h.form
  have HU := Lib.hid (under_any h.cell0.1)
  have HT := Lib.hid (there_any A L.length c i w)
  obtain ⟨_, hsz1, hsz2⟩ := h.size
  cases hi : isA L.length i with
  | false =>
    have HN := Lib.hid (PeekTold.no hi w)
    rw [hi] at HT
    clear h hi
    go_enter Tryd.func47, Tryd.ntmps47
    go_wp2_with fail
    refine HU.out.mono ?_
    rintro e w1 ⟨rfl, rfl⟩
    go_wp2_with fail
    refine HT.out.mono ?_
    rintro e w1 ⟨rfl, rfl⟩
    go_wp2_with fail
    go_ret2
    exact HN.out
  | true =>
    have hi2 : 0 ≤ i ∧ i < (L.length : Int) := of_decide_eq_true hi
    obtain ⟨j, rfl⟩ := Int.eq_ofNat_of_zero_le hi2.1
    have hj : j < L.length := by omega
    obtain ⟨gr, off, A1, n1, c1, rfl, hc, hy, hn1⟩ := h.at_ hj
    have hjI : (j : Int) < (L.length : Int) := hi2.2
    have HC := Lib.hid (clone_any A1 n1 c1 _ w hy (by omega))
    have HG : Hid (gtA L (j : Int) = bat L j) := Lib.hid (by unfold gtA; rw [hi, if_pos rfl]; rfl)
    have HI := Lib.hid hi
    rw [hi] at HT
    clear h hi hi2 hy
    generalize hL : L.length = n at *
    go_enter Tryd.func47, Tryd.ntmps47
    go_wp2_with fail
    refine HU.out.mono ?_
    rintro e w1 ⟨rfl, rfl⟩
    go_wp2_with fail
    refine HT.out.mono ?_
    rintro e w1 ⟨rfl, rfl⟩
    go_wp2_with fail
    refine HC.out.mono ?_
    rintro e w2 ⟨A2, c2, rfl, hy2, hb2⟩
    have HY := Lib.hid hy2
    have HB := Lib.hid hb2
    clear hy2 hb2
    go_wp2_with fail
    go_ret2
    refine ⟨A2, c2, by rw [HG.out, hL, HI.out]; rfl, by rw [HG.out]; exact HY.out, HB.out⟩
theorem Peek_nil (i : Int) (w : World) : Calls Tryd.prog 47 #[.pointer none, .int .i64 i] w fun e w' => e = .returned (.tuple #[.slice none 0 0, .bool false]) ∧ w = w' := by
  have HU := Lib.hid (under_nil w)
  have HT := Lib.hid (there_any none 0 0 i w)
  have hi : isA 0 i = false := decide_eq_false (fun h => by omega)
  rw [hi] at HT
  clear hi
  go_enter Tryd.func47, Tryd.ntmps47
  go_wp2_with fail
  refine HU.out.mono ?_
  rintro e w1 ⟨rfl, rfl⟩
  go_wp2_with fail
  refine HT.out.mono ?_
  rintro e w1 ⟨rfl, rfl⟩
  go_wp2_with fail
  go_ret2
  exact ⟨rfl, rfl⟩
end Nw
end Go.Proofs.YtobpinelhjpfgaaDoor
