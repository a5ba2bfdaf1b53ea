/-
  The document's heap: asked for the least, the least taken out.
-/
import Derived.Test.YtbpcigcfdkamaaaHpR2
set_option linter.unusedVariables false
namespace Go.Proofs.Ytbpcigcfdkamaaa
open Go.RowKit E

/-- The first of a list of items, and whether there is one. -/
def hd (l : List (Int × Int)) : Int × Int := l.getD 0 (0, 0)
def It? (l : List (Int × Int)) : Value := .tuple #[.agg #[.int .i64 (hd l).1, .int .i64 (hd l).2], .bool (decide (0 < l.length))]

theorem RAt.len0 {w : World} {rb n cap : Nat} {A : Option Addr} {l : List (Int × Int)} (h : RAt w rb A n cap l) (hn : n = 0) : l = [] := List.eq_nil_of_length_eq_zero (by rw [h.len, hn])

theorem r4peek_any (rb : Nat) (A : Option Addr) (n cap : Nat) (l : List (Int × Int)) (w : World) (h : RAt w rb A n cap l) :
    Calls Try.prog 18 #[.pointer (some ⟨rb, 0, none⟩)] w fun e w' => e = .returned (It? l) ∧ Below w.heap.size w w' := by
  have HB : Hid (∀ x : Obj, Below w.heap.size w (w.alloc x)) := Lib.hid fun x => (Below.refl _ w).alloc (Nat.le_refl _) _
  have hrb := lt_of_heap h.box
  have c0 : w.cell? ⟨rb, 0, none⟩ = some (.slice A n cap) := by rw [cell_of_row w rb 0 _ _ _ h.box]; rfl
  have hle := h.items.le
  have hmax := h.items.max
  unfold maxLen at hmax
  by_cases hn : n = 0
  · subst hn
    have hl := h.len0 rfl
    subst hl
    clear h
    go_enter Try.func18, Try.ntmps18
    go_wp2
    exact bodyPost_ret (v := It? []) (by simp [results, Try.results18, go_sem, It?, hd]) rfl ⟨rfl, HB.out _⟩
  · obtain ⟨g, off, rfl, hg, hc⟩ := h.items.cell (by omega)
    have d0 : w.cell? ⟨g, off, none⟩ = some (.int .i64 (hd l).1) := by have := (hc 0 (by omega)).1; simpa [hd] using this
    have d1 : w.cell? ⟨g, off + 1, none⟩ = some (.int .i64 (hd l).2) := by have := (hc 0 (by omega)).2; simpa [hd] using this
    have hI : It? l = .tuple #[.agg #[.int .i64 (hd l).1, .int .i64 (hd l).2], .bool true] := by
      have := h.len
      simp [It?]; omega
    have HI := Lib.hid hI
    have hn2 : ((n : Int) == 0) = false := by simp; exact hn
    have hn3 : (0 : Int) < (n : Int) := by omega
    generalize (hd l).1 = p at *
    generalize (hd l).2 = q at *
    clear h hc hI
    go_enter Try.func18, Try.ntmps18
    go_wp2
    refine bodyPost_ret (v := .tuple #[.agg #[.int .i64 p, .int .i64 q], .bool true]) (by simp [results, Try.results18, go_sem]) rfl ⟨by rw [HI.out], HB.out _⟩

set_option maxHeartbeats 400000 in
theorem r4pop_none (rb : Nat) (A : Option Addr) (cap : Nat) (w : World) (h : RAt w rb A 0 cap []) :
    Calls Try.prog 14 #[.pointer (some ⟨rb, 0, none⟩)] w fun e w' => e = .returned (It? []) ∧ Below w.heap.size w w' := by
  have HB : Hid (∀ x : Obj, Below w.heap.size w (w.alloc x)) := Lib.hid fun x => (Below.refl _ w).alloc (Nat.le_refl _) _
  have HH : Hid (∀ x : Obj, RAt (w.alloc x) rb A 0 cap []) := Lib.hid fun x => h.below (HB.out x)
  go_enter Try.func14, Try.ntmps14
  go_wp2_with fail
  refine (r4peek_any rb A 0 cap [] _ (HH.out _)).mono ?_
  rintro e w3 ⟨rfl, hb⟩
  have e0 : It? [] = .tuple #[.agg #[.int .i64 0, .int .i64 0], .bool false] := by simp [It?, hd]
  rw [e0]
  have HE0 := Lib.hid e0
  have HB3 := Lib.hid ((HB.out (.cells #[.int .i64 0, .int .i64 0] 32)).trans (hb.mono (HB.out _).size))
  have hblk : w3.heap[w.heap.size]? = some (.cells #[.int .i64 0, .int .i64 0] 32 (0, 0)) := by rw [hb.block w.heap.size (by simp)]; exact heap_alloc_new w _
  obtain ⟨c0, c1, f0, f1⟩ := two_read hblk
  have hlt := lt_of_heap hblk
  have HK := Lib.hid hblk
  obtain ⟨A0, hA0⟩ : ∃ A0, A0 = w.heap.size := ⟨_, rfl⟩
  rw [← hA0] at hblk HK c0 c1 f0 f1 hlt ⊢
  have HA0 := Lib.hid hA0
  have hne : ¬ w3.heap.size = A0 := by omega
  have hne2 : ¬ A0 = w3.heap.size := by omega
  clear hb hblk e0 hA0
  go_wp2
  obtain ⟨z0, z1, _, _⟩ := two_read (w := ((w3.setCell ⟨A0, 0, none⟩ (.int .i64 0)).setCell ⟨A0, 1, none⟩ (.int .i64 0)).alloc (.cells #[.int .i64 0, .int .i64 0] 32)) (A := A0) (by
    rw [Below.heap_alloc _ _ _ (by simpa [World.setCell] using hlt)]
    exact two_cells (.int .i64 0) (.int .i64 0) HK.out)
  exact bodyPost_ret (v := .tuple #[.agg #[.int .i64 0, .int .i64 0], .bool false]) (by simp [results, Try.results14, go_sem, z0, z1]) rfl ⟨by rw [HE0.out], ((HB3.out.setCell (p := ⟨A0, 0, none⟩) (by show _ ≤ A0; rw [HA0.out]; exact Nat.le_refl _) _).setCell (p := ⟨A0, 1, none⟩) (by show _ ≤ A0; rw [HA0.out]; exact Nat.le_refl _) _).alloc (by have := HB3.out.size; simp [World.setCell]; omega) _⟩

theorem r4pop_end {w w3 : World} {rb n cap g off A0 : Nat} {p : Int × Int} {l : List (Int × Int)} (hR : RAt w3 rb (some ⟨g, off, none⟩) (n + 1) cap (p :: l)) (hb : Below w.heap.size w w3) (hrb : rb < w.heap.size) (hg : g < w.heap.size)
    (hK : w3.heap[A0]? = some (.cells #[.int .i64 0, .int .i64 0] 32 (0, 0))) (hA0 : A0 = w.heap.size) (o2 c2 : Nat) (hI : It w.heap.size w3 (some ⟨g, o2, none⟩) n c2 (fun i => l.getD i (0, 0))) (X : Obj) :
    ((((w3.setCell ⟨rb, 0, none⟩ (.slice (some ⟨g, o2, none⟩) n c2)).setCell ⟨A0, 0, none⟩ (.int .i64 p.1)).setCell ⟨A0, 1, none⟩ (.int .i64 p.2)).alloc X).heap[A0]? = some (.cells #[.int .i64 p.1, .int .i64 p.2] 32 (0, 0)) ∧
    RAt ((((w3.setCell ⟨rb, 0, none⟩ (.slice (some ⟨g, o2, none⟩) n c2)).setCell ⟨A0, 0, none⟩ (.int .i64 p.1)).setCell ⟨A0, 1, none⟩ (.int .i64 p.2)).alloc X) rb (some ⟨g, o2, none⟩) n c2 l ∧
    Turn (OnlyB rb) (OnlyB rb) w ((((w3.setCell ⟨rb, 0, none⟩ (.slice (some ⟨g, o2, none⟩) n c2)).setCell ⟨A0, 0, none⟩ (.int .i64 p.1)).setCell ⟨A0, 1, none⟩ (.int .i64 p.2)).alloc X) := by
  have h3 := hb.size
  have hlA := lt_of_heap hK
  obtain ⟨cs, fz, hkg⟩ := hR.kind _ rfl
  have hgr : g ≠ rb := by intro e; have := hR.box; rw [← e] at this; rw [show (⟨g, off, none⟩ : Addr).block = g from rfl] at hkg; rw [this] at hkg; simp at hkg
  obtain ⟨wt, hwt⟩ : ∃ wt, wt = ((w3.setCell ⟨rb, 0, none⟩ (.slice (some ⟨g, o2, none⟩) n c2)).setCell ⟨A0, 0, none⟩ (.int .i64 p.1)).setCell ⟨A0, 1, none⟩ (.int .i64 p.2) := ⟨_, rfl⟩
  rw [← hwt]
  have hsz : wt.heap.size = w3.heap.size := by rw [hwt]; simp [World.setCell]
  have hold : ∀ k, k ≠ rb → k ≠ A0 → wt.heap[k]? = w3.heap[k]? := fun k h1 h2 => by rw [hwt, Below.heap_setCell _ _ _ _ h2, Below.heap_setCell _ _ _ _ h2, Below.heap_setCell _ _ _ _ h1]
  have hA : wt.heap[A0]? = some (.cells #[.int .i64 p.1, .int .i64 p.2] 32 (0, 0)) := by
    rw [hwt]; exact two_cells _ _ (by rw [Below.heap_setCell _ _ _ _ (by show A0 ≠ rb; omega)]; exact hK)
  have hrbx : wt.heap[rb]? = some (.cells #[.slice (some ⟨g, o2, none⟩) n c2] 29 (0, 0)) := by
    rw [hwt, Below.heap_setCell _ _ _ _ (by show rb ≠ A0; omega), Below.heap_setCell _ _ _ _ (by show rb ≠ A0; omega), heap_setCell_same _ rb 0 _ _ _ hR.box]; simp
  have ha : ∀ k, k < w3.heap.size → (wt.alloc X).heap[k]? = wt.heap[k]? := fun k hk => Below.heap_alloc _ _ _ (by omega)
  have hgs : (wt.alloc X).heap[g]? = w3.heap[g]? := by rw [ha g (by omega), hold g hgr (by omega)]
  refine ⟨by rw [ha A0 hlA]; exact hA, ⟨by rw [ha rb (by omega)]; exact hrbx, ⟨hI.le, hI.max, hI.nil, fun hn => ?_⟩, by have := hR.len; simpa using this, fun a e => ?_, fun a e => ?_⟩, ?_⟩
  · obtain ⟨g', off', e, hg', hc⟩ := hI.cell hn
    injection e with e
    injection e with e1 e2
    subst e1 e2
    exact ⟨g, o2, rfl, by simp; omega, fun j hj => ⟨(World.cell?_of_block (a := ⟨g, o2 + j * 2, none⟩) hgs).trans (hc j hj).1, (World.cell?_of_block (a := ⟨g, o2 + j * 2 + 1, none⟩) hgs).trans (hc j hj).2⟩⟩
  · injection e with e; subst e; exact ⟨cs, fz, by show (wt.alloc X).heap[g]? = _; rw [hgs]; exact hkg⟩
  · injection e with e; exact ⟨g, o2, e.symm⟩
  · refine ⟨?_, ?_, ?_, by simp; omega, fun k hk hn => ?_, fun k hk => .inl hk⟩
    · rw [hwt]; exact hb.os
    · rw [hwt]; exact hb.tape
    · rw [hwt]; exact hb.output
    · rw [ha k (by omega), hold k (fun e => hn e) (by omega)]; exact hb.block k hk

set_option maxHeartbeats 1000000 in
theorem r4pop_some (rb : Nat) (A : Option Addr) (n cap : Nat) (p : Int × Int) (l : List (Int × Int)) (w : World) (h : RAt w rb A (n + 1) cap (p :: l)) :
    Calls Try.prog 14 #[.pointer (some ⟨rb, 0, none⟩)] w fun e w' => e = .returned (It? (p :: l)) ∧ ∃ A' cap', RAt w' rb A' n cap' l ∧ Turn (OnlyB rb) (OnlyB rb) w w' := by
  have HB : Hid (∀ x : Obj, Below w.heap.size w (w.alloc x)) := Lib.hid fun x => (Below.refl _ w).alloc (Nat.le_refl _) _
  have HH : Hid (∀ x : Obj, RAt (w.alloc x) rb A (n + 1) cap (p :: l)) := Lib.hid fun x => h.below (HB.out x)
  have hrb := lt_of_heap h.box
  have HR := Lib.hid h
  obtain ⟨g, off, rfl, hg, hcell⟩ := h.items.cell (by omega)
  have hle := h.items.le
  have hmax := h.items.max
  unfold maxLen at hmax
  clear h hcell
  go_enter Try.func14, Try.ntmps14
  go_wp2_with fail
  refine (r4peek_any rb _ (n + 1) cap (p :: l) _ (HH.out _)).mono ?_
  rintro e w3 ⟨rfl, hb⟩
  have e0 : It? (p :: l) = .tuple #[.agg #[.int .i64 p.1, .int .i64 p.2], .bool true] := by simp [It?, hd]
  rw [e0]
  have HE0 := Lib.hid e0
  have hB3 := (HB.out (.cells #[.int .i64 0, .int .i64 0] 32)).trans (hb.mono (HB.out _).size)
  have hR3 := HR.out.below hB3
  have HB3 := Lib.hid hB3
  have HR3 := Lib.hid hR3
  have r0 : w3.cell? ⟨rb, 0, none⟩ = some (.slice (some ⟨g, off, none⟩) (n + 1) cap) := by rw [cell_of_row w3 rb 0 _ _ _ hR3.box]; rfl
  have r1 := frozen_of_row w3 rb 0 _ _ hR3.box
  have hblk : w3.heap[w.heap.size]? = some (.cells #[.int .i64 0, .int .i64 0] 32 (0, 0)) := by rw [hb.block w.heap.size (by simp)]; exact heap_alloc_new w _
  obtain ⟨c0, c1, f0, f1⟩ := two_read hblk
  have hlt := lt_of_heap hblk
  obtain ⟨A0, hA0⟩ : ∃ A0, A0 = w.heap.size := ⟨_, rfl⟩
  rw [← hA0] at hblk c0 c1 f0 f1 hlt ⊢
  have HK := Lib.hid hblk
  have HA0 := Lib.hid hA0
  have hne : ¬ w3.heap.size = A0 := by omega
  have hne2 : ¬ A0 = w3.heap.size := by omega
  have m1 : ¬ rb = A0 := by omega
  have m2 : ¬ A0 = rb := by omega
  have m3 : ¬ rb = w3.heap.size := by omega
  have m4 : ¬ w3.heap.size = rb := by omega
  have m5 : rb < w3.heap.size := by omega
  have hgA : g ≠ A0 := by omega
  clear hb hblk e0 hB3 hR3
  by_cases hc1 : cap = 1
  · obtain rfl : n = 0 := by omega
    subst hc1
    clear hA0
    go_wp2
    have hend := r4pop_end HR3.out HB3.out hrb hg HK.out HA0.out off 0 (It.zero (by simp) (by unfold maxLen; omega)) (.cells #[.int .i64 p.1, .int .i64 p.2] 32)
    obtain ⟨q0, q1, q2⟩ := hend
    obtain ⟨z0, z1, _, _⟩ := two_read q0
    exact bodyPost_ret (v := .tuple #[.agg #[.int .i64 p.1, .int .i64 p.2], .bool true]) (by simp [results, Try.results14, go_sem, z0, z1]) rfl ⟨by rw [HE0.out], _, _, q1, q2⟩
  · clear hA0
    have HI : Hid (It w.heap.size w3 (some ⟨g, off + 2, none⟩) n (cap - 1) (fun i => l.getD i (0, 0))) := Lib.hid (by
      have := (HR.out.items.below HB3.out).drop (k := 1) (by omega) (A := some ⟨g, off + 1 * 2, none⟩) (.inl rfl)
      simpa using this)
    go_wp2
    have hend := r4pop_end HR3.out HB3.out hrb hg HK.out HA0.out (off + 2) (cap - 1) HI.out (.cells #[.int .i64 p.1, .int .i64 p.2] 32)
    obtain ⟨q0, q1, q2⟩ := hend
    obtain ⟨z0, z1, _, _⟩ := two_read q0
    exact bodyPost_ret (v := .tuple #[.agg #[.int .i64 p.1, .int .i64 p.2], .bool true]) (by simp [results, Try.results14, go_sem, z0, z1]) rfl ⟨by rw [HE0.out], _, _, q1, q2⟩

end Go.Proofs.Ytbpcigcfdkamaaa
