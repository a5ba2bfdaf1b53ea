/-
  Layer 8: the document's examples (shown).
-/
import Derived.Test.YtljmigomhoefpaaBkI
set_option linter.unusedVariables false
set_option maxRecDepth 100000
namespace Go.Proofs.Ytljmigomhoefpaa.Bk
open Go.RowKit

/-- Two claims, each of one zone held and one needed. -/
def pair8 (x1 x2 x3 x4 : Int) : Cm := [([x1], [x2]), ([x3], [x4])]
def one8 (b : Nat) : Value := .slice (some ⟨b, 0, none⟩) 1 1
def lay8 (w : World) (n : Nat) (x1 x2 x3 x4 : Int) : World := ((((w.alloc (.cells #[.int .i64 x1] 3)).alloc (.cells #[.int .i64 x2] 3)).alloc (.cells #[.int .i64 x3] 3)).alloc (.cells #[.int .i64 x4] 3)).alloc
  (.cells #[one8 n, one8 (n + 1), one8 (n + 1 + 1), one8 (n + 1 + 1 + 1)] 33)
theorem chain_one {wx : World} {b B : Nat} {z : Int} (h : wx.heap[b]? = some (.cells #[.int .i64 z] 3 (0, 0))) (hb : b < B) : Sl B wx (one8 b) [z] := by
  refine ⟨_, _, _, rfl, rfl, Nat.le_refl _, by unfold maxLen; omega, fun h => (by cases h), fun _ => ⟨b, 0, rfl, hb, fun j hj => ?_⟩⟩
  obtain rfl : j = 0 := by omega
  rw [cell_of_row wx b _ _ _ _ h]
  rfl
theorem heap_alloc_at (w : World) (o : Obj) (b : Nat) : (w.alloc o).heap[b]? = if b = w.heap.size then some o else w.heap[b]? := by
  by_cases h : b = w.heap.size
  · rw [if_pos h, h]; exact heap_alloc_new w o
  · rw [if_neg h]
    rcases Nat.lt_or_ge b w.heap.size with q | q
    · exact Below.heap_alloc _ _ _ q
    · rw [Array.getElem?_eq_none (by simp; omega), Array.getElem?_eq_none (by omega)]
theorem size_alloc (w : World) (o : Obj) : (w.alloc o).heap.size = w.heap.size + 1 := by simp
theorem lay_cl (w : World) (n : Nat) (hn : n = w.heap.size) (x1 x2 x3 x4 : Int) : Cl (lay8 w n x1 x2 x3 x4).heap.size (lay8 w n x1 x2 x3 x4) (some ⟨n + 1 + 1 + 1 + 1, 0, none⟩) 2 2 (pair8 x1 x2 x3 x4) ∧ Below w.heap.size w (lay8 w n x1 x2 x3 x4) ∧ (lay8 w n x1 x2 x3 x4).heap.size = w.heap.size + 5 := by
  subst hn
  have hz : (lay8 w w.heap.size x1 x2 x3 x4).heap.size = w.heap.size + 5 := by unfold lay8; simp
  have g0 : (lay8 w w.heap.size x1 x2 x3 x4).heap[w.heap.size]? = some (.cells #[.int .i64 x1] 3 (0, 0)) := by
    unfold lay8; simp only [heap_alloc_at, size_alloc]
    rw [if_neg (by omega), if_neg (by omega), if_neg (by omega), if_neg (by omega), if_pos trivial]
  have g1 : (lay8 w w.heap.size x1 x2 x3 x4).heap[w.heap.size + 1]? = some (.cells #[.int .i64 x2] 3 (0, 0)) := by
    unfold lay8; simp only [heap_alloc_at, size_alloc]
    rw [if_neg (by omega), if_neg (by omega), if_neg (by omega), if_pos trivial]
  have g2 : (lay8 w w.heap.size x1 x2 x3 x4).heap[w.heap.size + 1 + 1]? = some (.cells #[.int .i64 x3] 3 (0, 0)) := by
    unfold lay8; simp only [heap_alloc_at, size_alloc]
    rw [if_neg (by omega), if_neg (by omega), if_pos trivial]
  have g3 : (lay8 w w.heap.size x1 x2 x3 x4).heap[w.heap.size + 1 + 1 + 1]? = some (.cells #[.int .i64 x4] 3 (0, 0)) := by
    unfold lay8; simp only [heap_alloc_at, size_alloc]
    rw [if_neg (by omega), if_pos trivial]
  have g4 : (lay8 w w.heap.size x1 x2 x3 x4).heap[w.heap.size + 1 + 1 + 1 + 1]? = some (.cells #[one8 w.heap.size, one8 (w.heap.size + 1), one8 (w.heap.size + 1 + 1), one8 (w.heap.size + 1 + 1 + 1)] 33 (0, 0)) := by
    unfold lay8; simp only [heap_alloc_at, size_alloc]
    rw [if_pos trivial]
  refine ⟨⟨[(one8 w.heap.size, one8 (w.heap.size + 1)), (one8 (w.heap.size + 1 + 1), one8 (w.heap.size + 1 + 1 + 1))], ⟨rfl, Nat.le_refl _, by unfold maxLen; omega, fun h => (by cases h), fun _ => ⟨w.heap.size + 1 + 1 + 1 + 1, 0, rfl, by omega, fun j hj => ?_⟩⟩, rfl, fun j p e => ?_⟩, ?_, hz⟩
  · rw [cell_of_row _ _ _ _ _ _ g4, Nat.zero_add]
    simp [pcl]
  · rcases (by have := (List.getElem?_eq_some_iff.1 e).1; simp at this; omega : j = 0 ∨ j = 1) with rfl | rfl
    · simp at e
      subst e
      exact ⟨chain_one g0 (by omega), chain_one g1 (by omega)⟩
    · simp at e
      subst e
      exact ⟨chain_one g2 (by omega), chain_one g3 (by omega)⟩
  · unfold lay8
    exact (((((Below.refl _ _).alloc (Nat.le_refl _) _).alloc (by simp <;> omega) _).alloc (by simp <;> omega) _).alloc (by simp <;> omega) _).alloc (by simp <;> omega) _
theorem ord_a : ord (need (pair8 1 2 2 1)) (hb (pair8 1 2 2 1)) 2 (List.range 2) = none := by decide
theorem ord_b : ord (need (pair8 1 2 2 3)) (hb (pair8 1 2 2 3)) 2 (List.range 2) = some [1, 0] := by decide
theorem rg_pair {x1 x2 x3 x4 : Int} (h1 : Zn x1) (h2 : Zn x2) (h3 : Zn x3) (h4 : Zn x4) (h : x1 ≠ x3) : Rg (pair8 x1 x2 x3 x4) := by
  refine ⟨by simp [pair8], fun i hi => ?_, fun i j hi hj hne => ?_⟩
  · rcases (by simp [pair8] at hi; omega : i = 0 ∨ i = 1) with rfl | rfl <;> simp [hold, need, pair8, h1, h2, h3, h4]
  · rcases (by simp [pair8] at hi hj; omega : (i = 0 ∧ j = 1) ∨ (i = 1 ∧ j = 0)) with ⟨rfl, rfl⟩ | ⟨rfl, rfl⟩
    · simp [hold, pair8, h]
    · have h' : ¬ x3 = x1 := fun e => h e.symm
      simp [hold, pair8, h']
theorem rg_a : Rg (pair8 1 2 2 1) := rg_pair ⟨by decide, by decide⟩ ⟨by decide, by decide⟩ ⟨by decide, by decide⟩ ⟨by decide, by decide⟩ (by decide)
theorem rg_b : Rg (pair8 1 2 2 3) := rg_pair ⟨by decide, by decide⟩ ⟨by decide, by decide⟩ ⟨by decide, by decide⟩ ⟨by decide, by decide⟩ (by decide)
theorem saf_a : ¬ SafC (pair8 1 2 2 1) := ord_none List.nodup_range List.length_range ord_a
theorem saf_b : SafC (pair8 1 2 2 3) := ord_saf List.nodup_range List.length_range ord_b
theorem is_b {o : List Nat} {is : Bool} (h : OrdIs (pair8 1 2 2 3) o is) : o = [1, 0] ∧ is = true := h.uniq (.inr ⟨rg_b, .inr ⟨ord_b, rfl⟩⟩)
set_option maxHeartbeats 2000000 in
theorem shown_any (w : World) : Calls Try.prog 13 #[] w fun e w' => e = .returned (.bool true) ∧ Below w.heap.size w w' := by
  have HA := Lib.hid (lay_cl w w.heap.size rfl 1 2 2 1)
  have HB := Lib.hid (lay_cl (lay8 w w.heap.size 1 2 2 1) (w.heap.size + 1 + 1 + 1 + 1 + 1) (by rw [HA.out.2.2]) 1 2 2 3)
  have HO := Lib.hid (order_any _ _ _ _ _ HB.out.1)
  have HCA := Lib.hid (HA.out.1.later HB.out.2.1)
  have HBB : Hid (Below w.heap.size w (lay8 (lay8 w w.heap.size 1 2 2 1) (w.heap.size + 1 + 1 + 1 + 1 + 1) 1 2 2 3)) := Lib.hid (HA.out.2.1.trans (HB.out.2.1.mono HA.out.2.1.size))
  have HCB := Lib.hid HB.out.1
  clear HA HB
  go_enter Try.func13, Try.ntmps13
  go_wp2_with fail
  refine HO.out.mono ?_
  rintro e w1 ⟨A1, m1, c1, o, is, rfl, hm, ho, hown, hb1⟩
  have hm2 := hm
  obtain ⟨rfl, rfl⟩ := is_b ho
  obtain rfl : m1 = 2 := hm2
  have HW := Lib.hid hown
  have HB1 := Lib.hid (HBB.out.trans (hb1.mono HBB.out.size))
  have HA1 := Lib.hid (HCA.out.later hb1)
  have HC1 := Lib.hid (HCB.out.later hb1)
  clear ho hown hb1 HO HCA HCB HBB
  go_wp2_with fail
  refine (safe_any _ _ _ _ _ HA1.out).mono ?_
  rintro e w2 ⟨b, rfl, hb, hb2⟩
  obtain rfl : b = false := Bool.eq_false_iff.2 (fun e => saf_a (hb.1 e).2)
  have HB2 := Lib.hid (HB1.out.trans (hb2.mono HB1.out.size))
  have HC2 := Lib.hid (HC1.out.later hb2)
  have HW2 := Lib.hid (Iw.later HW.out hb2)
  clear hb hb2
  go_wp2_with fail
  refine (safe_any _ _ _ _ _ HC2.out).mono ?_
  rintro e w3 ⟨b, rfl, hb, hb3⟩
  obtain rfl : b = true := hb.2 ⟨rg_b, saf_b⟩
  have HB3 := Lib.hid (HB2.out.trans (hb3.mono HB2.out.size))
  have HW3 := Lib.hid (Iw.later HW2.out hb3)
  clear hb hb3
  have hb4 := (Below.refl w3.heap.size w3).alloc (Nat.le_refl _) (.cells #[.int .i64 1, .int .i64 0] 3)
  have HL4 : Hid (Lt (w3.alloc (.cells #[.int .i64 1, .int .i64 0] 3)).heap.size (w3.alloc (.cells #[.int .i64 1, .int .i64 0] 3)) (some ⟨w3.heap.size, 0, none⟩) 2 2 [1, 0]) := Lib.hid ⟨rfl, Nat.le_refl _, by unfold maxLen; omega, fun h => (by cases h), fun _ => ⟨w3.heap.size, 0, rfl, by simp, fun j hj => by
    rcases (by omega : j = 0 ∨ j = 1) with rfl | rfl <;> simp [World.cell?_alloc_new, ivs]⟩⟩
  have HS := Lib.hid (same_any A1 2 c1 _ (nz [1, 0]) _ 2 2 _ [1, 0] _ ((HW3.out.lt.2.later hb4)) HL4.out (Nat.le_refl _) (Nat.le_refl _))
  have HB4 := Lib.hid (HB3.out.trans (hb4.mono HB3.out.size))
  clear hb4
  go_wp2_with fail
  refine HS.out.mono ?_
  rintro e w5 ⟨b, rfl, hb, hb5⟩
  obtain rfl : b = true := hb.2 rfl
  have HB5 := Lib.hid (HB4.out.trans (hb5.mono HB4.out.size))
  clear hb hb5
  go_wp2_with fail
  go_ret
  exact ⟨rfl, HB5.out⟩
end Go.Proofs.Ytljmigomhoefpaa.Bk
