/-
  Layer 14: bytes are asked for one by one; Take.
-/
import Derived.Test.YtobpinelhjpfgaaDoorLnA
import Derived.Test.YtobpinelhjpfgaaDoorCkTwo
import Derived.Laws.MakeOwn
import Derived.Laws.OwnMore
set_option linter.unusedVariables false
set_option maxRecDepth 100000
namespace Go.Proofs.YtobpinelhjpfgaaDoor
namespace Ln
open Go.RowKit Bp Ck
theorem run_makeBytes (n : Nat) (hn : n ≤ 1000000) (wx : World) : (Instr.makeSlice 35 (.int .i64 (n : Int)) (.int .i64 (n : Int))).run Tryd.prog wx = .ok (.slice (some ⟨wx.heap.size, 0, none⟩) n n) (wx.alloc (.cells (bc (List.replicate n 0)).toArray 5)) := by
  obtain ⟨i0, hi, hz0, hz1, hz2⟩ := info_parts Tryd.infoU8
  have := run_make (P := Tryd.prog) wx 35 5 i0 _ Tryd.underlying35 hi hz0 .i64 .i64 n n (by omega) (Int.le_refl _) (by rw [hz2]; omega) (by omega)
  simp only [Int.toNat_natCast, hz1, Nat.mul_one] at this
  rw [this]
  have e : madeCells (Value.int .u8 0).cells n = (bc (List.replicate n 0)).toArray := by
    have := toList_madeCells_one (Value.int .u8 0) n
    apply Array.toList_inj.1
    rw [show (Value.int .u8 0).cells = #[Value.int .u8 0] from rfl, this]
    simp [bc]
  rw [e]
/-- Where a reader stands behind so many bytes, and what it has given: at a fault it stays, and gives 0. -/
def pos (f : Int) (p k : Nat) : Nat := if f = 0 then p + 8 * k else p
def byt (zs : List Nat) (f : Int) (p k : Nat) : Nat := if f = 0 then tk zs (p + 8 * k) 8 else 0
def gth (zs : List Nat) (f : Int) (p m : Nat) : List Nat := (List.range m).map (byt zs f p)
theorem gth_length (zs : List Nat) (f : Int) (p m : Nat) : (gth zs f p m).length = m := by simp [gth]
theorem gth_zero (zs : List Nat) (p m : Nat) : gth zs 0 p m = dat zs p m := by
  unfold gth dat byt
  simp
theorem byt_le (zs : List Nat) (f : Int) (p k : Nat) : byt zs f p k ≤ 255 := by
  unfold byt
  split
  · have := tk_lt zs (p + 8 * k) 8
    have e : (2 : Nat) ^ 8 = 256 := by decide
    omega
  · omega
theorem gth_byte (zs : List Nat) (f : Int) (p m : Nat) : ∀ z ∈ gth zs f p m, z ≤ 255 := by
  intro z hz
  simp only [gth, List.mem_map] at hz
  obtain ⟨j, _, rfl⟩ := hz
  exact byt_le _ _ _ _
theorem gth_set (zs : List Nat) (f : Int) (p k m : Nat) (h : k < m) : (gth zs f p k ++ List.replicate (m - k) 0).set k (byt zs f p k) = gth zs f p (k + 1) ++ List.replicate (m - (k + 1)) 0 := by
  have e : m - k = (m - (k + 1)) + 1 := by omega
  rw [e, List.replicate_succ, List.set_append_right _ _ (by rw [gth_length]; exact Nat.le_refl _), gth_length, Nat.sub_self, List.set_cons_zero]
  have e2 : gth zs f p (k + 1) = gth zs f p k ++ [byt zs f p k] := by simp [gth, List.range_succ]
  rw [e2, List.append_assoc]; rfl
theorem get8 (C b : Nat) (v : Value) (zs : List Nat) (p k m : Nat) (f : Int) (w : World) (h : Rd C w b v zs (pos f p k) f) (hk : k < m) (hm : f = 0 → p + 8 * m ≤ 8 * zs.length) :
    Calls Tryd.prog 74 #[.pointer (some ⟨b, 0, none⟩), .int .i64 8] w fun e w' => e = .returned (.int .u64 ((byt zs f p k : Nat) : Int)) ∧ RdTo C w b v zs (pos f p (k + 1)) f w' := by
  by_cases hf : f = 0
  · subst hf
    have e1 : pos 0 p k = p + 8 * k := if_pos rfl
    have e2 : pos 0 p (k + 1) = p + 8 * k + 8 := by rw [pos, if_pos rfl]; omega
    have e3 : byt zs 0 p k = tk zs (p + 8 * k) 8 := if_pos rfl
    rw [e1] at h
    rw [e2, e3]
    exact get_ok C b v zs (p + 8 * k) 8 w h (by omega) (by have := hm rfl; omega)
  · have e1 : pos f p k = p := if_neg hf
    have e2 : pos f p (k + 1) = p := if_neg hf
    have e3 : byt zs f p k = 0 := if_neg hf
    rw [e1] at h
    rw [e2, e3]
    refine (get_fault C b v zs p f 8 w h hf).mono ?_
    rintro e w' ⟨rfl, rfl⟩
    exact ⟨rfl, h, Turn.refl _ _⟩
/-- In the middle of asking: k bytes are there. -/
structure Gx (C b G : Nat) (v : Value) (zs : List Nat) (f : Int) (p k m : Nat) (w w' : World) : Prop where
  rd : Rd C w' b v zs (pos f p k) f
  below : Below C w w'
  row : w'.heap[G]? = some (.cells (bc (gth zs f p k ++ List.replicate (m - k) 0)).toArray 5 (0, 0))
theorem bc_get (l : List Nat) (j : Nat) (h : j < l.length) : (bc l).toArray[j]? = some (.int .u8 ((l.getD j 0 : Nat) : Int)) := by
  have e : l.getD j 0 = l[j] := by simp [List.getD, List.getElem?_eq_getElem h]
  rw [e]
  unfold bc
  rw [List.getElem?_toArray, List.getElem?_map, List.getElem?_eq_getElem h]; rfl
theorem Gx.got {C b G : Nat} {v : Value} {zs : List Nat} {f : Int} {p k m : Nat} {w w' w2 : World} (h : Gx C b G v zs f p k m w w') (hG : ∀ q, RF b v q → q < G) (ht : RdTo C w' b v zs (pos f p (k + 1)) f w2) :
    Below C w w2 ∧ w2.heap[G]? = some (.cells (bc (gth zs f p k ++ List.replicate (m - k) 0)).toArray 5 (0, 0)) := by
  refine ⟨h.below.trans (ht.2.below C (by have := h.below.size; have := (h.rd.lt (k := b) (.inl rfl)); omega) (fun q hq => (h.rd.lt hq).1)), ?_⟩
  rw [ht.2.block G (lt_of_heap h.row) (fun x => Nat.lt_irrefl _ (hG _ x))]
  exact h.row
theorem Gx.put {C b G : Nat} {v : Value} {zs : List Nat} {f : Int} {p k m : Nat} {w w2 : World} (hG : ∀ q, RF b v q → q < G) (hC : C ≤ G) (hk : k < m) (hr : Rd C w2 b v zs (pos f p (k + 1)) f) (hb : Below C w w2)
    (hh : w2.heap[G]? = some (.cells (bc (gth zs f p k ++ List.replicate (m - k) 0)).toArray 5 (0, 0))) :
    Gx C b G v zs f p (k + 1) m w (w2.setCell ⟨G, k, none⟩ (.int .u8 ((byt zs f p k : Nat) : Int))) := by
  refine ⟨hr.frame (fun q hq => Below.heap_setCell _ _ _ _ (by have := hG q hq; show q ≠ G; omega)), hb.setCell hC _, ?_⟩
  rw [heap_setCell_same w2 G k _ _ _ hh]
  have e := gth_set zs f p k m hk
  have e2 : (bc (gth zs f p k ++ List.replicate (m - k) 0)).toArray.set! k (.int .u8 ((byt zs f p k : Nat) : Int)) = (bc (gth zs f p (k + 1) ++ List.replicate (m - (k + 1)) 0)).toArray := by
    rw [← e, Array.set!_eq_setIfInBounds, List.setIfInBounds_toArray]
    unfold bc
    rw [List.map_set]
  first | rw [e2] | (simp only [e2]) | (rw [← e2]; simp)
def GthTold (w0 : World) (B : Nat) (w : World) (b : Nat) (zs : List Nat) (f : Int) (p m : Nat) (e : Ending) (w' : World) : Prop :=
  ∃ g, e = .returned (.slice (some ⟨g, 0, none⟩) m m) ∧ By w'.heap.size w' (some ⟨g, 0, none⟩) m m (gth zs f p m) ∧ (∃ C v, Rd C w' b v zs (pos f p m) f ∧ B ≤ C ∧ Below B w0 w' ∧ ∀ q, RF b v q → q ≠ g) ∧ B ≤ g ∧ g < w'.heap.size
set_option maxHeartbeats 1000000 in
theorem gather_any {B b m : Nat} {w0 w : World} {zs : List Nat} {p : Nat} {f M : Int} (h : Rb w0 B w b zs p f) (hm : f = 0 → p + 8 * m ≤ 8 * zs.length) (hm2 : m ≤ 100000) (hM : M = m) :
    Calls Tryd.prog 76 #[.int .i64 M, .func (.func 74) #[.pointer (some ⟨b, 0, none⟩)] #[]] w (GthTold w0 B w b zs f p m) := by
  subst hM
  obtain ⟨C, v, h1, h2, h3⟩ := h
  have hG : ∀ q, RF b v q → q < w.heap.size := fun q hq => (h1.lt hq).2
  have hC : C ≤ w.heap.size := by have := h1.lt (k := b) (.inl rfl); omega
  have hx : Gx C b w.heap.size v zs f p 0 m w (w.alloc (.cells (bc (List.replicate m 0)).toArray 5)) := by
    refine ⟨?_, (Below.refl _ _).alloc hC _, ?_⟩
    · have e : pos f p 0 = p := by unfold pos; split <;> rfl
      rw [e]
      exact h1.frame (fun q hq => Below.heap_alloc _ _ _ (hG q hq))
    · rw [heap_alloc_new]
      simp [gth]
  have HX := Lib.hid hx
  have HG := Lib.hid hG
  have HC := Lib.hid hC
  have HM := Lib.hid hm
  have mk := run_makeBytes m (by omega)
  have H3 := Lib.hid h3
  have H2 := Lib.hid h2
  clear h1 h2 h3 hm hx hG hC
  go_enter Tryd.func76, Tryd.ntmps76
  go_wp2
  go_loopw [11] (fun iv wr => ∃ k : Nat, k ≤ m ∧ iv = .int .i64 (k : Int) ∧ Gx C b w.heap.size v zs f p k m w wr) (fun iv _ => m - (intOf iv).toNat)
  case atStart => exact ⟨0, Nat.zero_le _, rfl, HX.out⟩
  case round =>
    obtain ⟨k, hk, rfl, hw⟩ := hrel
    have HW := Lib.hid hw
    clear hw
    by_cases hlt : k < m
    · go_wp2_with fail
      refine (get8 C b v zs p k m f _ HW.out.rd hlt HM.out).mono ?_
      rintro e w2 ⟨rfl, ht⟩
      have hgot := HW.out.got HG.out ht
      have hz := byt_le zs f p k
      have HP := Lib.hid (Gx.put HG.out HC.out hlt ht.1 hgot.1 hgot.2)
      have hfz := frozen_of_row w2 w.heap.size k _ _ hgot.2
      obtain ⟨y, hcell⟩ : ∃ y : Int, w2.cell? ⟨w.heap.size, k, none⟩ = some (.int .u8 y) := by
        rw [cell_of_row w2 w.heap.size k _ _ _ hgot.2]
        have hl : k < (gth zs f p k ++ List.replicate (m - k) 0).length := by rw [List.length_append, gth_length, List.length_replicate]; omega
        exact ⟨_, bc_get _ k hl⟩
      clear hgot ht
      generalize byt zs f p k = z at *
      go_wp2
      go_roundw
      case rel => exact ⟨k + 1, by omega, by go_num, HP.out⟩
      case measure => simp [intOf]; omega
    · obtain rfl : k = m := by omega
      go_wp2
      go_ret
      refine ⟨w.heap.size, rfl, ?_, ⟨C, v, HW.out.rd, H2.out, H3.out.trans (HW.out.below.mono H2.out), fun q hq => by have := HG.out q hq; omega⟩, Nat.le_trans H2.out HC.out, lt_of_heap HW.out.row⟩
      have hr := HW.out.row
      rw [Nat.sub_self, List.replicate_zero, List.append_nil] at hr
      refine ⟨gth_length _ _ _ _, Nat.le_refl _, by unfold maxLen; omega, fun e => (by cases e), gth_byte _ _ _ _, fun hn => ⟨w.heap.size, 0, rfl, lt_of_heap hr, fun j hj => ?_⟩⟩
      rw [Nat.zero_add, cell_of_row _ w.heap.size j _ _ _ hr]
      have hl : j < (gth zs f p k).length := by rw [gth_length]; exact hj
      exact bc_get _ j hl

/-- What Take gives. -/
def TakeTold (w : World) (bs : List Nat) (e : Ending) (w' : World) : Prop := Below w.heap.size w w' ∧
  ((∃ h n d A c, Is bs h n d ∧ e = .returned (.tuple #[.agg #[.bool h, .int .u64 (n : Int), .slice A d.length c], .int .i64 0]) ∧ By w'.heap.size w' A d.length c d ∧ ∀ a, A = some a → w.heap.size ≤ a.block) ∨
   ((∀ h n d, ¬ Is bs h n d) ∧ e = .returned (.tuple #[.agg #[.bool false, .int .u64 0, .slice none 0 0], .int .i64 140])))
end Ln
end Go.Proofs.YtobpinelhjpfgaaDoor
