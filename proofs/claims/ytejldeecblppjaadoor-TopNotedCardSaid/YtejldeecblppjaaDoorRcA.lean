/-
  Layer 17: the table of fields in memory; which numbers may be; which fields a kind has; which records may be.
-/
import Derived.Test.YtejldeecblppjaaDoorRcPlain
set_option linter.unusedVariables false
set_option maxRecDepth 100000
namespace Go.Proofs.YtejldeecblppjaaDoor
namespace Rc
open Go.RowKit Bp
/-- What the fields' table holds. -/
def shpC : Array Value := #[.int .i64 1073741824, .int .i64 0, .int .i64 7, .int .i64 3, .int .i64 63, .int .i64 6, .int .i64 255, .int .i64 8, .int .i64 5, .int .i64 3]
/-- The table lies in memory as the program lays it. -/
def Shp (w : World) : Prop := ∃ t m, w.heap[0]? = some (.cells shpC t m)
theorem Shp.pos {w : World} (h : Shp w) : 0 < w.heap.size := by obtain ⟨t, m, h⟩ := h; exact lt_of_heap h
theorem Shp.of {w w' : World} (h : Shp w) (e : w'.heap[0]? = w.heap[0]?) : Shp w' := by obtain ⟨t, m, h⟩ := h; exact ⟨t, m, e.trans h⟩
theorem Shp.below {B : Nat} {w w' : World} (h : Shp w) (hb : Below B w w') (hB : 0 < B) : Shp w' := h.of (hb.block 0 hB)
theorem Shp.later {w w' : World} (h : Shp w) (hb : Below w.heap.size w w') : Shp w' := h.below hb h.pos
theorem Shp.cell {w : World} (h : Shp w) (j : Nat) : w.cell? ⟨0, j, none⟩ = shpC[j]? := by
  obtain ⟨t, m, h⟩ := h
  exact cell_of_row w 0 j _ _ _ h
theorem mayBe_any (f : Nat) (hf : f < 5) (n : Int) (w : World) (h : Shp w) :
    Calls Tryd.prog 37 #[.int .i64 (f : Int), .int .i64 n] w fun e w' => e = .returned (.bool (decide (0 ≤ n ∧ n ≤ (fmx f : Int)))) ∧ w = w' := by
  have : f = 0 ∨ f = 1 ∨ f = 2 ∨ f = 3 ∨ f = 4 := by omega
  have hc := h.cell (2 * f)
  clear h hf
  by_cases hn : 0 ≤ n
  · have e1 : decide (0 ≤ n) = true := decide_eq_true hn
    rw [Bool.decide_and, e1, Bool.true_and]
    rcases this with rfl | rfl | rfl | rfl | rfl
    all_goals
      simp only [shpC] at hc
      go_enter Tryd.func37, Tryd.ntmps37
      go_wp2
      go_ret
      exact ⟨rfl, rfl⟩
  · have e1 : decide (0 ≤ n) = false := decide_eq_false hn
    rw [Bool.decide_and, e1, Bool.false_and]
    clear hc this
    go_enter Tryd.func37, Tryd.ntmps37
    go_wp2
    go_ret
    exact ⟨rfl, rfl⟩
/-- Numbers of fields lie at a slice, in a block from B on. -/
def Fs (B : Nat) (w : World) (v : Value) (fs : List Nat) : Prop := (fs = [] ∧ v = .slice none 0 0) ∨ ∃ g, v = .slice (some ⟨g, 0, none⟩) fs.length fs.length ∧ B ≤ g ∧ g < w.heap.size ∧ ∀ j, j < fs.length → w.cell? ⟨g, j, none⟩ = some (.int .i64 ((fs.getD j 0 : Nat) : Int))
theorem Fs.later {B : Nat} {w w' : World} {v : Value} {fs : List Nat} (h : Fs B w v fs) (hb : Below w.heap.size w w') : Fs B w' v fs := by
  rcases h with h | ⟨g, e, hB, hg, hc⟩
  · exact .inl h
  · exact .inr ⟨g, e, hB, Nat.lt_of_lt_of_le hg hb.size, fun j hj => (hb.cell (p := ⟨g, j, none⟩) hg).trans (hc j hj)⟩
theorem Fs.mono {B B' : Nat} {w : World} {v : Value} {fs : List Nat} (h : Fs B w v fs) (hB : B' ≤ B) : Fs B' w v fs := by
  rcases h with h | ⟨g, e, h1, hg, hc⟩
  · exact .inl h
  · exact .inr ⟨g, e, Nat.le_trans hB h1, hg, hc⟩
theorem Fs.turn {B : Nat} {F F' : Nat → Prop} {w w' : World} {v : Value} {fs : List Nat} (h : Fs B w v fs) (ht : Turn F F' w w') (hF : ∀ k, F k → k < B) : Fs B w' v fs := by
  rcases h with h | ⟨g, e, hB, hg, hc⟩
  · exact .inl h
  · refine .inr ⟨g, e, hB, Nat.lt_of_lt_of_le hg ht.size, fun j hj => ?_⟩
    rw [← hc j hj]
    exact World.cell?_of_block (w := w) (a := ⟨g, j, none⟩) (ht.block g hg (fun x => by have := hF g x; omega))
theorem fs_new (w : World) (a : Array Value) (t : Nat) (fs : List Nat) (ha : a = (fs.map fun f : Nat => Value.int .i64 (f : Int)).toArray) : Fs w.heap.size (w.alloc (.cells a t)) (.slice (some ⟨w.heap.size, 0, none⟩) fs.length fs.length) fs :=
  .inr ⟨w.heap.size, rfl, Nat.le_refl _, lt_of_heap (heap_alloc_new w _), fun j hj => by
    rw [cell_of_row _ w.heap.size j _ _ _ (heap_alloc_new w _), ha]
    simp [hj]⟩
theorem below_new (w : World) (o : Obj) : Below w.heap.size w (w.alloc o) := (Below.refl _ _).alloc (Nat.le_refl _) _
theorem recFields_any (k : Nat) (w : World) :
    Calls Tryd.prog 30 #[.int .u8 (k : Int)] w fun e w' => ∃ v, e = .returned v ∧ Fs w.heap.size w' v (fl k) ∧ Below w.heap.size w w' := by
  by_cases h1 : k = 1
  · subst h1
    go_enter Tryd.func30, Tryd.ntmps30
    go_wp2
    go_ret
    exact ⟨_, rfl, fs_new w _ _ [2, 3, 4] rfl, below_new _ _⟩
  by_cases h2 : k = 2
  · subst h2
    go_enter Tryd.func30, Tryd.ntmps30
    go_wp2
    go_ret
    exact ⟨_, rfl, fs_new w _ _ [0] rfl, below_new _ _⟩
  by_cases h3 : k = 3
  · subst h3
    go_enter Tryd.func30, Tryd.ntmps30
    go_wp2
    go_ret
    exact ⟨_, rfl, fs_new w _ _ [0, 1] rfl, below_new _ _⟩
  by_cases h4 : k = 4
  · subst h4
    go_enter Tryd.func30, Tryd.ntmps30
    go_wp2
    go_ret
    exact ⟨_, rfl, fs_new w _ _ [1] rfl, below_new _ _⟩
  by_cases h5 : k = 5
  · subst h5
    go_enter Tryd.func30, Tryd.ntmps30
    go_wp2
    go_ret
    exact ⟨_, rfl, fs_new w _ _ [1] rfl, below_new _ _⟩
  have e : fl k = [] := by unfold fl; rw [if_neg h1, if_neg h2, if_neg h3, if_neg (by omega)]
  rw [e]
  have e1 : ((k : Int) == 1) = false := by simp; omega
  have e2 : ((k : Int) == 2) = false := by simp; omega
  have e3 : ((k : Int) == 3) = false := by simp; omega
  have e4 : ((k : Int) == 4) = false := by simp; omega
  have e5 : ((k : Int) == 5) = false := by simp; omega
  clear e h1 h2 h3 h4 h5
  go_enter Tryd.func30, Tryd.ntmps30
  go_wp2
  go_ret
  exact ⟨_, rfl, .inl ⟨rfl, rfl⟩, Below.refl _ _⟩
theorem actFields_any (w : World) :
    Calls Tryd.prog 50 #[] w fun e w' => ∃ v, e = .returned v ∧ Fs w.heap.size w' v [3, 2] ∧ Below w.heap.size w w' := by
  go_enter Tryd.func50, Tryd.ntmps50
  go_wp2
  go_ret
  exact ⟨_, rfl, fs_new w _ _ [3, 2] rfl, below_new _ _⟩
/-- The five numbers. -/
def five (i r p c q : Int) : Nat → Int
  | 0 => i | 1 => r | 2 => p | 3 => c | 4 => q | _ => 0
theorem Tryd.resN : Tryd.f31.results = #[.cell 2 65] := by kernel_rfl
theorem Tryd.cellsN : (Tryd.prog.info? 65).map (·.size) = some 5 := by kernel_rfl
theorem set5 {w : World} {R : Nat} {a0 a1 a2 a3 a4 : Value} {t : TypeId} (h : w.heap[R]? = some (.cells #[a0, a1, a2, a3, a4] t (0, 0))) (u0 u1 u2 u3 u4 : Value) :
    (((((w.setCell ⟨R, 0, none⟩ u0).setCell ⟨R, 1, none⟩ u1).setCell ⟨R, 2, none⟩ u2).setCell ⟨R, 3, none⟩ u3).setCell ⟨R, 4, none⟩ u4).heap[R]? = some (.cells #[u0, u1, u2, u3, u4] t (0, 0)) := by
  have h0 := heap_setCell_same w R 0 _ _ u0 h
  have h1 := heap_setCell_same _ R 1 _ _ u1 h0
  have h2 := heap_setCell_same _ R 2 _ _ u2 h1
  have h3 := heap_setCell_same _ R 3 _ _ u3 h2
  have h4 := heap_setCell_same _ R 4 _ _ u4 h3
  rw [h4]; simp
theorem below5 {B : Nat} {a w : World} (h : Below B a w) {R : Nat} (hR : B ≤ R) (u0 u1 u2 u3 u4 : Value) : Below B a (((((w.setCell ⟨R, 0, none⟩ u0).setCell ⟨R, 1, none⟩ u1).setCell ⟨R, 2, none⟩ u2).setCell ⟨R, 3, none⟩ u3).setCell ⟨R, 4, none⟩ u4) :=
  ((((h.setCell (p := ⟨R, 0, none⟩) hR _).setCell (p := ⟨R, 1, none⟩) hR _).setCell (p := ⟨R, 2, none⟩) hR _).setCell (p := ⟨R, 3, none⟩) hR _).setCell (p := ⟨R, 4, none⟩) hR _
theorem recNumbers_any (k i r p c q : Int) (w : World) :
    Calls Tryd.prog 31 #[.agg #[.int .u8 k, .int .i64 i, .int .i64 r, .int .i64 p, .int .i64 c, .int .i64 q]] w fun e w' => e = .returned (.agg #[.int .i64 i, .int .i64 r, .int .i64 p, .int .i64 c, .int .i64 q]) ∧ Below w.heap.size w w' := by
  have hb : Below w.heap.size w (w.alloc (.cells #[.int .u8 k, .int .i64 i, .int .i64 r, .int .i64 p, .int .i64 c, .int .i64 q] 23)) := below_new _ _
  have HB := Lib.hid hb
  clear hb
  go_enter Tryd.func31, Tryd.ntmps31
  go_wp2
  refine bodyPost_ret (results_cell_row Tryd.resN _ _ _ _ _ _ _ rfl (heap_alloc2_new w _ _) Tryd.underlying65 rfl Tryd.cellsN) rfl ?_
  exact ⟨rfl, HB.out.alloc HB.out.size _⟩
/-- Where a number stands in a list of fields. -/
def IdxTold (w : World) (fs : List Nat) (n : Nat) (e : Ending) (w' : World) : Prop := w = w' ∧ ((n ∈ fs ∧ ∃ m : Nat, e = .returned (.int .i64 (m : Int)) ∧ m ≤ 5) ∨ (n ∉ fs ∧ e = .returned (.int .i64 (-1))))
theorem fs_mem (fs : List Nat) (n : Nat) : n ∈ fs ↔ ∃ j, j < fs.length ∧ fs.getD j 0 = n := by
  constructor
  · intro h
    obtain ⟨j, hj, e⟩ := List.getElem_of_mem h
    exact ⟨j, hj, by simp [List.getD, hj, e]⟩
  · rintro ⟨j, hj, rfl⟩
    simp [List.getD, hj]
theorem index_any {B : Nat} (v : Value) (fs : List Nat) (n : Nat) (w : World) (h : Fs B w v fs) (hl : fs.length ≤ 5) :
    Calls Tryd.prog 67 #[v, .int .i64 (n : Int)] w (IdxTold w fs n) := by
  rcases h with ⟨rfl, rfl⟩ | ⟨g, rfl, _, hg, hc⟩
  · go_enter Tryd.func67, Tryd.ntmps67
    go_wp2
    go_loopw [8] (fun iv wr => iv = .int .i64 0 ∧ wr = w) (fun iv _ => 0)
    case atStart => exact ⟨rfl, rfl⟩
    case round =>
      obtain ⟨rfl, rfl⟩ := hrel
      go_wp2
      go_ret
      exact ⟨rfl, .inr ⟨by simp, rfl⟩⟩
  · have HC := Lib.hid hc
    have HM := Lib.hid (fs_mem fs n)
    obtain ⟨L, hL⟩ : ∃ L, fs.length = L := ⟨_, rfl⟩
    rw [hL] at hl ⊢
    have HL := Lib.hid hL
    clear hc hL
    go_enter Tryd.func67, Tryd.ntmps67
    go_wp2
    go_loopw [8] (fun iv wr => ∃ k : Nat, k ≤ L ∧ iv = .int .i64 (k : Int) ∧ wr = w ∧ Hid (∀ j, j < k → fs.getD j 0 ≠ n)) (fun iv _ => L - (intOf iv).toNat)
    case atStart => exact ⟨0, Nat.zero_le _, rfl, rfl, Lib.hid (fun j hj => by omega)⟩
    case round =>
      obtain ⟨k, hk, rfl, rfl, hno⟩ := hrel
      by_cases hlt : k < L
      · have hck := HC.out k (by rw [HL.out]; exact hlt)
        obtain ⟨z, hz⟩ : ∃ z, fs.getD k 0 = z := ⟨_, rfl⟩
        rw [hz] at hck
        have HZ := Lib.hid hz
        clear hz
        by_cases he : (n : Int) = (z : Int)
        · have e1 : ((n : Int) == (z : Int)) = true := by simpa using he
          go_wp2
          go_ret
          exact ⟨rfl, .inl ⟨HM.out.2 ⟨k, by rw [HL.out]; exact hlt, by rw [HZ.out]; omega⟩, k, rfl, by omega⟩⟩
        · have e1 : ((n : Int) == (z : Int)) = false := by simpa using he
          have HE := Lib.hid he
          clear he
          go_wp2
          go_roundw
          case rel => exact ⟨k + 1, by omega, by go_num, trivial, Lib.hid (fun j hj => by
            rcases Nat.lt_or_ge j k with x | x
            · exact hno.out j x
            · obtain rfl : j = k := by omega
              rw [HZ.out]; have := HE.out; omega)⟩
          case measure => simp [intOf]; omega
      · obtain rfl : k = L := by omega
        go_wp2
        go_ret
        exact ⟨rfl, .inr ⟨fun x => by
          obtain ⟨j, hj, e⟩ := HM.out.1 x
          exact hno.out j (by rw [← HL.out]; exact hj) e, rfl⟩⟩
theorem contains_any {B : Nat} (v : Value) (fs : List Nat) (n : Nat) (b : Bool) (w : World) (h : Fs B w v fs) (hl : fs.length ≤ 5) (hb : b = decide (n ∈ fs)) :
    Calls Tryd.prog 38 #[v, .int .i64 (n : Int)] w fun e w' => e = .returned (.bool b) ∧ w = w' := by
  have HI := Lib.hid (index_any v fs n w h hl)
  clear h
  go_enter Tryd.func38, Tryd.ntmps38
  go_wp2_with fail
  refine HI.out.mono ?_
  rintro e w1 ⟨rfl, ⟨h1, m, rfl, hm⟩ | ⟨h1, rfl⟩⟩
  · obtain rfl : b = true := by rw [hb]; exact decide_eq_true h1
    clear hb h1
    go_wp2
    go_ret
    exact ⟨rfl, rfl⟩
  · obtain rfl : b = false := by rw [hb]; exact decide_eq_false h1
    clear hb h1
    go_wp2
    go_ret
    exact ⟨rfl, rfl⟩
/-- Which records may be. -/
def Rok (k : Nat) (N : Nat → Int) : Prop := fl k ≠ [] ∧ ∀ f, f < 5 → (0 ≤ N f ∧ N f ≤ (fmx f : Int)) ∧ (N f = 0 ∨ f ∈ fl k)
instance (k : Nat) (N : Nat → Int) : Decidable (Rok k N) := by unfold Rok; exact inferInstance
theorem run_idx5 (i r p c q : Int) (f : Nat) (hf : f < 5) (w : World) : (Instr.index 65 (.agg #[.int .i64 i, .int .i64 r, .int .i64 p, .int .i64 c, .int .i64 q]) (.int .i64 (f : Int))).run Tryd.prog w = .ok (.int .i64 (five i r p c q f)) w := by
  have : f = 0 ∨ f = 1 ∨ f = 2 ∨ f = 3 ∨ f = 4 := by omega
  rcases this with rfl | rfl | rfl | rfl | rfl <;> exact rfl
def RightTold (w : World) (k : Nat) (N : Nat → Int) (e : Ending) (w' : World) : Prop := e = .returned (.bool (decide (Rok k N))) ∧ Below w.heap.size w w'
theorem fl_len (k : Nat) : (fl k).length ≤ 3 := by unfold fl; repeat' split
                                                   all_goals decide
theorem Fs.len {B : Nat} {w : World} {v : Value} {fs : List Nat} (h : Fs B w v fs) : ∃ A c, v = .slice A fs.length c := by
  rcases h with ⟨rfl, rfl⟩ | ⟨g, rfl, _⟩
  · exact ⟨none, 0, rfl⟩
  · exact ⟨_, _, rfl⟩
theorem right_any (k : Nat) (i r p c q : Int) (w : World) (h : Shp w) :
    Calls Tryd.prog 13 #[.agg #[.int .u8 (k : Int), .int .i64 i, .int .i64 r, .int .i64 p, .int .i64 c, .int .i64 q]] w (RightTold w k (five i r p c q)) := by
  have hb : Below w.heap.size w (w.alloc (.cells #[.int .u8 k, .int .i64 i, .int .i64 r, .int .i64 p, .int .i64 c, .int .i64 q] 23)) := below_new _ _
  have hr : ∀ W, Below (w.heap.size + 1) (w.alloc (.cells #[.int .u8 k, .int .i64 i, .int .i64 r, .int .i64 p, .int .i64 c, .int .i64 q] 23)) W → W.heap[w.heap.size]? = some (.cells #[.int .u8 k, .int .i64 i, .int .i64 r, .int .i64 p, .int .i64 c, .int .i64 q] 23 (0, 0)) := fun W hW => (hW.block w.heap.size (Nat.lt_succ_self _)).trans (heap_alloc_new w _)
  have hs : (w.alloc (.cells #[.int .u8 k, .int .i64 i, .int .i64 r, .int .i64 p, .int .i64 c, .int .i64 q] 23)).heap.size = w.heap.size + 1 := by simp
  have HB := Lib.hid hb
  have HR := Lib.hid hr
  have HS := Lib.hid h
  have HZ := Lib.hid hs
  have HI := fun (f : Nat) (hf : f < 5) => run_idx5 i r p c q f hf
  clear hb h hr hs
  go_enter Tryd.func13, Tryd.ntmps13
  go_wp2_with fail
  refine (recFields_any _ _).mono ?_
  rintro e w1 ⟨v, rfl, hf1, hb1⟩
  have HB1 := Lib.hid hb1
  have hrow := HR.out w1 (by rw [← HZ.out]; exact hb1)
  have c0 := cell_of_row w1 w.heap.size 0 _ _ _ hrow
  have c1 := cell_of_row w1 w.heap.size 1 _ _ _ hrow
  have c2 := cell_of_row w1 w.heap.size 2 _ _ _ hrow
  have c3 := cell_of_row w1 w.heap.size 3 _ _ _ hrow
  have c4 := cell_of_row w1 w.heap.size 4 _ _ _ hrow
  have c5 := cell_of_row w1 w.heap.size 5 _ _ _ hrow
  have HF1 := Lib.hid hf1
  clear hf1 hb1 hrow
  go_wp2_with fail
  refine (recNumbers_any _ _ _ _ _ _ _).mono ?_
  rintro e w2 ⟨rfl, hb2⟩
  have HB2 := Lib.hid (HB.out.trans ((HB1.out.trans (hb2.mono HB1.out.size)).mono HB.out.size))
  have HF2 := Lib.hid (HF1.out.later hb2)
  have HS2 := Lib.hid (HS.out.later HB2.out)
  obtain ⟨A, cp, rfl⟩ := HF1.out.len
  have hl3 := fl_len k
  have HL3 := Lib.hid hl3
  clear hb2 HF1 c0 c1 c2 c3 c4 c5 HR HB1
  obtain ⟨L, hL⟩ : ∃ L, (fl k).length = L := ⟨_, rfl⟩
  rw [hL] at hl3 HF2 ⊢
  have HL := Lib.hid hL
  clear hL
  obtain ⟨N, hN⟩ : ∃ N, N = five i r p c q := ⟨_, rfl⟩
  rw [← hN] at HI ⊢
  have HN := Lib.hid hN
  clear hN
  go_wp2
  go_loopw [11] (fun iv wr => ∃ j : Nat, j ≤ 5 ∧ iv = .int .i64 (j : Int) ∧ w2 = wr ∧ Hid (∀ f, f < j → (0 ≤ N f ∧ N f ≤ (fmx f : Int)) ∧ (N f = 0 ∨ f ∈ fl k))) (fun iv _ => 5 - (intOf iv).toNat)
  case atStart => exact ⟨0, Nat.zero_le _, rfl, rfl, Lib.hid (fun j hj => by omega)⟩
  case round =>
    obtain ⟨j, hj, rfl, rfl, hok⟩ := hrel
    by_cases hlt : j < 5
    · have hidx := HI j hlt
      obtain ⟨z, hz⟩ : ∃ z, N j = z := ⟨_, rfl⟩
      rw [hz] at hidx
      have HZJ := Lib.hid hz
      clear hz HI
      have HM := Lib.hid (mayBe_any j hlt z w2 HS2.out)
      have hC := fun b hb => contains_any _ (fl k) j b w2 HF2.out (by have := HL3.out; omega) hb
      have HC := Lib.hid hC
      clear hC
      by_cases h1 : 0 ≤ z ∧ z ≤ (fmx j : Int)
      · have e1 : decide (0 ≤ z ∧ z ≤ (fmx j : Int)) = true := decide_eq_true h1
        rw [e1] at HM
        have H1 := Lib.hid h1
        clear e1 h1
        by_cases h2 : z = 0
        · have H2 := Lib.hid h2
          have e2 : (z != 0) = false := by simpa using h2
          clear h2
          go_wp2_with fail
          refine HM.out.mono ?_
          rintro e w3 ⟨rfl, rfl⟩
          go_wp2
          go_roundw
          case rel => exact ⟨j + 1, by omega, by go_num, trivial, Lib.hid (fun f hf => by
            rcases Nat.lt_or_ge f j with x | x
            · exact hok.out f x
            · obtain rfl : f = j := by omega
              rw [HZJ.out]; exact ⟨H1.out, .inl H2.out⟩)⟩
          case measure => simp [intOf]; omega
        · have H2 := Lib.hid h2
          have e2 : (z != 0) = true := by simpa using h2
          clear h2
          by_cases h3 : j ∈ fl k
          · have HC1 := Lib.hid (HC.out true (decide_eq_true h3).symm)
            have H3 := Lib.hid h3
            clear h3 HC
            go_wp2_with fail
            refine HM.out.mono ?_
            rintro e w3 ⟨rfl, rfl⟩
            go_wp2_with fail
            refine HC1.out.mono ?_
            rintro e w3 ⟨rfl, rfl⟩
            go_wp2
            go_roundw
            case rel => exact ⟨j + 1, by omega, by go_num, trivial, Lib.hid (fun f hf => by
              rcases Nat.lt_or_ge f j with x | x
              · exact hok.out f x
              · obtain rfl : f = j := by omega
                rw [HZJ.out]; exact ⟨H1.out, .inr H3.out⟩)⟩
            case measure => simp [intOf]; omega
          · have HC1 := Lib.hid (HC.out false (decide_eq_false h3).symm)
            have HNO : Hid (¬ Rok k N) := Lib.hid (fun x => by
              have := x.2 j hlt
              rw [HZJ.out] at this
              rcases this.2 with y | y
              · exact H2.out y
              · exact h3 y)
            clear h3 HC
            go_wp2_with fail
            refine HM.out.mono ?_
            rintro e w3 ⟨rfl, rfl⟩
            go_wp2_with fail
            refine HC1.out.mono ?_
            rintro e w3 ⟨rfl, rfl⟩
            go_wp2
            go_ret
            exact ⟨by rw [← HN.out, decide_eq_false HNO.out]; rfl, HB2.out⟩
      · have e1 : decide (0 ≤ z ∧ z ≤ (fmx j : Int)) = false := decide_eq_false h1
        rw [e1] at HM
        have HNO : Hid (¬ Rok k N) := Lib.hid (fun x => by
          have := x.2 j hlt
          rw [HZJ.out] at this
          exact h1 this.1)
        clear e1 h1
        go_wp2_with fail
        refine HM.out.mono ?_
        rintro e w3 ⟨rfl, rfl⟩
        go_wp2
        go_ret
        exact ⟨by rw [← HN.out, decide_eq_false HNO.out]; rfl, HB2.out⟩
    · obtain rfl : j = 5 := by omega
      have HE : Hid (decide (Rok k N) = decide (0 < L)) := Lib.hid (by
        rw [decide_eq_decide]
        constructor
        · intro x
          rw [← HL.out]
          exact List.length_pos_iff.2 x.1
        · intro x
          rw [← HL.out] at x
          exact ⟨List.length_pos_iff.1 x, hok.out⟩)
      clear HI
      go_wp2
      go_ret
      exact ⟨by rw [← HN.out, HE.out]; simp, HB2.out⟩
end Rc
end Go.Proofs.YtejldeecblppjaaDoor
