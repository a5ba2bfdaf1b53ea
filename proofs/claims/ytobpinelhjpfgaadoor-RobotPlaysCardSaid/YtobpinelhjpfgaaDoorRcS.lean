/-
  Layer 17: the document's Lay and LayAct.
-/
import Derived.Test.YtobpinelhjpfgaaDoorRcR
set_option linter.unusedVariables false
set_option maxRecDepth 100000
namespace Go.Proofs.YtobpinelhjpfgaaDoor
namespace Rc
open Go.RowKit Bp Ck
/-- A row of bits is appended to another one. -/
theorem app_bits {w : World} {ops : Array Oper} {rest : List Oper} {o : Oper} {a : Act} {Q : Exit → Act → World → Prop} (hgd : o.guard = none) (s x : Operand)
    (ho : o.op = .call { callee := .builtin .append, args := #[s, x], argTypes := #[91, 91] })
    (base : Nat) (v : Value) (n : Nat) (xs : List Bool) (hs : a.eval s = v) (hown : w.ownsRow base 4 1 v n (bb xs))
    (base2 g m c : Nat) (ys : List Bool) (hx : a.eval x = .slice (some ⟨g, 0, none⟩) m c) (hr : w.ownsRow base2 4 1 (.slice (some ⟨g, 0, none⟩) m c) m (bb ys)) (hf : n + m ≤ 1048576) (hbase : base ≤ w.heap.size)
    (h : ∀ v' w', w'.ownsRow base 4 1 v' (n + m) (bb (xs ++ ys)) → Below base w w' → wpList Tryd.prog ops Q rest (a.put o.dst v') w') : wpList Tryd.prog ops Q (o :: rest) a w := by
  obtain ⟨i0, hi, hz0, hz1, hz2⟩ := info_parts Tryd.infoBool
  refine wpList_append_own_at w hgd s x 91 ho base 4 i0 (.bool false) 1 1 Tryd.underlying91 hi hz0 hz1 hz2 rfl (by decide) v n (bb xs) hs hown ⟨g, 0, none⟩ m c (bb ys) hx (by have := hr.1; omega) (hr.cells (g := g) rfl) (bb_one ys) (by unfold maxLen; omega) (by omega) hbase ?_
  intro v' w' h1 h2 h3 h4
  exact h v' w' (by rw [bb_app]; exact h1) (Below.grown (Below.refl _ _) h2 hbase (fun k hk => (hown.lt k hk).1))
theorem below_box {B n : Nat} {w W1 w1 : World} (h : Below B w W1) (hs : W1.heap.size = n) (hb : Below W1.heap.size W1 w1) : Below n W1 w1 := by rw [hs] at hb; exact hb
set_option maxHeartbeats 4000000 in
theorem rlayAct_1 (c p : Int) (w : World) (hok : Aok 1 c p) : Calls Tryd.prog 32 #[.agg #[.int .u8 1, .int .i64 c, .int .i64 p]] w (LayTold w (pack (kb 2 1 [3, 2] (natN (five 0 0 p c 0))))) := by
  have hx := (show (1 ≤ 1 ∧ 1 ≤ 3) ∧ (0 ≤ c ∧ c ≤ 255) ∧ (0 ≤ p ∧ p ≤ 63) ∧ (1 = 1 → p = 0) from hok)
  have hp0 : (p != 0) = false := by simpa using hx.2.2.2 rfl
  obtain ⟨nc, rfl⟩ := Int.eq_ofNat_of_zero_le (show 0 ≤ c by omega)
  obtain ⟨np, rfl⟩ := Int.eq_ofNat_of_zero_le (show 0 ≤ p by omega)
  have hkb : kb 2 1 [3, 2] (natN (five 0 0 (np : Int) (nc : Int) 0)) = bitsOf 1 2 ++ bitsOf nc 8 ++ bitsOf np 6 := by simp [kb, fbits, fld, fw, natN, five]
  have hfx : nc ≤ 1073741824 ∧ np ≤ 1073741824 := by omega
  have hw0 : IntKind.u64.wrap (nc : Int) = (nc : Int) := IntWalk.u64_in _ ⟨by omega, by omega⟩
  have hw1 : IntKind.u64.wrap (np : Int) = (np : Int) := IntWalk.u64_in _ ⟨by omega, by omega⟩
  have hb1 := below_new w (.cells #[.int .u8 1, .int .i64 (nc : Int), .int .i64 (np : Int)] 33)
  have hr1 := heap_alloc_new w (.cells #[.int .u8 1, .int .i64 (nc : Int), .int .i64 (np : Int)] 33)
  have hs1 : (w.alloc (.cells #[.int .u8 1, .int .i64 (nc : Int), .int .i64 (np : Int)] 33)).heap.size = w.heap.size + 1 := by simp
  have HB1 := Lib.hid hb1
  have HKB := Lib.hid hkb
  have HS1 := Lib.hid hs1
  have HC : Hid (∀ W, Below (w.heap.size + 1) (w.alloc (.cells #[.int .u8 1, .int .i64 (nc : Int), .int .i64 (np : Int)] 33)) W → W.heap[w.heap.size]? = some (.cells #[.int .u8 1, .int .i64 (nc : Int), .int .i64 (np : Int)] 33 (0, 0))) := Lib.hid (fun W hW => (hW.block _ (Nat.lt_succ_self _)).trans hr1)
  have HX1 := Lib.hid (Below.refl (w.heap.size + 1) (w.alloc (.cells #[.int .u8 1, .int .i64 (nc : Int), .int .i64 (np : Int)] 33)))
  have d0 : decide (0 ≤ (nc : Int) ∧ (nc : Int) ≤ 255) = true := decide_eq_true (by omega)
  have d1 : decide (0 ≤ (np : Int) ∧ (np : Int) ≤ 63) = true := decide_eq_true (by omega)
  clear hok hx hkb hb1 hr1 hs1
  go_enter Tryd.func32, Tryd.ntmps32
  go_wp2_with fail
  refine (in_any (nc : Int) 255 true d0 _).mono ?_
  rintro e w1 ⟨rfl, rfl⟩
  go_wp2_with fail
  refine (in_any (np : Int) 63 true d1 _).mono ?_
  rintro e w1 ⟨rfl, rfl⟩
  clear d0 d1
  go_wp2_with fail
  refine (refBits_int 1 2 _ _ (by decide) (by decide) _ rfl rfl).mono ?_
  rintro e w2 ⟨v2, rfl, -, ho2, hb2⟩
  obtain ⟨g2, c2, rfl⟩ := shape_of ho2 (by decide)
  have HO := Lib.hid (own_lower ho2 (base' := w.heap.size + 1) (by first | (have := HX1.out.size; rw [HS1.out] at this; exact this) | (rw [HS1.out]; exact Nat.le_refl _)))
  have HX := Lib.hid (HX1.out.trans (hb2.mono (by first | (have := HX1.out.size; rw [HS1.out] at this; exact this) | (rw [HS1.out]; exact Nat.le_refl _))))
  clear ho2 hb2 HX1
  have hrow := HC.out _ HX.out
  have y0 := cell_of_row _ w.heap.size 0 _ _ _ hrow
  have y1 := cell_of_row _ w.heap.size 1 _ _ _ hrow
  have y2 := cell_of_row _ w.heap.size 2 _ _ _ hrow
  clear hrow
  have hsz : w.heap.size + 1 ≤ w2.heap.size := by have := HX.out.size; rw [HS1.out] at this; exact this
  go_wp2_with fail
  refine (refBits_int nc 8 _ _ (by omega) (by decide) _ rfl rfl).mono ?_
  rintro e w3 ⟨v3, rfl, -, ho3, hb3⟩
  obtain ⟨g3, c3, rfl⟩ := shape_of ho3 (by decide)
  have HO3 := Lib.hid ho3
  have HO := Lib.hid (ownsRow_same HO.out (fun k hk => hb3.block k (HO.out.lt k hk).2))
  have HX := Lib.hid (HX.out.trans (hb3.mono hsz))
  have hsz3 : w.heap.size + 1 ≤ w3.heap.size := by have := hb3.size; omega
  clear ho3 hb3 hsz y0 y1 y2
  go_wp2_with (at_builtin; refine app_bits rfl _ _ rfl (w.heap.size + 1) _ (2) (bitsOf 1 2) rfl HO.out _ g3 8 c3 (bitsOf nc 8) rfl HO3.out (by omega) hsz3 ?_; intro v4 w4 ho4 hb4; have hrow := HC.out _ (HX.out.trans hb4); have y0 := cell_of_row _ w.heap.size 0 _ _ _ hrow; have y1 := cell_of_row _ w.heap.size 1 _ _ _ hrow; have y2 := cell_of_row _ w.heap.size 2 _ _ _ hrow; clear hrow)
  obtain ⟨g4, c4, rfl⟩ := shape_of ho4 (by omega)
  have HO := Lib.hid ho4
  have HX := Lib.hid (HX.out.trans hb4)
  clear ho4 hb4 HO3 hsz3
  have hsz : w.heap.size + 1 ≤ w4.heap.size := by have := HX.out.size; rw [HS1.out] at this; exact this
  refine (refBits_int np 6 _ _ (by omega) (by decide) _ rfl rfl).mono ?_
  rintro e w5 ⟨v3, rfl, -, ho3, hb3⟩
  obtain ⟨g3, c3, rfl⟩ := shape_of ho3 (by decide)
  have HO3 := Lib.hid ho3
  have HO := Lib.hid (ownsRow_same HO.out (fun k hk => hb3.block k (HO.out.lt k hk).2))
  have HX := Lib.hid (HX.out.trans (hb3.mono hsz))
  have hsz3 : w.heap.size + 1 ≤ w5.heap.size := by have := hb3.size; omega
  clear ho3 hb3 hsz y0 y1 y2
  go_wp2_with (at_builtin; refine app_bits rfl _ _ rfl (w.heap.size + 1) _ (2 + 8) (bitsOf 1 2 ++ bitsOf nc 8) rfl HO.out _ g3 6 c3 (bitsOf np 6) rfl HO3.out (by omega) hsz3 ?_; intro v4 w6 ho4 hb4; have hrow := HC.out _ (HX.out.trans hb4); have y0 := cell_of_row _ w.heap.size 0 _ _ _ hrow; have y1 := cell_of_row _ w.heap.size 1 _ _ _ hrow; have y2 := cell_of_row _ w.heap.size 2 _ _ _ hrow; clear hrow)
  obtain ⟨g6, c6, rfl⟩ := shape_of ho4 (by omega)
  have HO := Lib.hid ho4
  have HX := Lib.hid (HX.out.trans hb4)
  clear ho4 hb4 HO3 hsz3
  have hpl : (bitsOf 1 2 ++ bitsOf nc 8 ++ bitsOf np 6).length = 2 + 8 + 6 := by simp only [List.length_append, bitsOf_length]
  have hsz : w.heap.size + 1 ≤ w6.heap.size := by have := HX.out.size; rw [HS1.out] at this; exact this
  have ho := HO.out
  rw [← hpl] at ho
  have HRY := Lib.hid (refBytes_any _ _ _ _ ho (by rw [hpl]; omega))
  rw [hpl] at HRY
  have HPL := Lib.hid hpl
  clear ho hpl HO y0 y1 y2
  generalize hQ : 2 + 8 + 6 = Q at *
  refine HRY.out.mono ?_
  rintro e w9 ⟨v9, rfl, ho9, hb9⟩
  obtain ⟨A9, c9, rfl⟩ := ownsRow_shape ho9
  have HO9 := Lib.hid (own_lower ho9 (base' := w.heap.size) (by omega))
  have HX9 := Lib.hid (HB1.out.trans ((HX.out.trans (hb9.mono hsz)).mono (by omega)))
  have HLN : Hid ((pack (bitsOf 1 2 ++ bitsOf nc 8 ++ bitsOf np 6)).length = nb Q) := Lib.hid (by rw [pack_length, HPL.out])
  clear ho9 hb9 HRY HX
  go_wp2
  go_ret2
  rw [HKB.out]
  exact ⟨A9, c9, by rw [HLN.out]; rfl, by rw [HLN.out]; exact HO9.out, HX9.out⟩
set_option maxHeartbeats 4000000 in
theorem rlayAct_2 (c p : Int) (w : World) (hok : Aok 2 c p) : Calls Tryd.prog 32 #[.agg #[.int .u8 2, .int .i64 c, .int .i64 p]] w (LayTold w (pack (kb 2 2 [3, 2] (natN (five 0 0 p c 0))))) := by
  have hx := (show (1 ≤ 2 ∧ 2 ≤ 3) ∧ (0 ≤ c ∧ c ≤ 255) ∧ (0 ≤ p ∧ p ≤ 63) ∧ (2 = 1 → p = 0) from hok)
  obtain ⟨nc, rfl⟩ := Int.eq_ofNat_of_zero_le (show 0 ≤ c by omega)
  obtain ⟨np, rfl⟩ := Int.eq_ofNat_of_zero_le (show 0 ≤ p by omega)
  have hkb : kb 2 2 [3, 2] (natN (five 0 0 (np : Int) (nc : Int) 0)) = bitsOf 2 2 ++ bitsOf nc 8 ++ bitsOf np 6 := by simp [kb, fbits, fld, fw, natN, five]
  have hfx : nc ≤ 1073741824 ∧ np ≤ 1073741824 := by omega
  have hw0 : IntKind.u64.wrap (nc : Int) = (nc : Int) := IntWalk.u64_in _ ⟨by omega, by omega⟩
  have hw1 : IntKind.u64.wrap (np : Int) = (np : Int) := IntWalk.u64_in _ ⟨by omega, by omega⟩
  have hb1 := below_new w (.cells #[.int .u8 2, .int .i64 (nc : Int), .int .i64 (np : Int)] 33)
  have hr1 := heap_alloc_new w (.cells #[.int .u8 2, .int .i64 (nc : Int), .int .i64 (np : Int)] 33)
  have hs1 : (w.alloc (.cells #[.int .u8 2, .int .i64 (nc : Int), .int .i64 (np : Int)] 33)).heap.size = w.heap.size + 1 := by simp
  have HB1 := Lib.hid hb1
  have HKB := Lib.hid hkb
  have HS1 := Lib.hid hs1
  have HC : Hid (∀ W, Below (w.heap.size + 1) (w.alloc (.cells #[.int .u8 2, .int .i64 (nc : Int), .int .i64 (np : Int)] 33)) W → W.heap[w.heap.size]? = some (.cells #[.int .u8 2, .int .i64 (nc : Int), .int .i64 (np : Int)] 33 (0, 0))) := Lib.hid (fun W hW => (hW.block _ (Nat.lt_succ_self _)).trans hr1)
  have HX1 := Lib.hid (Below.refl (w.heap.size + 1) (w.alloc (.cells #[.int .u8 2, .int .i64 (nc : Int), .int .i64 (np : Int)] 33)))
  have d0 : decide (0 ≤ (nc : Int) ∧ (nc : Int) ≤ 255) = true := decide_eq_true (by omega)
  have d1 : decide (0 ≤ (np : Int) ∧ (np : Int) ≤ 63) = true := decide_eq_true (by omega)
  clear hok hx hkb hb1 hr1 hs1
  go_enter Tryd.func32, Tryd.ntmps32
  go_wp2_with fail
  refine (in_any (nc : Int) 255 true d0 _).mono ?_
  rintro e w1 ⟨rfl, rfl⟩
  go_wp2_with fail
  refine (in_any (np : Int) 63 true d1 _).mono ?_
  rintro e w1 ⟨rfl, rfl⟩
  clear d0 d1
  go_wp2_with fail
  refine (refBits_int 2 2 _ _ (by decide) (by decide) _ rfl rfl).mono ?_
  rintro e w2 ⟨v2, rfl, -, ho2, hb2⟩
  obtain ⟨g2, c2, rfl⟩ := shape_of ho2 (by decide)
  have HO := Lib.hid (own_lower ho2 (base' := w.heap.size + 1) (by first | (have := HX1.out.size; rw [HS1.out] at this; exact this) | (rw [HS1.out]; exact Nat.le_refl _)))
  have HX := Lib.hid (HX1.out.trans (hb2.mono (by first | (have := HX1.out.size; rw [HS1.out] at this; exact this) | (rw [HS1.out]; exact Nat.le_refl _))))
  clear ho2 hb2 HX1
  have hrow := HC.out _ HX.out
  have y0 := cell_of_row _ w.heap.size 0 _ _ _ hrow
  have y1 := cell_of_row _ w.heap.size 1 _ _ _ hrow
  have y2 := cell_of_row _ w.heap.size 2 _ _ _ hrow
  clear hrow
  have hsz : w.heap.size + 1 ≤ w2.heap.size := by have := HX.out.size; rw [HS1.out] at this; exact this
  go_wp2_with fail
  refine (refBits_int nc 8 _ _ (by omega) (by decide) _ rfl rfl).mono ?_
  rintro e w3 ⟨v3, rfl, -, ho3, hb3⟩
  obtain ⟨g3, c3, rfl⟩ := shape_of ho3 (by decide)
  have HO3 := Lib.hid ho3
  have HO := Lib.hid (ownsRow_same HO.out (fun k hk => hb3.block k (HO.out.lt k hk).2))
  have HX := Lib.hid (HX.out.trans (hb3.mono hsz))
  have hsz3 : w.heap.size + 1 ≤ w3.heap.size := by have := hb3.size; omega
  clear ho3 hb3 hsz y0 y1 y2
  go_wp2_with (at_builtin; refine app_bits rfl _ _ rfl (w.heap.size + 1) _ (2) (bitsOf 2 2) rfl HO.out _ g3 8 c3 (bitsOf nc 8) rfl HO3.out (by omega) hsz3 ?_; intro v4 w4 ho4 hb4; have hrow := HC.out _ (HX.out.trans hb4); have y0 := cell_of_row _ w.heap.size 0 _ _ _ hrow; have y1 := cell_of_row _ w.heap.size 1 _ _ _ hrow; have y2 := cell_of_row _ w.heap.size 2 _ _ _ hrow; clear hrow)
  obtain ⟨g4, c4, rfl⟩ := shape_of ho4 (by omega)
  have HO := Lib.hid ho4
  have HX := Lib.hid (HX.out.trans hb4)
  clear ho4 hb4 HO3 hsz3
  have hsz : w.heap.size + 1 ≤ w4.heap.size := by have := HX.out.size; rw [HS1.out] at this; exact this
  refine (refBits_int np 6 _ _ (by omega) (by decide) _ rfl rfl).mono ?_
  rintro e w5 ⟨v3, rfl, -, ho3, hb3⟩
  obtain ⟨g3, c3, rfl⟩ := shape_of ho3 (by decide)
  have HO3 := Lib.hid ho3
  have HO := Lib.hid (ownsRow_same HO.out (fun k hk => hb3.block k (HO.out.lt k hk).2))
  have HX := Lib.hid (HX.out.trans (hb3.mono hsz))
  have hsz3 : w.heap.size + 1 ≤ w5.heap.size := by have := hb3.size; omega
  clear ho3 hb3 hsz y0 y1 y2
  go_wp2_with (at_builtin; refine app_bits rfl _ _ rfl (w.heap.size + 1) _ (2 + 8) (bitsOf 2 2 ++ bitsOf nc 8) rfl HO.out _ g3 6 c3 (bitsOf np 6) rfl HO3.out (by omega) hsz3 ?_; intro v4 w6 ho4 hb4; have hrow := HC.out _ (HX.out.trans hb4); have y0 := cell_of_row _ w.heap.size 0 _ _ _ hrow; have y1 := cell_of_row _ w.heap.size 1 _ _ _ hrow; have y2 := cell_of_row _ w.heap.size 2 _ _ _ hrow; clear hrow)
  obtain ⟨g6, c6, rfl⟩ := shape_of ho4 (by omega)
  have HO := Lib.hid ho4
  have HX := Lib.hid (HX.out.trans hb4)
  clear ho4 hb4 HO3 hsz3
  have hpl : (bitsOf 2 2 ++ bitsOf nc 8 ++ bitsOf np 6).length = 2 + 8 + 6 := by simp only [List.length_append, bitsOf_length]
  have hsz : w.heap.size + 1 ≤ w6.heap.size := by have := HX.out.size; rw [HS1.out] at this; exact this
  have ho := HO.out
  rw [← hpl] at ho
  have HRY := Lib.hid (refBytes_any _ _ _ _ ho (by rw [hpl]; omega))
  rw [hpl] at HRY
  have HPL := Lib.hid hpl
  clear ho hpl HO y0 y1 y2
  generalize hQ : 2 + 8 + 6 = Q at *
  refine HRY.out.mono ?_
  rintro e w9 ⟨v9, rfl, ho9, hb9⟩
  obtain ⟨A9, c9, rfl⟩ := ownsRow_shape ho9
  have HO9 := Lib.hid (own_lower ho9 (base' := w.heap.size) (by omega))
  have HX9 := Lib.hid (HB1.out.trans ((HX.out.trans (hb9.mono hsz)).mono (by omega)))
  have HLN : Hid ((pack (bitsOf 2 2 ++ bitsOf nc 8 ++ bitsOf np 6)).length = nb Q) := Lib.hid (by rw [pack_length, HPL.out])
  clear ho9 hb9 HRY HX
  go_wp2
  go_ret2
  rw [HKB.out]
  exact ⟨A9, c9, by rw [HLN.out]; rfl, by rw [HLN.out]; exact HO9.out, HX9.out⟩
set_option maxHeartbeats 4000000 in
theorem rlayAct_3 (c p : Int) (w : World) (hok : Aok 3 c p) : Calls Tryd.prog 32 #[.agg #[.int .u8 3, .int .i64 c, .int .i64 p]] w (LayTold w (pack (kb 2 3 [3, 2] (natN (five 0 0 p c 0))))) := by
  have hx := (show (1 ≤ 3 ∧ 3 ≤ 3) ∧ (0 ≤ c ∧ c ≤ 255) ∧ (0 ≤ p ∧ p ≤ 63) ∧ (3 = 1 → p = 0) from hok)
  obtain ⟨nc, rfl⟩ := Int.eq_ofNat_of_zero_le (show 0 ≤ c by omega)
  obtain ⟨np, rfl⟩ := Int.eq_ofNat_of_zero_le (show 0 ≤ p by omega)
  have hkb : kb 2 3 [3, 2] (natN (five 0 0 (np : Int) (nc : Int) 0)) = bitsOf 3 2 ++ bitsOf nc 8 ++ bitsOf np 6 := by simp [kb, fbits, fld, fw, natN, five]
  have hfx : nc ≤ 1073741824 ∧ np ≤ 1073741824 := by omega
  have hw0 : IntKind.u64.wrap (nc : Int) = (nc : Int) := IntWalk.u64_in _ ⟨by omega, by omega⟩
  have hw1 : IntKind.u64.wrap (np : Int) = (np : Int) := IntWalk.u64_in _ ⟨by omega, by omega⟩
  have hb1 := below_new w (.cells #[.int .u8 3, .int .i64 (nc : Int), .int .i64 (np : Int)] 33)
  have hr1 := heap_alloc_new w (.cells #[.int .u8 3, .int .i64 (nc : Int), .int .i64 (np : Int)] 33)
  have hs1 : (w.alloc (.cells #[.int .u8 3, .int .i64 (nc : Int), .int .i64 (np : Int)] 33)).heap.size = w.heap.size + 1 := by simp
  have HB1 := Lib.hid hb1
  have HKB := Lib.hid hkb
  have HS1 := Lib.hid hs1
  have HC : Hid (∀ W, Below (w.heap.size + 1) (w.alloc (.cells #[.int .u8 3, .int .i64 (nc : Int), .int .i64 (np : Int)] 33)) W → W.heap[w.heap.size]? = some (.cells #[.int .u8 3, .int .i64 (nc : Int), .int .i64 (np : Int)] 33 (0, 0))) := Lib.hid (fun W hW => (hW.block _ (Nat.lt_succ_self _)).trans hr1)
  have HX1 := Lib.hid (Below.refl (w.heap.size + 1) (w.alloc (.cells #[.int .u8 3, .int .i64 (nc : Int), .int .i64 (np : Int)] 33)))
  have d0 : decide (0 ≤ (nc : Int) ∧ (nc : Int) ≤ 255) = true := decide_eq_true (by omega)
  have d1 : decide (0 ≤ (np : Int) ∧ (np : Int) ≤ 63) = true := decide_eq_true (by omega)
  clear hok hx hkb hb1 hr1 hs1
  go_enter Tryd.func32, Tryd.ntmps32
  go_wp2_with fail
  refine (in_any (nc : Int) 255 true d0 _).mono ?_
  rintro e w1 ⟨rfl, rfl⟩
  go_wp2_with fail
  refine (in_any (np : Int) 63 true d1 _).mono ?_
  rintro e w1 ⟨rfl, rfl⟩
  clear d0 d1
  go_wp2_with fail
  refine (refBits_int 3 2 _ _ (by decide) (by decide) _ rfl rfl).mono ?_
  rintro e w2 ⟨v2, rfl, -, ho2, hb2⟩
  obtain ⟨g2, c2, rfl⟩ := shape_of ho2 (by decide)
  have HO := Lib.hid (own_lower ho2 (base' := w.heap.size + 1) (by first | (have := HX1.out.size; rw [HS1.out] at this; exact this) | (rw [HS1.out]; exact Nat.le_refl _)))
  have HX := Lib.hid (HX1.out.trans (hb2.mono (by first | (have := HX1.out.size; rw [HS1.out] at this; exact this) | (rw [HS1.out]; exact Nat.le_refl _))))
  clear ho2 hb2 HX1
  have hrow := HC.out _ HX.out
  have y0 := cell_of_row _ w.heap.size 0 _ _ _ hrow
  have y1 := cell_of_row _ w.heap.size 1 _ _ _ hrow
  have y2 := cell_of_row _ w.heap.size 2 _ _ _ hrow
  clear hrow
  have hsz : w.heap.size + 1 ≤ w2.heap.size := by have := HX.out.size; rw [HS1.out] at this; exact this
  go_wp2_with fail
  refine (refBits_int nc 8 _ _ (by omega) (by decide) _ rfl rfl).mono ?_
  rintro e w3 ⟨v3, rfl, -, ho3, hb3⟩
  obtain ⟨g3, c3, rfl⟩ := shape_of ho3 (by decide)
  have HO3 := Lib.hid ho3
  have HO := Lib.hid (ownsRow_same HO.out (fun k hk => hb3.block k (HO.out.lt k hk).2))
  have HX := Lib.hid (HX.out.trans (hb3.mono hsz))
  have hsz3 : w.heap.size + 1 ≤ w3.heap.size := by have := hb3.size; omega
  clear ho3 hb3 hsz y0 y1 y2
  go_wp2_with (at_builtin; refine app_bits rfl _ _ rfl (w.heap.size + 1) _ (2) (bitsOf 3 2) rfl HO.out _ g3 8 c3 (bitsOf nc 8) rfl HO3.out (by omega) hsz3 ?_; intro v4 w4 ho4 hb4; have hrow := HC.out _ (HX.out.trans hb4); have y0 := cell_of_row _ w.heap.size 0 _ _ _ hrow; have y1 := cell_of_row _ w.heap.size 1 _ _ _ hrow; have y2 := cell_of_row _ w.heap.size 2 _ _ _ hrow; clear hrow)
  obtain ⟨g4, c4, rfl⟩ := shape_of ho4 (by omega)
  have HO := Lib.hid ho4
  have HX := Lib.hid (HX.out.trans hb4)
  clear ho4 hb4 HO3 hsz3
  have hsz : w.heap.size + 1 ≤ w4.heap.size := by have := HX.out.size; rw [HS1.out] at this; exact this
  refine (refBits_int np 6 _ _ (by omega) (by decide) _ rfl rfl).mono ?_
  rintro e w5 ⟨v3, rfl, -, ho3, hb3⟩
  obtain ⟨g3, c3, rfl⟩ := shape_of ho3 (by decide)
  have HO3 := Lib.hid ho3
  have HO := Lib.hid (ownsRow_same HO.out (fun k hk => hb3.block k (HO.out.lt k hk).2))
  have HX := Lib.hid (HX.out.trans (hb3.mono hsz))
  have hsz3 : w.heap.size + 1 ≤ w5.heap.size := by have := hb3.size; omega
  clear ho3 hb3 hsz y0 y1 y2
  go_wp2_with (at_builtin; refine app_bits rfl _ _ rfl (w.heap.size + 1) _ (2 + 8) (bitsOf 3 2 ++ bitsOf nc 8) rfl HO.out _ g3 6 c3 (bitsOf np 6) rfl HO3.out (by omega) hsz3 ?_; intro v4 w6 ho4 hb4; have hrow := HC.out _ (HX.out.trans hb4); have y0 := cell_of_row _ w.heap.size 0 _ _ _ hrow; have y1 := cell_of_row _ w.heap.size 1 _ _ _ hrow; have y2 := cell_of_row _ w.heap.size 2 _ _ _ hrow; clear hrow)
  obtain ⟨g6, c6, rfl⟩ := shape_of ho4 (by omega)
  have HO := Lib.hid ho4
  have HX := Lib.hid (HX.out.trans hb4)
  clear ho4 hb4 HO3 hsz3
  have hpl : (bitsOf 3 2 ++ bitsOf nc 8 ++ bitsOf np 6).length = 2 + 8 + 6 := by simp only [List.length_append, bitsOf_length]
  have hsz : w.heap.size + 1 ≤ w6.heap.size := by have := HX.out.size; rw [HS1.out] at this; exact this
  have ho := HO.out
  rw [← hpl] at ho
  have HRY := Lib.hid (refBytes_any _ _ _ _ ho (by rw [hpl]; omega))
  rw [hpl] at HRY
  have HPL := Lib.hid hpl
  clear ho hpl HO y0 y1 y2
  generalize hQ : 2 + 8 + 6 = Q at *
  refine HRY.out.mono ?_
  rintro e w9 ⟨v9, rfl, ho9, hb9⟩
  obtain ⟨A9, c9, rfl⟩ := ownsRow_shape ho9
  have HO9 := Lib.hid (own_lower ho9 (base' := w.heap.size) (by omega))
  have HX9 := Lib.hid (HB1.out.trans ((HX.out.trans (hb9.mono hsz)).mono (by omega)))
  have HLN : Hid ((pack (bitsOf 3 2 ++ bitsOf nc 8 ++ bitsOf np 6)).length = nb Q) := Lib.hid (by rw [pack_length, HPL.out])
  clear ho9 hb9 HRY HX
  go_wp2
  go_ret2
  rw [HKB.out]
  exact ⟨A9, c9, by rw [HLN.out]; rfl, by rw [HLN.out]; exact HO9.out, HX9.out⟩
theorem rlayAct_ok (k : Nat) (c p : Int) (w : World) (hok : Aok k c p) : Calls Tryd.prog 32 #[.agg #[.int .u8 (k : Int), .int .i64 c, .int .i64 p]] w (LayTold w (pack (kb 2 k [3, 2] (natN (five 0 0 p c 0))))) := by
  have hk := hok.1
  have h : k = 1 ∨ k = 2 ∨ k = 3 := by omega
  rcases h with rfl | rfl | rfl
  · exact rlayAct_1 c p w hok
  · exact rlayAct_2 c p w hok
  · exact rlayAct_3 c p w hok
set_option maxHeartbeats 1000000 in
theorem rlayAct_no (k : Nat) (c p : Int) (w : World) (hno : ¬ Aok k c p) :
    Calls Tryd.prog 32 #[.agg #[.int .u8 (k : Int), .int .i64 c, .int .i64 p]] w fun e w' => e = .returned (.tuple #[.slice none 0 0, .int .i64 1]) ∧ Below w.heap.size w w' := by
  have HB := Lib.hid (below_new w (.cells #[.int .u8 (k : Int), .int .i64 c, .int .i64 p] 33))
  by_cases h0 : k = 0
  · subst h0
    clear hno
    go_enter Tryd.func32, Tryd.ntmps32
    go_wp2
    go_ret2
    exact ⟨rfl, HB.out⟩
  by_cases h4 : 3 < k
  · have e1 : decide ((k : Int) < 1) = false := decide_eq_false (by omega)
    have e2 : decide ((3 : Int) < (k : Int)) = true := decide_eq_true (by omega)
    clear hno h0
    go_enter Tryd.func32, Tryd.ntmps32
    go_wp2
    go_ret2
    exact ⟨rfl, HB.out⟩
  have hk : k = 1 ∨ k = 2 ∨ k = 3 := by omega
  by_cases hc : 0 ≤ c ∧ c ≤ 255
  · have d0 : decide (0 ≤ c ∧ c ≤ 255) = true := decide_eq_true hc
    by_cases hp : 0 ≤ p ∧ p ≤ 63
    · have d1 : decide (0 ≤ p ∧ p ≤ 63) = true := decide_eq_true hp
      have h1 : k = 1 ∧ p ≠ 0 := by
        unfold Aok at hno
        omega
      obtain ⟨rfl, hp0⟩ := h1
      have e3 : (p != 0) = true := by simpa using hp0
      clear hno hc hp h0 h4 hk hp0
      go_enter Tryd.func32, Tryd.ntmps32
      go_wp2_with fail
      refine (in_any c 255 true d0 _).mono ?_
      rintro e w1 ⟨rfl, rfl⟩
      go_wp2_with fail
      refine (in_any p 63 true d1 _).mono ?_
      rintro e w1 ⟨rfl, rfl⟩
      go_wp2
      go_ret2
      exact ⟨rfl, HB.out⟩
    · have d1 : decide (0 ≤ p ∧ p ≤ 63) = false := decide_eq_false hp
      clear hno hc hp h0 h4
      rcases hk with rfl | rfl | rfl
      all_goals
        go_enter Tryd.func32, Tryd.ntmps32
        go_wp2_with fail
        refine (in_any c 255 true d0 _).mono ?_
        rintro e w1 ⟨rfl, rfl⟩
        go_wp2_with fail
        refine (in_any p 63 false d1 _).mono ?_
        rintro e w1 ⟨rfl, rfl⟩
        go_wp2
        go_ret2
        exact ⟨rfl, HB.out⟩
  · have d0 : decide (0 ≤ c ∧ c ≤ 255) = false := decide_eq_false hc
    clear hno hc h0 h4
    rcases hk with rfl | rfl | rfl
    all_goals
      go_enter Tryd.func32, Tryd.ntmps32
      go_wp2_with fail
      refine (in_any c 255 false d0 _).mono ?_
      rintro e w1 ⟨rfl, rfl⟩
      go_wp2
      go_ret2
      exact ⟨rfl, HB.out⟩
end Rc
end Go.Proofs.YtobpinelhjpfgaaDoor
