/-
  Layer 17: nothing is taken of a beginning of a record, nor of one with a byte behind it: the law's walk.
-/
import Derived.Test.YtejldeecblppjaaDoorRcI
import Derived.Test.YtejldeecblppjaaDoorChkQ
set_option linter.unusedVariables false
set_option maxRecDepth 100000
namespace Go.Proofs.YtejldeecblppjaaDoor
namespace Rc
open Go.RowKit Bp Ck
theorem one_by (w : World) (z : Nat) (hz : z ≤ 255) : By (w.heap.size + 1) (w.alloc (.cells #[.int .u8 (z : Int)] 5)) (some ⟨w.heap.size, 0, none⟩) 1 1 [z] :=
  ⟨rfl, Nat.le_refl _, by unfold maxLen; omega, fun e => (by cases e), fun y hy => by rw [List.mem_singleton.1 hy]; exact hz, fun hn => ⟨w.heap.size, 0, rfl, Nat.lt_succ_self _, fun j hj => by
    obtain rfl : j = 0 := by omega
    rw [cell_of_row _ w.heap.size _ _ _ _ (heap_alloc_new w _)]; rfl⟩⟩
set_option maxHeartbeats 4000000 in
theorem recordCut_walk (k : Nat) (hk : k ≤ 255) (i r p c q : Int) (x : Nat) (hx : x ≤ 255) (z : Nat) (hz : z ≤ 255) (w : World) (hS : Shp w) :
    Calls Tryd.prog 7 #[.agg #[.int .u8 (k : Int), .int .i64 i, .int .i64 r, .int .i64 p, .int .i64 c, .int .i64 q], .int .u8 (x : Int), .int .u8 (z : Int)] w fun e w' => e = .returned (.bool true) ∧ Below w.heap.size w w' := by
  have h0 := Hr.start (k := k) (i := i) (r := r) (p := p) (c := c) (q := q) hS
  have HSW := Lib.hid (shown_any _ h0.2.1)
  have H0 := Lib.hid h0
  clear h0 hS
  go_enter Tryd.func7, Tryd.ntmps7
  go_wp2_with fail
  refine HSW.out.mono ?_
  rintro e w1 ⟨rfl, hb⟩
  have h1 := H0.out.later hb
  have HRR := Lib.hid (right_any k i r p c q w1 h1.2.1)
  have H1 := Lib.hid h1
  obtain ⟨y0, y1, y2, y3, y4, y5⟩ := h1.cells
  clear hb h1 HSW H0
  unfold RightTold at HRR
  by_cases hok : Rok k (five i r p c q)
  · rw [decide_eq_true hok] at HRR
    have HOK := Lib.hid hok
    have HLEN := Lib.hid (rec_len hok)
    clear hok
    go_wp2_with fail
    refine HRR.out.mono ?_
    rintro e w2 ⟨rfl, hb⟩
    have h2 := H1.out.later hb
    have HLA := Lib.hid (lay_ok k i r p c q w2 HOK.out h2.2.1)
    have H2 := Lib.hid h2
    clear y0 y1 y2 y3 y4 y5
    obtain ⟨y0, y1, y2, y3, y4, y5⟩ := h2.cells
    clear hb h2 HRR H1
    go_wp2_with fail
    refine HLA.out.mono ?_
    intro e w3 ht
    obtain ⟨A, cp, rfl, hy, hb⟩ := ht.own (pack_byte _)
    have h3 := H2.out.later hb
    obtain ⟨zs, hzs⟩ : ∃ zs, pack (kb 3 k (fl k) (natN (five i r p c q))) = zs := ⟨_, rfl⟩
    have HZS := Lib.hid hzs
    rw [hzs] at hy ⊢
    obtain ⟨L, hL⟩ : ∃ L, zs.length = L := ⟨_, rfl⟩
    rw [hL] at hy ⊢
    have HL := Lib.hid hL
    have hl0 : 0 < L ∧ L ≤ 24 := by have := HLEN.out; rw [hzs, hL] at this; exact this
    have hcp := hy.le
    have hmx := hy.max
    unfold maxLen at hmx
    have HY := Lib.hid hy
    have H3 := Lib.hid h3
    clear ht hy hb h3 hzs hL HLA H2 y0 y1 y2 y3 y4 y5
    have e0 : ((L : Int) == 0) = false := by simp; omega
    have hp : (0 : Int) < (L : Int) := by omega
    have hc0 : 0 ≤ (x : Int) % (L : Int) := Int.emod_nonneg _ (by omega)
    have hc1 : (x : Int) % (L : Int) < (L : Int) := Int.emod_lt_of_pos _ hp
    have hc2 : ((x : Int) % (L : Int)).toNat = x % L := by rw [← Int.natCast_emod]; exact Int.toNat_natCast _
    have hc3 : (x : Int) % (L : Int) ≤ (cp : Int) := by omega
    have hw : IntKind.i64.wrap (x : Int) = (x : Int) := IntWalk.i64_in _ ⟨by omega, by omega⟩
    go_wp2_with fail
    have hlt : x % L < L := Nat.mod_lt _ (by omega)
    have hyc := HY.out.take (x % L) (by omega)
    refine (take_any hyc (Nat.le_refl _) H3.out.2.1 (by omega)).mono ?_
    intro e w4 ht
    obtain ⟨rfl, hb⟩ := ht.no (fun k' M hM => by
      rw [← HZS.out]
      exact cut_no HOK.out (x % L) (by rw [HZS.out, HL.out]; exact hlt) k' M hM)
    have h4 := H3.out.later hb
    have h5 := h4.later (below_new w4 (.cells #[.int .u8 0, .int .i64 0, .int .i64 0, .int .i64 0, .int .i64 0, .int .i64 0] 23))
    have hb5 := hb.trans ((below_new w4 (.cells #[.int .u8 0, .int .i64 0, .int .i64 0, .int .i64 0, .int .i64 0, .int .i64 0] 23)).mono hb.size)
    clear ht hb h4 hyc
    go_upto_region 8 with fail
    generalize w4.alloc (.cells #[.int .u8 0, .int .i64 0, .int .i64 0, .int .i64 0, .int .i64 0, .int .i64 0] 23) = w5 at *
    generalize w4.heap.size = X4 at *
    have HY5 := Lib.hid (HY.out.below hb5)
    have hbe := below_new w5 (.cells #[] 5)
    have he : (w5.alloc (.cells #[] 5)).ownsRow w5.heap.size 5 1 (.slice (some ⟨w5.heap.size, 0, none⟩) 0 0) 0 (bc []) := World.ownsRow_made w5 #[] 0 (Nat.le_refl _) (Nat.zero_le _) rfl
    have HE := Lib.hid he
    have HYE := Lib.hid (HY5.out.below (hbe.mono hb5.size))
    have HBE := Lib.hid hbe
    have H5 := Lib.hid h5
    have HSE : Hid (w5.heap.size ≤ (w5.alloc (.cells #[] 5)).heap.size) := Lib.hid hbe.size
    clear h5 hb5 hbe he hc0 hc1 hc2 hc3 hlt H3
    go_wp2_with (at_builtin; refine app_by2 rfl _ _ rfl w5.heap.size _ 0 [] rfl HE.out w3.heap.size _ _ _ _ rfl HYE.out (by omega) HSE.out ?_)
    rintro A2 c2 w6 ho2 hb2 -
    have hb6 : Below w5.heap.size w5 w6 := HBE.out.trans hb2
    have HO2 := Lib.hid (ho2.alloc (.cells #[.int .u8 (z : Int)] 5))
    have HONE := Lib.hid (one_by w6 z hz)
    have HS6 : Hid (w5.heap.size ≤ (w6.alloc (.cells #[.int .u8 (z : Int)] 5)).heap.size) := Lib.hid (by have := hb6.size; simp; omega)
    have HB6 := Lib.hid (hb6.alloc hb6.size (.cells #[.int .u8 (z : Int)] 5))
    clear ho2 hb2 hb6 HE HYE HBE HSE HY5
    go_wp2_with (at_builtin; refine app_by2 rfl _ _ rfl w5.heap.size _ L zs rfl HO2.out (w6.heap.size + 1) _ _ _ [z] rfl HONE.out (by omega) HS6.out ?_)
    rintro A3 c3 w7 ho3 hb3 -
    have hb7 : Below w5.heap.size w5 w7 := HB6.out.trans hb3
    have H7 := Lib.hid (H5.out.later hb7)
    have hby : ∀ y ∈ zs ++ [z], y ≤ 255 := by
      intro y hy
      rcases List.mem_append.1 hy with e | e
      · exact HY.out.byte y e
      · rw [List.mem_singleton.1 e]; exact hz
    have HY7 := Lib.hid (By.own ho3 hby)
    have HNO : Hid (∀ (k' : Nat) (M : Nat → Int), Rok k' M → zs ++ [z] ≠ pack (kb 3 k' (fl k') (natN M))) := Lib.hid (fun k' M hM => by
      rw [← HZS.out]
      exact more_no HOK.out z k' M hM)
    clear ho3 hb3 hb7 hby HO2 HONE HS6 HB6 H5 HY
    go_wp2_with fail
    refine (take_any HY7.out (Nat.le_refl _) H7.out.2.1 (by omega)).mono ?_
    intro e w8 ht
    obtain ⟨rfl, hb⟩ := ht.no HNO.out
    have H8 := Lib.hid ((H7.out.later hb).later (below_new w8 (.cells #[.int .u8 0, .int .i64 0, .int .i64 0, .int .i64 0, .int .i64 0, .int .i64 0] 23)))
    clear ht hb H7 HY7
    go_wp2
    go_ret
    exact ⟨rfl, H8.out.2.2⟩
  · rw [decide_eq_false hok] at HRR
    clear hok
    go_wp2_with fail
    refine HRR.out.mono ?_
    rintro e w2 ⟨rfl, hb⟩
    have H2 := Lib.hid (H1.out.later hb)
    clear hb
    go_wp2
    go_ret
    exact ⟨rfl, H2.out.2.2⟩
end Rc
end Go.Proofs.YtejldeecblppjaaDoor
