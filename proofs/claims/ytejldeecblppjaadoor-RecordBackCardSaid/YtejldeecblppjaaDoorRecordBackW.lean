/-
  Layer 17: what was laid is taken, and what is taken is laid so: the law's walk.
-/
import Derived.Test.YtejldeecblppjaaDoorRcI
set_option linter.unusedVariables false
set_option maxRecDepth 100000
namespace Go.Proofs.YtejldeecblppjaaDoor
namespace Rc
open Go.RowKit Bp Ck
set_option maxHeartbeats 4000000 in
theorem recordBack_walk (k : Nat) (hk : k ≤ 255) (i r p c q : Int) (A0 : Option Addr) (n0 cap0 : Nat) (bs : List Nat) (w : World) (hy : By w.heap.size w A0 n0 cap0 bs) (hS : Shp w) :
    Calls Tryd.prog 6 #[.agg #[.int .u8 (k : Int), .int .i64 i, .int .i64 r, .int .i64 p, .int .i64 c, .int .i64 q], .slice A0 n0 cap0] w fun e w' => e = .returned (.bool true) ∧ Below w.heap.size w w' := by
  have h0 := Hr.start (k := k) (i := i) (r := r) (p := p) (c := c) (q := q) hS
  have HSW := Lib.hid (shown_any _ h0.2.1)
  have H0 := Lib.hid h0
  have HY := Lib.hid hy
  have hcp := hy.le
  have hmx := hy.max
  unfold maxLen at hmx
  clear h0 hS hy
  go_enter Tryd.func6, Tryd.ntmps6
  go_wp2_with fail
  refine HSW.out.mono ?_
  rintro e w1 ⟨rfl, hb⟩
  have h1 := H0.out.later hb
  have H1 := Lib.hid h1
  obtain ⟨y0, y1, y2, y3, y4, y5⟩ := h1.cells
  clear hb h1 HSW H0
  by_cases hn : n0 ≤ 1000
  · have e1 : decide ((1000 : Int) < (n0 : Int)) = false := decide_eq_false (by omega)
    by_cases hok : Rok k (five i r p c q)
    · have HLA := Lib.hid (lay_ok k i r p c q w1 hok H1.out.2.1)
      have HOK := Lib.hid hok
      have HLEN := Lib.hid (rec_len hok)
      clear hok
      go_wp2_with fail
      refine HLA.out.mono ?_
      intro e w2 ht
      obtain ⟨A, cp, rfl, hy, hb⟩ := ht.own (pack_byte _)
      have h2 := H1.out.later hb
      have HT := Lib.hid (take_any hy (Nat.le_refl _) h2.2.1 (by have := HLEN.out; omega))
      obtain ⟨L, hL⟩ : ∃ L, (pack (kb 3 k (fl k) (natN (five i r p c q)))).length = L := ⟨_, rfl⟩
      rw [hL] at HT HLEN ⊢
      have H2 := Lib.hid h2
      clear y0 y1 y2 y3 y4 y5
      obtain ⟨y0, y1, y2, y3, y4, y5⟩ := h2.cells
      clear ht hy hb h2 hL HLA H1
      go_wp2_with fail
      refine HT.out.mono ?_
      intro e w3 ht
      obtain ⟨rfl, hb⟩ := ht.yes HOK.out
      have h3 := H2.out.later hb
      have h4 := h3.later (below_new w3 (.cells #[.int .u8 (k : Int), .int .i64 i, .int .i64 r, .int .i64 p, .int .i64 c, .int .i64 q] 23))
      have HRR := Lib.hid (right_any k i r p c q _ h4.2.1)
      unfold RightTold at HRR
      rw [decide_eq_true HOK.out] at HRR
      have H4 := Lib.hid h4
      have HX := Lib.hid (heap_alloc_new w3 (.cells #[.int .u8 (k : Int), .int .i64 i, .int .i64 r, .int .i64 p, .int .i64 c, .int .i64 q] 23))
      clear y0 y1 y2 y3 y4 y5
      obtain ⟨y0, y1, y2, y3, y4, y5⟩ := h4.cells
      clear ht hb h3 h4 HT H2
      go_wp2_with fail
      generalize (w3.alloc (.cells #[.int .u8 (k : Int), .int .i64 i, .int .i64 r, .int .i64 p, .int .i64 c, .int .i64 q] 23)) = w4 at *
      refine HRR.out.mono ?_
      rintro e w5 ⟨rfl, hb⟩
      have h5 := H4.out.later hb
      have hx := (hb.block _ (lt_of_heap HX.out)).trans HX.out
      have z0 := cell_of_row _ w3.heap.size 0 _ _ _ hx
      have z1 := cell_of_row _ w3.heap.size 1 _ _ _ hx
      have z2 := cell_of_row _ w3.heap.size 2 _ _ _ hx
      have z3 := cell_of_row _ w3.heap.size 3 _ _ _ hx
      have z4 := cell_of_row _ w3.heap.size 4 _ _ _ hx
      have z5 := cell_of_row _ w3.heap.size 5 _ _ _ hx
      have H5 := Lib.hid h5
      clear y0 y1 y2 y3 y4 y5
      obtain ⟨y0, y1, y2, y3, y4, y5⟩ := h5.cells
      clear hb h5 hx HRR H4 HX
      go_wp2_with fail
      clear y0 y1 y2 y3 y4 y5 z0 z1 z2 z3 z4 z5
      have HTB := Lib.hid (take_any (HY.out.below H5.out.2.2) H5.out.2.2.size H5.out.2.1 (by omega))
      refine HTB.out.mono ?_
      rintro e w6 ⟨hb, ⟨k2, i2, r2, p2, c2, q2, hok2, hz2, rfl⟩ | ⟨-, rfl⟩⟩
      · have h6 := (H5.out.later hb).later (below_new w6 (.cells #[.int .u8 (k2 : Int), .int .i64 i2, .int .i64 r2, .int .i64 p2, .int .i64 c2, .int .i64 q2] 23))
        have HLB := Lib.hid (lay_ok k2 i2 r2 p2 c2 q2 _ hok2 h6.2.1)
        have H6 := Lib.hid h6
        have HZ2 := Lib.hid hz2
        clear hb h6 hok2 hz2 HTB
        go_wp2_with fail
        refine HLB.out.mono ?_
        intro e w7 ht
        obtain ⟨A7, c7, rfl, hy7, hb⟩ := ht.own (pack_byte _)
        have q1 := hy7.conv
        have q2 := (HY.out.below (H6.out.later hb).2.2).conv
        rw [← HZ2.out] at q1 ⊢
        have H7 := Lib.hid (H6.out.later hb)
        obtain ⟨L7, hL7⟩ : ∃ L7, bs.length = L7 := ⟨_, rfl⟩
        rw [hL7] at q1 ⊢
        generalize strOf bs = S at *
        clear ht hy7 hb hL7 HLB H6
        go_wp2
        go_ret
        exact ⟨by first | rfl | simp, H7.out.2.2⟩
      · have h6 := (H5.out.later hb).later (below_new w6 (.cells #[.int .u8 0, .int .i64 0, .int .i64 0, .int .i64 0, .int .i64 0, .int .i64 0] 23))
        have HLB := Lib.hid (lay_no 0 0 0 0 0 0 _ (fun h => by have := h.kind; omega) h6.2.1)
        have HX6 := Lib.hid (heap_alloc_new w6 (.cells #[.int .u8 0, .int .i64 0, .int .i64 0, .int .i64 0, .int .i64 0, .int .i64 0] 23))
        have H6 := Lib.hid h6
        clear hb h6 HTB
        go_wp2_with fail
        generalize (w6.alloc (.cells #[.int .u8 0, .int .i64 0, .int .i64 0, .int .i64 0, .int .i64 0, .int .i64 0] 23)) = w6a at *
        refine HLB.out.mono ?_
        rintro e w7 ⟨rfl, hb⟩
        have hx := (hb.block _ (lt_of_heap HX6.out)).trans HX6.out
        have z0 := cell_of_row _ w6.heap.size 0 _ _ _ hx
        have z1 := cell_of_row _ w6.heap.size 1 _ _ _ hx
        have z2 := cell_of_row _ w6.heap.size 2 _ _ _ hx
        have z3 := cell_of_row _ w6.heap.size 3 _ _ _ hx
        have z4 := cell_of_row _ w6.heap.size 4 _ _ _ hx
        have z5 := cell_of_row _ w6.heap.size 5 _ _ _ hx
        have H7 := Lib.hid (H6.out.later hb)
        clear hb hx HLB H6 HX6
        go_wp2
        go_ret
        exact ⟨rfl, H7.out.2.2⟩
    · have HLA := Lib.hid (lay_no k i r p c q w1 hok H1.out.2.1)
      have HNO := Lib.hid hok
      clear hok
      go_wp2_with fail
      refine HLA.out.mono ?_
      rintro e w2 ⟨rfl, hb⟩
      have h2 := H1.out.later hb
      have HT := Lib.hid (take_any (By.none_ w2.heap.size w2) (Nat.le_refl _) h2.2.1 (by omega))
      have H2 := Lib.hid h2
      clear y0 y1 y2 y3 y4 y5 hb h2 HLA H1
      go_wp2_with fail
      refine HT.out.mono ?_
      intro e w3 ht
      obtain ⟨rfl, hb⟩ := ht.no (fun k' M hM hz => by have := (rec_len hM).1; rw [← hz] at this; simp at this)
      have h3 := H2.out.later hb
      have h4 := h3.later (below_new w3 (.cells #[.int .u8 0, .int .i64 0, .int .i64 0, .int .i64 0, .int .i64 0, .int .i64 0] 23))
      have HRR := Lib.hid (right_any k i r p c q _ h4.2.1)
      unfold RightTold at HRR
      rw [decide_eq_false HNO.out] at HRR
      have H4 := Lib.hid h4
      obtain ⟨y0, y1, y2, y3, y4, y5⟩ := h4.cells
      clear ht hb h3 h4 HT H2
      go_wp2_with fail
      generalize (w3.alloc (.cells #[.int .u8 0, .int .i64 0, .int .i64 0, .int .i64 0, .int .i64 0, .int .i64 0] 23)) = w4 at *
      refine HRR.out.mono ?_
      rintro e w5 ⟨rfl, hb⟩
      have H5 := Lib.hid (H4.out.later hb)
      clear y0 y1 y2 y3 y4 y5 hb HRR H4
      go_wp2_with fail
      have HTB := Lib.hid (take_any (HY.out.below H5.out.2.2) H5.out.2.2.size H5.out.2.1 (by omega))
      refine HTB.out.mono ?_
      rintro e w6 ⟨hb, ⟨k2, i2, r2, p2, c2, q2, hok2, hz2, rfl⟩ | ⟨-, rfl⟩⟩
      · have h6 := (H5.out.later hb).later (below_new w6 (.cells #[.int .u8 (k2 : Int), .int .i64 i2, .int .i64 r2, .int .i64 p2, .int .i64 c2, .int .i64 q2] 23))
        have HLB := Lib.hid (lay_ok k2 i2 r2 p2 c2 q2 _ hok2 h6.2.1)
        have H6 := Lib.hid h6
        have HZ2 := Lib.hid hz2
        clear hb h6 hok2 hz2 HTB
        go_wp2_with fail
        refine HLB.out.mono ?_
        intro e w7 ht
        obtain ⟨A7, c7, rfl, hy7, hb⟩ := ht.own (pack_byte _)
        have q1 := hy7.conv
        have q2 := (HY.out.below (H6.out.later hb).2.2).conv
        rw [← HZ2.out] at q1 ⊢
        have H7 := Lib.hid (H6.out.later hb)
        obtain ⟨L7, hL7⟩ : ∃ L7, bs.length = L7 := ⟨_, rfl⟩
        rw [hL7] at q1 ⊢
        generalize strOf bs = S at *
        clear ht hy7 hb hL7 HLB H6
        go_wp2
        go_ret
        exact ⟨by first | rfl | simp, H7.out.2.2⟩
      · have h6 := (H5.out.later hb).later (below_new w6 (.cells #[.int .u8 0, .int .i64 0, .int .i64 0, .int .i64 0, .int .i64 0, .int .i64 0] 23))
        have HLB := Lib.hid (lay_no 0 0 0 0 0 0 _ (fun h => by have := h.kind; omega) h6.2.1)
        have HX6 := Lib.hid (heap_alloc_new w6 (.cells #[.int .u8 0, .int .i64 0, .int .i64 0, .int .i64 0, .int .i64 0, .int .i64 0] 23))
        have H6 := Lib.hid h6
        clear hb h6 HTB
        go_wp2_with fail
        generalize (w6.alloc (.cells #[.int .u8 0, .int .i64 0, .int .i64 0, .int .i64 0, .int .i64 0, .int .i64 0] 23)) = w6a at *
        refine HLB.out.mono ?_
        rintro e w7 ⟨rfl, hb⟩
        have hx := (hb.block _ (lt_of_heap HX6.out)).trans HX6.out
        have z0 := cell_of_row _ w6.heap.size 0 _ _ _ hx
        have z1 := cell_of_row _ w6.heap.size 1 _ _ _ hx
        have z2 := cell_of_row _ w6.heap.size 2 _ _ _ hx
        have z3 := cell_of_row _ w6.heap.size 3 _ _ _ hx
        have z4 := cell_of_row _ w6.heap.size 4 _ _ _ hx
        have z5 := cell_of_row _ w6.heap.size 5 _ _ _ hx
        have H7 := Lib.hid (H6.out.later hb)
        clear hb hx HLB H6 HX6
        go_wp2
        go_ret
        exact ⟨rfl, H7.out.2.2⟩
  · have e1 : decide ((1000 : Int) < (n0 : Int)) = true := decide_eq_true (by omega)
    clear hn
    go_wp2
    go_ret
    exact ⟨rfl, H1.out.2.2⟩
end Rc
end Go.Proofs.YtejldeecblppjaaDoor
