/-
  Layer 17: the document's Take.
-/
import Derived.Test.YtejldeecblppjaaDoorRcT
import Derived.Laws.ResultCell
set_option linter.unusedVariables false
set_option maxRecDepth 100000
namespace Go.Proofs.YtejldeecblppjaaDoor
namespace Rc
open Go.RowKit Bp Ck
theorem Tryd.resRt : Tryd.f16.results = #[.cell 2 23, .tmp 3] := by kernel_rfl
theorem ret_rrec {w : World} {R : Nat} {x0 x1 x2 x3 x4 x5 : Value} {t : Nat} (tmps : Array Value) (ht : tmps.getD 2 undef = .pointer (some ⟨R, 0, none⟩)) (h : w.heap[R]? = some (.cells #[x0, x1, x2, x3, x4, x5] t (0, 0))) :
    (results Tryd.f16 tmps).run Tryd.prog w = .ok (.tuple #[.agg #[x0, x1, x2, x3, x4, x5], tmps.getD 3 undef]) w := by
  rw [results_cell_tmp Tryd.resRt, ht]
  simp [asAddr, Result.andThen, run_loadVar_row w R t 23 _ _ _ h Tryd.underlying23 rfl Tryd.cellsR]
theorem Sx.sep {w : World} {t : TypeId} {zero : Array Value} {C b : Nat} {v : Value} {X : Nat} {zs : List Nat} {p : Nat} {e : Int} {cs : Array Value} {W : World} (h : Sx w t zero C b v X zs p e cs W) : w.heap.size < X := by
  have hb : RF b v b := .inl rfl
  have := h.apart b hb
  omega
set_option maxHeartbeats 16000000 in
theorem rtake_any {B : Nat} {w : World} {A : Option Addr} {n cap : Nat} {zs : List Nat} (h : By B w A n cap zs) (hB : B ≤ w.heap.size) (hn : n ≤ 1048576) :
    Calls Tryd.prog 16 #[.slice A n cap] w (TakeTold w zs) := by
  have hb1 := below_new w (.cells #[.int .u8 0, .int .i64 0, .int .i64 0, .int .i64 0, .int .i64 0, .int .i64 0] 23)
  have hr1 := heap_alloc_new w (.cells #[.int .u8 0, .int .i64 0, .int .i64 0, .int .i64 0, .int .i64 0, .int .i64 0] 23)
  have hs1 : (w.alloc (.cells #[.int .u8 0, .int .i64 0, .int .i64 0, .int .i64 0, .int .i64 0, .int .i64 0] 23)).heap.size = w.heap.size + 1 := by simp
  have hln := h.len
  have HO := Lib.hid (refOf_by (h.below (hb1.mono hB)) (Nat.le_trans hB hb1.size) (by omega))
  have HY := Lib.hid (h.mono hB)
  have HZ := Lib.hid h.byte
  have HB1 := Lib.hid hb1
  have HR1 := Lib.hid hr1
  have HS1 := Lib.hid hs1
  clear h hB hn hb1 hr1 hs1 hln
  go_enter Tryd.func16, Tryd.ntmps16
  go_wp2_with fail
  refine HO.out.mono ?_
  rintro e w1 ⟨b, v, rfl, hR, hb⟩
  have hr2 := (hb.block w.heap.size (by rw [HS1.out]; omega)).trans HR1.out
  have hbw := HB1.out.trans (hb.mono HB1.out.size)
  have hap : ∀ j, RF b v j → w.heap.size + 1 ≤ j ∧ j < w1.heap.size := fun j hj => by have := hR.lt hj; rw [HS1.out] at this; exact this
  have HRV := Lib.hid hR
  have HR2 := Lib.hid hr2
  have HBW := Lib.hid hbw
  have HAP := Lib.hid hap
  clear hR hb hr2 hbw hap HO HR1
  go_wp2_with fail
  refine (vget_gr HRV.out 3 3 rfl (by decide)).mono ?_
  rintro r w2 ⟨k, p1, e1, rfl, hgr, ht⟩
  have hk8 := hgr.lt
  have HGR := Lib.hid hgr
  have hst : ∀ cs, Sx w 23 #[.int .u8 0, .int .i64 0, .int .i64 0, .int .i64 0, .int .i64 0, .int .i64 0] (w.alloc (.cells #[.int .u8 0, .int .i64 0, .int .i64 0, .int .i64 0, .int .i64 0, .int .i64 0] 23)).heap.size b v w2.heap.size zs p1 e1 cs (w2.alloc (.cells cs 23)) := fun cs =>
    ⟨ht.1.frame (fun j hj => Below.heap_alloc _ _ _ (ht.1.lt hj).2), (Below.heap_alloc _ _ _ (by have := ht.2.size; have := lt_of_heap HR2.out; omega)).trans ((ht.2.block _ (lt_of_heap HR2.out) (fun y => by have := (HAP.out _ y).1; omega)).trans HR2.out), heap_alloc_new w2 _,
      (HBW.out.trans (ht.2.below w.heap.size (Nat.le_of_lt (lt_of_heap HR2.out)) (fun y hy => by have := (HAP.out _ hy).1; omega))).alloc (by have := ht.2.size; have := lt_of_heap HR2.out; omega) _,
      fun j hj => ⟨(HAP.out j hj).1, (ht.1.lt hj).2⟩⟩
  generalize hK : (k : Int) = K at *
  have hw : IntKind.u8.wrap K = K := IntWalk.u8_in _ ⟨by omega, by simp at hk8; omega⟩
  have HS := Lib.hid (hst #[.int .u8 K, .int .i64 0, .int .i64 0, .int .i64 0, .int .i64 0, .int .i64 0])
  clear hst ht hgr HRV HR2 HBW HAP HB1
  generalize (w.alloc (.cells #[.int .u8 0, .int .i64 0, .int .i64 0, .int .i64 0, .int .i64 0, .int .i64 0] 23)).heap.size = C at *
  go_upto_region 3 with fail
  generalize (w2.alloc (.cells #[.int .u8 K, .int .i64 0, .int .i64 0, .int .i64 0, .int .i64 0, .int .i64 0] 23)) = w3 at *
  generalize w2.heap.size = X at *
  have hcs : k = 0 ∨ k = 1 ∨ k = 2 ∨ k = 3 ∨ k = 4 ∨ k = 5 ∨ k = 6 ∨ k = 7 := by simp at hk8; omega
  clear hk8 hw HS1
  rcases hcs with rfl | rfl | rfl | rfl | rfl | rfl | rfl | rfl
  · obtain rfl : K = 0 := by omega
    clear hK
    have y0 := HS.out.cell 0
    have y1 := HS.out.cell 1
    have y2 := HS.out.cell 2
    have y3 := HS.out.cell 3
    have y4 := HS.out.cell 4
    have y5 := HS.out.cell 5
    have g0 := HS.out.free 0
    have g1 := HS.out.free 1
    have g2 := HS.out.free 2
    have g3 := HS.out.free 3
    have g4 := HS.out.free 4
    have g5 := HS.out.free 5
    go_wp2_with fail
    clear y0 y1 y2 y3 y4 y5 g0 g1 g2 g3 g4 g5
    have hok : ¬ Rok 0 (five 0 0 0 0 0) := fun x => by have := x.kind; omega
    have HNO : Hid (∀ (k' : Nat) (M : Nat → Int), Rok k' M → zs ≠ pack (kb 3 k' (fl k') (natN M))) := Lib.hid (fun k' M hM hz => by
      have h1 := (rec_kind HGR.out hM hz).1
      have := hM.kind
      omega)
    have HLY := Lib.hid (fun W => rlay_no 0 0 0 0 0 0 W hok)
    clear hok
    refine (HLY.out _).mono ?_
    rintro r w7 ⟨rfl, hb⟩
    have HS := Lib.hid (HS.out.later hb)
    clear hb HLY
    go_wp2_with fail
    refine (vend_fin HS.out.rd).mono ?_
    rintro r w8 ⟨E, rfl, hE, ht⟩
    have HS := Lib.hid (HS.out.read ht)
    clear hE ht
    by_cases hE0 : E = 0
    · subst hE0
      obtain ⟨⟨r0, r1, r2, r3, r4, r5⟩, f0, f1, f2, f3, f4, f5⟩ := row_cells HS.out.res
      have HST := Lib.hid (set6 HS.out.res)
      have HBE := Lib.hid (below6 HS.out.below (Nat.le_refl w.heap.size))
      go_wp2
      refine bodyPost_ret (ret_rrec _ rfl (HST.out _ _ _ _ _ _)) rfl ?_
      exact ⟨HBE.out _ _ _ _ _ _, .inr ⟨HNO.out, rfl⟩⟩
    · have hd : (E != 0) = true := by simpa using hE0
      clear hE0
      obtain ⟨⟨r0, r1, r2, r3, r4, r5⟩, f0, f1, f2, f3, f4, f5⟩ := row_cells HS.out.res
      have HST := Lib.hid (set6 HS.out.res)
      have HBE := Lib.hid (below6 HS.out.below (Nat.le_refl w.heap.size))
      go_wp2
      refine bodyPost_ret (ret_rrec _ rfl (HST.out _ _ _ _ _ _)) rfl ?_
      exact ⟨HBE.out _ _ _ _ _ _, .inr ⟨HNO.out, rfl⟩⟩
  · obtain rfl : K = 1 := by omega
    clear hK
    have y0 := HS.out.cell 0
    have y1 := HS.out.cell 1
    have y2 := HS.out.cell 2
    have y3 := HS.out.cell 3
    have y4 := HS.out.cell 4
    have y5 := HS.out.cell 5
    have g0 := HS.out.free 0
    have g1 := HS.out.free 1
    have g2 := HS.out.free 2
    have g3 := HS.out.free 3
    have g4 := HS.out.free 4
    have g5 := HS.out.free 5
    go_wp2_with fail
    clear y0 y1 y2 y3 y4 y5 g0 g1 g2 g3 g4 g5
    refine (vget_gr HS.out.rd 6 6 rfl (by decide)).mono ?_
    rintro r wr0 ⟨n2, p2, e2, rfl, hgr2, ht⟩
    have hlt2 := hgr2.lt
    have hfr2 := Gr.fr (f := 2) (by decide) hgr2
    have HS := Lib.hid (HS.out.read ht)
    have HF2 := Lib.hid hfr2
    clear ht hfr2 hgr2
    have hw2 : IntKind.i64.wrap (n2 : Int) = (n2 : Int) := IntWalk.i64_in _ ⟨by omega, by simp at hlt2; omega⟩
    have HS2 := Lib.hid (HS.out.put 3 (.int .i64 (n2 : Int)) #[.int .u8 1, .int .i64 0, .int .i64 0, .int .i64 (n2 : Int), .int .i64 0, .int .i64 0] (by rfl))
    have y0 := HS.out.cell 0
    have y1 := HS.out.cell 1
    have y2 := HS.out.cell 2
    have y3 := HS.out.cell 3
    have y4 := HS.out.cell 4
    have y5 := HS.out.cell 5
    have g0 := HS.out.free 0
    have g1 := HS.out.free 1
    have g2 := HS.out.free 2
    have g3 := HS.out.free 3
    have g4 := HS.out.free 4
    have g5 := HS.out.free 5
    go_wp2_with fail
    clear y0 y1 y2 y3 y4 y5 g0 g1 g2 g3 g4 g5 HS
    generalize (wr0.setCell ⟨X, 3, none⟩ (.int .i64 (n2 : Int))) = ws0 at *
    have HS := HS2
    clear HS2
    refine (vget_gr HS.out.rd 8 8 rfl (by decide)).mono ?_
    rintro r wr1 ⟨n3, p3, e3, rfl, hgr3, ht⟩
    have hlt3 := hgr3.lt
    have hfr3 := Gr.fr (f := 3) (by decide) hgr3
    have HS := Lib.hid (HS.out.read ht)
    have HF3 := Lib.hid hfr3
    clear ht hfr3 hgr3
    have hw3 : IntKind.i64.wrap (n3 : Int) = (n3 : Int) := IntWalk.i64_in _ ⟨by omega, by simp at hlt3; omega⟩
    have HS2 := Lib.hid (HS.out.put 4 (.int .i64 (n3 : Int)) #[.int .u8 1, .int .i64 0, .int .i64 0, .int .i64 (n2 : Int), .int .i64 (n3 : Int), .int .i64 0] (by rfl))
    have y0 := HS.out.cell 0
    have y1 := HS.out.cell 1
    have y2 := HS.out.cell 2
    have y3 := HS.out.cell 3
    have y4 := HS.out.cell 4
    have y5 := HS.out.cell 5
    have g0 := HS.out.free 0
    have g1 := HS.out.free 1
    have g2 := HS.out.free 2
    have g3 := HS.out.free 3
    have g4 := HS.out.free 4
    have g5 := HS.out.free 5
    go_wp2_with fail
    clear y0 y1 y2 y3 y4 y5 g0 g1 g2 g3 g4 g5 HS
    generalize (wr1.setCell ⟨X, 4, none⟩ (.int .i64 (n3 : Int))) = ws1 at *
    have HS := HS2
    clear HS2
    refine (vget_gr HS.out.rd 3 3 rfl (by decide)).mono ?_
    rintro r wr2 ⟨n4, p4, e4, rfl, hgr4, ht⟩
    have hlt4 := hgr4.lt
    have hfr4 := Gr.fr (f := 4) (by decide) hgr4
    have HS := Lib.hid (HS.out.read ht)
    have HF4 := Lib.hid hfr4
    clear ht hfr4 hgr4
    have hw4 : IntKind.i64.wrap (n4 : Int) = (n4 : Int) := IntWalk.i64_in _ ⟨by omega, by simp at hlt4; omega⟩
    have HS2 := Lib.hid (HS.out.put 5 (.int .i64 (n4 : Int)) #[.int .u8 1, .int .i64 0, .int .i64 0, .int .i64 (n2 : Int), .int .i64 (n3 : Int), .int .i64 (n4 : Int)] (by rfl))
    have y0 := HS.out.cell 0
    have y1 := HS.out.cell 1
    have y2 := HS.out.cell 2
    have y3 := HS.out.cell 3
    have y4 := HS.out.cell 4
    have y5 := HS.out.cell 5
    have g0 := HS.out.free 0
    have g1 := HS.out.free 1
    have g2 := HS.out.free 2
    have g3 := HS.out.free 3
    have g4 := HS.out.free 4
    have g5 := HS.out.free 5
    go_wp2_with fail
    clear y0 y1 y2 y3 y4 y5 g0 g1 g2 g3 g4 g5 HS
    generalize (wr2.setCell ⟨X, 5, none⟩ (.int .i64 (n4 : Int))) = ws2 at *
    have HS := HS2
    clear HS2
    have HRS : Hid (Rds zs p1 e1 (fl 1) (upd (upd (upd (fun _ => 0) 2 n2) 3 n3) 4 n4) p4 e4) := Lib.hid (show Rds zs p1 e1 [2, 3, 4] (upd (upd (upd (fun _ => 0) 2 n2) 3 n3) 4 n4) p4 e4 from (Rds.snoc (Rds.snoc (Rds.snoc (Rds.nil) HF2.out) HF3.out) HF4.out))
    have HI : Hid (∀ f, f < 5 → iN (upd (upd (upd (fun _ => 0) 2 n2) 3 n3) 4 n4) f = five 0 0 (n2 : Int) (n3 : Int) (n4 : Int) f) := Lib.hid (fun f hf => by
      have hcs : f = 0 ∨ f = 1 ∨ f = 2 ∨ f = 3 ∨ f = 4 := by omega
      rcases hcs with rfl | rfl | rfl | rfl | rfl <;> simp [iN, upd, mn, five])
    by_cases hok : Rok 1 (five 0 0 (n2 : Int) (n3 : Int) (n4 : Int))
    · have HLY := Lib.hid (fun W => rlay_ok 1 0 0 (n2 : Int) (n3 : Int) (n4 : Int) W hok)
      have HOK := Lib.hid hok
      have HWS : Hid (∀ j, RF b v j → j < X) := Lib.hid (fun j hj => (HS.out.apart j hj).2)
      have HXL := Lib.hid (lt_of_heap HS.out.row)
      clear hok
      refine (HLY.out _).mono ?_
      rintro r w7 ⟨A7, c7, rfl, hy7, hb⟩
      have HS := Lib.hid (HS.out.later hb)
      have HO7 := Lib.hid hy7
      clear hy7 hb HLY
      go_wp2_with fail
      refine (vend_fin HS.out.rd).mono ?_
      rintro r w8 ⟨E, rfl, hE, ht⟩
      have hy8 := ownsRow_same HO7.out (fun q hq => ht.2.block q (HO7.out.lt q hq).2 (fun y => by have := (HO7.out.lt q hq).1; have := HWS.out q y; have := HXL.out; omega))
      have q1 := conv_own hy8
      have HS := Lib.hid (HS.out.read ht)
      have q2 := (HY.out.below HS.out.below).conv
      obtain ⟨L7, hL7⟩ : ∃ L7, (pack (kb 3 1 (fl 1) (natN (five 0 0 (n2 : Int) (n3 : Int) (n4 : Int))))).length = L7 := ⟨_, rfl⟩
      rw [hL7] at q1 ⊢
      by_cases hE0 : E = 0
      · subst hE0
        have hzs := read_rec HZ.out HGR.out HRS.out (hE.1 rfl) (rok_congr (fun f hf => (HI.out f hf).symm) HOK.out)
        have hke : kb 3 1 (fl 1) (natN (five 0 0 (n2 : Int) (n3 : Int) (n4 : Int))) = kb 3 1 (fl 1) (natN (iN (upd (upd (upd (fun _ => 0) 2 n2) 3 n3) 4 n4))) := kb_congr _ _ _ _ _ (fun f hf => by unfold natN; rw [HI.out f (fl_lt _ f hf)])
        have hzs2 : pack (kb 3 1 (fl 1) (natN (five 0 0 (n2 : Int) (n3 : Int) (n4 : Int)))) = zs := by rw [hke]; exact hzs.symm
        have HZS := Lib.hid hzs2
        rw [hzs2] at q1
        generalize strOf zs = S at *
        clear hzs hzs2 hke ht hE hy8 hL7 HO7
        have y0 := HS.out.cell 0
        have y1 := HS.out.cell 1
        have y2 := HS.out.cell 2
        have y3 := HS.out.cell 3
        have y4 := HS.out.cell 4
        have y5 := HS.out.cell 5
        obtain ⟨⟨r0, r1, r2, r3, r4, r5⟩, f0, f1, f2, f3, f4, f5⟩ := row_cells HS.out.res
        have HST := Lib.hid (set6 HS.out.res)
        have HBE := Lib.hid (below6 HS.out.below (Nat.le_refl w.heap.size))
        go_wp2
        refine bodyPost_ret (ret_rrec _ rfl (HST.out _ _ _ _ _ _)) rfl ?_
        exact ⟨HBE.out _ _ _ _ _ _, .inl ⟨1, 0, 0, (n2 : Int), (n3 : Int), (n4 : Int), HOK.out, HZS.out.symm, rfl⟩⟩
      · have hd : (E != 0) = true := by simpa using hE0
        have HNO : Hid (∀ (k' : Nat) (M : Nat → Int), Rok k' M → zs ≠ pack (kb 3 k' (fl k') (natN M))) := Lib.hid (fun k' M hM hz => by
          obtain ⟨h1, _⟩ := rec_read HGR.out HRS.out hM hz
          exact hE0 (hE.2 h1))
        clear hE0 ht hE hy8 hL7 HO7
        obtain ⟨⟨r0, r1, r2, r3, r4, r5⟩, f0, f1, f2, f3, f4, f5⟩ := row_cells HS.out.res
        have HST := Lib.hid (set6 HS.out.res)
        have HBE := Lib.hid (below6 HS.out.below (Nat.le_refl w.heap.size))
        go_wp2
        refine bodyPost_ret (ret_rrec _ rfl (HST.out _ _ _ _ _ _)) rfl ?_
        exact ⟨HBE.out _ _ _ _ _ _, .inr ⟨HNO.out, rfl⟩⟩
    · have HNO : Hid (∀ (k' : Nat) (M : Nat → Int), Rok k' M → zs ≠ pack (kb 3 k' (fl k') (natN M))) := Lib.hid (fun k' M hM hz => by
        obtain ⟨_, hkk, h3⟩ := rec_read HGR.out HRS.out hM hz
        subst hkk
        exact hok (rok_congr (fun f hf => (h3 f hf).symm.trans (HI.out f hf)) hM))
      have HLY := Lib.hid (fun W => rlay_no 1 0 0 (n2 : Int) (n3 : Int) (n4 : Int) W hok)
      clear hok
      refine (HLY.out _).mono ?_
      rintro r w7 ⟨rfl, hb⟩
      have HS := Lib.hid (HS.out.later hb)
      clear hb HLY
      go_wp2_with fail
      refine (vend_fin HS.out.rd).mono ?_
      rintro r w8 ⟨E, rfl, hE, ht⟩
      have HS := Lib.hid (HS.out.read ht)
      clear hE ht
      by_cases hE0 : E = 0
      · subst hE0
        obtain ⟨⟨r0, r1, r2, r3, r4, r5⟩, f0, f1, f2, f3, f4, f5⟩ := row_cells HS.out.res
        have HST := Lib.hid (set6 HS.out.res)
        have HBE := Lib.hid (below6 HS.out.below (Nat.le_refl w.heap.size))
        go_wp2
        refine bodyPost_ret (ret_rrec _ rfl (HST.out _ _ _ _ _ _)) rfl ?_
        exact ⟨HBE.out _ _ _ _ _ _, .inr ⟨HNO.out, rfl⟩⟩
      · have hd : (E != 0) = true := by simpa using hE0
        clear hE0
        obtain ⟨⟨r0, r1, r2, r3, r4, r5⟩, f0, f1, f2, f3, f4, f5⟩ := row_cells HS.out.res
        have HST := Lib.hid (set6 HS.out.res)
        have HBE := Lib.hid (below6 HS.out.below (Nat.le_refl w.heap.size))
        go_wp2
        refine bodyPost_ret (ret_rrec _ rfl (HST.out _ _ _ _ _ _)) rfl ?_
        exact ⟨HBE.out _ _ _ _ _ _, .inr ⟨HNO.out, rfl⟩⟩
  · obtain rfl : K = 2 := by omega
    clear hK
    have y0 := HS.out.cell 0
    have y1 := HS.out.cell 1
    have y2 := HS.out.cell 2
    have y3 := HS.out.cell 3
    have y4 := HS.out.cell 4
    have y5 := HS.out.cell 5
    have g0 := HS.out.free 0
    have g1 := HS.out.free 1
    have g2 := HS.out.free 2
    have g3 := HS.out.free 3
    have g4 := HS.out.free 4
    have g5 := HS.out.free 5
    go_wp2_with fail
    clear y0 y1 y2 y3 y4 y5 g0 g1 g2 g3 g4 g5
    refine (vcount_fr HS.out.rd).mono ?_
    rintro r wr0 ⟨n0, p2, e2, rfl, hlt0, hfr0, ht⟩
    have HS := Lib.hid (HS.out.read ht)
    have HF0 := Lib.hid hfr0
    clear ht hfr0
    rcases Nat.lt_or_ge 1073741824 n0 with hbig | hbig
    · have HNO : Hid (∀ (k' : Nat) (M : Nat → Int), Rok k' M → zs ≠ pack (kb 3 k' (fl k') (natN M))) := Lib.hid (fun k' M hM hz => by
        have := rec_first (k := 2) (by omega) HGR.out HF0.out hM hz
        omega)
      have hd : decide ((1073741824 : Int) < (n0 : Int)) = true := decide_eq_true (by omega)
      clear hlt0
      obtain ⟨⟨r0, r1, r2, r3, r4, r5⟩, f0, f1, f2, f3, f4, f5⟩ := row_cells HS.out.res
      have HST := Lib.hid (set6 HS.out.res)
      have HBE := Lib.hid (below6 HS.out.below (Nat.le_refl w.heap.size))
      go_wp2
      refine bodyPost_ret (ret_rrec _ rfl (HST.out _ _ _ _ _ _)) rfl ?_
      exact ⟨HBE.out _ _ _ _ _ _, .inr ⟨HNO.out, rfl⟩⟩
    have hw0 : IntKind.i64.wrap (n0 : Int) = (n0 : Int) := IntWalk.i64_in _ ⟨by omega, by omega⟩
    have HS2 := Lib.hid (HS.out.put 1 (.int .i64 (n0 : Int)) #[.int .u8 2, .int .i64 (n0 : Int), .int .i64 0, .int .i64 0, .int .i64 0, .int .i64 0] (by rfl))
    have y0 := HS.out.cell 0
    have y1 := HS.out.cell 1
    have y2 := HS.out.cell 2
    have y3 := HS.out.cell 3
    have y4 := HS.out.cell 4
    have y5 := HS.out.cell 5
    have g0 := HS.out.free 0
    have g1 := HS.out.free 1
    have g2 := HS.out.free 2
    have g3 := HS.out.free 3
    have g4 := HS.out.free 4
    have g5 := HS.out.free 5
    go_wp2_with fail
    clear y0 y1 y2 y3 y4 y5 g0 g1 g2 g3 g4 g5 HS
    generalize (wr0.setCell ⟨X, 1, none⟩ (.int .i64 (n0 : Int))) = ws0 at *
    have HS := HS2
    clear HS2
    have HRS : Hid (Rds zs p1 e1 (fl 2) (upd (fun _ => 0) 0 n0) p2 e2) := Lib.hid (show Rds zs p1 e1 [0] (upd (fun _ => 0) 0 n0) p2 e2 from (Rds.snoc (Rds.nil) HF0.out))
    have HI : Hid (∀ f, f < 5 → iN (upd (fun _ => 0) 0 n0) f = five (n0 : Int) 0 0 0 0 f) := Lib.hid (fun f hf => by
      have hcs : f = 0 ∨ f = 1 ∨ f = 2 ∨ f = 3 ∨ f = 4 := by omega
      rcases hcs with rfl | rfl | rfl | rfl | rfl <;> simp [iN, upd, mn, five] <;> omega)
    by_cases hok : Rok 2 (five (n0 : Int) 0 0 0 0)
    · have HLY := Lib.hid (fun W => rlay_ok 2 (n0 : Int) 0 0 0 0 W hok)
      have HOK := Lib.hid hok
      have HWS : Hid (∀ j, RF b v j → j < X) := Lib.hid (fun j hj => (HS.out.apart j hj).2)
      have HXL := Lib.hid (lt_of_heap HS.out.row)
      clear hok
      refine (HLY.out _).mono ?_
      rintro r w7 ⟨A7, c7, rfl, hy7, hb⟩
      have HS := Lib.hid (HS.out.later hb)
      have HO7 := Lib.hid hy7
      clear hy7 hb HLY
      go_wp2_with fail
      refine (vend_fin HS.out.rd).mono ?_
      rintro r w8 ⟨E, rfl, hE, ht⟩
      have hy8 := ownsRow_same HO7.out (fun q hq => ht.2.block q (HO7.out.lt q hq).2 (fun y => by have := (HO7.out.lt q hq).1; have := HWS.out q y; have := HXL.out; omega))
      have q1 := conv_own hy8
      have HS := Lib.hid (HS.out.read ht)
      have q2 := (HY.out.below HS.out.below).conv
      obtain ⟨L7, hL7⟩ : ∃ L7, (pack (kb 3 2 (fl 2) (natN (five (n0 : Int) 0 0 0 0)))).length = L7 := ⟨_, rfl⟩
      rw [hL7] at q1 ⊢
      by_cases hE0 : E = 0
      · subst hE0
        have hzs := read_rec HZ.out HGR.out HRS.out (hE.1 rfl) (rok_congr (fun f hf => (HI.out f hf).symm) HOK.out)
        have hke : kb 3 2 (fl 2) (natN (five (n0 : Int) 0 0 0 0)) = kb 3 2 (fl 2) (natN (iN (upd (fun _ => 0) 0 n0))) := kb_congr _ _ _ _ _ (fun f hf => by unfold natN; rw [HI.out f (fl_lt _ f hf)])
        have hzs2 : pack (kb 3 2 (fl 2) (natN (five (n0 : Int) 0 0 0 0))) = zs := by rw [hke]; exact hzs.symm
        have HZS := Lib.hid hzs2
        rw [hzs2] at q1
        generalize strOf zs = S at *
        clear hzs hzs2 hke ht hE hy8 hL7 HO7
        have y0 := HS.out.cell 0
        have y1 := HS.out.cell 1
        have y2 := HS.out.cell 2
        have y3 := HS.out.cell 3
        have y4 := HS.out.cell 4
        have y5 := HS.out.cell 5
        obtain ⟨⟨r0, r1, r2, r3, r4, r5⟩, f0, f1, f2, f3, f4, f5⟩ := row_cells HS.out.res
        have HST := Lib.hid (set6 HS.out.res)
        have HBE := Lib.hid (below6 HS.out.below (Nat.le_refl w.heap.size))
        go_wp2
        refine bodyPost_ret (ret_rrec _ rfl (HST.out _ _ _ _ _ _)) rfl ?_
        exact ⟨HBE.out _ _ _ _ _ _, .inl ⟨2, (n0 : Int), 0, 0, 0, 0, HOK.out, HZS.out.symm, rfl⟩⟩
      · have hd : (E != 0) = true := by simpa using hE0
        have HNO : Hid (∀ (k' : Nat) (M : Nat → Int), Rok k' M → zs ≠ pack (kb 3 k' (fl k') (natN M))) := Lib.hid (fun k' M hM hz => by
          obtain ⟨h1, _⟩ := rec_read HGR.out HRS.out hM hz
          exact hE0 (hE.2 h1))
        clear hE0 ht hE hy8 hL7 HO7
        obtain ⟨⟨r0, r1, r2, r3, r4, r5⟩, f0, f1, f2, f3, f4, f5⟩ := row_cells HS.out.res
        have HST := Lib.hid (set6 HS.out.res)
        have HBE := Lib.hid (below6 HS.out.below (Nat.le_refl w.heap.size))
        go_wp2
        refine bodyPost_ret (ret_rrec _ rfl (HST.out _ _ _ _ _ _)) rfl ?_
        exact ⟨HBE.out _ _ _ _ _ _, .inr ⟨HNO.out, rfl⟩⟩
    · have HNO : Hid (∀ (k' : Nat) (M : Nat → Int), Rok k' M → zs ≠ pack (kb 3 k' (fl k') (natN M))) := Lib.hid (fun k' M hM hz => by
        obtain ⟨_, hkk, h3⟩ := rec_read HGR.out HRS.out hM hz
        subst hkk
        exact hok (rok_congr (fun f hf => (h3 f hf).symm.trans (HI.out f hf)) hM))
      have HLY := Lib.hid (fun W => rlay_no 2 (n0 : Int) 0 0 0 0 W hok)
      clear hok
      refine (HLY.out _).mono ?_
      rintro r w7 ⟨rfl, hb⟩
      have HS := Lib.hid (HS.out.later hb)
      clear hb HLY
      go_wp2_with fail
      refine (vend_fin HS.out.rd).mono ?_
      rintro r w8 ⟨E, rfl, hE, ht⟩
      have HS := Lib.hid (HS.out.read ht)
      clear hE ht
      by_cases hE0 : E = 0
      · subst hE0
        obtain ⟨⟨r0, r1, r2, r3, r4, r5⟩, f0, f1, f2, f3, f4, f5⟩ := row_cells HS.out.res
        have HST := Lib.hid (set6 HS.out.res)
        have HBE := Lib.hid (below6 HS.out.below (Nat.le_refl w.heap.size))
        go_wp2
        refine bodyPost_ret (ret_rrec _ rfl (HST.out _ _ _ _ _ _)) rfl ?_
        exact ⟨HBE.out _ _ _ _ _ _, .inr ⟨HNO.out, rfl⟩⟩
      · have hd : (E != 0) = true := by simpa using hE0
        clear hE0
        obtain ⟨⟨r0, r1, r2, r3, r4, r5⟩, f0, f1, f2, f3, f4, f5⟩ := row_cells HS.out.res
        have HST := Lib.hid (set6 HS.out.res)
        have HBE := Lib.hid (below6 HS.out.below (Nat.le_refl w.heap.size))
        go_wp2
        refine bodyPost_ret (ret_rrec _ rfl (HST.out _ _ _ _ _ _)) rfl ?_
        exact ⟨HBE.out _ _ _ _ _ _, .inr ⟨HNO.out, rfl⟩⟩
  · obtain rfl : K = 3 := by omega
    clear hK
    have y0 := HS.out.cell 0
    have y1 := HS.out.cell 1
    have y2 := HS.out.cell 2
    have y3 := HS.out.cell 3
    have y4 := HS.out.cell 4
    have y5 := HS.out.cell 5
    have g0 := HS.out.free 0
    have g1 := HS.out.free 1
    have g2 := HS.out.free 2
    have g3 := HS.out.free 3
    have g4 := HS.out.free 4
    have g5 := HS.out.free 5
    go_wp2_with fail
    clear y0 y1 y2 y3 y4 y5 g0 g1 g2 g3 g4 g5
    refine (vcount_fr HS.out.rd).mono ?_
    rintro r wr0 ⟨n0, p2, e2, rfl, hlt0, hfr0, ht⟩
    have HS := Lib.hid (HS.out.read ht)
    have HF0 := Lib.hid hfr0
    clear ht hfr0
    rcases Nat.lt_or_ge 1073741824 n0 with hbig | hbig
    · have HNO : Hid (∀ (k' : Nat) (M : Nat → Int), Rok k' M → zs ≠ pack (kb 3 k' (fl k') (natN M))) := Lib.hid (fun k' M hM hz => by
        have := rec_first (k := 3) (by omega) HGR.out HF0.out hM hz
        omega)
      have hd : decide ((1073741824 : Int) < (n0 : Int)) = true := decide_eq_true (by omega)
      clear hlt0
      obtain ⟨⟨r0, r1, r2, r3, r4, r5⟩, f0, f1, f2, f3, f4, f5⟩ := row_cells HS.out.res
      have HST := Lib.hid (set6 HS.out.res)
      have HBE := Lib.hid (below6 HS.out.below (Nat.le_refl w.heap.size))
      go_wp2
      refine bodyPost_ret (ret_rrec _ rfl (HST.out _ _ _ _ _ _)) rfl ?_
      exact ⟨HBE.out _ _ _ _ _ _, .inr ⟨HNO.out, rfl⟩⟩
    have hw0 : IntKind.i64.wrap (n0 : Int) = (n0 : Int) := IntWalk.i64_in _ ⟨by omega, by omega⟩
    have HS2 := Lib.hid (HS.out.put 1 (.int .i64 (n0 : Int)) #[.int .u8 3, .int .i64 (n0 : Int), .int .i64 0, .int .i64 0, .int .i64 0, .int .i64 0] (by rfl))
    have y0 := HS.out.cell 0
    have y1 := HS.out.cell 1
    have y2 := HS.out.cell 2
    have y3 := HS.out.cell 3
    have y4 := HS.out.cell 4
    have y5 := HS.out.cell 5
    have g0 := HS.out.free 0
    have g1 := HS.out.free 1
    have g2 := HS.out.free 2
    have g3 := HS.out.free 3
    have g4 := HS.out.free 4
    have g5 := HS.out.free 5
    go_wp2_with fail
    clear y0 y1 y2 y3 y4 y5 g0 g1 g2 g3 g4 g5 HS
    generalize (wr0.setCell ⟨X, 1, none⟩ (.int .i64 (n0 : Int))) = ws0 at *
    have HS := HS2
    clear HS2
    refine (vget_gr HS.out.rd 3 3 rfl (by decide)).mono ?_
    rintro r wr1 ⟨n1, p3, e3, rfl, hgr1, ht⟩
    have hlt1 := hgr1.lt
    have hfr1 := Gr.fr (f := 1) (by decide) hgr1
    have HS := Lib.hid (HS.out.read ht)
    have HF1 := Lib.hid hfr1
    clear ht hfr1 hgr1
    have hw1 : IntKind.i64.wrap (n1 : Int) = (n1 : Int) := IntWalk.i64_in _ ⟨by omega, by simp at hlt1; omega⟩
    have HS2 := Lib.hid (HS.out.put 2 (.int .i64 (n1 : Int)) #[.int .u8 3, .int .i64 (n0 : Int), .int .i64 (n1 : Int), .int .i64 0, .int .i64 0, .int .i64 0] (by rfl))
    have y0 := HS.out.cell 0
    have y1 := HS.out.cell 1
    have y2 := HS.out.cell 2
    have y3 := HS.out.cell 3
    have y4 := HS.out.cell 4
    have y5 := HS.out.cell 5
    have g0 := HS.out.free 0
    have g1 := HS.out.free 1
    have g2 := HS.out.free 2
    have g3 := HS.out.free 3
    have g4 := HS.out.free 4
    have g5 := HS.out.free 5
    go_wp2_with fail
    clear y0 y1 y2 y3 y4 y5 g0 g1 g2 g3 g4 g5 HS
    generalize (wr1.setCell ⟨X, 2, none⟩ (.int .i64 (n1 : Int))) = ws1 at *
    have HS := HS2
    clear HS2
    have HRS : Hid (Rds zs p1 e1 (fl 3) (upd (upd (fun _ => 0) 0 n0) 1 n1) p3 e3) := Lib.hid (show Rds zs p1 e1 [0, 1] (upd (upd (fun _ => 0) 0 n0) 1 n1) p3 e3 from (Rds.snoc (Rds.snoc (Rds.nil) HF0.out) HF1.out))
    have HI : Hid (∀ f, f < 5 → iN (upd (upd (fun _ => 0) 0 n0) 1 n1) f = five (n0 : Int) (n1 : Int) 0 0 0 f) := Lib.hid (fun f hf => by
      have hcs : f = 0 ∨ f = 1 ∨ f = 2 ∨ f = 3 ∨ f = 4 := by omega
      rcases hcs with rfl | rfl | rfl | rfl | rfl <;> simp [iN, upd, mn, five] <;> omega)
    by_cases hok : Rok 3 (five (n0 : Int) (n1 : Int) 0 0 0)
    · have HLY := Lib.hid (fun W => rlay_ok 3 (n0 : Int) (n1 : Int) 0 0 0 W hok)
      have HOK := Lib.hid hok
      have HWS : Hid (∀ j, RF b v j → j < X) := Lib.hid (fun j hj => (HS.out.apart j hj).2)
      have HXL := Lib.hid (lt_of_heap HS.out.row)
      clear hok
      refine (HLY.out _).mono ?_
      rintro r w7 ⟨A7, c7, rfl, hy7, hb⟩
      have HS := Lib.hid (HS.out.later hb)
      have HO7 := Lib.hid hy7
      clear hy7 hb HLY
      go_wp2_with fail
      refine (vend_fin HS.out.rd).mono ?_
      rintro r w8 ⟨E, rfl, hE, ht⟩
      have hy8 := ownsRow_same HO7.out (fun q hq => ht.2.block q (HO7.out.lt q hq).2 (fun y => by have := (HO7.out.lt q hq).1; have := HWS.out q y; have := HXL.out; omega))
      have q1 := conv_own hy8
      have HS := Lib.hid (HS.out.read ht)
      have q2 := (HY.out.below HS.out.below).conv
      obtain ⟨L7, hL7⟩ : ∃ L7, (pack (kb 3 3 (fl 3) (natN (five (n0 : Int) (n1 : Int) 0 0 0)))).length = L7 := ⟨_, rfl⟩
      rw [hL7] at q1 ⊢
      by_cases hE0 : E = 0
      · subst hE0
        have hzs := read_rec HZ.out HGR.out HRS.out (hE.1 rfl) (rok_congr (fun f hf => (HI.out f hf).symm) HOK.out)
        have hke : kb 3 3 (fl 3) (natN (five (n0 : Int) (n1 : Int) 0 0 0)) = kb 3 3 (fl 3) (natN (iN (upd (upd (fun _ => 0) 0 n0) 1 n1))) := kb_congr _ _ _ _ _ (fun f hf => by unfold natN; rw [HI.out f (fl_lt _ f hf)])
        have hzs2 : pack (kb 3 3 (fl 3) (natN (five (n0 : Int) (n1 : Int) 0 0 0))) = zs := by rw [hke]; exact hzs.symm
        have HZS := Lib.hid hzs2
        rw [hzs2] at q1
        generalize strOf zs = S at *
        clear hzs hzs2 hke ht hE hy8 hL7 HO7
        have y0 := HS.out.cell 0
        have y1 := HS.out.cell 1
        have y2 := HS.out.cell 2
        have y3 := HS.out.cell 3
        have y4 := HS.out.cell 4
        have y5 := HS.out.cell 5
        obtain ⟨⟨r0, r1, r2, r3, r4, r5⟩, f0, f1, f2, f3, f4, f5⟩ := row_cells HS.out.res
        have HST := Lib.hid (set6 HS.out.res)
        have HBE := Lib.hid (below6 HS.out.below (Nat.le_refl w.heap.size))
        go_wp2
        refine bodyPost_ret (ret_rrec _ rfl (HST.out _ _ _ _ _ _)) rfl ?_
        exact ⟨HBE.out _ _ _ _ _ _, .inl ⟨3, (n0 : Int), (n1 : Int), 0, 0, 0, HOK.out, HZS.out.symm, rfl⟩⟩
      · have hd : (E != 0) = true := by simpa using hE0
        have HNO : Hid (∀ (k' : Nat) (M : Nat → Int), Rok k' M → zs ≠ pack (kb 3 k' (fl k') (natN M))) := Lib.hid (fun k' M hM hz => by
          obtain ⟨h1, _⟩ := rec_read HGR.out HRS.out hM hz
          exact hE0 (hE.2 h1))
        clear hE0 ht hE hy8 hL7 HO7
        obtain ⟨⟨r0, r1, r2, r3, r4, r5⟩, f0, f1, f2, f3, f4, f5⟩ := row_cells HS.out.res
        have HST := Lib.hid (set6 HS.out.res)
        have HBE := Lib.hid (below6 HS.out.below (Nat.le_refl w.heap.size))
        go_wp2
        refine bodyPost_ret (ret_rrec _ rfl (HST.out _ _ _ _ _ _)) rfl ?_
        exact ⟨HBE.out _ _ _ _ _ _, .inr ⟨HNO.out, rfl⟩⟩
    · have HNO : Hid (∀ (k' : Nat) (M : Nat → Int), Rok k' M → zs ≠ pack (kb 3 k' (fl k') (natN M))) := Lib.hid (fun k' M hM hz => by
        obtain ⟨_, hkk, h3⟩ := rec_read HGR.out HRS.out hM hz
        subst hkk
        exact hok (rok_congr (fun f hf => (h3 f hf).symm.trans (HI.out f hf)) hM))
      have HLY := Lib.hid (fun W => rlay_no 3 (n0 : Int) (n1 : Int) 0 0 0 W hok)
      clear hok
      refine (HLY.out _).mono ?_
      rintro r w7 ⟨rfl, hb⟩
      have HS := Lib.hid (HS.out.later hb)
      clear hb HLY
      go_wp2_with fail
      refine (vend_fin HS.out.rd).mono ?_
      rintro r w8 ⟨E, rfl, hE, ht⟩
      have HS := Lib.hid (HS.out.read ht)
      clear hE ht
      by_cases hE0 : E = 0
      · subst hE0
        obtain ⟨⟨r0, r1, r2, r3, r4, r5⟩, f0, f1, f2, f3, f4, f5⟩ := row_cells HS.out.res
        have HST := Lib.hid (set6 HS.out.res)
        have HBE := Lib.hid (below6 HS.out.below (Nat.le_refl w.heap.size))
        go_wp2
        refine bodyPost_ret (ret_rrec _ rfl (HST.out _ _ _ _ _ _)) rfl ?_
        exact ⟨HBE.out _ _ _ _ _ _, .inr ⟨HNO.out, rfl⟩⟩
      · have hd : (E != 0) = true := by simpa using hE0
        clear hE0
        obtain ⟨⟨r0, r1, r2, r3, r4, r5⟩, f0, f1, f2, f3, f4, f5⟩ := row_cells HS.out.res
        have HST := Lib.hid (set6 HS.out.res)
        have HBE := Lib.hid (below6 HS.out.below (Nat.le_refl w.heap.size))
        go_wp2
        refine bodyPost_ret (ret_rrec _ rfl (HST.out _ _ _ _ _ _)) rfl ?_
        exact ⟨HBE.out _ _ _ _ _ _, .inr ⟨HNO.out, rfl⟩⟩
  · obtain rfl : K = 4 := by omega
    clear hK
    have y0 := HS.out.cell 0
    have y1 := HS.out.cell 1
    have y2 := HS.out.cell 2
    have y3 := HS.out.cell 3
    have y4 := HS.out.cell 4
    have y5 := HS.out.cell 5
    have g0 := HS.out.free 0
    have g1 := HS.out.free 1
    have g2 := HS.out.free 2
    have g3 := HS.out.free 3
    have g4 := HS.out.free 4
    have g5 := HS.out.free 5
    go_wp2_with fail
    clear y0 y1 y2 y3 y4 y5 g0 g1 g2 g3 g4 g5
    refine (vget_gr HS.out.rd 3 3 rfl (by decide)).mono ?_
    rintro r wr0 ⟨n1, p2, e2, rfl, hgr1, ht⟩
    have hlt1 := hgr1.lt
    have hfr1 := Gr.fr (f := 1) (by decide) hgr1
    have HS := Lib.hid (HS.out.read ht)
    have HF1 := Lib.hid hfr1
    clear ht hfr1 hgr1
    have hw1 : IntKind.i64.wrap (n1 : Int) = (n1 : Int) := IntWalk.i64_in _ ⟨by omega, by simp at hlt1; omega⟩
    have HS2 := Lib.hid (HS.out.put 2 (.int .i64 (n1 : Int)) #[.int .u8 4, .int .i64 0, .int .i64 (n1 : Int), .int .i64 0, .int .i64 0, .int .i64 0] (by rfl))
    have y0 := HS.out.cell 0
    have y1 := HS.out.cell 1
    have y2 := HS.out.cell 2
    have y3 := HS.out.cell 3
    have y4 := HS.out.cell 4
    have y5 := HS.out.cell 5
    have g0 := HS.out.free 0
    have g1 := HS.out.free 1
    have g2 := HS.out.free 2
    have g3 := HS.out.free 3
    have g4 := HS.out.free 4
    have g5 := HS.out.free 5
    go_wp2_with fail
    clear y0 y1 y2 y3 y4 y5 g0 g1 g2 g3 g4 g5 HS
    generalize (wr0.setCell ⟨X, 2, none⟩ (.int .i64 (n1 : Int))) = ws0 at *
    have HS := HS2
    clear HS2
    have HRS : Hid (Rds zs p1 e1 (fl 4) (upd (fun _ => 0) 1 n1) p2 e2) := Lib.hid (show Rds zs p1 e1 [1] (upd (fun _ => 0) 1 n1) p2 e2 from (Rds.snoc (Rds.nil) HF1.out))
    have HI : Hid (∀ f, f < 5 → iN (upd (fun _ => 0) 1 n1) f = five 0 (n1 : Int) 0 0 0 f) := Lib.hid (fun f hf => by
      have hcs : f = 0 ∨ f = 1 ∨ f = 2 ∨ f = 3 ∨ f = 4 := by omega
      rcases hcs with rfl | rfl | rfl | rfl | rfl <;> simp [iN, upd, mn, five])
    by_cases hok : Rok 4 (five 0 (n1 : Int) 0 0 0)
    · have HLY := Lib.hid (fun W => rlay_ok 4 0 (n1 : Int) 0 0 0 W hok)
      have HOK := Lib.hid hok
      have HWS : Hid (∀ j, RF b v j → j < X) := Lib.hid (fun j hj => (HS.out.apart j hj).2)
      have HXL := Lib.hid (lt_of_heap HS.out.row)
      clear hok
      refine (HLY.out _).mono ?_
      rintro r w7 ⟨A7, c7, rfl, hy7, hb⟩
      have HS := Lib.hid (HS.out.later hb)
      have HO7 := Lib.hid hy7
      clear hy7 hb HLY
      go_wp2_with fail
      refine (vend_fin HS.out.rd).mono ?_
      rintro r w8 ⟨E, rfl, hE, ht⟩
      have hy8 := ownsRow_same HO7.out (fun q hq => ht.2.block q (HO7.out.lt q hq).2 (fun y => by have := (HO7.out.lt q hq).1; have := HWS.out q y; have := HXL.out; omega))
      have q1 := conv_own hy8
      have HS := Lib.hid (HS.out.read ht)
      have q2 := (HY.out.below HS.out.below).conv
      obtain ⟨L7, hL7⟩ : ∃ L7, (pack (kb 3 4 (fl 4) (natN (five 0 (n1 : Int) 0 0 0)))).length = L7 := ⟨_, rfl⟩
      rw [hL7] at q1 ⊢
      by_cases hE0 : E = 0
      · subst hE0
        have hzs := read_rec HZ.out HGR.out HRS.out (hE.1 rfl) (rok_congr (fun f hf => (HI.out f hf).symm) HOK.out)
        have hke : kb 3 4 (fl 4) (natN (five 0 (n1 : Int) 0 0 0)) = kb 3 4 (fl 4) (natN (iN (upd (fun _ => 0) 1 n1))) := kb_congr _ _ _ _ _ (fun f hf => by unfold natN; rw [HI.out f (fl_lt _ f hf)])
        have hzs2 : pack (kb 3 4 (fl 4) (natN (five 0 (n1 : Int) 0 0 0))) = zs := by rw [hke]; exact hzs.symm
        have HZS := Lib.hid hzs2
        rw [hzs2] at q1
        generalize strOf zs = S at *
        clear hzs hzs2 hke ht hE hy8 hL7 HO7
        have y0 := HS.out.cell 0
        have y1 := HS.out.cell 1
        have y2 := HS.out.cell 2
        have y3 := HS.out.cell 3
        have y4 := HS.out.cell 4
        have y5 := HS.out.cell 5
        obtain ⟨⟨r0, r1, r2, r3, r4, r5⟩, f0, f1, f2, f3, f4, f5⟩ := row_cells HS.out.res
        have HST := Lib.hid (set6 HS.out.res)
        have HBE := Lib.hid (below6 HS.out.below (Nat.le_refl w.heap.size))
        go_wp2
        refine bodyPost_ret (ret_rrec _ rfl (HST.out _ _ _ _ _ _)) rfl ?_
        exact ⟨HBE.out _ _ _ _ _ _, .inl ⟨4, 0, (n1 : Int), 0, 0, 0, HOK.out, HZS.out.symm, rfl⟩⟩
      · have hd : (E != 0) = true := by simpa using hE0
        have HNO : Hid (∀ (k' : Nat) (M : Nat → Int), Rok k' M → zs ≠ pack (kb 3 k' (fl k') (natN M))) := Lib.hid (fun k' M hM hz => by
          obtain ⟨h1, _⟩ := rec_read HGR.out HRS.out hM hz
          exact hE0 (hE.2 h1))
        clear hE0 ht hE hy8 hL7 HO7
        obtain ⟨⟨r0, r1, r2, r3, r4, r5⟩, f0, f1, f2, f3, f4, f5⟩ := row_cells HS.out.res
        have HST := Lib.hid (set6 HS.out.res)
        have HBE := Lib.hid (below6 HS.out.below (Nat.le_refl w.heap.size))
        go_wp2
        refine bodyPost_ret (ret_rrec _ rfl (HST.out _ _ _ _ _ _)) rfl ?_
        exact ⟨HBE.out _ _ _ _ _ _, .inr ⟨HNO.out, rfl⟩⟩
    · have HNO : Hid (∀ (k' : Nat) (M : Nat → Int), Rok k' M → zs ≠ pack (kb 3 k' (fl k') (natN M))) := Lib.hid (fun k' M hM hz => by
        obtain ⟨_, hkk, h3⟩ := rec_read HGR.out HRS.out hM hz
        subst hkk
        exact hok (rok_congr (fun f hf => (h3 f hf).symm.trans (HI.out f hf)) hM))
      have HLY := Lib.hid (fun W => rlay_no 4 0 (n1 : Int) 0 0 0 W hok)
      clear hok
      refine (HLY.out _).mono ?_
      rintro r w7 ⟨rfl, hb⟩
      have HS := Lib.hid (HS.out.later hb)
      clear hb HLY
      go_wp2_with fail
      refine (vend_fin HS.out.rd).mono ?_
      rintro r w8 ⟨E, rfl, hE, ht⟩
      have HS := Lib.hid (HS.out.read ht)
      clear hE ht
      by_cases hE0 : E = 0
      · subst hE0
        obtain ⟨⟨r0, r1, r2, r3, r4, r5⟩, f0, f1, f2, f3, f4, f5⟩ := row_cells HS.out.res
        have HST := Lib.hid (set6 HS.out.res)
        have HBE := Lib.hid (below6 HS.out.below (Nat.le_refl w.heap.size))
        go_wp2
        refine bodyPost_ret (ret_rrec _ rfl (HST.out _ _ _ _ _ _)) rfl ?_
        exact ⟨HBE.out _ _ _ _ _ _, .inr ⟨HNO.out, rfl⟩⟩
      · have hd : (E != 0) = true := by simpa using hE0
        clear hE0
        obtain ⟨⟨r0, r1, r2, r3, r4, r5⟩, f0, f1, f2, f3, f4, f5⟩ := row_cells HS.out.res
        have HST := Lib.hid (set6 HS.out.res)
        have HBE := Lib.hid (below6 HS.out.below (Nat.le_refl w.heap.size))
        go_wp2
        refine bodyPost_ret (ret_rrec _ rfl (HST.out _ _ _ _ _ _)) rfl ?_
        exact ⟨HBE.out _ _ _ _ _ _, .inr ⟨HNO.out, rfl⟩⟩
  · obtain rfl : K = 5 := by omega
    clear hK
    have y0 := HS.out.cell 0
    have y1 := HS.out.cell 1
    have y2 := HS.out.cell 2
    have y3 := HS.out.cell 3
    have y4 := HS.out.cell 4
    have y5 := HS.out.cell 5
    have g0 := HS.out.free 0
    have g1 := HS.out.free 1
    have g2 := HS.out.free 2
    have g3 := HS.out.free 3
    have g4 := HS.out.free 4
    have g5 := HS.out.free 5
    go_wp2_with fail
    clear y0 y1 y2 y3 y4 y5 g0 g1 g2 g3 g4 g5
    refine (vget_gr HS.out.rd 3 3 rfl (by decide)).mono ?_
    rintro r wr0 ⟨n1, p2, e2, rfl, hgr1, ht⟩
    have hlt1 := hgr1.lt
    have hfr1 := Gr.fr (f := 1) (by decide) hgr1
    have HS := Lib.hid (HS.out.read ht)
    have HF1 := Lib.hid hfr1
    clear ht hfr1 hgr1
    have hw1 : IntKind.i64.wrap (n1 : Int) = (n1 : Int) := IntWalk.i64_in _ ⟨by omega, by simp at hlt1; omega⟩
    have HS2 := Lib.hid (HS.out.put 2 (.int .i64 (n1 : Int)) #[.int .u8 5, .int .i64 0, .int .i64 (n1 : Int), .int .i64 0, .int .i64 0, .int .i64 0] (by rfl))
    have y0 := HS.out.cell 0
    have y1 := HS.out.cell 1
    have y2 := HS.out.cell 2
    have y3 := HS.out.cell 3
    have y4 := HS.out.cell 4
    have y5 := HS.out.cell 5
    have g0 := HS.out.free 0
    have g1 := HS.out.free 1
    have g2 := HS.out.free 2
    have g3 := HS.out.free 3
    have g4 := HS.out.free 4
    have g5 := HS.out.free 5
    go_wp2_with fail
    clear y0 y1 y2 y3 y4 y5 g0 g1 g2 g3 g4 g5 HS
    generalize (wr0.setCell ⟨X, 2, none⟩ (.int .i64 (n1 : Int))) = ws0 at *
    have HS := HS2
    clear HS2
    have HRS : Hid (Rds zs p1 e1 (fl 5) (upd (fun _ => 0) 1 n1) p2 e2) := Lib.hid (show Rds zs p1 e1 [1] (upd (fun _ => 0) 1 n1) p2 e2 from (Rds.snoc (Rds.nil) HF1.out))
    have HI : Hid (∀ f, f < 5 → iN (upd (fun _ => 0) 1 n1) f = five 0 (n1 : Int) 0 0 0 f) := Lib.hid (fun f hf => by
      have hcs : f = 0 ∨ f = 1 ∨ f = 2 ∨ f = 3 ∨ f = 4 := by omega
      rcases hcs with rfl | rfl | rfl | rfl | rfl <;> simp [iN, upd, mn, five])
    by_cases hok : Rok 5 (five 0 (n1 : Int) 0 0 0)
    · have HLY := Lib.hid (fun W => rlay_ok 5 0 (n1 : Int) 0 0 0 W hok)
      have HOK := Lib.hid hok
      have HWS : Hid (∀ j, RF b v j → j < X) := Lib.hid (fun j hj => (HS.out.apart j hj).2)
      have HXL := Lib.hid (lt_of_heap HS.out.row)
      clear hok
      refine (HLY.out _).mono ?_
      rintro r w7 ⟨A7, c7, rfl, hy7, hb⟩
      have HS := Lib.hid (HS.out.later hb)
      have HO7 := Lib.hid hy7
      clear hy7 hb HLY
      go_wp2_with fail
      refine (vend_fin HS.out.rd).mono ?_
      rintro r w8 ⟨E, rfl, hE, ht⟩
      have hy8 := ownsRow_same HO7.out (fun q hq => ht.2.block q (HO7.out.lt q hq).2 (fun y => by have := (HO7.out.lt q hq).1; have := HWS.out q y; have := HXL.out; omega))
      have q1 := conv_own hy8
      have HS := Lib.hid (HS.out.read ht)
      have q2 := (HY.out.below HS.out.below).conv
      obtain ⟨L7, hL7⟩ : ∃ L7, (pack (kb 3 5 (fl 5) (natN (five 0 (n1 : Int) 0 0 0)))).length = L7 := ⟨_, rfl⟩
      rw [hL7] at q1 ⊢
      by_cases hE0 : E = 0
      · subst hE0
        have hzs := read_rec HZ.out HGR.out HRS.out (hE.1 rfl) (rok_congr (fun f hf => (HI.out f hf).symm) HOK.out)
        have hke : kb 3 5 (fl 5) (natN (five 0 (n1 : Int) 0 0 0)) = kb 3 5 (fl 5) (natN (iN (upd (fun _ => 0) 1 n1))) := kb_congr _ _ _ _ _ (fun f hf => by unfold natN; rw [HI.out f (fl_lt _ f hf)])
        have hzs2 : pack (kb 3 5 (fl 5) (natN (five 0 (n1 : Int) 0 0 0))) = zs := by rw [hke]; exact hzs.symm
        have HZS := Lib.hid hzs2
        rw [hzs2] at q1
        generalize strOf zs = S at *
        clear hzs hzs2 hke ht hE hy8 hL7 HO7
        have y0 := HS.out.cell 0
        have y1 := HS.out.cell 1
        have y2 := HS.out.cell 2
        have y3 := HS.out.cell 3
        have y4 := HS.out.cell 4
        have y5 := HS.out.cell 5
        obtain ⟨⟨r0, r1, r2, r3, r4, r5⟩, f0, f1, f2, f3, f4, f5⟩ := row_cells HS.out.res
        have HST := Lib.hid (set6 HS.out.res)
        have HBE := Lib.hid (below6 HS.out.below (Nat.le_refl w.heap.size))
        go_wp2
        refine bodyPost_ret (ret_rrec _ rfl (HST.out _ _ _ _ _ _)) rfl ?_
        exact ⟨HBE.out _ _ _ _ _ _, .inl ⟨5, 0, (n1 : Int), 0, 0, 0, HOK.out, HZS.out.symm, rfl⟩⟩
      · have hd : (E != 0) = true := by simpa using hE0
        have HNO : Hid (∀ (k' : Nat) (M : Nat → Int), Rok k' M → zs ≠ pack (kb 3 k' (fl k') (natN M))) := Lib.hid (fun k' M hM hz => by
          obtain ⟨h1, _⟩ := rec_read HGR.out HRS.out hM hz
          exact hE0 (hE.2 h1))
        clear hE0 ht hE hy8 hL7 HO7
        obtain ⟨⟨r0, r1, r2, r3, r4, r5⟩, f0, f1, f2, f3, f4, f5⟩ := row_cells HS.out.res
        have HST := Lib.hid (set6 HS.out.res)
        have HBE := Lib.hid (below6 HS.out.below (Nat.le_refl w.heap.size))
        go_wp2
        refine bodyPost_ret (ret_rrec _ rfl (HST.out _ _ _ _ _ _)) rfl ?_
        exact ⟨HBE.out _ _ _ _ _ _, .inr ⟨HNO.out, rfl⟩⟩
    · have HNO : Hid (∀ (k' : Nat) (M : Nat → Int), Rok k' M → zs ≠ pack (kb 3 k' (fl k') (natN M))) := Lib.hid (fun k' M hM hz => by
        obtain ⟨_, hkk, h3⟩ := rec_read HGR.out HRS.out hM hz
        subst hkk
        exact hok (rok_congr (fun f hf => (h3 f hf).symm.trans (HI.out f hf)) hM))
      have HLY := Lib.hid (fun W => rlay_no 5 0 (n1 : Int) 0 0 0 W hok)
      clear hok
      refine (HLY.out _).mono ?_
      rintro r w7 ⟨rfl, hb⟩
      have HS := Lib.hid (HS.out.later hb)
      clear hb HLY
      go_wp2_with fail
      refine (vend_fin HS.out.rd).mono ?_
      rintro r w8 ⟨E, rfl, hE, ht⟩
      have HS := Lib.hid (HS.out.read ht)
      clear hE ht
      by_cases hE0 : E = 0
      · subst hE0
        obtain ⟨⟨r0, r1, r2, r3, r4, r5⟩, f0, f1, f2, f3, f4, f5⟩ := row_cells HS.out.res
        have HST := Lib.hid (set6 HS.out.res)
        have HBE := Lib.hid (below6 HS.out.below (Nat.le_refl w.heap.size))
        go_wp2
        refine bodyPost_ret (ret_rrec _ rfl (HST.out _ _ _ _ _ _)) rfl ?_
        exact ⟨HBE.out _ _ _ _ _ _, .inr ⟨HNO.out, rfl⟩⟩
      · have hd : (E != 0) = true := by simpa using hE0
        clear hE0
        obtain ⟨⟨r0, r1, r2, r3, r4, r5⟩, f0, f1, f2, f3, f4, f5⟩ := row_cells HS.out.res
        have HST := Lib.hid (set6 HS.out.res)
        have HBE := Lib.hid (below6 HS.out.below (Nat.le_refl w.heap.size))
        go_wp2
        refine bodyPost_ret (ret_rrec _ rfl (HST.out _ _ _ _ _ _)) rfl ?_
        exact ⟨HBE.out _ _ _ _ _ _, .inr ⟨HNO.out, rfl⟩⟩
  · obtain rfl : K = 6 := by omega
    clear hK
    have y0 := HS.out.cell 0
    have y1 := HS.out.cell 1
    have y2 := HS.out.cell 2
    have y3 := HS.out.cell 3
    have y4 := HS.out.cell 4
    have y5 := HS.out.cell 5
    have g0 := HS.out.free 0
    have g1 := HS.out.free 1
    have g2 := HS.out.free 2
    have g3 := HS.out.free 3
    have g4 := HS.out.free 4
    have g5 := HS.out.free 5
    go_wp2_with fail
    clear y0 y1 y2 y3 y4 y5 g0 g1 g2 g3 g4 g5
    refine (vget_gr HS.out.rd 3 3 rfl (by decide)).mono ?_
    rintro r wr0 ⟨n1, p2, e2, rfl, hgr1, ht⟩
    have hlt1 := hgr1.lt
    have hfr1 := Gr.fr (f := 1) (by decide) hgr1
    have HS := Lib.hid (HS.out.read ht)
    have HF1 := Lib.hid hfr1
    clear ht hfr1 hgr1
    have hw1 : IntKind.i64.wrap (n1 : Int) = (n1 : Int) := IntWalk.i64_in _ ⟨by omega, by simp at hlt1; omega⟩
    have HS2 := Lib.hid (HS.out.put 2 (.int .i64 (n1 : Int)) #[.int .u8 6, .int .i64 0, .int .i64 (n1 : Int), .int .i64 0, .int .i64 0, .int .i64 0] (by rfl))
    have y0 := HS.out.cell 0
    have y1 := HS.out.cell 1
    have y2 := HS.out.cell 2
    have y3 := HS.out.cell 3
    have y4 := HS.out.cell 4
    have y5 := HS.out.cell 5
    have g0 := HS.out.free 0
    have g1 := HS.out.free 1
    have g2 := HS.out.free 2
    have g3 := HS.out.free 3
    have g4 := HS.out.free 4
    have g5 := HS.out.free 5
    go_wp2_with fail
    clear y0 y1 y2 y3 y4 y5 g0 g1 g2 g3 g4 g5 HS
    generalize (wr0.setCell ⟨X, 2, none⟩ (.int .i64 (n1 : Int))) = ws0 at *
    have HS := HS2
    clear HS2
    have hok : ¬ Rok 6 (five 0 (n1 : Int) 0 0 0) := fun x => by have := x.kind; omega
    have HNO : Hid (∀ (k' : Nat) (M : Nat → Int), Rok k' M → zs ≠ pack (kb 3 k' (fl k') (natN M))) := Lib.hid (fun k' M hM hz => by
      have h1 := (rec_kind HGR.out hM hz).1
      have := hM.kind
      omega)
    have HLY := Lib.hid (fun W => rlay_no 6 0 (n1 : Int) 0 0 0 W hok)
    clear hok
    refine (HLY.out _).mono ?_
    rintro r w7 ⟨rfl, hb⟩
    have HS := Lib.hid (HS.out.later hb)
    clear hb HLY
    go_wp2_with fail
    refine (vend_fin HS.out.rd).mono ?_
    rintro r w8 ⟨E, rfl, hE, ht⟩
    have HS := Lib.hid (HS.out.read ht)
    clear hE ht
    by_cases hE0 : E = 0
    · subst hE0
      obtain ⟨⟨r0, r1, r2, r3, r4, r5⟩, f0, f1, f2, f3, f4, f5⟩ := row_cells HS.out.res
      have HST := Lib.hid (set6 HS.out.res)
      have HBE := Lib.hid (below6 HS.out.below (Nat.le_refl w.heap.size))
      go_wp2
      refine bodyPost_ret (ret_rrec _ rfl (HST.out _ _ _ _ _ _)) rfl ?_
      exact ⟨HBE.out _ _ _ _ _ _, .inr ⟨HNO.out, rfl⟩⟩
    · have hd : (E != 0) = true := by simpa using hE0
      clear hE0
      obtain ⟨⟨r0, r1, r2, r3, r4, r5⟩, f0, f1, f2, f3, f4, f5⟩ := row_cells HS.out.res
      have HST := Lib.hid (set6 HS.out.res)
      have HBE := Lib.hid (below6 HS.out.below (Nat.le_refl w.heap.size))
      go_wp2
      refine bodyPost_ret (ret_rrec _ rfl (HST.out _ _ _ _ _ _)) rfl ?_
      exact ⟨HBE.out _ _ _ _ _ _, .inr ⟨HNO.out, rfl⟩⟩
  · obtain rfl : K = 7 := by omega
    clear hK
    have y0 := HS.out.cell 0
    have y1 := HS.out.cell 1
    have y2 := HS.out.cell 2
    have y3 := HS.out.cell 3
    have y4 := HS.out.cell 4
    have y5 := HS.out.cell 5
    have g0 := HS.out.free 0
    have g1 := HS.out.free 1
    have g2 := HS.out.free 2
    have g3 := HS.out.free 3
    have g4 := HS.out.free 4
    have g5 := HS.out.free 5
    go_wp2_with fail
    clear y0 y1 y2 y3 y4 y5 g0 g1 g2 g3 g4 g5
    refine (vget_gr HS.out.rd 3 3 rfl (by decide)).mono ?_
    rintro r wr0 ⟨n1, p2, e2, rfl, hgr1, ht⟩
    have hlt1 := hgr1.lt
    have hfr1 := Gr.fr (f := 1) (by decide) hgr1
    have HS := Lib.hid (HS.out.read ht)
    have HF1 := Lib.hid hfr1
    clear ht hfr1 hgr1
    have hw1 : IntKind.i64.wrap (n1 : Int) = (n1 : Int) := IntWalk.i64_in _ ⟨by omega, by simp at hlt1; omega⟩
    have HS2 := Lib.hid (HS.out.put 2 (.int .i64 (n1 : Int)) #[.int .u8 7, .int .i64 0, .int .i64 (n1 : Int), .int .i64 0, .int .i64 0, .int .i64 0] (by rfl))
    have y0 := HS.out.cell 0
    have y1 := HS.out.cell 1
    have y2 := HS.out.cell 2
    have y3 := HS.out.cell 3
    have y4 := HS.out.cell 4
    have y5 := HS.out.cell 5
    have g0 := HS.out.free 0
    have g1 := HS.out.free 1
    have g2 := HS.out.free 2
    have g3 := HS.out.free 3
    have g4 := HS.out.free 4
    have g5 := HS.out.free 5
    go_wp2_with fail
    clear y0 y1 y2 y3 y4 y5 g0 g1 g2 g3 g4 g5 HS
    generalize (wr0.setCell ⟨X, 2, none⟩ (.int .i64 (n1 : Int))) = ws0 at *
    have HS := HS2
    clear HS2
    have hok : ¬ Rok 7 (five 0 (n1 : Int) 0 0 0) := fun x => by have := x.kind; omega
    have HNO : Hid (∀ (k' : Nat) (M : Nat → Int), Rok k' M → zs ≠ pack (kb 3 k' (fl k') (natN M))) := Lib.hid (fun k' M hM hz => by
      have h1 := (rec_kind HGR.out hM hz).1
      have := hM.kind
      omega)
    have HLY := Lib.hid (fun W => rlay_no 7 0 (n1 : Int) 0 0 0 W hok)
    clear hok
    refine (HLY.out _).mono ?_
    rintro r w7 ⟨rfl, hb⟩
    have HS := Lib.hid (HS.out.later hb)
    clear hb HLY
    go_wp2_with fail
    refine (vend_fin HS.out.rd).mono ?_
    rintro r w8 ⟨E, rfl, hE, ht⟩
    have HS := Lib.hid (HS.out.read ht)
    clear hE ht
    by_cases hE0 : E = 0
    · subst hE0
      obtain ⟨⟨r0, r1, r2, r3, r4, r5⟩, f0, f1, f2, f3, f4, f5⟩ := row_cells HS.out.res
      have HST := Lib.hid (set6 HS.out.res)
      have HBE := Lib.hid (below6 HS.out.below (Nat.le_refl w.heap.size))
      go_wp2
      refine bodyPost_ret (ret_rrec _ rfl (HST.out _ _ _ _ _ _)) rfl ?_
      exact ⟨HBE.out _ _ _ _ _ _, .inr ⟨HNO.out, rfl⟩⟩
    · have hd : (E != 0) = true := by simpa using hE0
      clear hE0
      obtain ⟨⟨r0, r1, r2, r3, r4, r5⟩, f0, f1, f2, f3, f4, f5⟩ := row_cells HS.out.res
      have HST := Lib.hid (set6 HS.out.res)
      have HBE := Lib.hid (below6 HS.out.below (Nat.le_refl w.heap.size))
      go_wp2
      refine bodyPost_ret (ret_rrec _ rfl (HST.out _ _ _ _ _ _)) rfl ?_
      exact ⟨HBE.out _ _ _ _ _ _, .inr ⟨HNO.out, rfl⟩⟩
end Rc
end Go.Proofs.YtejldeecblppjaaDoor
