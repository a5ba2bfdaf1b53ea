/-
  Layer 17: the document's TakeAct.
-/
import Derived.Test.YtobpinelhjpfgaaDoorRcU
import Derived.Test.YtobpinelhjpfgaaDoorCkThr
import Derived.Test.YtobpinelhjpfgaaDoorRecordActsW
set_option linter.unusedVariables false
set_option maxRecDepth 100000
namespace Go.Proofs.YtobpinelhjpfgaaDoor
namespace Rc
open Go.RowKit Bp Ck
theorem Tryd.resRa : Tryd.f65.results = #[.cell 2 33, .tmp 3] := by kernel_rfl
theorem ret_ract {w : World} {R : Nat} {x0 x1 x2 : Value} {t : Nat} (tmps : Array Value) (ht : tmps.getD 2 undef = .pointer (some ⟨R, 0, none⟩)) (h : w.heap[R]? = some (.cells #[x0, x1, x2] t (0, 0))) :
    (results Tryd.f65 tmps).run Tryd.prog w = .ok (.tuple #[.agg #[x0, x1, x2], tmps.getD 3 undef]) w := by
  rw [results_cell_tmp Tryd.resRa, ht]
  simp [asAddr, Result.andThen, run_loadVar_row w R t 33 _ _ _ h Tryd.underlying33 rfl Tryd.cellsA]
/-- What the document's reader gives, put into an act: if it is right, and its bytes are those, it is the act. -/
theorem act_got {zs : List Nat} {k k' p1 p2 p3 c q : Nat} {e1 e2 e3 : Int} {c' q' : Int} (hg : Gr zs 2 0 0 k p1 e1) (h1 : Gr zs 8 p1 e1 c p2 e2) (h2 : Gr zs 6 p2 e2 q p3 e3) (hM : Aok k' c' q') (hz : zs = pack (kb 2 k' [3, 2] (natN (five 0 0 q' c' 0)))) :
    k = k' ∧ (c : Int) = c' ∧ (q : Int) = q' := by
  have f1 : Fr zs 3 p1 e1 c p2 e2 := Gr.fr (f := 3) (by decide) h1
  have f2 : Fr zs 2 p2 e2 q p3 e3 := Gr.fr (f := 2) (by decide) h2
  have hr : Rds zs p1 e1 [3, 2] (upd (upd (fun _ => 0) 3 c) 2 q) p3 e3 := show Rds zs p1 e1 ([] ++ [3] ++ [2]) _ p3 e3 from Rds.snoc (Rds.snoc Rds.nil f1) f2
  obtain ⟨_, e, g1, g2⟩ := act_read hg hr hM hz
  have a1 : iN (upd (upd (fun _ => 0) 3 c) 2 q) 3 = (c : Int) := by simp [iN, upd, mn]
  have a2 : iN (upd (upd (fun _ => 0) 3 c) 2 q) 2 = (q : Int) := by simp [iN, upd, mn]
  exact ⟨e, a1 ▸ g1, a2 ▸ g2⟩
set_option maxHeartbeats 4000000 in
theorem rtakeAct_any {B : Nat} {w : World} {A : Option Addr} {n cap : Nat} {zs : List Nat} (h : By B w A n cap zs) (hB : B ≤ w.heap.size) (hn : n ≤ 1048576) :
    Calls Tryd.prog 65 #[.slice A n cap] w (TakeATold w zs) := by
  have hb1 := below_new w (.cells #[.int .u8 0, .int .i64 0, .int .i64 0] 33)
  have hr1 := heap_alloc_new w (.cells #[.int .u8 0, .int .i64 0, .int .i64 0] 33)
  have hs1 : (w.alloc (.cells #[.int .u8 0, .int .i64 0, .int .i64 0] 33)).heap.size = w.heap.size + 1 := by simp
  have hln := h.len
  have HO := Lib.hid (refOf_by (h.below (hb1.mono hB)) (Nat.le_trans hB hb1.size) (by omega))
  have HY := Lib.hid (h.mono hB)
  have HB1 := Lib.hid hb1
  have HR1 := Lib.hid hr1
  have HS1 := Lib.hid hs1
  clear h hB hn hb1 hr1 hs1 hln
  go_enter Tryd.func65, Tryd.ntmps65
  go_wp2_with fail
  refine HO.out.mono ?_
  rintro e w1 ⟨b, v, rfl, hR, hb⟩
  have hr2 := (hb.block w.heap.size (by rw [HS1.out]; omega)).trans HR1.out
  have hbw := HB1.out.trans (hb.mono HB1.out.size)
  have hap : ∀ j, RF b v j → w.heap.size + 1 ≤ j ∧ j < w1.heap.size := fun j hj => by have := hR.lt hj; rw [HS1.out] at this; exact this
  have HRV := Lib.hid hR
  have HR2 := Lib.hid hr2
  have HBW := Lib.hid hbw
  have HAP := Lib.hid hap
  clear hR hb hr2 hbw hap HO HR1
  go_wp2_with fail
  refine (vget_gr HRV.out 2 2 rfl (by decide)).mono ?_
  rintro r w2 ⟨k, p1, e1, rfl, hgr, ht⟩
  have hk4 := hgr.lt
  have HGR := Lib.hid hgr
  have hst : ∀ cs, Sx w 33 #[.int .u8 0, .int .i64 0, .int .i64 0] (w.alloc (.cells #[.int .u8 0, .int .i64 0, .int .i64 0] 33)).heap.size b v w2.heap.size zs p1 e1 cs (w2.alloc (.cells cs 33)) := fun cs =>
    ⟨ht.1.frame (fun j hj => Below.heap_alloc _ _ _ (ht.1.lt hj).2), (Below.heap_alloc _ _ _ (by have := ht.2.size; have := lt_of_heap HR2.out; omega)).trans ((ht.2.block _ (lt_of_heap HR2.out) (fun y => by have := (HAP.out _ y).1; omega)).trans HR2.out), heap_alloc_new w2 _,
      (HBW.out.trans (ht.2.below w.heap.size (Nat.le_of_lt (lt_of_heap HR2.out)) (fun y hy => by have := (HAP.out _ hy).1; omega))).alloc (by have := ht.2.size; have := lt_of_heap HR2.out; omega) _,
      fun j hj => ⟨(HAP.out j hj).1, (ht.1.lt hj).2⟩⟩
  have hw : IntKind.u8.wrap (k : Int) = (k : Int) := IntWalk.u8_in _ ⟨by omega, by simp at hk4; omega⟩
  have HS := Lib.hid (hst #[.int .u8 (k : Int), .int .i64 0, .int .i64 0])
  clear hst ht hgr HRV HR2 HBW HAP HB1
  generalize (w.alloc (.cells #[.int .u8 0, .int .i64 0, .int .i64 0] 33)).heap.size = C at *
  go_upto_region 3 with fail
  generalize (w2.alloc (.cells #[.int .u8 (k : Int), .int .i64 0, .int .i64 0] 33)) = w3 at *
  generalize w2.heap.size = X at *
  clear hw HS1
  go_wp2_with fail
  refine (vget_gr HS.out.rd 8 8 rfl (by decide)).mono ?_
  rintro r w4 ⟨c, p2, e2, rfl, hgr, ht⟩
  have hlt := hgr.lt
  have HG1 := Lib.hid hgr
  have HS := Lib.hid (HS.out.read ht)
  have hw1 : IntKind.i64.wrap (c : Int) = (c : Int) := IntWalk.i64_in _ ⟨by omega, by simp at hlt; omega⟩
  have HS2 := Lib.hid (HS.out.put 1 (.int .i64 (c : Int)) #[.int .u8 (k : Int), .int .i64 (c : Int), .int .i64 0] (by rfl))
  have y0 := HS.out.cell 0
  have y1 := HS.out.cell 1
  have y2 := HS.out.cell 2
  have g1 := HS.out.free 1
  clear ht hgr hlt
  go_wp2_with fail
  generalize (w4.setCell ⟨X, 1, none⟩ (.int .i64 (c : Int))) = w5 at *
  clear y0 y1 y2 g1 HS hw1
  refine (vget_gr HS2.out.rd 6 6 rfl (by decide)).mono ?_
  rintro r w6 ⟨q, p3, e3, rfl, hgr, ht⟩
  have hlt := hgr.lt
  have HG2 := Lib.hid hgr
  have HS := Lib.hid (HS2.out.read ht)
  have hw1 : IntKind.i64.wrap (q : Int) = (q : Int) := IntWalk.i64_in _ ⟨by omega, by simp at hlt; omega⟩
  have HS3 := Lib.hid (HS.out.put 2 (.int .i64 (q : Int)) #[.int .u8 (k : Int), .int .i64 (c : Int), .int .i64 (q : Int)] (by rfl))
  have y0 := HS.out.cell 0
  have y1 := HS.out.cell 1
  have y2 := HS.out.cell 2
  have g2 := HS.out.free 2
  clear ht hgr hlt HS2
  go_wp2_with fail
  generalize (w6.setCell ⟨X, 2, none⟩ (.int .i64 (q : Int))) = w7 at *
  clear y0 y1 y2 g2 HS hw1
  by_cases hok : Aok k c q
  · have HOK := Lib.hid hok
    refine (rlayAct_ok k c q w7 hok).mono ?_
    rintro r w8 ⟨A7, c7, rfl, hy7, hb⟩
    have q1 := conv_own hy7
    have HS := Lib.hid (HS3.out.later hb)
    have q2 := (HY.out.below HS.out.below).conv
    rw [act_len] at q1 hy7 ⊢
    clear hb hok hy7 HS3
    by_cases heq : pack (kb 2 k [3, 2] (natN (five 0 0 (q : Int) (c : Int) 0))) = zs
    · have HZS := Lib.hid heq
      rw [heq] at q1
      generalize strOf zs = S at *
      have y0 := HS.out.cell 0
      have y1 := HS.out.cell 1
      have y2 := HS.out.cell 2
      obtain ⟨⟨r0, r1, r2⟩, f0, f1, f2⟩ := row_cells3 HS.out.res
      have HST := Lib.hid (set3a HS.out.res)
      have HBE := Lib.hid (below3a HS.out.below (Nat.le_refl w.heap.size))
      clear heq
      go_wp2
      refine bodyPost_ret (ret_ract _ rfl (HST.out _ _ _)) rfl ?_
      exact ⟨HBE.out _ _ _, .inl ⟨k, c, q, HOK.out, HZS.out.symm, rfl⟩⟩
    · have HNO : Hid (∀ (k' : Nat) (c' q' : Int), Aok k' c' q' → zs ≠ pack (kb 2 k' [3, 2] (natN (five 0 0 q' c' 0)))) := Lib.hid (fun k' c' q' hM hz => by
        obtain ⟨rfl, rfl, rfl⟩ := act_got HGR.out HG1.out HG2.out hM hz
        exact heq hz.symm)
      have hne := strOf_ne _ _ (pack_byte (kb 2 k [3, 2] (natN (five 0 0 (q : Int) (c : Int) 0)))) HY.out.byte heq
      clear heq
      generalize strOf (pack (kb 2 k [3, 2] (natN (five 0 0 (q : Int) (c : Int) 0)))) = S1 at *
      generalize strOf zs = S2 at *
      obtain ⟨⟨r0, r1, r2⟩, f0, f1, f2⟩ := row_cells3 HS.out.res
      have HST := Lib.hid (set3a HS.out.res)
      have HBE := Lib.hid (below3a HS.out.below (Nat.le_refl w.heap.size))
      go_wp2
      refine bodyPost_ret (ret_ract _ rfl (HST.out _ _ _)) rfl ?_
      exact ⟨HBE.out _ _ _, .inr ⟨HNO.out, rfl⟩⟩
  · have HNO : Hid (∀ (k' : Nat) (c' q' : Int), Aok k' c' q' → zs ≠ pack (kb 2 k' [3, 2] (natN (five 0 0 q' c' 0)))) := Lib.hid (fun k' c' q' hM hz => by
      obtain ⟨rfl, rfl, rfl⟩ := act_got HGR.out HG1.out HG2.out hM hz
      exact hok hM)
    refine (rlayAct_no k c q w7 hok).mono ?_
    rintro r w8 ⟨rfl, hb⟩
    have HS := Lib.hid (HS3.out.later hb)
    clear hb hok HS3
    obtain ⟨⟨r0, r1, r2⟩, f0, f1, f2⟩ := row_cells3 HS.out.res
    have HST := Lib.hid (set3a HS.out.res)
    have HBE := Lib.hid (below3a HS.out.below (Nat.le_refl w.heap.size))
    go_wp2
    refine bodyPost_ret (ret_ract _ rfl (HST.out _ _ _)) rfl ?_
    exact ⟨HBE.out _ _ _, .inr ⟨HNO.out, rfl⟩⟩
end Rc
end Go.Proofs.YtobpinelhjpfgaaDoor
