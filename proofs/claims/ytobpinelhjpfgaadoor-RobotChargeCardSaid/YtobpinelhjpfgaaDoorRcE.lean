/-
  Layer 17: a record's fields are gathered; Take and TakeAct.
-/
import Derived.Test.YtobpinelhjpfgaaDoorRcD
set_option linter.unusedVariables false
set_option maxRecDepth 100000
namespace Go.Proofs.YtobpinelhjpfgaaDoor
namespace Rc
open Go.RowKit Bp
/-- What was gathered, as numbers. -/
def iN (N : Nat → Nat) (f : Nat) : Int := ((mn f (N f) : Nat) : Int)
def numsN (N : Nat → Nat) : Array Value := #[.int .i64 (iN N 0), .int .i64 (iN N 1), .int .i64 (iN N 2), .int .i64 (iN N 3), .int .i64 (iN N 4)]
theorem numsN_set (N : Nat → Nat) (f n : Nat) (hf : f < 5) : (numsN N).setIfInBounds f (.int .i64 ((mn f n : Nat) : Int)) = numsN (upd N f n) := by
  have hcs : f = 0 ∨ f = 1 ∨ f = 2 ∨ f = 3 ∨ f = 4 := by omega
  rcases hcs with rfl | rfl | rfl | rfl | rfl <;> simp [numsN, iN, upd]
theorem numsN_get (N : Nat → Nat) (f : Nat) (hf : f < 5) : (numsN N)[f]? = some (.int .i64 (iN N f)) := by
  have hcs : f = 0 ∨ f = 1 ∨ f = 2 ∨ f = 3 ∨ f = 4 := by omega
  rcases hcs with rfl | rfl | rfl | rfl | rfl <;> rfl
theorem Tryd.resG : Tryd.f98.results = #[.cell 4 123] := by kernel_rfl
theorem Tryd.resRd : Tryd.f97.results = #[.cell 2 138] := by kernel_rfl
theorem Tryd.cellsRd : (Tryd.prog.info? 138).map (·.size) = some 1 := by kernel_rfl
theorem Rd.lower {C B b : Nat} {v : Value} {zs : List Nat} {p : Nat} {e : Int} {w : World} (h : Rd C w b v zs p e) (hB : B ≤ C) : Rd B w b v zs p e :=
  ⟨h.box, own_lower h.row hB, h.ne, Nat.le_trans hB h.base, h.at_le, h.few, h.byte⟩
theorem rcnewReader_any (v : Value) (zs : List Nat) (w : World) (h : ∀ o, BytesAt (w.alloc o) v zs) (hf : zs.length ≤ 1048576) (hz : ∀ z ∈ zs, z ≤ 255) :
    Calls Tryd.prog 97 #[v] w fun e w' => ∃ b v', e = .returned (.agg #[.pointer (some ⟨b, 0, none⟩)]) ∧ Rd w.heap.size w' b v' zs 0 0 ∧ Below w.heap.size w w' := by
  have HC := Lib.hid (newReader_any v zs (w.alloc (.cells #[.pointer none] 138)) (h _) hf hz)
  have hr := heap_alloc_new w (.cells #[.pointer none] 138)
  have hs : (w.alloc (.cells #[.pointer none] 138)).heap.size = w.heap.size + 1 := by simp
  have HB := Lib.hid (below_new w (.cells #[.pointer none] 138))
  have HR := Lib.hid hr
  have HS := Lib.hid hs
  clear h hr hs
  go_enter Tryd.func97, Tryd.ntmps97
  go_wp2_with fail
  refine HC.out.mono ?_
  rintro e w1 ⟨b, v', rfl, hR, hb⟩
  have hr1 := (hb.block w.heap.size (by rw [HS.out]; omega)).trans HR.out
  have c0 := cell_of_row w1 w.heap.size 0 _ _ _ hr1
  have f0 := frozen_of_row w1 w.heap.size 0 _ _ hr1
  have HR1 := Lib.hid (heap_setCell_same w1 w.heap.size 0 _ _ (.pointer (some ⟨b, 0, none⟩)) hr1)
  have HRD := Lib.hid (Rd.lower (hR.frame (w' := w1.setCell ⟨w.heap.size, 0, none⟩ (.pointer (some ⟨b, 0, none⟩))) (fun k hk => Below.heap_setCell _ _ _ _ (by have := (hR.lt hk).1; rw [HS.out] at this; show k ≠ w.heap.size; omega))) (B := w.heap.size) (by rw [HS.out]; omega))
  have HB1 := Lib.hid ((HB.out.trans (hb.mono HB.out.size)).setCell (p := ⟨w.heap.size, 0, none⟩) (Nat.le_refl _) (.pointer (some ⟨b, 0, none⟩)))
  clear hR hb hr1
  go_wp2
  refine bodyPost_ret (results_cell_row Tryd.resRd _ _ _ _ _ _ _ rfl HR1.out Tryd.underlying138 rfl Tryd.cellsRd) rfl ?_
  exact ⟨b, v', rfl, HRD.out, HB1.out⟩
/-- In the middle of gathering. -/
structure Gp (C b : Nat) (v : Value) (zs : List Nat) (p0 : Nat) (e0 : Int) (wa : World) (R : Nat) (g : Nat) (fs : List Nat) (k : Nat) (wr : World) : Prop where
  red : ∃ N p e, Rds zs p0 e0 (fs.take k) N p e ∧ Rd C wr b v zs p e ∧ wr.heap[R + 1]? = some (.cells (numsN N) 123 (0, 0))
  turn : Turn (fun j => RF b v j ∨ j = R + 1) (fun j => RF b v j ∨ j = R + 1) wa wr
  res : wr.heap[R]? = some (.cells (numsN fun _ => 0) 123 (0, 0))
  shp : Shp wr
  fs : ∀ j, j < fs.length → wr.cell? ⟨g, j, none⟩ = some (.int .i64 ((fs.getD j 0 : Nat) : Int))
def GathTold (C b : Nat) (v : Value) (zs : List Nat) (p0 : Nat) (e0 : Int) (fs : List Nat) (w : World) (r : Ending) (w' : World) : Prop :=
  ∃ N p e, r = .returned (.agg #[.int .i64 (iN N 0), .int .i64 (iN N 1), .int .i64 (iN N 2), .int .i64 (iN N 3), .int .i64 (iN N 4)]) ∧ Rds zs p0 e0 fs N p e ∧ RdTo C w b v zs p e w'
theorem Gp.got {C b : Nat} {v : Value} {zs : List Nat} {p0 : Nat} {e0 : Int} {wa : World} {R g : Nat} {fs : List Nat} {k : Nat} {wr w2 : World} {N : Nat → Nat} {p : Nat} {e : Int} {f n p' : Nat} {e' : Int}
    (h : Gp C b v zs p0 e0 wa R g fs k wr) (hrs : Rds zs p0 e0 (fs.take k) N p e) (hrd : Rd C wr b v zs p e) (hrow : wr.heap[R + 1]? = some (.cells (numsN N) 123 (0, 0)))
    (hk : k < fs.length) (hf : fs.getD k 0 = f) (hf5 : f < 5) (hR : ∀ j, RF b v j → j < R) (hg : g < R) (hgF : ¬ RF b v g) (h0F : ¬ RF b v 0) (h0 : 0 < R) (hRa : R + 1 < wa.heap.size)
    (hfr : Fr zs f p e n p' e') (ht : RdTo C wr b v zs p' e' w2) :
    w2.heap[R + 1]? = some (.cells (numsN N) 123 (0, 0)) ∧ Gp C b v zs p0 e0 wa R g fs (k + 1) (w2.setCell ⟨R + 1, f, none⟩ (.int .i64 ((mn f n : Nat) : Int))) := by
  have hsz : wa.heap.size ≤ wr.heap.size := h.turn.size
  have hr1 : w2.heap[R + 1]? = some (.cells (numsN N) 123 (0, 0)) := (ht.2.block (R + 1) (by omega) (fun x => by have := hR _ x; omega)).trans hrow
  refine ⟨hr1, ⟨upd N f n, p', e', ?_, ht.1.frame (fun j hj => Below.heap_setCell _ _ _ _ (by have := hR j hj; show j ≠ R + 1; omega)), ?_⟩, ?_, ?_, ?_, fun j hj => ?_⟩
  · have e1 : fs.take (k + 1) = fs.take k ++ [f] := by
      have hg : fs.getD k 0 = fs[k] := by simp [List.getD, List.getElem?_eq_getElem hk]
      rw [List.take_succ_eq_append_getElem hk, ← hg, hf]
    rw [e1]
    exact .snoc hrs hfr
  · rw [heap_setCell_same w2 (R + 1) f _ _ _ hr1, numsN_set N f n hf5]
  · refine h.turn.trans (Turn.put (F' := fun j => RF b v j ∨ j = R + 1) ?_ _ (.inr rfl))
    exact ⟨ht.2.os, ht.2.tape, ht.2.output, ht.2.size, fun j hj hn => ht.2.block j hj (fun x => hn (.inl x)), fun j hj => .inl hj⟩
  · rw [Below.heap_setCell _ _ _ _ (by show R ≠ R + 1; omega)]
    exact (ht.2.block R (by omega) (fun x => by have := hR _ x; omega)).trans h.res
  · exact h.shp.of ((Below.heap_setCell _ _ _ _ (by show 0 ≠ R + 1; omega)).trans (ht.2.block 0 (by omega) h0F))
  · rw [← h.fs j hj]
    exact World.cell?_of_block (w := wr) (a := ⟨g, j, none⟩) ((Below.heap_setCell _ _ _ _ (by show g ≠ R + 1; omega)).trans (ht.2.block g (by omega) hgF))
theorem fin_turn {C b : Nat} {v : Value} {zs : List Nat} {p0 : Nat} {e0 : Int} {w : World} {o o2 : Obj} {g : Nat} {fs : List Nat} {k : Nat} {wr : World} (h : Gp C b v zs p0 e0 ((w.alloc o).alloc o2) w.heap.size g fs k wr) : Turn (RF b v) (RF b v) w wr := by
  have h1 : Turn (RF b v) (RF b v) w ((w.alloc o).alloc o2) := (Turn.alloc w o).trans (Turn.alloc _ o2)
  refine ⟨h.turn.os.trans h1.os, h.turn.tape.trans h1.tape, h.turn.output.trans h1.output, Nat.le_trans h1.size h.turn.size, fun j hj hn => ?_, fun j hj => .inl hj⟩
  rw [h.turn.block j (Nat.lt_of_lt_of_le hj h1.size) (fun x => by
    rcases x with x | x
    · exact hn x
    · omega)]
  exact h1.block j hj hn
theorem _root_.Go.Proofs.YtobpinelhjpfgaaDoor.Turn.putNew {F F' : Nat → Prop} {w w' : World} (h : Turn F F' w w') {b o : Nat} (hb : w.heap.size ≤ b) (u : Value) : Turn F F' w (w'.setCell ⟨b, o, none⟩ u) :=
  ⟨h.os, h.tape, h.output, by rw [World.size_setCell]; exact h.size, fun k hk hn => (Below.heap_setCell _ _ _ _ (by show k ≠ b; omega)).trans (h.block k hk hn), h.foot⟩
def zNum : Array Value := #[.int .i64 0, .int .i64 0, .int .i64 0, .int .i64 0, .int .i64 0]
set_option maxHeartbeats 2000000 in
theorem gather_any {B C : Nat} (fs : List Nat) (b : Nat) (v : Value) (zs : List Nat) (p0 : Nat) (e0 : Int) (w : World) (lv : Value) (h : Rd C w b v zs p0 e0) (hS : Shp w) (hC : 0 < C) (hf : Fs B w lv fs) (hB : ∀ k, RF b v k → k < B) (h5 : ∀ f, f ∈ fs → f < 5) (hl5 : fs.length ≤ 5) :
    Calls Tryd.prog 98 #[lv, .func (.func 99) #[.agg #[.pointer (some ⟨b, 0, none⟩)]] #[]] w (GathTold C b v zs p0 e0 fs w) := by
  have hA1 := heap_alloc2_old w (.cells zNum 123) (.cells zNum 123)
  have hA2 := heap_alloc2_new w (.cells zNum 123) (.cells zNum 123)
  have hsz : ((w.alloc (.cells zNum 123)).alloc (.cells zNum 123)).heap.size = w.heap.size + 2 := by simp
  have hb2 : Below w.heap.size w ((w.alloc (.cells zNum 123)).alloc (.cells zNum 123)) := (below_new w _).alloc (by simp) _
  have hst : ∀ g, (∀ j, j < fs.length → w.cell? ⟨g, j, none⟩ = some (.int .i64 ((fs.getD j 0 : Nat) : Int))) → (0 < fs.length → g < w.heap.size) → Gp C b v zs p0 e0 ((w.alloc (.cells zNum 123)).alloc (.cells zNum 123)) w.heap.size g fs 0 ((w.alloc (.cells zNum 123)).alloc (.cells zNum 123)) := fun g hc hg =>
    ⟨⟨fun _ => 0, p0, e0, .nil, h.frame (fun k hk => hb2.block k (h.lt hk).2), hA2⟩, Turn.refl _ _, hA1, hS.later hb2, fun j hj => (hb2.cell (p := ⟨g, j, none⟩) (hg (by omega))).trans (hc j hj)⟩
  have hlt0 : 0 < w.heap.size := hS.pos
  have hbC := h.base
  have hwlt := (h.lt (k := b) (.inl rfl)).2
  have hR : ∀ j, RF b v j → j < w.heap.size := fun j hj => (h.lt hj).2
  have h0F : ¬ RF b v 0 := fun x => by have := (h.lt x).1; omega
  have HT := fun g k wr (hg : Gp C b v zs p0 e0 ((w.alloc (.cells zNum 123)).alloc (.cells zNum 123)) w.heap.size g fs k wr) => fin_turn hg
  rcases hf with ⟨rfl, rfl⟩ | ⟨g, rfl, hBg, hg, hc⟩
  · have HST := Lib.hid (hst 0 (fun j hj => by simp at hj) (fun h => by simp at h))
    have HTT := Lib.hid (HT 0 0 _ HST.out)
    have HRD := Lib.hid (h.frame (w' := (w.alloc (.cells zNum 123)).alloc (.cells zNum 123)) (fun k hk => hb2.block k (h.lt hk).2))
    have d0 := cell_of_row _ (w.heap.size + 1) 0 _ _ _ hA2
    have d1 := cell_of_row _ (w.heap.size + 1) 1 _ _ _ hA2
    have d2 := cell_of_row _ (w.heap.size + 1) 2 _ _ _ hA2
    have d3 := cell_of_row _ (w.heap.size + 1) 3 _ _ _ hA2
    have d4 := cell_of_row _ (w.heap.size + 1) 4 _ _ _ hA2
    clear h hS hB h5 hst hR h0F HT hlt0 hbC hwlt hb2 hsz HST hA1 hA2 d0 d1 d2 d3 d4
    unfold zNum at HTT HRD
    go_enter Tryd.func98, Tryd.ntmps98
    go_wp2
    go_loopw [10] (fun iv wr => iv = .int .i64 0 ∧ (w.alloc (.cells #[.int .i64 0, .int .i64 0, .int .i64 0, .int .i64 0, .int .i64 0] 123)).alloc (.cells #[.int .i64 0, .int .i64 0, .int .i64 0, .int .i64 0, .int .i64 0] 123) = wr) (fun iv _ => 0)
    case atStart => exact ⟨rfl, rfl⟩
    case round =>
      obtain ⟨rfl, rfl⟩ := hrel
      go_wp2
      refine bodyPost_ret (results_cell_row Tryd.resG _ _ _ _ _ _ _ rfl (heap_alloc2_old w _ _) Tryd.underlying123 rfl Tryd.cellsN) rfl ?_
      exact ⟨fun _ => 0, p0, e0, rfl, .nil, HRD.out, HTT.out⟩
  · have HST := Lib.hid (hst g hc (fun _ => hg))
    have hgF : ¬ RF b v g := fun x => by have := hB g x; omega
    have HGO : Hid (∀ k wr w2 N p e f n p' e', Gp C b v zs p0 e0 ((w.alloc (.cells zNum 123)).alloc (.cells zNum 123)) w.heap.size g fs k wr → Rds zs p0 e0 (fs.take k) N p e → Rd C wr b v zs p e → wr.heap[w.heap.size + 1]? = some (.cells (numsN N) 123 (0, 0)) →
        k < fs.length → fs.getD k 0 = f → f < 5 → Fr zs f p e n p' e' → RdTo C wr b v zs p' e' w2 →
        w2.heap[w.heap.size + 1]? = some (.cells (numsN N) 123 (0, 0)) ∧ Gp C b v zs p0 e0 ((w.alloc (.cells zNum 123)).alloc (.cells zNum 123)) w.heap.size g fs (k + 1) (w2.setCell ⟨w.heap.size + 1, f, none⟩ (.int .i64 ((mn f n : Nat) : Int)))) :=
      Lib.hid (fun k wr w2 N p e f n p' e' h1 h2 h3 h4 h6 h7 h8 h9 h10 => h1.got h2 h3 h4 h6 h7 h8 hR hg hgF h0F hlt0 (by omega) h9 h10)
    have HTT := Lib.hid (HT g)
    have HMM : Hid (∀ k, k < fs.length → fs.getD k 0 < 5) := Lib.hid (fun k hk => h5 _ ((fs_mem fs _).2 ⟨k, hk, rfl⟩))
    obtain ⟨L, hL⟩ : ∃ L, fs.length = L := ⟨_, rfl⟩
    rw [hL] at hl5 ⊢
    have HL := Lib.hid hL
    have HRC : Hid (∀ k, RF b v k → k < w.heap.size) := Lib.hid hR
    clear h hS hB h5 hst hR h0F HT hlt0 hbC hwlt hb2 hsz hA1 hA2 hgF hBg hg hc hL
    obtain ⟨wa, hwa⟩ : ∃ wa, wa = (w.alloc (.cells zNum 123)).alloc (.cells zNum 123) := ⟨_, rfl⟩
    rw [← hwa] at HST HGO HTT
    have HWA := Lib.hid hwa
    unfold zNum at hwa
    go_enter Tryd.func98, Tryd.ntmps98
    go_wp2
    rw [← hwa]
    clear hwa
    go_loopw [10] (fun iv wr => ∃ k : Nat, k ≤ L ∧ iv = .int .i64 (k : Int) ∧ Gp C b v zs p0 e0 wa w.heap.size g fs k wr) (fun iv _ => L - (intOf iv).toNat)
    case atStart => exact ⟨0, Nat.zero_le _, rfl, HST.out⟩
    case round =>
      obtain ⟨k, hk, rfl, hs⟩ := hrel
      have HS1 := Lib.hid hs
      obtain ⟨N, p, e, hrs, hrd, hrow⟩ := hs.red
      by_cases hlt : k < L
      · have hkl : k < fs.length := by rw [HL.out]; exact hlt
        have hck := hs.fs k hkl
        have hm5 := HMM.out k hkl
        obtain ⟨f, hfe⟩ : ∃ f, fs.getD k 0 = f := ⟨_, rfl⟩
        rw [hfe] at hck hm5
        have HC := Lib.hid (rfield_any hrd hs.shp f hm5)
        have HNX := Lib.hid (fun w2 n p' e' => HGO.out k wr w2 N p e f n p' e' hs hrs hrd hrow hkl hfe hm5)
        have HM5 := Lib.hid hm5
        clear hs hrs hrd hrow hfe hkl
        go_wp2_with fail
        refine HC.out.mono ?_
        rintro r w2 ⟨n, p', e', rfl, hfr, ht⟩
        obtain ⟨hr2, hg2⟩ := HNX.out w2 n p' e' hfr ht
        have HG2 := Lib.hid hg2
        have c1 := (cell_of_row w2 (w.heap.size + 1) f _ _ _ hr2).trans (numsN_get N f HM5.out)
        have f1 := frozen_of_row w2 (w.heap.size + 1) f _ _ hr2
        generalize iN N f = z at c1
        generalize mn f n = y at *
        clear hr2 hg2 hfr ht HC HNX
        go_wp2
        go_roundw
        case rel => exact ⟨k + 1, by omega, by go_num, HG2.out⟩
        case measure => simp [intOf]; omega
      · obtain rfl : k = L := by omega
        have hrs2 := hrs
        rw [List.take_of_length_le (by rw [HL.out]; exact Nat.le_refl _)] at hrs2
        have HTU := Lib.hid (HTT.out _ _ hs)
        have hres := hs.res
        have HRS := Lib.hid hrs2
        have HLT : Hid (∀ j, RF b v j → j < w.heap.size) := HRC
        have d0 := (cell_of_row _ (w.heap.size + 1) 0 _ _ _ hrow).trans (numsN_get N 0 (by decide))
        have d1 := (cell_of_row _ (w.heap.size + 1) 1 _ _ _ hrow).trans (numsN_get N 1 (by decide))
        have d2 := (cell_of_row _ (w.heap.size + 1) 2 _ _ _ hrow).trans (numsN_get N 2 (by decide))
        have d3 := (cell_of_row _ (w.heap.size + 1) 3 _ _ _ hrow).trans (numsN_get N 3 (by decide))
        have d4 := (cell_of_row _ (w.heap.size + 1) 4 _ _ _ hrow).trans (numsN_get N 4 (by decide))
        have e0' := (cell_of_row _ w.heap.size 0 _ _ _ hres).trans (numsN_get _ 0 (by decide))
        have e1' := (cell_of_row _ w.heap.size 1 _ _ _ hres).trans (numsN_get _ 1 (by decide))
        have e2' := (cell_of_row _ w.heap.size 2 _ _ _ hres).trans (numsN_get _ 2 (by decide))
        have e3' := (cell_of_row _ w.heap.size 3 _ _ _ hres).trans (numsN_get _ 3 (by decide))
        have e4' := (cell_of_row _ w.heap.size 4 _ _ _ hres).trans (numsN_get _ 4 (by decide))
        have g0 := frozen_of_row _ w.heap.size 0 _ _ hres
        have g1 := frozen_of_row _ w.heap.size 1 _ _ hres
        have g2 := frozen_of_row _ w.heap.size 2 _ _ hres
        have g3 := frozen_of_row _ w.heap.size 3 _ _ hres
        have g4 := frozen_of_row _ w.heap.size 4 _ _ hres
        have HSET := Lib.hid (set5 hres)
        have HFR : Hid (∀ W, (∀ j, j ≠ w.heap.size → W.heap[j]? = wr.heap[j]?) → Rd C W b v zs p e) := Lib.hid (fun W hW => hrd.frame (fun j hj => hW j (by have := HLT.out j hj; omega)))
        clear hs hrs hrs2 hrd hrow hres
        generalize hn0 : iN N 0 = n0 at *
        have HN0 := Lib.hid hn0
        clear hn0
        generalize hn1 : iN N 1 = n1 at *
        have HN1 := Lib.hid hn1
        clear hn1
        generalize hn2 : iN N 2 = n2 at *
        have HN2 := Lib.hid hn2
        clear hn2
        generalize hn3 : iN N 3 = n3 at *
        have HN3 := Lib.hid hn3
        clear hn3
        generalize hn4 : iN N 4 = n4 at *
        have HN4 := Lib.hid hn4
        clear hn4
        go_wp2
        refine bodyPost_ret (results_cell_row Tryd.resG _ _ _ _ _ _ _ rfl (HSET.out _ _ _ _ _) Tryd.underlying123 rfl Tryd.cellsN) rfl ?_
        refine ⟨N, p, e, by rw [HN0.out, HN1.out, HN2.out, HN3.out, HN4.out], HRS.out, HFR.out _ (fun j hj => ?_), ?_⟩
        · rw [Below.heap_setCell _ _ _ _ hj, Below.heap_setCell _ _ _ _ hj, Below.heap_setCell _ _ _ _ hj, Below.heap_setCell _ _ _ _ hj, Below.heap_setCell _ _ _ _ hj]
        · exact ((((HTU.out.putNew (Nat.le_refl _) _).putNew (Nat.le_refl _) _).putNew (Nat.le_refl _) _).putNew (Nat.le_refl _) _).putNew (Nat.le_refl _) _
end Rc
end Go.Proofs.YtobpinelhjpfgaaDoor
