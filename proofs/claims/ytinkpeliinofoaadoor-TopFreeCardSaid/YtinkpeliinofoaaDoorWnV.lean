/-
  Layer 6: the document's table: Take.
-/
import Derived.Test.YtinkpeliinofoaaDoorWnU
import Derived.Deep.CutBlock
set_option linter.unusedVariables false
set_option maxRecDepth 100000
namespace Go.Proofs.YtinkpeliinofoaaDoor.Wn
open Go.RowKit Go.Maps

theorem tw_take {α : Type} (p : α → Bool) (d : α) : ∀ (R : List α) (k : Nat), k ≤ R.length → (∀ i, i < k → p (R.getD i d) = true) → (k < R.length → p (R.getD k d) = false) → R.takeWhile p = R.take k ∧ R.dropWhile p = R.drop k
  | [], k, h, _, _ => by simp at h; subst h; exact ⟨rfl, rfl⟩
  | x :: R, 0, _, _, h2 => by
    have := h2 (by simp)
    have h3 : p x = false := by simpa using this
    simp [h3]
  | x :: R, k + 1, h, h1, h2 => by
    have h0 : p x = true := by simpa using h1 0 (by omega)
    have ih := tw_take p d R k (by simpa using h) (fun i hi => by simpa using h1 (i + 1) (by omega)) (fun hk => by simpa using h2 (by simpa using hk))
    simp [h0, ih.1, ih.2]
/-- Behind the store of the new rows. -/
theorem rt_end {w wq wD : World} {rb c : Nat} {A : Option Addr} {R R3' : List R3} {v3 : Value} (hbw : Below w.heap.size w wq) (hR : RT wq rb A c R) (hrb : rb < w.heap.size) (ho : Row wD wq.heap.size v3 R3') (hb : Below wq.heap.size wq wD) (hl : R3'.length ≤ 100000) :
    ∃ A' c', RT (wD.setCell ⟨rb, 0, none⟩ v3) rb A' c' R3' ∧ Turn (fun k => k = rb) (fun k => k = rb) w (wD.setCell ⟨rb, 0, none⟩ v3) := by
  obtain ⟨A', cap', rfl⟩ := ho.form
  have hsz := hbw.size
  have hbox : wD.heap[rb]? = some (.cells #[.slice A R.length c] 59 (0, 0)) := by rw [hb.block rb (by omega)]; exact hR.box
  have ho2 : Row (wD.setCell ⟨rb, 0, none⟩ (.slice A' R3'.length cap')) wq.heap.size (.slice A' R3'.length cap') R3' := ownsRow_setCell_below ho (a := ⟨rb, 0, none⟩) (by show rb < _; omega) _
  refine ⟨A', cap', ⟨?_, ho2.rt, fun a e => ?_, hl, fun a e => ?_⟩, ?_⟩
  · rw [heap_setCell_same _ rb 0 _ _ _ hbox]; simp
  · exact rowkind ho2 a.block (by rw [e]; rfl)
  · subst e
    rcases ho.2 with ⟨q, _⟩ | ⟨g0, c0, cur, q, _⟩
    · injection q with q; cases q
    · injection q with q; injection q with q; exact ⟨g0, 0, q⟩
  · exact ((Turn.ofBelow hbw (fun k => k = rb)).trans (Turn.ofBelow (hb.mono (Nat.le_refl _)) (fun k => k = rb))).put _ rfl
def TakeTold (rb : Nat) (R : List R3) (q : Int × List R3) (w : World) (e : Ending) (w' : World) : Prop :=
  e = .returned (.int .i64 q.1) ∧ ∃ A' c', RT w' rb A' c' q.2 ∧ Turn (fun k => k = rb) (fun k => k = rb) w w'
theorem TakeTold.same {rb : Nat} {R : List R3} {A : Option Addr} {c : Nat} {n : Int} {w w' : World} {e : Ending} (h : RT w rb A c R) (he : e = .returned (.int .i64 n)) (hb : Below w.heap.size w w') : TakeTold rb R (n, R) w e w' :=
  ⟨he, A, c, h.later hb, Turn.ofBelow hb _⟩
set_option maxHeartbeats 4000000 in
theorem r6take_any (rb : Nat) (A : Option Addr) (c : Nat) (R : List R3) (x a b : Int) (w : World) (h : RT w rb A c R) (hfew : R.length < 100000) :
    Calls Tryd.prog 18 #[.pointer (some ⟨rb, 0, none⟩), .int .i64 x, .agg #[.int .i64 a, .int .i64 b]] w (TakeTold rb R (rtk R x a b) w) := by
  obtain ⟨b0, b1, hb⟩ := win_box w a b
  have HB := Lib.hid hb
  have HR := Lib.hid h
  have HC := Lib.hid (r6right_any a b (w.alloc (.cells #[.int .i64 a, .int .i64 b] 36)))
  have hrb := h.cells.2.2
  have hsm : (tkn R x).length ≤ 100000 := Nat.le_trans (tkn_len R x) h.few
  have hbl : w.heap.size < (w.alloc (.cells #[.int .i64 a, .int .i64 b] 36)).heap.size := by rw [alloc_size]; omega
  clear hb h
  cases hr : rgt a b with
  | false =>
    have e : rtk R x a b = (1, R) := by simp [rtk, hr]
    rw [e]
    rw [hr] at HC
    clear hr e
    go_enter Tryd.func18, Tryd.ntmps18
    go_wp2_with fail
    refine HC.out.mono ?_
    rintro e w1 ⟨rfl, hb1⟩
    have HB1 := Lib.hid (HB.out.trans (hb1.mono HB.out.size))
    clear hb1
    go_wp2_with fail
    go_ret
    exact TakeTold.same HR.out rfl HB1.out
  | true =>
    have HRG := Lib.hid hr
    rw [hr] at HC
    clear hr
    have HTKN := Lib.hid (fun wx h => r6taken_any rb A c R x wx h)
    obtain ⟨L, hL⟩ : ∃ L, L = tkn R x := ⟨_, rfl⟩
    rw [← hL] at HTKN hsm
    have HL := Lib.hid hL
    clear hL
    go_enter Tryd.func18, Tryd.ntmps18
    go_wp2_with fail
    refine HC.out.mono ?_
    rintro e w1 ⟨rfl, hb1⟩
    have b10 := (hb1.cell (p := ⟨w.heap.size, 0, none⟩) hbl).trans b0
    have b11 := (hb1.cell (p := ⟨w.heap.size, 1, none⟩) hbl).trans b1
    have hl1 := Nat.lt_of_lt_of_le hbl hb1.size
    have HB1 := Lib.hid (HB.out.trans (hb1.mono HB.out.size))
    clear hb1 b0 b1
    go_wp2_with fail
    refine (HTKN.out _ (HR.out.later HB1.out)).mono ?_
    rintro e w2 ⟨A2, c2, rfl, ho, hb2⟩
    have b20 := (hb2.cell (p := ⟨w.heap.size, 0, none⟩) hl1).trans b10
    have b21 := (hb2.cell (p := ⟨w.heap.size, 1, none⟩) hl1).trans b11
    have hl2 := Nat.lt_of_lt_of_le hl1 hb2.size
    have HO := Lib.hid ho.wt
    have HB2 := Lib.hid (HB1.out.trans (hb2.mono HB1.out.size))
    have hs := ho.wt.size
    have hs1 := hs.1
    have hs2 := hs.2
    clear ho hb2 hs b10 b11
    go_wp2_with fail
    go_loopw [8] (fun iv wr => ∃ j : Nat, iv = .int .i64 (j : Int) ∧ j ≤ L.length ∧ Hid (meets (L.take j) a b = false) ∧ Below w2.heap.size w2 wr) (fun iv _ => L.length - (intOf iv).toNat)
    case atStart => exact ⟨0, rfl, Nat.zero_le _, Lib.hid rfl, Below.refl _ _⟩
    case round =>
      rename World => wr
      obtain ⟨j, rfl, hj, HI, hb⟩ := hrel
      have HBR := Lib.hid hb
      have r0 := (hb.cell (p := ⟨w.heap.size, 0, none⟩) hl2).trans b20
      have r1 := (hb.cell (p := ⟨w.heap.size, 1, none⟩) hl2).trans b21
      have hlr := Nat.lt_of_lt_of_le hl2 hb.size
      clear hb
      by_cases hlj : j < L.length
      · obtain ⟨g, off, rfl, _, hc⟩ := (HO.out.later HBR.out).cell (by omega)
        obtain ⟨k1, k2⟩ := hc j hlj
        have HTS := Lib.hid (take_snoc L j hlj)
        have hjI : (j : Int) < (L.length : Int) := by omega
        have HMEM : Hid (L.getD j (0, 0) ∈ L) := Lib.hid (by
          rw [List.getD_eq_getElem?_getD, List.getElem?_eq_getElem hlj]
          exact List.getElem_mem hlj)
        clear hc
        generalize hp : L.getD j (0, 0) = p at *
        obtain ⟨px, py⟩ := p
        clear hp
        simp only at k1 k2
        by_cases h1 : px < b
        · have d1 : decide (px < b) = true := decide_eq_true h1
          by_cases h2 : a < py
          · have d2 : decide (a < py) = true := decide_eq_true h2
            have HRR : Hid (rtk R x a b = (3, R)) := Lib.hid (by
              have : meets L a b = true := by
                unfold meets
                exact List.any_eq_true.2 ⟨(px, py), HMEM.out, by simp [h1, h2]⟩
              unfold rtk
              rw [HRG.out, ← HL.out, this]; simp)
            go_wp2_with fail
            go_big_quiet (fail)
            go_wp2_with fail
            go_ret
            rw [HRR.out]
            exact TakeTold.same HR.out rfl ((HB2.out.trans (HBR.out.mono HB2.out.size)).trans (below_drewN _ _ _))
          · have d2 : decide (a < py) = false := decide_eq_false h2
            have HRR : Hid (meets (L.take (j + 1)) a b = false) := Lib.hid (by
              have := HI.out
              unfold meets at this ⊢
              rw [HTS.out, List.any_append, this]
              simp [h2])
            go_wp2_with fail
            go_big_quiet (fail)
            go_wp2_with fail
            go_roundw
            case rel => exact ⟨j + 1, by go_num, by omega, HRR, HBR.out.trans (below_drewN _ _ _)⟩
            case measure => simp [intOf]; omega
        · have d1 : decide (px < b) = false := decide_eq_false h1
          have HRR : Hid (meets (L.take (j + 1)) a b = false) := Lib.hid (by
            have := HI.out
            unfold meets at this ⊢
            rw [HTS.out, List.any_append, this]
            simp [h1])
          go_wp2_with fail
          go_big_quiet (fail)
          go_wp2_with fail
          go_roundw
          case rel => exact ⟨j + 1, by go_num, by omega, HRR, HBR.out.trans (below_drewN _ _ _)⟩
          case measure => simp [intOf]; omega
      · obtain rfl : j = L.length := by omega
        have HM : Hid (meets L a b = false) := Lib.hid (by have := HI.out; rw [List.take_length] at this; exact this)
        have HB3 := Lib.hid (HB2.out.trans (HBR.out.mono HB2.out.size))
        by_cases hlong : 4096 ≤ L.length
        · have dl : decide ((4096 : Int) ≤ (L.length : Int)) = true := decide_eq_true (by omega)
          have HRR : Hid (rtk R x a b = (4, R)) := Lib.hid (by
            unfold rtk
            rw [HRG.out, ← HL.out, HM.out]; simp [hlong])
          go_wp2_with fail
          go_ret
          rw [HRR.out]
          exact TakeTold.same HR.out rfl HB3.out
        · have dl : decide ((4096 : Int) ≤ (L.length : Int)) = false := decide_eq_false (by omega)
          have HRR : Hid (rtk R x a b = (0, rins R x a b)) := Lib.hid (by
            unfold rtk
            rw [HRG.out, ← HL.out, HM.out]; simp [hlong])
          go_wp2_with fail
          go_loopw [9] (fun kv wz => ∃ k : Nat, kv = .int .i64 (k : Int) ∧ k ≤ R.length ∧ Hid (∀ i, i < k → pst x a (R.getD i (0, 0, 0)) = true) ∧ Below wr.heap.size wr wz) (fun kv _ => R.length - (intOf kv).toNat)
          case atStart => exact ⟨0, rfl, Nat.zero_le _, Lib.hid (fun i hi => by omega), Below.refl _ _⟩
          case round =>
            rename World => wz
            obtain ⟨k, rfl, hk, HP, hbz⟩ := hrel
            have HBZ := Lib.hid hbz
            have z0 := (hbz.cell (p := ⟨w.heap.size, 0, none⟩) hlr).trans r0
            have z1 := (hbz.cell (p := ⟨w.heap.size, 1, none⟩) hlr).trans r1
            have hRz := HR.out.later (HB3.out.trans (hbz.mono HB3.out.size))
            obtain ⟨y0, y1, y2⟩ := hRz.cells
            have HRZ := Lib.hid hRz
            clear hbz hRz
            by_cases hlk : k < R.length
            · obtain ⟨g, off, rfl, hg, hc⟩ := HRZ.out.rows.cell (by omega)
              obtain ⟨e0, e1, e2⟩ := hc k hlk
              have hkI : (k : Int) < (R.length : Int) := by omega
              have HPN := Lib.hid (fun (h : pst x a (R.getD k (0, 0, 0)) = true) => (show ∀ i, i < k + 1 → pst x a (R.getD i (0, 0, 0)) = true from fun i hi => by
                rcases (by omega : i < k ∨ i = k) with q | q
                · exact HP.out i q
                · rw [q]; exact h))
              have HPS := Lib.hid (fun (h : pst x a (R.getD k (0, 0, 0)) = false) => tw_take (pst x a) (0, 0, 0) R k hk HP.out (fun _ => h))
              clear hc
              generalize hp : R.getD k (0, 0, 0) = p at *
              obtain ⟨py, pa, pb⟩ := p
              clear hp
              simp only at e0 e1 e2
              by_cases h1 : py = x
              · by_cases h2 : pa < a
                · have HPP := Lib.hid (HPN.out (by simp [pst, h2]))
                  have d1 : (py == x) = true := by rw [beq_iff_eq]; exact h1
                  have d2 : decide (pa < a) = true := decide_eq_true h2
                  go_wp2_with fail
                  go_big_quiet (fail)
                  go_wp2_with fail
                  go_roundw
                  case rel => exact ⟨k + 1, by go_num, by omega, HPP, HBZ.out.trans (below_drewN _ _ _)⟩
                  case measure => simp [intOf]; omega
                · have HPP := Lib.hid (HPS.out (by simp [pst, h1, h2]))
                  have d1 : (py == x) = true := by rw [beq_iff_eq]; exact h1
                  have d2 : decide (pa < a) = false := decide_eq_false h2
                  go_wp2_with fail
                  go_big_quiet (fail)
                  obtain ⟨wq, hwq⟩ : ∃ wq, wq = wz.drewN nq := ⟨_, rfl⟩
                  have HBQ : Hid (Below wr.heap.size wr wq) := Lib.hid (by rw [hwq]; exact HBZ.out.trans (below_drewN _ _ _))
                  have HB4 := Lib.hid (HB3.out.trans (HBQ.out.mono HB3.out.size))
                  have HK : Hid (k ≤ R.length) := Lib.hid hk
                  rw [← hwq]
                  clear hwq y0 y1 y2 z0 z1 e0 e1 e2
                  have hBw := HB4.out
                  have hR := HR.out.later hBw
                  have x0 := (HBQ.out.cell (p := ⟨w.heap.size, 0, none⟩) hlr).trans r0
                  have x1 := (HBQ.out.cell (p := ⟨w.heap.size, 1, none⟩) hlr).trans r1
                  obtain ⟨c0, f0, hrbq⟩ := hR.cells
                  have hXq : w.heap.size < wq.heap.size := Nat.lt_of_lt_of_le hlr HBQ.out.size
                  have HRQ := Lib.hid hR
                  have HE0 := Lib.hid (Row.empty wq wq.heap.size (Nat.le_refl _))
                  have HBA : Hid (Below wq.heap.size wq (wq.alloc (.cells #[] 89))) := Lib.hid ((Below.refl _ wq).alloc (Nat.le_refl _) _)
                  have HIA := Lib.hid ((HRQ.out.rows.below HBA.out).raise (B' := (wq.alloc (.cells #[] 89)).heap.size) (by simp))
                  have hcap := hR.rows.size
                  have hcap1 := hcap.1
                  have hcap2 := hcap.2
                  have hcapk : (k : Int) ≤ (c : Int) := by omega
                  clear hBw hR hcap
                  go_upto_region 15 with (at_builtin; refine app_rows rfl _ _ rfl wq.heap.size _ [] rfl HE0.out _ _ _ (R.take k) rfl (HIA.out.take k HK.out) (by first | omega | (simp only [List.length_nil]; omega) | simp) (by simp) ?_; intro A1 c1 wB o1 b1 _ _; obtain ⟨P1, hP1⟩ : ∃ P1, P1 = [] ++ R.take k := ⟨_, rfl⟩; rw [← hP1] at o1 ⊢; have HP1 := Lib.hid (hP1.trans (List.nil_append _)); have HO1 := Lib.hid o1; have HBB := Lib.hid (HBA.out.trans b1); clear o1 b1 hP1)
                  have y0 := (HBB.out.cell (p := ⟨w.heap.size, 0, none⟩) hXq).trans x0
                  have y1 := (HBB.out.cell (p := ⟨w.heap.size, 1, none⟩) hXq).trans x1
                  have hszB := HBB.out.size
                  have HO2 := Lib.hid (HO1.out.later ((Below.refl _ wB).alloc (Nat.le_refl _) (.cells #[.int .i64 x, .int .i64 a, .int .i64 b] 89)))
                  have HI2 := Lib.hid (Rt.one wB x a b)
                  have htl : P1.length ≤ 100000 := by rw [HP1.out, List.length_take]; omega
                  clear x0 x1 HO1
                  go_upto_region 16 with (at_builtin; refine app_rows rfl _ _ rfl wq.heap.size _ _ rfl HO2.out _ _ _ [(x, a, b)] rfl HI2.out (by omega) (by rw [alloc_size]; omega) ?_; intro A2' c2' wC o2 b2 _ _; obtain ⟨P2, hP2⟩ : ∃ P2, P2 = P1 ++ [(x, a, b)] := ⟨_, rfl⟩; rw [← hP2] at o2 ⊢; have HP2 := Lib.hid hP2; have HO3 := Lib.hid o2; have HBC := Lib.hid ((HBB.out.alloc hszB _).trans b2); clear o2 b2 hP2)
                  have z0 := (HBC.out.cell (p := ⟨rb, 0, none⟩) hrbq).trans c0
                  have z1 := (HBC.out.frozen (p := ⟨rb, 0, none⟩) hrbq).trans f0
                  have HI3 := Lib.hid ((HRQ.out.rows.below HBC.out).raise HBC.out.size)
                  have htl2 : P2.length ≤ 100001 := by rw [HP2.out]; simp only [List.length_append, List.length_cons, List.length_nil]; omega
                  have hdl : (R.drop k).length ≤ 100000 := by rw [List.length_drop]; omega
                  clear y0 y1 HO2 HI2
                  go_wp2_with (at_builtin; refine app_rows rfl _ _ rfl wq.heap.size _ _ rfl HO3.out _ _ _ (R.drop k) rfl (HI3.out.drop k HK.out) (by omega) HBC.out.size ?_; intro A3 c3 wD o3 b3 _ _; obtain ⟨P3, hP3⟩ : ∃ P3, P3 = P2 ++ R.drop k := ⟨_, rfl⟩; rw [← hP3] at o3 ⊢; have HP3 := Lib.hid hP3; have HO4 := Lib.hid o3; have HBD := Lib.hid (HBC.out.trans b3); have s0 := (b3.cell (p := ⟨rb, 0, none⟩) hrbq).trans z0; have s1 := (b3.frozen (p := ⟨rb, 0, none⟩) hrbq).trans z1; clear o3 b3 hP3)
                  go_ret
                  have hins : P3 = rins R x a b := by
                    unfold rins
                    rw [HP3.out, HP2.out, HP1.out]
                    rw [HPP.out.1, HPP.out.2, List.append_assoc]; rfl
                  rw [HRR.out, ← hins]
                  refine ⟨rfl, ?_⟩
                  have hend := rt_end HB4.out HRQ.out hrb HO4.out HBD.out (by rw [HP3.out, HP2.out, HP1.out]; simp only [List.length_append, List.length_take, List.length_drop, List.length_cons, List.length_nil]; omega)
                  exact hend
              · have HPP := Lib.hid (HPN.out (by simp [pst, h1]))
                have d1 : (py == x) = false := by rw [beq_eq_false_iff_ne]; exact h1
                have d3 : (py != x) = true := by rw [bne, d1]; rfl
                have d4 : decide (py = x) = false := decide_eq_false h1
                go_wp2_with fail
                go_big_quiet (fail)
                go_wp2_with fail
                go_roundw
                case rel => exact ⟨k + 1, by go_num, by omega, HPP, HBZ.out.trans (below_drewN _ _ _)⟩
                case measure => simp [intOf]; omega
            · obtain rfl : k = R.length := by omega
              have HPP := Lib.hid (tw_take (pst x a) (0, 0, 0) R R.length hk HP.out (fun h => absurd h (Nat.lt_irrefl _)))
              have hnn : ¬ ((R.length : Int) < (R.length : Int)) := by omega
              cases A with
              | none =>
                obtain rfl : c = 0 := HR.out.rows.nil rfl
                have hn0 : R = [] := List.eq_nil_of_length_eq_zero (by have := HR.out.rows.le; omega)
                subst hn0
                go_wp2_with fail
                go_big_quiet (fail)
                obtain ⟨wq, hwq⟩ : ∃ wq, wq = wz.drewN nq := ⟨_, rfl⟩
                have HBQ : Hid (Below wr.heap.size wr wq) := Lib.hid (by rw [hwq]; exact HBZ.out.trans (below_drewN _ _ _))
                have HB4 := Lib.hid (HB3.out.trans (HBQ.out.mono HB3.out.size))
                have HK : Hid (0 ≤ ([] : List R3).length) := Lib.hid (by simp)
                rw [← hwq]
                clear hwq y0 y1 y2 z0 z1
                have hBw := HB4.out
                have hR := HR.out.later hBw
                have x0 := (HBQ.out.cell (p := ⟨w.heap.size, 0, none⟩) hlr).trans r0
                have x1 := (HBQ.out.cell (p := ⟨w.heap.size, 1, none⟩) hlr).trans r1
                obtain ⟨c0, f0, hrbq⟩ := hR.cells
                have hXq : w.heap.size < wq.heap.size := Nat.lt_of_lt_of_le hlr HBQ.out.size
                have HRQ := Lib.hid hR
                have HE0 := Lib.hid (Row.empty wq wq.heap.size (Nat.le_refl _))
                have HBA : Hid (Below wq.heap.size wq (wq.alloc (.cells #[] 89))) := Lib.hid ((Below.refl _ wq).alloc (Nat.le_refl _) _)
                have HIA := Lib.hid ((HRQ.out.rows.below HBA.out).raise (B' := (wq.alloc (.cells #[] 89)).heap.size) (by simp))
                have hcap := hR.rows.size
                have hcap1 := hcap.1
                have hcap2 := hcap.2
                have hcapk : (0 : Int) ≤ ((0 : Nat) : Int) := by omega
                clear hBw hR hcap
                go_upto_region 15 with (at_builtin; refine app_rows rfl _ _ rfl wq.heap.size _ [] rfl HE0.out _ _ _ (([] : List R3).take 0) rfl (Rt.zero (by rfl) (by first | rfl | omega) (fun _ => rfl) (by unfold maxLen; omega)) (by first | omega | (simp only [List.length_nil]; omega) | simp) (by simp) ?_; intro A1 c1 wB o1 b1 _ _; obtain ⟨P1, hP1⟩ : ∃ P1, P1 = [] ++ ([] : List R3).take 0 := ⟨_, rfl⟩; rw [← hP1] at o1 ⊢; have HP1 := Lib.hid (hP1.trans (List.nil_append _)); have HO1 := Lib.hid o1; have HBB := Lib.hid (HBA.out.trans b1); clear o1 b1 hP1)
                have y0 := (HBB.out.cell (p := ⟨w.heap.size, 0, none⟩) hXq).trans x0
                have y1 := (HBB.out.cell (p := ⟨w.heap.size, 1, none⟩) hXq).trans x1
                have hszB := HBB.out.size
                have HO2 := Lib.hid (HO1.out.later ((Below.refl _ wB).alloc (Nat.le_refl _) (.cells #[.int .i64 x, .int .i64 a, .int .i64 b] 89)))
                have HI2 := Lib.hid (Rt.one wB x a b)
                have htl : P1.length ≤ 100000 := by rw [HP1.out, List.length_take]; omega
                clear x0 x1 HO1
                go_upto_region 16 with (at_builtin; refine app_rows rfl _ _ rfl wq.heap.size _ _ rfl HO2.out _ _ _ [(x, a, b)] rfl HI2.out (by omega) (by rw [alloc_size]; omega) ?_; intro A2' c2' wC o2 b2 _ _; obtain ⟨P2, hP2⟩ : ∃ P2, P2 = P1 ++ [(x, a, b)] := ⟨_, rfl⟩; rw [← hP2] at o2 ⊢; have HP2 := Lib.hid hP2; have HO3 := Lib.hid o2; have HBC := Lib.hid ((HBB.out.alloc hszB _).trans b2); clear o2 b2 hP2)
                have z0 := (HBC.out.cell (p := ⟨rb, 0, none⟩) hrbq).trans c0
                have z1 := (HBC.out.frozen (p := ⟨rb, 0, none⟩) hrbq).trans f0
                have HI3 := Lib.hid ((HRQ.out.rows.below HBC.out).raise HBC.out.size)
                have htl2 : P2.length ≤ 100001 := by rw [HP2.out]; simp only [List.length_append, List.length_cons, List.length_nil]; omega
                have hdl : (([] : List R3).drop 0).length ≤ 100000 := by rw [List.length_drop]; omega
                clear y0 y1 HO2 HI2
                go_wp2_with (at_builtin; refine app_rows rfl _ _ rfl wq.heap.size _ _ rfl HO3.out _ _ _ (([] : List R3).drop 0) rfl (Rt.zero (by simp) (by simp) (by simp) (by simp [maxLen])) (by omega) HBC.out.size ?_; intro A3 c3 wD o3 b3 _ _; obtain ⟨P3, hP3⟩ : ∃ P3, P3 = P2 ++ ([] : List R3).drop 0 := ⟨_, rfl⟩; rw [← hP3] at o3 ⊢; have HP3 := Lib.hid hP3; have HO4 := Lib.hid o3; have HBD := Lib.hid (HBC.out.trans b3); have s0 := (b3.cell (p := ⟨rb, 0, none⟩) hrbq).trans z0; have s1 := (b3.frozen (p := ⟨rb, 0, none⟩) hrbq).trans z1; clear o3 b3 hP3)
                go_ret
                have hins : P3 = rins [] x a b := by
                  unfold rins
                  rw [HP3.out, HP2.out, HP1.out]
                  rw [HPP.out.1, HPP.out.2, List.append_assoc]; rfl
                rw [HRR.out, ← hins]
                refine ⟨rfl, ?_⟩
                have hend := rt_end HB4.out HRQ.out hrb HO4.out HBD.out (by rw [HP3.out, HP2.out, HP1.out]; simp only [List.length_append, List.length_take, List.length_drop, List.length_cons, List.length_nil]; omega)
                exact hend
              | some ad =>
                obtain ⟨g, off, rfl⟩ := HR.out.plain ad rfl
                go_wp2_with fail
                go_big_quiet (fail)
                obtain ⟨wq, hwq⟩ : ∃ wq, wq = wz.drewN nq := ⟨_, rfl⟩
                have HBQ : Hid (Below wr.heap.size wr wq) := Lib.hid (by rw [hwq]; exact HBZ.out.trans (below_drewN _ _ _))
                have HB4 := Lib.hid (HB3.out.trans (HBQ.out.mono HB3.out.size))
                have HK : Hid (R.length ≤ R.length) := Lib.hid (Nat.le_refl _)
                rw [← hwq]
                clear hwq y0 y1 y2 z0 z1
                have hBw := HB4.out
                have hR := HR.out.later hBw
                have x0 := (HBQ.out.cell (p := ⟨w.heap.size, 0, none⟩) hlr).trans r0
                have x1 := (HBQ.out.cell (p := ⟨w.heap.size, 1, none⟩) hlr).trans r1
                obtain ⟨c0, f0, hrbq⟩ := hR.cells
                have hXq : w.heap.size < wq.heap.size := Nat.lt_of_lt_of_le hlr HBQ.out.size
                have HRQ := Lib.hid hR
                have HE0 := Lib.hid (Row.empty wq wq.heap.size (Nat.le_refl _))
                have HBA : Hid (Below wq.heap.size wq (wq.alloc (.cells #[] 89))) := Lib.hid ((Below.refl _ wq).alloc (Nat.le_refl _) _)
                have HIA := Lib.hid ((HRQ.out.rows.below HBA.out).raise (B' := (wq.alloc (.cells #[] 89)).heap.size) (by simp))
                have hcap := hR.rows.size
                have hcap1 := hcap.1
                have hcap2 := hcap.2
                have hcapk : (R.length : Int) ≤ (c : Int) := by omega
                clear hBw hR hcap
                go_upto_region 15 with (at_builtin; refine app_rows rfl _ _ rfl wq.heap.size _ [] rfl HE0.out _ _ _ (R.take R.length) rfl (HIA.out.take R.length HK.out) (by first | omega | (simp only [List.length_nil]; omega) | simp) (by simp) ?_; intro A1 c1 wB o1 b1 _ _; obtain ⟨P1, hP1⟩ : ∃ P1, P1 = [] ++ R.take R.length := ⟨_, rfl⟩; rw [← hP1] at o1 ⊢; have HP1 := Lib.hid (hP1.trans (List.nil_append _)); have HO1 := Lib.hid o1; have HBB := Lib.hid (HBA.out.trans b1); clear o1 b1 hP1)
                have y0 := (HBB.out.cell (p := ⟨w.heap.size, 0, none⟩) hXq).trans x0
                have y1 := (HBB.out.cell (p := ⟨w.heap.size, 1, none⟩) hXq).trans x1
                have hszB := HBB.out.size
                have HO2 := Lib.hid (HO1.out.later ((Below.refl _ wB).alloc (Nat.le_refl _) (.cells #[.int .i64 x, .int .i64 a, .int .i64 b] 89)))
                have HI2 := Lib.hid (Rt.one wB x a b)
                have htl : P1.length ≤ 100000 := by rw [HP1.out, List.length_take]; omega
                clear x0 x1 HO1
                go_upto_region 16 with (at_builtin; refine app_rows rfl _ _ rfl wq.heap.size _ _ rfl HO2.out _ _ _ [(x, a, b)] rfl HI2.out (by omega) (by rw [alloc_size]; omega) ?_; intro A2' c2' wC o2 b2 _ _; obtain ⟨P2, hP2⟩ : ∃ P2, P2 = P1 ++ [(x, a, b)] := ⟨_, rfl⟩; rw [← hP2] at o2 ⊢; have HP2 := Lib.hid hP2; have HO3 := Lib.hid o2; have HBC := Lib.hid ((HBB.out.alloc hszB _).trans b2); clear o2 b2 hP2)
                have z0 := (HBC.out.cell (p := ⟨rb, 0, none⟩) hrbq).trans c0
                have z1 := (HBC.out.frozen (p := ⟨rb, 0, none⟩) hrbq).trans f0
                have HI3 := Lib.hid ((HRQ.out.rows.below HBC.out).raise HBC.out.size)
                have htl2 : P2.length ≤ 100001 := by rw [HP2.out]; simp only [List.length_append, List.length_cons, List.length_nil]; omega
                have hdl : (R.drop R.length).length ≤ 100000 := by rw [List.length_drop]; omega
                clear y0 y1 HO2 HI2
                go_wp2_with (at_builtin; refine app_rows rfl _ _ rfl wq.heap.size _ _ rfl HO3.out _ _ _ (R.drop R.length) rfl (HI3.out.fin (by first | (split <;> simp) | simp) (by omega) (by omega)) (by omega) HBC.out.size ?_; intro A3 c3 wD o3 b3 _ _; obtain ⟨P3, hP3⟩ : ∃ P3, P3 = P2 ++ R.drop R.length := ⟨_, rfl⟩; rw [← hP3] at o3 ⊢; have HP3 := Lib.hid hP3; have HO4 := Lib.hid o3; have HBD := Lib.hid (HBC.out.trans b3); have s0 := (b3.cell (p := ⟨rb, 0, none⟩) hrbq).trans z0; have s1 := (b3.frozen (p := ⟨rb, 0, none⟩) hrbq).trans z1; clear o3 b3 hP3)
                all_goals
                  go_ret
                  have hins : P3 = rins R x a b := by
                    unfold rins
                    rw [HP3.out, HP2.out, HP1.out]
                    rw [HPP.out.1, HPP.out.2, List.append_assoc]; rfl
                  rw [HRR.out, ← hins]
                  refine ⟨rfl, ?_⟩
                  have hend := rt_end HB4.out HRQ.out hrb HO4.out HBD.out (by rw [HP3.out, HP2.out, HP1.out]; simp only [List.length_append, List.length_take, List.length_drop, List.length_cons, List.length_nil]; omega)
                  exact hend
end Go.Proofs.YtinkpeliinofoaaDoor.Wn
