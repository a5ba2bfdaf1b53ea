/-
  HeapOut: its walk.
-/
import Derived.Test.YtbpcigcfdkamaaaHpN
set_option linter.unusedVariables false
namespace Go.Proofs.Ytbpcigcfdkamaaa
open Go.RowKit E Go.Maps


set_option maxRecDepth 100000 in
set_option maxHeartbeats 16000000 in
theorem heapOut_walk (A : Option Addr) (len cap : Nat) (f : Nat → Bool × Int × Int) (w : World) (h : Acts w A len cap f) (hwf : ∀ j, j < len → wfI (f j).2.1 ∧ wfI (f j).2.2) :
    Calls Try.prog 5 #[.slice A len cap] w fun e w' => e = .returned (.bool true) ∧ Below w.heap.size w w' := by
  have HA := Lib.hid h
  have HWF := Lib.hid hwf
  have hmax := h.max
  have hle := h.le
  unfold maxLen at hmax
  clear h hwf
  have hmk := run_makeMap_item
  go_enter Try.func5, Try.ntmps5
  go_wp2_with fail
  refine (shown_any _).mono ?_
  rintro e w1 ⟨rfl, hb1⟩
  have HB1 := Lib.hid hb1
  clear hb1
  go_wp2_with fail
  refine (new_any _).mono ?_
  rintro e w2 ⟨rfl, h2, hb2, hlt2⟩
  have HB2 := Lib.hid (HB1.out.trans (hb2.mono HB1.out.size))
  obtain ⟨b, hb⟩ : ∃ b, b = w1.heap.size := ⟨_, rfl⟩
  rw [← hb] at h2 hlt2 ⊢
  have HLO : Hid (w.heap.size ≤ b) := Lib.hid (by rw [hb]; exact HB1.out.size)
  have HST := Lib.hid ((Hm.start h2 HLO.out HB2.out).more (.cells #[.int .i64 0, .int .i64 0] 32))
  have HIT : Hid (((w2.alloc (.map #[] 0)).alloc (.cells #[.int .i64 0, .int .i64 0] 32)).heap[(w2.alloc (.map #[] 0)).heap.size]? = some (.cells #[.int .i64 0, .int .i64 0] 32 (0, 0))) := Lib.hid (heap_alloc_new _ _)
  clear h2 hb2 hb
  go_wp2_with (go_at_call 12; refine (few4_any A len cap f _ ?_).mono ?_; (exact ⟨HA.out.le, HA.out.max, HA.out.nil, fun hn => by
    obtain ⟨g, off, e, hg, hc⟩ := HA.out.cell hn
    have hbb : Below w.heap.size w ((w2.alloc (.map #[] 0)).alloc (.cells #[.int .i64 0, .int .i64 0] 32)) := HST.out.below
    exact ⟨g, off, e, Nat.lt_of_lt_of_le hg hbb.size, fun j hj => ⟨(hbb.cell (p := ⟨g, off + j * 3, none⟩) hg).trans (hc j hj).1, (hbb.cell (p := ⟨g, off + j * 3 + 1, none⟩) hg).trans (hc j hj).2.1, (hbb.cell (p := ⟨g, off + j * 3 + 2, none⟩) hg).trans (hc j hj).2.2⟩⟩⟩); rintro e w4 ⟨rfl, m, hm1, hm2, rfl⟩)
  clear hmk
  have hlb0 : (w2.alloc (.map #[] 0)).heap.size = w2.heap.size + 1 := by simp
  rw [hlb0] at HIT
  obtain ⟨lb, hlb⟩ : ∃ lb, lb = w2.heap.size + 1 := ⟨_, rfl⟩
  have HLB : Hid (w.heap.size ≤ lb) := Lib.hid (by have := HB2.out.size; omega)
  rw [← hlb] at HIT
  try rw [← hlb]
  obtain ⟨mb, hmb⟩ : ∃ mb, mb = w2.heap.size := ⟨_, rfl⟩
  rw [← hmb] at HST
  try rw [← hmb]
  clear hmb HB1 HB2 hlt2 HLO hlb0 hlb
  go_loopw [6, 8, 23] (fun nv pv iv wr => ∃ (k : Nat) (M : List E) (n N : Nat) (pp : Bool) (u v : Int), k ≤ m ∧ iv = .int .i64 (k : Int) ∧ nv = .int .i64 (M.length : Int) ∧ pv = .bool pp ∧ n ≤ k ∧ N ≤ k ∧ M.length ≤ k ∧ (∀ e, e ∈ M → wfI e.k ∧ wfI e.v) ∧ (pp = true → ∀ e, e ∈ M → u ≤ e.k) ∧ wr.heap[lb]? = some (.cells #[.int .i64 u, .int .i64 v] 32 (0, 0)) ∧ Hm w b mb M n N (fun x y => cntM M x y) wr) (fun _ _ iv _ => m - (intOf iv).toNat)
  case atStart => exact ⟨0, [], 0, 0, false, 0, 0, Nat.zero_le _, rfl, rfl, rfl, Nat.le_refl _, Nat.le_refl _, Nat.le_refl _, fun e h => absurd h (by simp), fun h => (by cases h), HIT.out, HST.out⟩
  case round =>
    rename World => wr
    obtain ⟨k, M, n, N, pp, u, v, hk, rfl, rfl, rfl, hn, hN, hM, hMW, hpp, hlk, hB⟩ := hrel
    by_cases hlt : k < m
    · obtain ⟨g, off, rfl, hg, hc⟩ := HA.out.cell (by omega)
      obtain ⟨c0, c1, c2⟩ := hc k (by omega)
      have d0 := (hB.below.cell (p := ⟨g, off + k * 3, none⟩) hg).trans c0
      have d1 := (hB.below.cell (p := ⟨g, off + k * 3 + 1, none⟩) hg).trans c1
      have d2 := (hB.below.cell (p := ⟨g, off + k * 3 + 2, none⟩) hg).trans c2
      have HBM := Lib.hid (fun o => hB.more o)
      have HXW := Lib.hid (HWF.out k (by omega))
      have HMW := Lib.hid hMW
      have HPP := Lib.hid hpp
      have HLK : Hid (∀ o : Obj, (wr.alloc o).heap[lb]? = some (.cells #[.int .i64 u, .int .i64 v] 32 (0, 0))) := Lib.hid (fun o => by rw [((Below.refl wr.heap.size wr).alloc (Nat.le_refl _) o).block lb (lt_of_heap hlk)]; exact hlk)
      have hn3 : n < 1000000 := by omega
      have hsz := hB.below.size
      have hgw : g < wr.heap.size := by omega
      clear hc c0 c1 c2 hB HST hMW HIT hpp hlk
      generalize (f k).1 = out at *
      generalize (f k).2.1 = x at *
      generalize (f k).2.2 = y at *
      cases out
      · go_wp2_with fail
        refine (push_m x y (HBM.out _) hn3).mono ?_
        rintro e w5 ⟨rfl, hb5, hk5⟩
        have hq := hk5 _ _ (heap_alloc_new wr _) (notHp_cells (by decide) (by decide) (by decide))
        have hq2 := hk5 _ _ (HLK.out _) (notHp_cells (by decide) (by decide) (by decide))
        obtain ⟨W0, hW0⟩ : ∃ W0, W0 = w5.drew := ⟨_, rfl⟩
        have HQ2 := Lib.hid hq2
        have hb6 := hb5.drew
        obtain ⟨D, hD, hDg⟩ := hb6.map
        have HDG := Lib.hid hDg
        have hcr := cntM_range M x y
        obtain ⟨W2, st, r1, r2, rg, r3, r4⟩ := bump_runs hD (by omega) HXW.out.1 HXW.out.2 (hDg x y HXW.out.1 HXW.out.2)
        obtain ⟨W3, s1, s2, s3⟩ := r4 (cntM M x y + 1) (WalkArith.wf_i64 (by omega))
        have hmbs : mb < w5.heap.size := hD.lt
        have q0 : w5.cell? ⟨wr.heap.size, 1, none⟩ = some (.int .i64 x) := by rw [cell_of_row w5 wr.heap.size 1 _ _ _ hq]; rfl
        have q1 : w5.cell? ⟨wr.heap.size, 2, none⟩ = some (.int .i64 y) := by rw [cell_of_row w5 wr.heap.size 2 _ _ _ hq]; rfl
        clear hDg r4
        have s1' : (Instr.entryStore 43 (.map (some mb)) (.int .i64 (st : Int)) (.int .i64 (cntM M x y + 1))).run Try.prog W2 = .ok () W3 := s1
        have HK := Lib.hid (hb6.upd (g' := fun z u => cntM (ins ⟨x, y, n⟩ M) z u) hD HDG.out HXW.out.1 HXW.out.2 s2 s3 (fun z u => cntM_ins ⟨x, y, n⟩ M z u))
        have hne : lb ≠ mb := fun e => by
          obtain ⟨es, cl, hx, _⟩ := hD
          rw [← e] at hx
          have := hx.symm.trans hq2
          simp at this
        have HL3 : Hid (W3.heap[lb]? = some (.cells #[.int .i64 u, .int .i64 v] 32 (0, 0))) := Lib.hid (by rw [s3.block lb (lt_of_heap hq2) (fun e => hne (by injection e))]; exact hq2)
        have HMW2 : Hid (∀ e, e ∈ ins ⟨x, y, n⟩ M → wfI e.k ∧ wfI e.v) := Lib.hid (fun e he => by
          rcases (mem_ins _ _ _).1 he with rfl | he
          · exact HXW.out
          · exact HMW.out e he)
        have HNL := Lib.hid (ins_length ⟨x, y, n⟩ M)
        clear hb5 hk5 hb6 hD s2 s3 s1 rg hq hq2 hW0 HQ2 HDG
        go_upto_region 14 with (fail)
        go_cut [38] (fun _ wz => Hm w b mb (ins ⟨x, y, n⟩ M) (n + 1) (N + 1) (fun z u => cntM (ins ⟨x, y, n⟩ M) z u) wz ∧ wz.heap[lb]? = some (.cells #[.int .i64 u, .int .i64 v] 32 (0, 0)))
        case first =>
          go_region
          all_goals (go_wp2_with fail; go_meet; exact ⟨HK.out, HL3.out⟩)
        case rest =>
          obtain ⟨hkc, hlc⟩ := hcut
          have HKC := Lib.hid hkc
          have HLC := Lib.hid hlc
          clear HK HL3 r1 r2 r3 s1' hkc hlc q0 q1
          go_wp2_with fail
          go_roundw
          case rel => exact ⟨k + 1, ins ⟨x, y, n⟩ M, n + 1, N + 1, false, u, v, by omega, by go_num, by rw [HNL.out]; go_num, rfl, by omega, by omega, by rw [HNL.out]; omega, HMW2.out, fun h => (by cases h), HLC.out, HKC.out⟩
          case measure => simp [intOf]; omega
      · by_cases hM0 : M = []
        · subst hM0
          go_wp2_with fail
          refine (pop_m (HBM.out _)).mono ?_
          rintro e w5 ⟨rfl, hb5, hk5⟩
          have hq2 := hk5 _ _ (HLK.out _) (notHp_cells (by decide) (by decide) (by decide))
          have HK := Lib.hid (hb5.more (.cells #[.int .i64 0, .int .i64 0] 32))
          have HL3 : Hid ((w5.alloc (.cells #[.int .i64 0, .int .i64 0] 32)).heap[lb]? = some (.cells #[.int .i64 u, .int .i64 v] 32 (0, 0))) := Lib.hid (by rw [((Below.refl w5.heap.size w5).alloc (Nat.le_refl _) _).block lb (lt_of_heap hq2)]; exact hq2)
          clear hb5 hk5 HBM hq2 d0 d1 d2
          simp only [Item?]
          go_wp2_with fail
          go_roundw
          case rel => exact ⟨k + 1, [], n, N, pp, u, v, by omega, by go_num, rfl, rfl, by omega, by omega, by simp, HMW.out, HPP.out, HL3.out, HK.out⟩
          case measure => simp [intOf]; omega
        · obtain ⟨m0, M0, rfl⟩ : ∃ m0 M0, M = m0 :: M0 := by
            cases M with
            | nil => exact absurd rfl hM0
            | cons a l => exact ⟨a, l, rfl⟩
          have HSO := Lib.hid (HBM.out (.map #[] 0)).sorted
          go_wp2_with fail
          refine (pop_m (HBM.out _)).mono ?_
          rintro e w5 ⟨rfl, hb5, hk5⟩
          rw [List.tail_cons] at hb5
          have hq2 := hk5 _ _ (HLK.out _) (notHp_cells (by decide) (by decide) (by decide))
          have HB5 := Lib.hid (hb5.more (.cells #[.int .i64 m0.k, .int .i64 m0.v] 32))
          obtain ⟨D, hD, hDg⟩ := HB5.out.map
          have HDG := Lib.hid hDg
          have HL5 : Hid ((w5.alloc (.cells #[.int .i64 m0.k, .int .i64 m0.v] 32)).heap[lb]? = some (.cells #[.int .i64 u, .int .i64 v] 32 (0, 0))) := Lib.hid (by rw [((Below.refl w5.heap.size w5).alloc (Nat.le_refl _) _).block lb (lt_of_heap hq2)]; exact hq2)
          have HI5 := Lib.hid (heap_alloc_new w5 (.cells #[.int .i64 m0.k, .int .i64 m0.v] 32))
          have ql0 := (two_read hq2).1
          have hlw : lb < w5.heap.size := lt_of_heap hq2
          obtain ⟨i0, i1, _, _⟩ := two_read HI5.out
          have hwf0 := HMW.out m0 (by simp)
          obtain ⟨c1, hc1⟩ : ∃ c1, c1 = cntM (m0 :: M0) m0.k m0.v := ⟨_, rfl⟩
          have hca := cntM_head m0 M0
          have hcb := (cntM_range (m0 :: M0) m0.k m0.v).2
          have hcd : 1 ≤ c1 ∧ c1 ≤ 300 := by rw [hc1]; omega
          have hcd1 := hcd.1
          have hcd2 := hcd.2
          have hc1p : decide (c1 < 1) = false := by simp; omega
          have HC1 := Lib.hid hc1
          have hml : M0.length + 1 ≤ k := by simpa using hM
          have hd1 : decide (0 < (M0.length : Int) + 1) = true := decide_eq_true (by omega)
          have HU : Hid (pp = true → u ≤ m0.k) := Lib.hid (fun h => HPP.out h m0 (by simp))
          have hibl : w5.heap.size ≠ lb := by have := lt_of_heap hq2; omega
          clear hb5 hk5 HBM d0 d1 d2 hM0 hDg hc1 hca hcb hcd hM hq2
          simp only [Item?]
          cases pp
          · go_wp2_with (first
              | (at_lookup; refine wpList_lookup_own_int _ rfl _ _ 43 rfl 32 3 .i64 law_item Try.underlying43 Try.underlying3 (zeroInt _) mb N D rfl hD _ (KL m0.k m0.v) rfl (keyOf_item hwf0.1 hwf0.2) ?_; intro c hc hwc; (obtain rfl : c1 = c := by have := (HDG.out m0.k m0.v hwf0.1 hwf0.2).symm.trans hc; rw [HC1.out]; simpa using this); clear hc hwc)
              | (at_range; refine wpList_range_own _ rfl _ 43 rfl 32 3 law_item Try.underlying43 _ mb N D rfl hD ?_; intro w0 hrg0 hg0 hs0)
              | fail)
            try go_frame
            try rw [show w5.heap.size + 1 = (w5.alloc (.cells #[.int .i64 m0.k, .int .i64 m0.v] 32)).heap.size by simp]
            generalize w5.alloc (.cells #[.int .i64 m0.k, .int .i64 m0.v] 32) = W5 at *
            have HB0 := Lib.hid (Below.grown (Below.refl W5.heap.size W5) hg0 (Nat.le_refl _) (fun j hj => by cases hj))
            have HRG := Lib.hid hrg0
            have HLE := Lib.hid (fun (x y : Int) (h : 0 < cntM (m0 :: M0) x y) => cntM_least HSO.out h)
            have hil : w5.heap.size < W5.heap.size := lt_of_heap HI5.out
            clear hrg0 hg0 hs0 hD
            go_loopw [14] (fun _ wx => ∃ (left : Lit → Bool) (cnt : Nat), wx.ranges Try.prog 32 (plainElem Try.prog 3) mb W5.heap.size N D left cnt ∧ Below W5.heap.size W5 wx) (fun _ wx => wx.rangeLeft mb W5.heap.size)
            case atStart => exact ⟨_, _, HRG.out, HB0.out⟩
            case round =>
              rename World => wx
              obtain ⟨left, cnt, hrg, hbx⟩ := hrel
              have HBX := Lib.hid hbx
              clear hbx HB0 HRG
              go_wp2_with (first
                | (at_next; refine wpList_next_ranges _ rfl _ rfl 32 law_item (plainElem Try.prog 3) (fun p : Int × Int => .agg #[.int .i64 p.1, .int .i64 p.2]) (Value.int .i64) (fun key kl hkey => by obtain ⟨p, e, _⟩ := keyOf_item_inv hkey; exact ⟨p, e⟩) (fun v y hv => by obtain ⟨c, rfl, _⟩ := plainElem_int_inv Try.underlying3 hv; exact ⟨c, rfl⟩) mb W5.heap.size N _ _ _ rfl hrg ?_ ?_)
                | go_in)
              · intro _ hl0
                have hKX := HB5.out.later HBX.out
                have hlx : wx.heap[lb]? = some (.cells #[.int .i64 u, .int .i64 v] 32 (0, 0)) := by rw [HBX.out.block lb (lt_of_heap HL5.out)]; exact HL5.out
                have hix : wx.heap[w5.heap.size]? = some (.cells #[.int .i64 m0.k, .int .i64 m0.v] 32 (0, 0)) := by rw [HBX.out.block _ hil]; exact HI5.out
                have hKD := hKX.drew
                obtain ⟨D2, hD2, hDg2⟩ := hKD.map
                obtain ⟨W2, st, r1, r2, rg, r3, r4⟩ := bump_runs hD2 (by omega) hwf0.1 hwf0.2 (hDg2 m0.k m0.v hwf0.1 hwf0.2)
                rw [← HC1.out] at r1 r2 r3
                obtain ⟨W3, s1, s2, s3⟩ := r4 (c1 - 1) (WalkArith.wf_i64 (by omega))
                have s1' : (Instr.entryStore 43 (.map (some mb)) (.int .i64 (st : Int)) (.int .i64 (c1 - 1))).run Try.prog W2 = .ok () W3 := s1
                have hk3 : Hm w b mb M0 n (N + 1) (fun z u => cntM M0 z u) W3 := hKD.upd (g' := fun z u => cntM M0 z u) hD2 hDg2 hwf0.1 hwf0.2 s2 s3 (fun z u => by rw [HC1.out]; exact cntM_tail m0 M0 z u)
                have hne : ∀ (k : Nat) (cs : Array Value), wx.heap[k]? = some (.cells cs 32 (0, 0)) → W3.heap[k]? = some (.cells cs 32 (0, 0)) := fun k cs hk0 => by
                  rw [s3.block k (lt_of_heap hk0) (fun e => ?_)]
                  · exact hk0
                  · obtain ⟨es, cl, hx, _⟩ := hD2
                    injection e with e
                    rw [← e] at hx
                    have := hx.symm.trans hk0
                    simp at this
                have HK := Lib.hid hk3
                have HLX := Lib.hid (hne _ _ hlx)
                have HIX := Lib.hid (hne _ _ hix)
                have p0 := (two_read hix).1
                have p1 := (two_read hix).2.1
                clear hKX hKD hD2 hDg2 s2 s3 s1 rg r4 hk3 hne hlx hix hrg hl0 i0 i1 ql0
                go_upto_region 28 with (fail)
                go_cut [87] (fun _ wz => Hm w b mb M0 n (N + 1) (fun z u => cntM M0 z u) wz ∧ wz.heap[lb]? = some (.cells #[.int .i64 u, .int .i64 v] 32 (0, 0)) ∧ wz.heap[w5.heap.size]? = some (.cells #[.int .i64 m0.k, .int .i64 m0.v] 32 (0, 0)))
                case first =>
                  go_region
                  all_goals (go_wp2_with fail; go_meet; exact ⟨HK.out, HLX.out, HIX.out⟩)
                case rest =>
                  obtain ⟨hkc, hlc, hic⟩ := hcut
                  have HKC := Lib.hid hkc
                  have HLC := Lib.hid hlc
                  obtain ⟨a0, a1, _, _⟩ := two_read hic
                  obtain ⟨b0, b1, b2, b3⟩ := two_read hlc
                  clear HK HLX HIX r1 r2 r3 s1' hkc hlc hic p0 p1
                  go_wp2_with fail
                  go_roundw
                  case rel => exact ⟨k + 1, M0, n, N + 1, true, m0.k, m0.v, by omega, by go_num, by first | rfl | go_num | simp, rfl, by omega, by omega, by omega, fun e he => HMW.out e (List.mem_cons_of_mem _ he), fun _ => sorted_head HSO.out, item_put HLC.out, HKC.out.put2 HLC.out HLB.out⟩
                  case measure => simp [intOf]; omega
              · intro px py c kl y1 y2 wy cnt1 hkey hlk2 hR hat hrg1 hlt1 hg1 hs1 hen
                have hcc : c = cntM (m0 :: M0) px py := by
                  obtain ⟨p2, e1, x1, x2, rfl⟩ := keyOf_item_inv hkey
                  simp at e1
                  obtain ⟨c2, e2, e3, _⟩ := plainElem_int_inv Try.underlying3 hR
                  injection e3 with e3 e4
                  subst e3
                  have := (hat (.lit (.int .i64 0))).symm.trans (HDG.out p2.1 p2.2 x1 x2)
                  simp at this e2
                  rw [e1.1, e1.2, e2]
                  exact this
                have HBY := Lib.hid (Below.grown HBX.out hg1 HBX.out.size (fun j hj => by cases hj; exact Nat.le_refl _))
                have y0 : wy.cell? ⟨w5.heap.size, 0, none⟩ = some (.int .i64 m0.k) := (HBY.out.cell (p := ⟨w5.heap.size, 0, none⟩) hil).trans i0
                have HRY := Lib.hid hrg1
                have hly : w5.heap.size < wy.heap.size := Nat.lt_of_lt_of_le hil HBY.out.size
                by_cases hp : 0 < c
                · have hp1 : decide (0 < c) = true := by simpa using hp
                  have hge : decide (px < m0.k) = false := by have := HLE.out px py (by rw [← hcc]; exact hp); simp; omega
                  clear hat hg1 hs1 hlk2 hkey hR hcc
                  go_wp2_with fail
                  go_roundw
                  case rel => exact ⟨_, cnt1, HRY.out.alloc _, HBY.out.alloc HBY.out.size _⟩
                  case measure => rw [(HRY.out.alloc _).left_eq, hrg.left_eq]; exact hlt1
                · have hp1 : decide (0 < c) = false := by simpa using hp
                  clear hat hg1 hs1 hlk2 hkey hR hcc
                  go_wp2_with fail
                  go_roundw
                  case rel => exact ⟨_, cnt1, HRY.out.alloc _, HBY.out.alloc HBY.out.size _⟩
                  case measure => rw [(HRY.out.alloc _).left_eq, hrg.left_eq]; exact hlt1
          · have hu := HU.out rfl
            have hdu : decide (m0.k < u) = false := decide_eq_false (by omega)
            clear hu
            go_wp2_with (first
              | (at_lookup; refine wpList_lookup_own_int _ rfl _ _ 43 rfl 32 3 .i64 law_item Try.underlying43 Try.underlying3 (zeroInt _) mb N D rfl hD _ (KL m0.k m0.v) rfl (keyOf_item hwf0.1 hwf0.2) ?_; intro c hc hwc; (obtain rfl : c1 = c := by have := (HDG.out m0.k m0.v hwf0.1 hwf0.2).symm.trans hc; rw [HC1.out]; simpa using this); clear hc hwc)
              | (at_range; refine wpList_range_own _ rfl _ 43 rfl 32 3 law_item Try.underlying43 _ mb N D rfl hD ?_; intro w0 hrg0 hg0 hs0)
              | fail)
            try go_frame
            try rw [show w5.heap.size + 1 = (w5.alloc (.cells #[.int .i64 m0.k, .int .i64 m0.v] 32)).heap.size by simp]
            generalize w5.alloc (.cells #[.int .i64 m0.k, .int .i64 m0.v] 32) = W5 at *
            have HB0 := Lib.hid (Below.grown (Below.refl W5.heap.size W5) hg0 (Nat.le_refl _) (fun j hj => by cases hj))
            have HRG := Lib.hid hrg0
            have HLE := Lib.hid (fun (x y : Int) (h : 0 < cntM (m0 :: M0) x y) => cntM_least HSO.out h)
            have hil : w5.heap.size < W5.heap.size := lt_of_heap HI5.out
            clear hrg0 hg0 hs0 hD
            go_loopw [14] (fun _ wx => ∃ (left : Lit → Bool) (cnt : Nat), wx.ranges Try.prog 32 (plainElem Try.prog 3) mb W5.heap.size N D left cnt ∧ Below W5.heap.size W5 wx) (fun _ wx => wx.rangeLeft mb W5.heap.size)
            case atStart => exact ⟨_, _, HRG.out, HB0.out⟩
            case round =>
              rename World => wx
              obtain ⟨left, cnt, hrg, hbx⟩ := hrel
              have HBX := Lib.hid hbx
              clear hbx HB0 HRG
              go_wp2_with (first
                | (at_next; refine wpList_next_ranges _ rfl _ rfl 32 law_item (plainElem Try.prog 3) (fun p : Int × Int => .agg #[.int .i64 p.1, .int .i64 p.2]) (Value.int .i64) (fun key kl hkey => by obtain ⟨p, e, _⟩ := keyOf_item_inv hkey; exact ⟨p, e⟩) (fun v y hv => by obtain ⟨c, rfl, _⟩ := plainElem_int_inv Try.underlying3 hv; exact ⟨c, rfl⟩) mb W5.heap.size N _ _ _ rfl hrg ?_ ?_)
                | go_in)
              · intro _ hl0
                have hKX := HB5.out.later HBX.out
                have hlx : wx.heap[lb]? = some (.cells #[.int .i64 u, .int .i64 v] 32 (0, 0)) := by rw [HBX.out.block lb (lt_of_heap HL5.out)]; exact HL5.out
                have hix : wx.heap[w5.heap.size]? = some (.cells #[.int .i64 m0.k, .int .i64 m0.v] 32 (0, 0)) := by rw [HBX.out.block _ hil]; exact HI5.out
                have hKD := hKX.drew
                obtain ⟨D2, hD2, hDg2⟩ := hKD.map
                obtain ⟨W2, st, r1, r2, rg, r3, r4⟩ := bump_runs hD2 (by omega) hwf0.1 hwf0.2 (hDg2 m0.k m0.v hwf0.1 hwf0.2)
                rw [← HC1.out] at r1 r2 r3
                obtain ⟨W3, s1, s2, s3⟩ := r4 (c1 - 1) (WalkArith.wf_i64 (by omega))
                have s1' : (Instr.entryStore 43 (.map (some mb)) (.int .i64 (st : Int)) (.int .i64 (c1 - 1))).run Try.prog W2 = .ok () W3 := s1
                have hk3 : Hm w b mb M0 n (N + 1) (fun z u => cntM M0 z u) W3 := hKD.upd (g' := fun z u => cntM M0 z u) hD2 hDg2 hwf0.1 hwf0.2 s2 s3 (fun z u => by rw [HC1.out]; exact cntM_tail m0 M0 z u)
                have hne : ∀ (k : Nat) (cs : Array Value), wx.heap[k]? = some (.cells cs 32 (0, 0)) → W3.heap[k]? = some (.cells cs 32 (0, 0)) := fun k cs hk0 => by
                  rw [s3.block k (lt_of_heap hk0) (fun e => ?_)]
                  · exact hk0
                  · obtain ⟨es, cl, hx, _⟩ := hD2
                    injection e with e
                    rw [← e] at hx
                    have := hx.symm.trans hk0
                    simp at this
                have HK := Lib.hid hk3
                have HLX := Lib.hid (hne _ _ hlx)
                have HIX := Lib.hid (hne _ _ hix)
                have p0 := (two_read hix).1
                have p1 := (two_read hix).2.1
                clear hKX hKD hD2 hDg2 s2 s3 s1 rg r4 hk3 hne hlx hix hrg hl0 i0 i1 ql0
                go_upto_region 28 with (fail)
                go_cut [87] (fun _ wz => Hm w b mb M0 n (N + 1) (fun z u => cntM M0 z u) wz ∧ wz.heap[lb]? = some (.cells #[.int .i64 u, .int .i64 v] 32 (0, 0)) ∧ wz.heap[w5.heap.size]? = some (.cells #[.int .i64 m0.k, .int .i64 m0.v] 32 (0, 0)))
                case first =>
                  go_region
                  all_goals (go_wp2_with fail; go_meet; exact ⟨HK.out, HLX.out, HIX.out⟩)
                case rest =>
                  obtain ⟨hkc, hlc, hic⟩ := hcut
                  have HKC := Lib.hid hkc
                  have HLC := Lib.hid hlc
                  obtain ⟨a0, a1, _, _⟩ := two_read hic
                  obtain ⟨b0, b1, b2, b3⟩ := two_read hlc
                  clear HK HLX HIX r1 r2 r3 s1' hkc hlc hic p0 p1
                  go_wp2_with fail
                  go_roundw
                  case rel => exact ⟨k + 1, M0, n, N + 1, true, m0.k, m0.v, by omega, by go_num, by first | rfl | go_num | simp, rfl, by omega, by omega, by omega, fun e he => HMW.out e (List.mem_cons_of_mem _ he), fun _ => sorted_head HSO.out, item_put HLC.out, HKC.out.put2 HLC.out HLB.out⟩
                  case measure => simp [intOf]; omega
              · intro px py c kl y1 y2 wy cnt1 hkey hlk2 hR hat hrg1 hlt1 hg1 hs1 hen
                have hcc : c = cntM (m0 :: M0) px py := by
                  obtain ⟨p2, e1, x1, x2, rfl⟩ := keyOf_item_inv hkey
                  simp at e1
                  obtain ⟨c2, e2, e3, _⟩ := plainElem_int_inv Try.underlying3 hR
                  injection e3 with e3 e4
                  subst e3
                  have := (hat (.lit (.int .i64 0))).symm.trans (HDG.out p2.1 p2.2 x1 x2)
                  simp at this e2
                  rw [e1.1, e1.2, e2]
                  exact this
                have HBY := Lib.hid (Below.grown HBX.out hg1 HBX.out.size (fun j hj => by cases hj; exact Nat.le_refl _))
                have y0 : wy.cell? ⟨w5.heap.size, 0, none⟩ = some (.int .i64 m0.k) := (HBY.out.cell (p := ⟨w5.heap.size, 0, none⟩) hil).trans i0
                have HRY := Lib.hid hrg1
                have hly : w5.heap.size < wy.heap.size := Nat.lt_of_lt_of_le hil HBY.out.size
                by_cases hp : 0 < c
                · have hp1 : decide (0 < c) = true := by simpa using hp
                  have hge : decide (px < m0.k) = false := by have := HLE.out px py (by rw [← hcc]; exact hp); simp; omega
                  clear hat hg1 hs1 hlk2 hkey hR hcc
                  go_wp2_with fail
                  go_roundw
                  case rel => exact ⟨_, cnt1, HRY.out.alloc _, HBY.out.alloc HBY.out.size _⟩
                  case measure => rw [(HRY.out.alloc _).left_eq, hrg.left_eq]; exact hlt1
                · have hp1 : decide (0 < c) = false := by simpa using hp
                  clear hat hg1 hs1 hlk2 hkey hR hcc
                  go_wp2_with fail
                  go_roundw
                  case rel => exact ⟨_, cnt1, HRY.out.alloc _, HBY.out.alloc HBY.out.size _⟩
                  case measure => rw [(HRY.out.alloc _).left_eq, hrg.left_eq]; exact hlt1
    · obtain rfl : m = k := by omega
      have HBE := Lib.hid hB.below
      have HBB := Lib.hid hB
      clear hB HST
      go_wp2_with fail
      refine (len_m HBB.out).mono ?_
      rintro e w9 ⟨rfl, rfl⟩
      go_wp2_with fail
      go_ret
      exact ⟨rfl, HBE.out⟩

end Go.Proofs.Ytbpcigcfdkamaaa
