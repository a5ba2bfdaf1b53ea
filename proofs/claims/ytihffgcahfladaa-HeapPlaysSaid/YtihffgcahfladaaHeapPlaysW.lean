/-
  HeapPlays: whatever is pushed and taken out, all answers are the document's.
-/
import Derived.Test.YtihffgcahfladaaHpB
set_option linter.unusedVariables false
namespace Go.Proofs.Ytihffgcahfladaa
open Go.RowKit E

set_option maxHeartbeats 4000000 in
theorem heapPlays_walk (A : Option Addr) (len cap : Nat) (f : Nat → Bool × Int × Int) (w : World) (h : Acts w A len cap f) (_ : True) :
    Calls Try.prog 3 #[.slice A len cap] w fun e w' => e = .returned (.bool true) ∧ Below w.heap.size w w' := by
  have HA := Lib.hid h
  have hmax := h.max
  have hle := h.le
  unfold maxLen at hmax
  clear h
  go_enter Try.func3, Try.ntmps3
  go_wp2_with fail
  refine (shown_any _).mono ?_
  rintro e w1 ⟨rfl, hb1⟩
  have HB1 := Lib.hid hb1
  clear hb1
  go_wp2_with fail
  refine (new_any _).mono ?_
  rintro e w2 ⟨rfl, h2, hb2, hlt2⟩
  have HB2 := Lib.hid (HB1.out.trans (hb2.mono HB1.out.size))
  have HH2 := Lib.hid h2
  obtain ⟨b, hb⟩ : ∃ b, b = w1.heap.size := ⟨_, rfl⟩
  rw [← hb] at HH2 hlt2 ⊢
  have HLO : Hid (w.heap.size ≤ b) := Lib.hid (by rw [hb]; exact HB1.out.size)
  clear h2 hb2 hb
  go_wp2_with (go_at_call 12; refine (few4_any A len cap f _ ?_).mono ?_; (exact ⟨HA.out.le, HA.out.max, HA.out.nil, fun hn => by
    obtain ⟨g, off, e, hg, hc⟩ := HA.out.cell hn
    have hbb : Below w.heap.size w (w2.alloc (.cells #[.slice none 0 0] 29)) := HB2.out.alloc HB2.out.size _
    exact ⟨g, off, e, Nat.lt_of_lt_of_le hg hbb.size, fun j hj => ⟨(hbb.cell (p := ⟨g, off + j * 3, none⟩) hg).trans (hc j hj).1, (hbb.cell (p := ⟨g, off + j * 3 + 1, none⟩) hg).trans (hc j hj).2.1, (hbb.cell (p := ⟨g, off + j * 3 + 2, none⟩) hg).trans (hc j hj).2.2⟩⟩⟩); rintro e w4 ⟨rfl, m, hm1, hm2, rfl⟩)
  obtain ⟨rb, hrb⟩ : ∃ rb, rb = w2.heap.size := ⟨_, rfl⟩
  have hst : Both w b rb [] 0 (its []) (w2.alloc (.cells #[.slice none 0 0] 29)) := by
    rw [hrb]; exact ⟨⟨_, HH2.out.more _⟩, ⟨_, _, _, RAt.start w2⟩, ⟨HLO.out, HB2.out.size⟩, HB2.out.alloc HB2.out.size _⟩
  rw [← hrb]
  have HST := Lib.hid hst
  clear hst hrb HH2 HB1 HB2 hlt2 HLO
  go_loopw [25] (fun iv wr => ∃ (k : Nat) (M : List E) (n : Nat), k ≤ m ∧ iv = .int .i64 (k : Int) ∧ n ≤ k ∧ M.length ≤ k ∧ Both w b rb M n (its M) wr) (fun iv _ => m - (intOf iv).toNat)
  case atStart => exact ⟨0, [], 0, Nat.zero_le _, rfl, Nat.le_refl _, Nat.le_refl _, HST.out⟩
  case round =>
    obtain ⟨k, M, n, hk, rfl, hn, hM, hB⟩ := hrel
    by_cases hlt : k < m
    · obtain ⟨g, off, rfl, hg, hc⟩ := HA.out.cell (by omega)
      obtain ⟨c0, c1, c2⟩ := hc k (by omega)
      have d0 := (hB.below.cell (p := ⟨g, off + k * 3, none⟩) hg).trans c0
      have d1 := (hB.below.cell (p := ⟨g, off + k * 3 + 1, none⟩) hg).trans c1
      have d2 := (hB.below.cell (p := ⟨g, off + k * 3 + 2, none⟩) hg).trans c2
      have HBM := Lib.hid (fun o => hB.more o)
      have hn3 : n < 1000000 := by omega
      have hsz := hB.below.size
      have hgw : g < wr.heap.size := by omega
      clear hc c0 c1 c2 hB HST
      generalize (f k).1 = out at *
      generalize (f k).2.1 = x at *
      generalize (f k).2.2 = y at *
      cases out
      · go_wp2_with fail
        refine (push_both x y (HBM.out _) hn3).mono ?_
        rintro e w5 ⟨rfl, hb5, hk5⟩
        obtain ⟨q0, q1, q2⟩ : w5.cell? ⟨wr.heap.size, 0, none⟩ = some (.bool false) ∧ w5.cell? ⟨wr.heap.size, 1, none⟩ = some (.int .i64 x) ∧ w5.cell? ⟨wr.heap.size, 2, none⟩ = some (.int .i64 y) := by
          have q := hk5 _ _ (heap_alloc_new wr _) (notHp_cells (by decide) (by decide) (by decide))
          exact ⟨by rw [cell_of_row w5 wr.heap.size 0 _ _ _ q]; rfl, by rw [cell_of_row w5 wr.heap.size 1 _ _ _ q]; rfl, by rw [cell_of_row w5 wr.heap.size 2 _ _ _ q]; rfl⟩
        have HB5 := Lib.hid hb5
        clear hb5 hk5 HBM d0 d1 d2
        go_wp2_with fail
        refine (rpush_both x y HB5.out (by rw [its_length]; omega)).mono ?_
        rintro e w6 ⟨rfl, hb6, hk6⟩
        have HBP : Hid (Both w b rb (ins ⟨x, y, n⟩ M) (n + 1) (its (ins ⟨x, y, n⟩ M)) w6) := Lib.hid (by rw [its_ins]; exact hb6)
        have HNW : Hid (n + 1 ≤ k + 1 ∧ (ins ⟨x, y, n⟩ M).length ≤ k + 1) := Lib.hid ⟨by omega, by rw [ins_length]; omega⟩
        clear hb6 hk6 HB5 q0 q1 q2 hn hM hn3
        generalize ins ⟨x, y, n⟩ M = MM at HBP HNW
        generalize n + 1 = nn at HBP HNW
        have HBT := Lib.hid HBP.out
        go_wp2_with fail
        refine (peek_both HBT.out).mono ?_
        rintro e w7 ⟨rfl, hb7, hk7⟩
        rw [Item?_eq]
        obtain ⟨p, hp⟩ : ∃ p, p = nx1 MM := ⟨_, rfl⟩
        obtain ⟨t, ht⟩ : ∃ t : Bool, t = decide (0 < MM.length) := ⟨_, rfl⟩
        have HPE : Hid (It? (its MM) = .tuple #[.agg #[.int .i64 p.1, .int .i64 p.2], .bool t]) := Lib.hid (by rw [It?_its, Item?_eq, hp, ht])
        rw [← hp, ← ht]
        generalize p.1 = px at HPE ⊢
        generalize p.2 = py at HPE ⊢
        have HB7 := Lib.hid hb7
        clear hb7 hk7 hp ht HBP HBT
        go_wp2_with fail
        refine (rpeek_both (HB7.out.more (.cells #[.int .i64 px, .int .i64 py] 32))).mono ?_
        rintro e w8 ⟨rfl, hb8, hk8⟩
        rw [HPE.out]
        have q8 : w8.heap[w7.heap.size]? = some (.cells #[.int .i64 px, .int .i64 py] 32 (0, 0)) := hk8 _ _ (heap_alloc_new w7 _) (notHp_cells (by decide) (by decide) (by decide))
        obtain ⟨x0, x1, _, _⟩ := two_read q8
        have hl8 := lt_of_heap q8
        have hb9 := hb8.more (.cells #[.int .i64 px, .int .i64 py] 32)
        have HB9 := Lib.hid hb9
        obtain ⟨v9, hv9⟩ := hb9.heap
        obtain ⟨A9, m9, c9, hr9⟩ := hb9.ref
        have r9 : (w8.alloc (.cells #[.int .i64 px, .int .i64 py] 32)).cell? ⟨rb, 0, none⟩ = some (.slice A9 m9 c9) := by rw [cell_of_row _ rb 0 _ _ _ hr9.box]; rfl
        have HLE : Hid (m9 = MM.length) := Lib.hid (by rw [← hr9.len, its_length])
        have hrb8 : rb < (w8.alloc (.cells #[.int .i64 px, .int .i64 py] 32)).heap.size := lt_of_heap hr9.box
        clear hb8 hk8 q8 hb9 hv9 hr9 HB7 HPE
        have hLM : ((MM.length : Int) != (m9 : Int)) = false := by simp [HLE.out]
        cases t
        all_goals
          go_wp2
          go_quiet ((go_at_call 19; exact Calls.quiet_of_same ((len_both (HB9.out.later (below_drewN _ _ _))).mono (fun e w' ⟨h, k⟩ => ⟨h, k.symm⟩))))
          have HBZ := Lib.hid (HB9.out.later (below_drewN _ _ nq))
          go_wp2
          go_roundw
          case rel => exact ⟨k + 1, MM, nn, by omega, by go_num, HNW.out.1, HNW.out.2, HBZ.out⟩
          case measure => simp [intOf]; omega
      · go_wp2_with fail
        refine (pop_both (HBM.out _)).mono ?_
        rintro e w5 ⟨rfl, hb5, hk5⟩
        rw [Item?_eq]
        obtain ⟨p0, hp0⟩ : ∃ p, p = nx1 M := ⟨_, rfl⟩
        obtain ⟨t0, ht0⟩ : ∃ t : Bool, t = decide (0 < M.length) := ⟨_, rfl⟩
        have HPE0 : Hid (It? (its M) = .tuple #[.agg #[.int .i64 p0.1, .int .i64 p0.2], .bool t0]) := Lib.hid (by rw [It?_its, Item?_eq, hp0, ht0])
        rw [← hp0, ← ht0]
        generalize p0.1 = sx at HPE0 ⊢
        generalize p0.2 = sy at HPE0 ⊢
        have HB5 := Lib.hid hb5
        clear hb5 hk5 hp0 ht0 HBM d0 d1 d2
        go_wp2_with fail
        refine (rpop_both (HB5.out.more (.cells #[.int .i64 sx, .int .i64 sy] 32))).mono ?_
        rintro e w6 ⟨rfl, hb6, hk6⟩
        rw [HPE0.out]
        have q6 : w6.heap[w5.heap.size]? = some (.cells #[.int .i64 sx, .int .i64 sy] 32 (0, 0)) := hk6 _ _ (heap_alloc_new w5 _) (notHp_cells (by decide) (by decide) (by decide))
        obtain ⟨x0, x1, _, _⟩ := two_read q6
        have hl6 := lt_of_heap q6
        have HBP0 : Hid (Both w b rb M.tail n (its M.tail) w6) := Lib.hid (by rw [its_tail]; exact hb6)
        have HBP := Lib.hid (HBP0.out.more (.cells #[.int .i64 sx, .int .i64 sy] 32))
        have HNW : Hid (n ≤ k + 1 ∧ M.tail.length ≤ k + 1) := Lib.hid ⟨by omega, by rw [List.length_tail]; omega⟩
        clear hb6 hk6 HB5 q6 HPE0 HBP0 hn hM
        generalize M.tail = MM at HBP HNW
        generalize n = nn at HBP HNW
        cases t0
        all_goals
          have HBT := Lib.hid HBP.out
          go_wp2_with fail
          refine (peek_both HBT.out).mono ?_
          rintro e w7 ⟨rfl, hb7, hk7⟩
          rw [Item?_eq]
          obtain ⟨p, hp⟩ : ∃ p, p = nx1 MM := ⟨_, rfl⟩
          obtain ⟨t, ht⟩ : ∃ t : Bool, t = decide (0 < MM.length) := ⟨_, rfl⟩
          have HPE : Hid (It? (its MM) = .tuple #[.agg #[.int .i64 p.1, .int .i64 p.2], .bool t]) := Lib.hid (by rw [It?_its, Item?_eq, hp, ht])
          rw [← hp, ← ht]
          generalize p.1 = px at HPE ⊢
          generalize p.2 = py at HPE ⊢
          have HB7 := Lib.hid hb7
          clear hb7 hk7 hp ht HBP HBT
          go_wp2_with fail
          refine (rpeek_both (HB7.out.more (.cells #[.int .i64 px, .int .i64 py] 32))).mono ?_
          rintro e w8 ⟨rfl, hb8, hk8⟩
          rw [HPE.out]
          have q8 : w8.heap[w7.heap.size]? = some (.cells #[.int .i64 px, .int .i64 py] 32 (0, 0)) := hk8 _ _ (heap_alloc_new w7 _) (notHp_cells (by decide) (by decide) (by decide))
          obtain ⟨x0, x1, _, _⟩ := two_read q8
          have hl8 := lt_of_heap q8
          have hb9 := hb8.more (.cells #[.int .i64 px, .int .i64 py] 32)
          have HB9 := Lib.hid hb9
          obtain ⟨v9, hv9⟩ := hb9.heap
          obtain ⟨A9, m9, c9, hr9⟩ := hb9.ref
          have r9 : (w8.alloc (.cells #[.int .i64 px, .int .i64 py] 32)).cell? ⟨rb, 0, none⟩ = some (.slice A9 m9 c9) := by rw [cell_of_row _ rb 0 _ _ _ hr9.box]; rfl
          have HLE : Hid (m9 = MM.length) := Lib.hid (by rw [← hr9.len, its_length])
          have hrb8 : rb < (w8.alloc (.cells #[.int .i64 px, .int .i64 py] 32)).heap.size := lt_of_heap hr9.box
          clear hb8 hk8 q8 hb9 hv9 hr9 HB7 HPE
          have hLM : ((MM.length : Int) != (m9 : Int)) = false := by simp [HLE.out]
          cases t
          all_goals
            go_wp2
            go_quiet ((go_at_call 19; exact Calls.quiet_of_same ((len_both (HB9.out.later (below_drewN _ _ _))).mono (fun e w' ⟨h, k⟩ => ⟨h, k.symm⟩))))
            have HBZ := Lib.hid (HB9.out.later (below_drewN _ _ nq))
            go_wp2
            go_roundw
            case rel => exact ⟨k + 1, MM, nn, by omega, by go_num, HNW.out.1, HNW.out.2, HBZ.out⟩
            case measure => simp [intOf]; omega
    · obtain rfl : m = k := by omega
      have HBE := Lib.hid hB.below
      clear hB HST
      go_wp2
      go_ret
      exact ⟨rfl, HBE.out⟩

end Go.Proofs.Ytihffgcahfladaa
