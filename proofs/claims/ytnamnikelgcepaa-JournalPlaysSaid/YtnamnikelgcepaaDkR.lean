/-
  Layer 15: the document's disk in memory.
-/
import Derived.Test.YtnamnikelgcepaaDkB
set_option linter.unusedVariables false
set_option maxRecDepth 100000
namespace Go.Proofs.Ytnamnikelgcepaa
namespace Dk
open Go.RowKit Go.Maps Bk Nw

/-- How many operations the document's disk has left. -/
def lf (d : D) : Int := if d.dead = true then -1 else if d.cut = true then d.after else -1
def rbox (d : D) : Array Value := #[.string d.s, .int .i64 (d.safe : Int), .bool d.dead, .int .i64 (lf d)]
/-- The document's disk in block q tells the same. -/
structure RD (w : World) (base q : Nat) (d : D) : Prop where
  box : w.heap[q]? = some (.cells (rbox d) 53 (0, 0))
  lo : base ≤ q
  le : d.safe ≤ d.s.size
  few : d.s.size ≤ 1048576
  on : d.dead = false → d.cut = true → 0 ≤ d.after
  num : IW d.after
section
variable {w w' : World} {base q : Nat} {d d' : D}
theorem RD.lt (h : RD w base q d) : q < w.heap.size := lt_of_heap h.box
theorem RD.same (h : RD w base q d) (hb : w'.heap[q]? = w.heap[q]?) : RD w' base q d := ⟨hb.trans h.box, h.lo, h.le, h.few, h.on, h.num⟩
theorem RD.later (h : RD w base q d) (hb : Below w.heap.size w w') : RD w' base q d := h.same (hb.block q h.lt)
theorem RD.cells (h : RD w base q d) : w.cell? ⟨q, 0, none⟩ = some (.string d.s) ∧ w.cell? ⟨q, 1, none⟩ = some (.int .i64 (d.safe : Int)) ∧ w.cell? ⟨q, 2, none⟩ = some (.bool d.dead) ∧ w.cell? ⟨q, 3, none⟩ = some (.int .i64 (lf d)) :=
  ⟨by rw [cell_of_row w q 0 _ _ _ h.box]; rfl, by rw [cell_of_row w q 1 _ _ _ h.box]; rfl, by rw [cell_of_row w q 2 _ _ _ h.box]; rfl, by rw [cell_of_row w q 3 _ _ _ h.box]; rfl⟩
theorem RD.free (h : RD w base q d) (i : Nat) : w.frozen? ⟨q, i, none⟩ = false := frozen_of_row w q i _ _ h.box
theorem lf_dead (h : d.dead = true) : lf d = -1 := by unfold lf; rw [if_pos h]
theorem lf_cut (h : d.dead = false) (h2 : d.cut = true) : lf d = d.after := by unfold lf; rw [if_neg (by rw [h]; simp), if_pos h2]
theorem lf_none (h2 : d.cut = false) : lf d = -1 := by unfold lf; rw [if_neg (show ¬ d.cut = true by rw [h2]; simp)]; split <;> rfl
end
/-- What is left behind a call that changes it. -/
def RTold (base q : Nat) (r : Value) (d' : D) (w : World) (e : Ending) (w' : World) : Prop := e = .returned r ∧ RD w' base q d' ∧ Turn (One q) (One q) w w'
/-- One cell of it is written. -/
theorem rset {w : World} {q i : Nat} {u : Value} {cs cs' : Array Value} (h : w.heap[q]? = some (.cells cs 53 (0, 0))) (hc : cs.setIfInBounds i u = cs') : (w.setCell ⟨q, i, none⟩ u).heap[q]? = some (.cells cs' 53 (0, 0)) := by
  rw [heap_setCell_same w q i _ _ _ h, hc]
theorem tone {w w1 : World} {q i : Nat} {u : Value} (h : Turn (One q) (One q) w w1) : Turn (One q) (One q) w (w1.setCell ⟨q, i, none⟩ u) := h.put _ (show One q q from rfl)
set_option maxHeartbeats 1000000 in
theorem ron_any {w : World} {base q : Nat} {d : D} (h : RD w base q d) : Calls Try.prog 31 #[.pointer (some ⟨q, 0, none⟩)] w (RTold base q (.bool (!(op d).dead)) (op d) w) := by
  obtain ⟨c0, c1, c2, c3⟩ := h.cells
  have f2 := h.free 2
  have f3 := h.free 3
  cases hd : d.dead with
  | true =>
    have e : op d = d := by unfold op; rw [if_neg (by rw [hd]; simp)]
    have HN : Hid (RTold base q (.bool (!(op d).dead)) (op d) w (.returned (.bool false)) w) := Lib.hid ⟨by rw [e, hd]; rfl, by rw [e]; exact h, Turn.refl _ _⟩
    rw [hd] at c2
    rw [lf_dead hd] at c3
    clear h e hd
    go_enter Try.func31, Try.ntmps31
    go_wp2_with fail
    go_ret
    exact HN.out
  | false =>
    cases hc : d.cut with
    | false =>
      have e : op d = d := by unfold op; rw [if_neg (by rw [hc]; simp)]
      have HN : Hid (RTold base q (.bool (!(op d).dead)) (op d) w (.returned (.bool true)) w) := Lib.hid ⟨by rw [e, hd]; rfl, by rw [e]; exact h, Turn.refl _ _⟩
      rw [hd] at c2
      rw [lf_none hc] at c3
      clear h e hd hc
      go_enter Try.func31, Try.ntmps31
      go_wp2_with fail
      go_ret
      exact HN.out
    | true =>
      have h0 := h.on hd hc
      have hnum := h.num
      unfold IW at hnum
      have e : op d = ⟨d.s, d.safe, decide (d.after = 0), true, d.after - 1⟩ := by unfold op; rw [if_pos ⟨hd, hc⟩]
      rw [hd] at c2
      rw [lf_cut hd hc] at c3
      by_cases hx : d.after = 0
      · have HN : Hid (RTold base q (.bool (!(op d).dead)) (op d) w (.returned (.bool false)) ((w.setCell ⟨q, 2, none⟩ (.bool true)).setCell ⟨q, 3, none⟩ (.int .i64 (-1)))) := Lib.hid (by
          rw [e]
          refine ⟨by simp [hx], ⟨rset (rset h.box rfl) ?_, h.lo, h.le, h.few, fun z => ?_, ?_⟩, tone (tone (Turn.refl _ _))⟩
          · simp [rbox, hx, lf]
          · simp [hx] at z
          · show IW (d.after - 1)
            unfold IW
            omega)
        rw [hx] at c3
        clear h e hd hc h0 hnum hx
        go_enter Try.func31, Try.ntmps31
        go_wp2_with fail
        go_ret
        exact HN.out
      · have HN : Hid (RTold base q (.bool (!(op d).dead)) (op d) w (.returned (.bool true)) (w.setCell ⟨q, 3, none⟩ (.int .i64 (d.after - 1)))) := Lib.hid (by
          rw [e]
          refine ⟨by simp [hx], ⟨rset h.box ?_, h.lo, h.le, h.few, fun _ _ => ?_, ?_⟩, tone (Turn.refl _ _)⟩
          · simp [rbox, hx, hd, lf]
          · show 0 ≤ d.after - 1
            omega
          · show IW (d.after - 1)
            unfold IW
            omega)
        generalize d.after = x at *
        have d0 : (x == 0) = false := by simpa using hx
        have d1 : decide (0 < x) = true := decide_eq_true (by omega)
        have d2 : 0 < x := by omega
        clear h e hd hc
        go_enter Try.func31, Try.ntmps31
        go_wp2_with fail
        go_ret
        exact HN.out
set_option maxHeartbeats 1000000 in
theorem rAppend_any {w : World} {base q : Nat} {d : D} (h : RD w base q d) (t : ByteArray) (ht : t.size ≤ 9223372036854775807) : Calls Try.prog 12 #[.pointer (some ⟨q, 0, none⟩), .string t] w (RTold base q (.int .i64 (apE d t)) (apD d t) w) := by
  have HO := Lib.hid (ron_any h)
  have HD := Lib.hid h
  have hs := op_s d
  have hfew := h.few
  cases hd : (op d).dead with
  | true =>
    have e1 : apE d t = 5 := by unfold apE; rw [if_pos hd]
    have e2 : apD d t = op d := by unfold apD; rw [e1]; rfl
    rw [e1, e2]
    unfold RTold at HO
    rw [hd] at HO
    clear h hd e1 e2
    go_enter Try.func12, Try.ntmps12
    go_wp2_with fail
    refine HO.out.mono ?_
    rintro e w1 ⟨rfl, hn1, ht1⟩
    have HN1 := Lib.hid hn1
    have HT1 := Lib.hid ht1
    clear hn1 ht1
    go_wp2_with fail
    go_ret
    exact ⟨rfl, HN1.out, HT1.out⟩
  | false =>
    unfold RTold at HO
    rw [hd] at HO
    by_cases hl : 1048576 < d.s.size + t.size
    · have e1 : apE d t = 4 := by unfold apE; rw [if_neg (by rw [hd]; simp), if_pos hl]
      have e2 : apD d t = op d := by unfold apD; rw [e1]; rfl
      rw [e1, e2]
      have q1 : (1048576 : Int) - (d.s.size : Int) < (t.size : Int) := by omega
      clear h hd e1 e2
      go_enter Try.func12, Try.ntmps12
      go_wp2_with fail
      refine HO.out.mono ?_
      rintro e w1 ⟨rfl, hn1, ht1⟩
      have k0 := hn1.cells.1
      rw [hs] at k0
      have HN1 := Lib.hid hn1
      have HT1 := Lib.hid ht1
      clear hn1 ht1
      go_wp2_with fail
      go_ret
      exact ⟨rfl, HN1.out, HT1.out⟩
    · have e1 : apE d t = 0 := by unfold apE; rw [if_neg (by rw [hd]; simp), if_neg hl]
      have e2 : apD d t = ⟨d.s ++ t, d.safe, (op d).dead, (op d).cut, (op d).after⟩ := by unfold apD; rw [if_pos e1]
      rw [e1, e2]
      have q1 : ¬ ((1048576 : Int) - (d.s.size : Int) < (t.size : Int)) := by omega
      have hle := h.le
      have HF : Hid (∀ w1, RD w1 base q (op d) → RD (w1.setCell ⟨q, 0, none⟩ (.string (d.s ++ t))) base q ⟨d.s ++ t, d.safe, (op d).dead, (op d).cut, (op d).after⟩) := Lib.hid (fun w1 h1 => ⟨rset h1.box (by simp [rbox, lf, op_safe]), h1.lo, (by show d.safe ≤ (d.s ++ t).size; rw [ByteArray.size_append]; omega), (by show (d.s ++ t).size ≤ 1048576; rw [ByteArray.size_append]; omega), h1.on, h1.num⟩)
      clear h hd e1 e2 hle
      go_enter Try.func12, Try.ntmps12
      go_wp2_with fail
      refine HO.out.mono ?_
      rintro e w1 ⟨rfl, hn1, ht1⟩
      have k0 := hn1.cells.1
      have f0 := hn1.free 0
      rw [hs] at k0
      have HN1 := Lib.hid (HF.out w1 hn1)
      have HT1 := Lib.hid ht1
      clear hn1 ht1 HF
      go_wp2_with fail
      go_ret
      exact ⟨rfl, HN1.out, tone HT1.out⟩
set_option maxHeartbeats 1000000 in
theorem rSync_any {w : World} {base q : Nat} {d : D} (h : RD w base q d) : Calls Try.prog 20 #[.pointer (some ⟨q, 0, none⟩)] w (RTold base q (.int .i64 (pwE (op d))) (syD d) w) := by
  have HO := Lib.hid (ron_any h)
  have hs := op_s d
  have hfew := h.few
  cases hd : (op d).dead with
  | true =>
    have e2 : syD d = op d := by unfold syD; rw [if_pos hd]
    rw [pw_dead hd, e2]
    unfold RTold at HO
    rw [hd] at HO
    clear h hd e2
    go_enter Try.func20, Try.ntmps20
    go_wp2_with fail
    refine HO.out.mono ?_
    rintro e w1 ⟨rfl, hn1, ht1⟩
    have HN1 := Lib.hid hn1
    have HT1 := Lib.hid ht1
    clear hn1 ht1
    go_wp2_with fail
    go_ret
    exact ⟨rfl, HN1.out, HT1.out⟩
  | false =>
    have e2 : syD d = kp (op d) d.s.size := by unfold syD; rw [if_neg (by rw [hd]; simp)]
    rw [pw_on hd, e2]
    unfold RTold at HO
    rw [hd] at HO
    have HF : Hid (∀ w1, RD w1 base q (op d) → RD (w1.setCell ⟨q, 1, none⟩ (.int .i64 (d.s.size : Int))) base q (kp (op d) d.s.size)) := Lib.hid (fun w1 h1 => ⟨rset h1.box (by simp [rbox, lf, kp, hs]), h1.lo, (by show d.s.size ≤ ((op d).s.extract 0 d.s.size).size; rw [hs, ext_all]; exact Nat.le_refl _), (by show ((op d).s.extract 0 d.s.size).size ≤ 1048576; rw [hs, ext_all]; exact hfew), h1.on, h1.num⟩)
    clear h hd e2
    go_enter Try.func20, Try.ntmps20
    go_wp2_with fail
    refine HO.out.mono ?_
    rintro e w1 ⟨rfl, hn1, ht1⟩
    have k0 := hn1.cells.1
    have k1 := hn1.cells.2.1
    have f1 := hn1.free 1
    rw [hs] at k0
    have HN1 := Lib.hid (HF.out w1 hn1)
    have HT1 := Lib.hid ht1
    clear hn1 ht1 HF
    go_wp2_with fail
    go_ret
    exact ⟨rfl, HN1.out, tone HT1.out⟩
set_option maxHeartbeats 1000000 in
theorem rCutoff_any {w : World} {base q : Nat} {d : D} (h : RD w base q d) (n : Int) : Calls Try.prog 35 #[.pointer (some ⟨q, 0, none⟩), .int .i64 n] w (RTold base q (.int .i64 (cuE d n)) (cuD d n) w) := by
  have HO := Lib.hid (ron_any h)
  have hs := op_s d
  have hfew := h.few
  cases hd : (op d).dead with
  | true =>
    have e1 : cuE d n = 5 := by unfold cuE; rw [if_pos hd]
    have e2 : cuD d n = op d := by unfold cuD; rw [e1]; rfl
    rw [e1, e2]
    unfold RTold at HO
    rw [hd] at HO
    clear h hd e1 e2
    go_enter Try.func35, Try.ntmps35
    go_wp2_with fail
    refine HO.out.mono ?_
    rintro e w1 ⟨rfl, hn1, ht1⟩
    have HN1 := Lib.hid hn1
    have HT1 := Lib.hid ht1
    clear hn1 ht1
    go_wp2_with fail
    go_ret
    exact ⟨rfl, HN1.out, HT1.out⟩
  | false =>
    unfold RTold at HO
    rw [hd] at HO
    by_cases hn : 0 ≤ n ∧ n ≤ d.s.size
    · have e1 : cuE d n = 0 := by unfold cuE; rw [if_neg (by rw [hd]; simp), if_pos hn]
      have e2 : cuD d n = kp (op d) n.toNat := by unfold cuD; rw [if_pos e1]
      rw [e1, e2]
      obtain ⟨hn1, hn2⟩ := hn
      obtain ⟨j, rfl⟩ := Int.eq_ofNat_of_zero_le hn1
      have hj : j ≤ d.s.size := by omega
      rw [Int.toNat_natCast]
      have HF : Hid (∀ w1, RD w1 base q (op d) → RD ((w1.setCell ⟨q, 0, none⟩ (.string (d.s.extract 0 j))).setCell ⟨q, 1, none⟩ (.int .i64 (j : Int))) base q (kp (op d) j)) := Lib.hid (fun w1 h1 => ⟨rset (rset h1.box rfl) (by simp [rbox, lf, kp, hs]), h1.lo, (by show j ≤ ((op d).s.extract 0 j).size; rw [hs, size_ext _ _ hj]; exact Nat.le_refl _), (by show ((op d).s.extract 0 j).size ≤ 1048576; rw [hs, size_ext _ _ hj]; omega), h1.on, h1.num⟩)
      have q1 : ¬ ((d.s.size : Int) < (j : Int)) := by omega
      clear h hd e1 e2 hn1
      go_enter Try.func35, Try.ntmps35
      go_wp2_with fail
      refine HO.out.mono ?_
      rintro e w1 ⟨rfl, hn1, ht1⟩
      have k0 := hn1.cells.1
      have k1 := hn1.cells.2.1
      have f0 := hn1.free 0
      have f1 := hn1.free 1
      rw [hs] at k0
      have HN1 := Lib.hid (HF.out w1 hn1)
      have HT1 := Lib.hid ht1
      clear hn1 ht1 HF
      go_wp2_with fail
      go_ret
      exact ⟨rfl, HN1.out, tone (tone HT1.out)⟩
    · have e1 : cuE d n = 1 := by unfold cuE; rw [if_neg (by rw [hd]; simp), if_neg hn]
      have e2 : cuD d n = op d := by unfold cuD; rw [e1]; rfl
      rw [e1, e2]
      clear h hd e1 e2
      by_cases h0 : n < 0
      · go_enter Try.func35, Try.ntmps35
        go_wp2_with fail
        refine HO.out.mono ?_
        rintro e w1 ⟨rfl, hn1, ht1⟩
        have HN1 := Lib.hid hn1
        have HT1 := Lib.hid ht1
        clear hn1 ht1
        go_wp2_with fail
        go_ret
        exact ⟨rfl, HN1.out, HT1.out⟩
      · have h1 : (d.s.size : Int) < n := by omega
        go_enter Try.func35, Try.ntmps35
        go_wp2_with fail
        refine HO.out.mono ?_
        rintro e w1 ⟨rfl, hn1, ht1⟩
        have k0 := hn1.cells.1
        rw [hs] at k0
        have HN1 := Lib.hid hn1
        have HT1 := Lib.hid ht1
        clear hn1 ht1
        go_wp2_with fail
        go_ret
        exact ⟨rfl, HN1.out, HT1.out⟩
end Dk
end Go.Proofs.Ytnamnikelgcepaa
