/-
  Layer 8, the document's answers: Order, May.
-/
import Derived.Test.YtljmigomhoefpaaBkR3
set_option linter.unusedVariables false
set_option maxRecDepth 100000
namespace Go.Proofs.Ytljmigomhoefpaa.Bk
open Go.RowKit

def fillb (n j : Nat) : List Bool := List.replicate j true ++ List.replicate (n - j) false
theorem fillb_length {n j : Nat} (h : j ≤ n) : (fillb n j).length = n := by simp [fillb]; omega
theorem fillb_put {n j : Nat} (h : j < n) : (fillb n j).set j true = fillb n (j + 1) := by
  unfold fillb
  rw [List.set_append_right _ _ (by simp)]
  have e : n - j = (n - (j + 1)) + 1 := by omega
  rw [e, List.replicate_succ (n := n - (j + 1)), List.length_replicate, Nat.sub_self, List.set_cons_zero, List.replicate_succ' (n := j), List.append_assoc]
  rfl
theorem lf_all (n : Nat) : lf (fillb n n) = List.range n := by
  unfold lf
  rw [fillb_length (Nat.le_refl _), List.filter_eq_self]
  intro i hi
  rw [List.mem_range] at hi
  simp [fillb, List.getD, hi]
theorem Bw.putb {w : World} {base g n c i : Nat} {L : List Bool} (h : Bw w base (.slice (some ⟨g, 0, none⟩) n c) L) (hi : i < L.length) (b : Bool) : Bw (w.setCell ⟨g, i, none⟩ (.bool b)) base (.slice (some ⟨g, 0, none⟩) n c) (L.set i b) := by
  have := own_put h (x := i) (by simpa [bvs] using hi) (.bool b)
  unfold Bw
  rw [List.length_set, show bvs (L.set i b) = (bvs L).set i (.bool b) by simp [bvs, List.map_set]]
  exact this
theorem made_fillb {w1 : World} {base g n : Nat} (h : w1.ownsRow base 4 1 (.slice (some ⟨g, 0, none⟩) n n) n (madeCells (Value.bool false).cells (n * 1)).toList) : Bw w1 base (.slice (some ⟨g, 0, none⟩) n n) (fillb n 0) := by
  unfold Bw
  rw [fillb_length (Nat.zero_le _)]
  have e : (madeCells (Value.bool false).cells (n * 1)).toList = bvs (fillb n 0) := by
    have hc : (Value.bool false).cells = #[.bool false] := by kernel_rfl
    apply List.ext_getElem
    · simp [madeCells, fillb, bvs]
    · intro i h1 h2
      simp [madeCells, hc, fillb, bvs, Nat.mod_one]
  rw [e] at h
  exact h
set_option maxHeartbeats 4000000 in
theorem r8order_any (A : Option Addr) (n cap : Nat) (C : Cm) (w : World) (h : Cl w.heap.size w A n cap C) : Calls Try.prog 12 #[.slice A n cap] w (OrdTold C w) := by
  have HC := Lib.hid h
  have HN := Lib.hid h.len
  have hs := h.size
  have hs1 := hs.1
  have hs2 := hs.2
  clear h hs
  obtain ⟨i0, hi, hz0, hz1, hz2⟩ := info_parts Try.infoBool8
  go_enter Try.func12, Try.ntmps12
  go_wp2_with fail
  refine (rright_any A n cap C w HC.out).mono ?_
  rintro e w1 ⟨b, rfl, hb, hc1⟩
  have HB1 := Lib.hid hc1
  have HC1 := Lib.hid (HC.out.later hc1)
  cases b with
  | false =>
    have HR : Hid (¬ Rg C) := Lib.hid (fun h => by have := hb.2 h; cases this)
    clear hb hc1 hi hz0 hz1 hz2
    go_wp2_with fail
    go_ret2
    exact ⟨_, _, _, [], false, rfl, rfl, .inl ⟨HR.out, rfl, rfl⟩, Iw.nil _ _, HB1.out⟩
  | true =>
    have HR : Hid (Rg C) := Lib.hid (hb.1 rfl)
    have hn8 : n ≤ 8 := by rw [← HN.out]; exact HR.out.few
    clear hb hc1
    go_wp2_with (at_make; go_must (refine wpList_make_full _ rfl _ _ 40 rfl w1.heap.size 4 i0 (.bool false) 1 Try.underlying40 hi hz0 hz1 .i64 .i64 _ _ n rfl rfl rfl rfl (by rw [hz2]; omega) (by unfold maxLen; omega) (by simp) ?_); intro w2 ho2 hg2; have hO2 := made_fillb ho2; have hB2 : Below w1.heap.size w1 w2 := (Below.grown (Below.refl _ w1) hg2 (by simp) (fun k hk => by cases hk)); have HO2 := Lib.hid hO2; have HB2 := Lib.hid hB2; clear ho2 hg2 hO2 hB2)
    clear hi hz0 hz1 hz2
    go_loopw [5] (fun iv wr => ∃ j : Nat, j ≤ n ∧ iv = .int .i64 (j : Int) ∧ Hid (Bw wr w1.heap.size (.slice (some ⟨w1.heap.size, 0, none⟩) n n) (fillb n j) ∧ Below w1.heap.size w1 wr)) (fun iv _ => n - (intOf iv).toNat)
    case atStart => exact ⟨0, Nat.zero_le _, rfl, Lib.hid ⟨HO2.out, HB2.out⟩⟩
    case round =>
      rename World => wr
      obtain ⟨j, hj, rfl, HJ⟩ := hrel
      by_cases hlt : j < n
      · have y0 := (HJ.out.1.cells (i := j) (by rw [fillb_length hj]; exact hlt)).1
        have y1 := (HJ.out.1.cells (i := j) (by rw [fillb_length hj]; exact hlt)).2
        have HP : Hid (Bw (wr.setCell ⟨w1.heap.size, j, none⟩ (.bool true)) w1.heap.size (.slice (some ⟨w1.heap.size, 0, none⟩) n n) (fillb n (j + 1)) ∧ Below w1.heap.size w1 (wr.setCell ⟨w1.heap.size, j, none⟩ (.bool true))) := Lib.hid ⟨by
          have := HJ.out.1.putb (i := j) (by rw [fillb_length hj]; exact hlt) true
          rwa [fillb_put hlt] at this, HJ.out.2.setCell (Nat.le_refl _) _⟩
        generalize (fillb n j).getD j false = bj at *
        go_wp2_with fail
        go_roundw
        case rel => exact ⟨j + 1, by omega, by go_num, HP⟩
        case measure => simp [intOf]; omega
      · obtain rfl : j = n := by omega
        have HBW := Lib.hid (HB1.out.trans (HJ.out.2.mono HB1.out.size))
        have HOR := Lib.hid (rorder_any A j cap C hn8 j j _ j (fillb j j) wr rfl (HC1.out.later HJ.out.2) HJ.out.1.bt.2 (by rw [lf_all, List.length_range]))
        rw [lf_all] at HOR
        go_wp2_with fail
        refine HOR.out.mono ?_
        rintro e w5 ⟨hb5, hh⟩
        have HB5 := Lib.hid (HBW.out.trans (hb5.mono HBW.out.size))
        have HEQ : Hid (rord (need C) (hb C) j (List.range j) = ord (need C) (hb C) j (List.range j)) := Lib.hid (rord_eq List.nodup_range List.length_range)
        clear hb5
        rcases hh with ⟨rfl, hno⟩ | ⟨A3, m3, c3, o, rfl, hm, ho, hown⟩
        · have HO := Lib.hid hno
          clear hno
          go_wp2_with fail
          go_ret2
          exact ⟨_, _, _, [], false, rfl, rfl, .inr ⟨HR.out, .inl ⟨by rw [HN.out, ← HEQ.out]; exact HO.out, rfl, rfl⟩⟩, Iw.nil _ _, HB5.out⟩
        · have HO := Lib.hid ho
          have HW := Lib.hid hown
          have HM := Lib.hid hm
          clear ho hown hm
          go_wp2_with fail
          go_ret2
          exact ⟨_, _, _, o, true, rfl, HM.out, .inr ⟨HR.out, .inr ⟨by rw [HN.out, ← HEQ.out]; exact HO.out, rfl⟩⟩, own_lower HW.out HBW.out.size, HB5.out⟩
/-- A zone is given ahead of all that one holds. -/
def ahead (C : Cm) (who : Nat) (z : Int) : Cm := C.set who (z :: hold C who, need C who)
theorem ahead_right {C : Cm} (h : Rg C) {who : Nat} (hw : who < C.length) {z : Int} (hz : Zn z) (hn : ∀ j, j < C.length → z ∉ hold C j) : Rg (ahead C who z) := by
  have hs : ∀ j y, y ∈ hold (ahead C who z) j → y ∈ hold (give C who z) j := fun j y hy => by
    unfold ahead at hy
    unfold give
    rw [hold_set hw] at hy ⊢
    split
    · rename_i e
      rw [if_pos e] at hy
      rcases List.mem_cons.1 hy with q | q
      · exact List.mem_append.2 (.inr (by simp [q]))
      · exact List.mem_append.2 (.inl q)
    · rename_i e; rw [if_neg e] at hy; exact hy
  have hl : (ahead C who z).length = (give C who z).length := by simp [ahead, give]
  have hnd : ∀ j, need (ahead C who z) j = need (give C who z) j := fun j => by
    unfold ahead give
    rw [need_set hw, need_set hw]
  have hg := rg_give h hw hz hn
  exact ⟨by rw [hl]; exact hg.few, fun j hj => ⟨fun y hy => (hg.zones j (by rw [← hl]; exact hj)).1 y (hs j y hy), fun y hy => (hg.zones j (by rw [← hl]; exact hj)).2 y (by rw [← hnd]; exact hy)⟩, fun i j hi hj hne y hy hy' => hg.apart i j (by rw [← hl]; exact hi) (by rw [← hl]; exact hj) hne y (hs i y hy) (hs j y hy')⟩
theorem ahead_saf {C : Cm} {who : Nat} (hw : who < C.length) (z : Int) : SafC (ahead C who z) ↔ Saf (need C) (gv (hb C) who z) (List.range C.length) := by
  rw [← saf_give hw z]
  have hh : hb (ahead C who z) = hb (give C who z) := by
    funext b y
    unfold hb ahead give
    rw [hold_set hw, hold_set hw]
    by_cases e : b = who
    · rw [if_pos e, if_pos e, decide_eq_decide]
      simp only [List.mem_cons, List.mem_append, List.not_mem_nil, or_false]
      exact Or.comm
    · rw [if_neg e, if_neg e]
  have hn : need (ahead C who z) = need (give C who z) := by
    funext b
    unfold ahead give
    rw [need_set hw, need_set hw]
  unfold SafC
  rw [hh, hn]
  simp [ahead, give]
end Go.Proofs.Ytljmigomhoefpaa.Bk
