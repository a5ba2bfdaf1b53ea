/-
  Layer 18: Hear; the robot of none; numbers that are the same.
-/
import Derived.Test.YtobpinelhjpfgaaDoorRbB
import Derived.Test.YtobpinelhjpfgaaDoorLnX
set_option linter.unusedVariables false
set_option maxRecDepth 100000
namespace Go.Proofs.YtobpinelhjpfgaaDoor
namespace Rb
open Go.RowKit Bp Ck Ln
open Rc (Aok Shp TakeATold act_uniq)
/-- What hearing comes to: an act that it does next, or none. -/
def HearR (z : R) (bs : List Nat) (z' : R) (bb : List Nat) : Prop := ∃ (bd : List Nat) (fr : Bool) (nh : Nat), Rh z.heard bs bd fr bb nh ∧
  ((∃ (k : Nat) (c p : Int), fr = true ∧ z.k = 0 ∧ Aok k c p ∧ bd = actB k c p ∧ z' = { z with heard := nh, k := k, c := c, p := p, told := if z.pk = [] then z.told else z.told + 1, pk := [] }) ∨
   ((fr = false ∨ z.k ≠ 0 ∨ ∀ (k : Nat) (c p : Int), Aok k c p → bd ≠ actB k c p) ∧ z' = { z with heard := nh }))
theorem HearR.uniq {z z1 z2 : R} {bs b1 b2 : List Nat} (h1 : HearR z bs z1 b1) (h2 : HearR z bs z2 b2) : z1 = z2 ∧ b1 = b2 := by
  obtain ⟨bd, fr, nh, hr, hc⟩ := h1
  obtain ⟨bd', fr', nh', hr', hc'⟩ := h2
  obtain ⟨rfl, rfl, rfl, rfl⟩ := hr.uniq hr'
  refine ⟨?_, rfl⟩
  rcases hc with ⟨k, c, p, e1, e2, e3, e4, rfl⟩ | ⟨hn, rfl⟩
  · rcases hc' with ⟨k', c', p', _, _, e3', e4', rfl⟩ | ⟨hn', rfl⟩
    · obtain ⟨rfl, rfl, rfl⟩ := act_uniq e3 e3' (e4.symm.trans e4')
      rfl
    · rcases hn' with x | x | x
      · rw [e1] at x; cases x
      · exact absurd e2 x
      · exact absurd e4 (x k c p e3)
  · rcases hc' with ⟨k', c', p', e1, e2, e3, e4, rfl⟩ | ⟨hn', rfl⟩
    · rcases hn with x | x | x
      · rw [e1] at x; cases x
      · exact absurd e2 x
      · exact absurd e4 (x k' c' p' e3)
    · rfl
theorem rh_len {heard : Nat} {bs bd : List Nat} {fr : Bool} {bb : List Nat} {nh : Nat} (h : Rh heard bs bd fr bb nh) : bd.length ≤ 200 := by
  rcases h with ⟨n, hi, _⟩ | ⟨n, d, _, _, _, rfl, _⟩ | ⟨_, rfl, _⟩
  · exact hi.1.few
  · simp
  · simp
/-- What Hear comes to. -/
def HTold (base r h s : Nat) (v : Value) (z : R) (bs : List Nat) (w : World) (e : Ending) (w' : World) : Prop := ∃ (bb : List Nat) (z' : R) (v' : Value) (A : Option Addr) (c : Nat), e = .returned (.slice A bb.length c) ∧ (By w'.heap.size w' A bb.length c bb ∧ ∀ a, A = some a → w.heap.size ≤ a.block) ∧ RbAt w' base r h s v' z' ∧ Turn (RbF r h s v) (RbF r h s v') w w' ∧ HearR z bs z' bb
theorem put_act {w : World} {r h s : Nat} {z : R} {k : Nat} {c p : Int} (hb : w.heap[r]? = some (.cells (rcl z h s) 85 (0, 0))) :
    (((w.setCell ⟨r, 4, none⟩ (.int .u8 (k : Int))).setCell ⟨r, 5, none⟩ (.int .i64 c)).setCell ⟨r, 6, none⟩ (.int .i64 p)).heap[r]? = some (.cells (rcl { z with k := k, c := c, p := p } h s) 85 (0, 0)) := by
  have g1 := heap_setCell_same w r 4 _ _ (.int .u8 (k : Int)) hb
  have g2 := heap_setCell_same _ r 5 _ _ (.int .i64 c) g1
  rw [heap_setCell_same _ r 6 _ _ _ g2]
  rfl
theorem by_turnF {w w' : World} {A : Option Addr} {n c : Nat} {zs : List Nat} {F F' : Nat → Prop} {B : Nat} (h : By w.heap.size w A n c zs) (ht : Turn F F' w w') (hF : ∀ k, F k → k < B) (hf : ∀ a, A = some a → B ≤ a.block) : By w'.heap.size w' A n c zs :=
  by_turn h ht (fun a ha hx => by have := hF _ hx; have := hf a ha; omega)
theorem turn_act (w : World) (r : Nat) (a b c : Value) : Turn (One r) (One r) w (((w.setCell ⟨r, 4, none⟩ a).setCell ⟨r, 5, none⟩ b).setCell ⟨r, 6, none⟩ c) :=
  (((Turn.refl (One r) w).put _ (show One r r from rfl)).put _ (show One r r from rfl)).put _ (show One r r from rfl)
section
variable {w : World} {base r h s : Nat} {v : Value} {z : R}
set_option maxHeartbeats 4000000 in
theorem hear_any {B : Nat} {A : Option Addr} {n c : Nat} {bs : List Nat} (g : RbAt w base r h s v z) (hBb : base ≤ w.heap.size) (h0 : 0 < base) (hS : Shp w) (hn : z.told + 2 < 18446744073709551616) (hd : By B w A n c bs) (hB : B ≤ w.heap.size) :
    Calls Tryd.prog 21 #[.pointer (some ⟨r, 0, none⟩), .slice A n c] w (HTold base r h s v z bs w) := by
  obtain ⟨⟨-, -, -, -, -, -, -, -, c8, -⟩, -⟩ := g.cells
  have HH := Lib.hid (rhear_any g.rat hd hB)
  have HG := Lib.hid g
  have HSH := Lib.hid hS
  have HRF : Hid (∀ k, RbF r h s v k → k < w.heap.size) := Lib.hid g.lt
  clear g hd hS
  go_enter Tryd.func21, Tryd.ntmps21
  go_wp2_with fail
  refine HH.out.mono ?_
  intro e w1 hx
  obtain ⟨bd, fr, bb, nh, A1, c1, A2, c2, rfl, ht1, ⟨hy1, hf1⟩, ⟨hy2, hf2⟩, hr1, hrh⟩ := rh_form hx
  obtain ⟨hg1, htt1⟩ := HG.out.receiver hr1 ht1
  have hl := rh_len hrh
  have hs1 : Shp w1 := HSH.out.of (ht1.block 0 HSH.out.pos (fun e => by have e2 : 0 = h := e; have := HG.out.lo h (.inr (.inl rfl)); omega))
  have HT := Lib.hid (Rc.takeAct_any hy1 (Nat.le_refl _) hs1 (by omega))
  have HG1 := Lib.hid hg1
  have HT1 := Lib.hid htt1
  have HRH := Lib.hid hrh
  have HY2 := Lib.hid hy2
  have HF2 := Lib.hid hf2
  have hsz1 := htt1.size
  clear hx ht1 hy1 hf1 hy2 hf2 hr1 hrh hg1 htt1 hs1 HH c8
  go_wp2_with fail
  refine HT.out.mono ?_
  rintro e w2 ⟨hb2, hcase⟩
  have HB2 := Lib.hid hb2
  have hg2 := HG1.out.later hb2
  have HY2b := Lib.hid (by_later HY2.out hb2)
  have hsz2 := hb2.size
  rcases hcase with ⟨k, x, y, hok, hbd, rfl⟩ | ⟨hno, rfl⟩
  · have hal := Rc.below_new w2 (.cells #[.int .u8 (k : Int), .int .i64 x, .int .i64 y] 33)
    have hal0 := heap_alloc_new w2 (.cells #[.int .u8 (k : Int), .int .i64 x, .int .i64 y] 33)
    have hg3 := hg2.later hal
    have HAL := Lib.hid hal
    have HOK := Lib.hid hok
    have HBD := Lib.hid hbd
    have HY3 := Lib.hid (by_later HY2b.out hal)
    have a0 := cell_of_row _ w2.heap.size 0 _ _ _ hal0
    have a1 := cell_of_row _ w2.heap.size 1 _ _ _ hal0
    have a2 := cell_of_row _ w2.heap.size 2 _ _ _ hal0
    have HTW := Lib.hid ((HT1.out.trans (Turn.ofBelow HB2.out _)).trans (Turn.ofBelow hal _))
    cases fr with
    | false =>
      have HG3 := Lib.hid hg3
      clear hg2 hg3 hal hal0 hok hbd hb2 HT HG HY2 HY2b
      go_wp2_with fail
      go_ret
      exact ⟨bb, _, v, A2, c2, rfl, ⟨HY3.out, HF2.out⟩, HG3.out, HTW.out, bd, false, nh, HRH.out, .inr ⟨.inl rfl, rfl⟩⟩
    | true =>
      by_cases hz : z.k = 0
      · have HBU := Lib.hid (busy_any hg3)
        rw [decide_eq_false (show ¬ z.k ≠ 0 by simpa using hz)] at HBU
        obtain ⟨⟨-, -, -, -, d4, d5, d6, -⟩, fz⟩ := hg3.cells
        have f4 := fz 4
        have f5 := fz 5
        have f6 := fz 6
        have hgp : RbAt ((((w2.alloc (.cells #[.int .u8 (k : Int), .int .i64 x, .int .i64 y] 33)).setCell ⟨r, 4, none⟩ (.int .u8 (k : Int))).setCell ⟨r, 5, none⟩ (.int .i64 x)).setCell ⟨r, 6, none⟩ (.int .i64 y)) base r h s v { z with heard := nh, k := k, c := x, p := y } :=
          hg3.set (fun k hk => (set_only k hk).trans ((set_only k hk).trans (set_only k hk))) (put_act hg3.box) rfl rfl rfl
        have htp := turn_own r h s v (turn_act (w2.alloc (.cells #[.int .u8 (k : Int), .int .i64 x, .int .i64 y] 33)) r (.int .u8 (k : Int)) (.int .i64 x) (.int .i64 y))
        have HWH := Lib.hid (wasHeard_any hgp (Nat.le_trans hBb (HTW.out.trans htp).size) hn)
        have HTP := Lib.hid htp
        have HZ := Lib.hid hz
        clear hg2 hg3 hal hal0 hok hbd hb2 HT HG HY2 HY2b fz hgp htp hz
        go_wp2_with fail
        refine HBU.out.mono ?_
        rintro e w3 ⟨rfl, rfl⟩
        go_wp2_with fail
        refine HWH.out.mono ?_
        rintro e w4 ⟨v', rfl, hg4, ht4⟩
        have HG4 := Lib.hid hg4
        have HT4 := Lib.hid (HTP.out.trans ht4)
        clear hg4 ht4 HWH
        go_wp2_with fail
        go_ret
        exact ⟨bb, _, v', A2, c2, rfl, ⟨by_turnF HY3.out HT4.out HRF.out HF2.out, HF2.out⟩, HG4.out, HTW.out.trans HT4.out, bd, true, nh, HRH.out, .inl ⟨k, x, y, rfl, HZ.out, HOK.out, HBD.out, rfl⟩⟩
      · have HBU := Lib.hid (busy_any hg3)
        rw [decide_eq_true hz] at HBU
        have HG3 := Lib.hid hg3
        have HZ := Lib.hid hz
        clear hg2 hg3 hal hal0 hok hbd hb2 HT HG HY2 HY2b hz
        go_wp2_with fail
        refine HBU.out.mono ?_
        rintro e w3 ⟨rfl, rfl⟩
        go_wp2_with fail
        go_ret
        exact ⟨bb, _, v, A2, c2, rfl, ⟨HY3.out, HF2.out⟩, HG3.out, HTW.out, bd, true, nh, HRH.out, .inr ⟨.inr (.inl HZ.out), rfl⟩⟩
  · have hal := Rc.below_new w2 (.cells #[.int .u8 0, .int .i64 0, .int .i64 0] 33)
    have HG3 := Lib.hid (hg2.later hal)
    have HN := Lib.hid hno
    have HY3 := Lib.hid (by_later HY2b.out hal)
    have HTW := Lib.hid ((HT1.out.trans (Turn.ofBelow HB2.out _)).trans (Turn.ofBelow hal _))
    clear hg2 hal hno hb2 HT HG HY2 HY2b
    cases fr with
    | false =>
      go_wp2_with fail
      go_ret
      exact ⟨bb, _, v, A2, c2, rfl, ⟨HY3.out, HF2.out⟩, HG3.out, HTW.out, bd, false, nh, HRH.out, .inr ⟨.inl rfl, rfl⟩⟩
    | true =>
      go_wp2_with fail
      go_ret
      exact ⟨bb, _, v, A2, c2, rfl, ⟨HY3.out, HF2.out⟩, HG3.out, HTW.out, bd, true, nh, HRH.out, .inr ⟨.inr (.inr HN.out), rfl⟩⟩
end
end Rb
end Go.Proofs.YtobpinelhjpfgaaDoor
