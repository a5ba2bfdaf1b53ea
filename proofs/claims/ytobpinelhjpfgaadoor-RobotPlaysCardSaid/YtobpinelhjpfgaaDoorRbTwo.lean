/-
  Layer 18: Hear; the robot of none; numbers that are the same.
  Layer 18: the packet of an act; lists of numbers that are the same; the document's example; a robot of none.
  Layer 18: the document's example.
-/
import Derived.Test.YtobpinelhjpfgaaDoorRbB
import Derived.Test.YtobpinelhjpfgaaDoorLnFou
set_option linter.unusedVariables false
set_option maxRecDepth 100000
section
namespace Go.Proofs.YtobpinelhjpfgaaDoor
namespace Rb
open Go.RowKit Bp Ck Ln
open Rc (Aok Shp TakeATold act_uniq)
/-- What hearing comes to: an act that it does next, or none. -/
def HearR (z : R) (bs : List Nat) (z' : R) (bb : List Nat) : Prop := ∃ (bd : List Nat) (fr : Bool) (nh : Nat), Rh z.heard bs bd fr bb nh ∧
  ((∃ (k : Nat) (c p : Int), fr = true ∧ z.k = 0 ∧ Aok k c p ∧ bd = actB k c p ∧ z' = { z with heard := nh, k := k, c := c, p := p, told := if z.pk = [] then z.told else z.told + 1, pk := [] }) ∨
   ((fr = false ∨ z.k ≠ 0 ∨ ∀ (k : Nat) (c p : Int), Aok k c p → bd ≠ actB k c p) ∧ z' = { z with heard := nh }))
theorem HearR.uniq {z z1 z2 : R} {bs b1 b2 : List Nat} (h1 : HearR z bs z1 b1) (h2 : HearR z bs z2 b2) : z1 = z2 ∧ b1 = b2 := by
  obtain ⟨bd, fr, nh, hr, hc⟩ := h1
  obtain ⟨bd', fr', nh', hr', hc'⟩ := h2
  obtain ⟨rfl, rfl, rfl, rfl⟩ := hr.uniq hr'
  refine ⟨?_, rfl⟩
  rcases hc with ⟨k, c, p, e1, e2, e3, e4, rfl⟩ | ⟨hn, rfl⟩
  · rcases hc' with ⟨k', c', p', _, _, e3', e4', rfl⟩ | ⟨hn', rfl⟩
    · obtain ⟨rfl, rfl, rfl⟩ := act_uniq e3 e3' (e4.symm.trans e4')
      rfl
    · rcases hn' with x | x | x
      · rw [e1] at x; cases x
      · exact absurd e2 x
      · exact absurd e4 (x k c p e3)
  · rcases hc' with ⟨k', c', p', e1, e2, e3, e4, rfl⟩ | ⟨hn', rfl⟩
    · rcases hn with x | x | x
      · rw [e1] at x; cases x
      · exact absurd e2 x
      · exact absurd e4 (x k' c' p' e3)
    · rfl
theorem rh_len {heard : Nat} {bs bd : List Nat} {fr : Bool} {bb : List Nat} {nh : Nat} (h : Rh heard bs bd fr bb nh) : bd.length ≤ 200 := by
  rcases h with ⟨n, hi, _⟩ | ⟨n, d, _, _, _, rfl, _⟩ | ⟨_, rfl, _⟩
  · exact hi.1.few
  · simp
  · simp
/-- What Hear comes to. -/
def HTold (base r h s : Nat) (v : Value) (z : R) (bs : List Nat) (w : World) (e : Ending) (w' : World) : Prop := ∃ (bb : List Nat) (z' : R) (v' : Value) (A : Option Addr) (c : Nat), e = .returned (.slice A bb.length c) ∧ (By w'.heap.size w' A bb.length c bb ∧ ∀ a, A = some a → w.heap.size ≤ a.block) ∧ RbAt w' base r h s v' z' ∧ Turn (RbF r h s v) (RbF r h s v') w w' ∧ HearR z bs z' bb
theorem put_act {w : World} {r h s : Nat} {z : R} {k : Nat} {c p : Int} (hb : w.heap[r]? = some (.cells (rcl z h s) 85 (0, 0))) :
    (((w.setCell ⟨r, 4, none⟩ (.int .u8 (k : Int))).setCell ⟨r, 5, none⟩ (.int .i64 c)).setCell ⟨r, 6, none⟩ (.int .i64 p)).heap[r]? = some (.cells (rcl { z with k := k, c := c, p := p } h s) 85 (0, 0)) := by
  have g1 := heap_setCell_same w r 4 _ _ (.int .u8 (k : Int)) hb
  have g2 := heap_setCell_same _ r 5 _ _ (.int .i64 c) g1
  rw [heap_setCell_same _ r 6 _ _ _ g2]
  rfl
theorem by_turnF {w w' : World} {A : Option Addr} {n c : Nat} {zs : List Nat} {F F' : Nat → Prop} {B : Nat} (h : By w.heap.size w A n c zs) (ht : Turn F F' w w') (hF : ∀ k, F k → k < B) (hf : ∀ a, A = some a → B ≤ a.block) : By w'.heap.size w' A n c zs :=
  by_turn h ht (fun a ha hx => by have := hF _ hx; have := hf a ha; omega)
theorem turn_act (w : World) (r : Nat) (a b c : Value) : Turn (One r) (One r) w (((w.setCell ⟨r, 4, none⟩ a).setCell ⟨r, 5, none⟩ b).setCell ⟨r, 6, none⟩ c) :=
  (((Turn.refl (One r) w).put _ (show One r r from rfl)).put _ (show One r r from rfl)).put _ (show One r r from rfl)
section
variable {w : World} {base r h s : Nat} {v : Value} {z : R}
set_option maxHeartbeats 4000000 in
theorem hear_any {B : Nat} {A : Option Addr} {n c : Nat} {bs : List Nat} (g : RbAt w base r h s v z) (hBb : base ≤ w.heap.size) (h0 : 0 < base) (hS : Shp w) (hn : z.told + 2 < 18446744073709551616) (hd : By B w A n c bs) (hB : B ≤ w.heap.size) :
    Calls Tryd.prog 21 #[.pointer (some ⟨r, 0, none⟩), .slice A n c] w (HTold base r h s v z bs w) := by
  obtain ⟨⟨-, -, -, -, -, -, -, -, c8, -⟩, -⟩ := g.cells
  have HH := Lib.hid (rhear_any g.rat hd hB)
  have HG := Lib.hid g
  have HSH := Lib.hid hS
  have HRF : Hid (∀ k, RbF r h s v k → k < w.heap.size) := Lib.hid g.lt
  clear g hd hS
  go_enter Tryd.func21, Tryd.ntmps21
  go_wp2_with fail
  refine HH.out.mono ?_
  intro e w1 hx
  obtain ⟨bd, fr, bb, nh, A1, c1, A2, c2, rfl, ht1, ⟨hy1, hf1⟩, ⟨hy2, hf2⟩, hr1, hrh⟩ := rh_form hx
  obtain ⟨hg1, htt1⟩ := HG.out.receiver hr1 ht1
  have hl := rh_len hrh
  have hs1 : Shp w1 := HSH.out.of (ht1.block 0 HSH.out.pos (fun e => by have e2 : 0 = h := e; have := HG.out.lo h (.inr (.inl rfl)); omega))
  have HT := Lib.hid (Rc.takeAct_any hy1 (Nat.le_refl _) hs1 (by omega))
  have HG1 := Lib.hid hg1
  have HT1 := Lib.hid htt1
  have HRH := Lib.hid hrh
  have HY2 := Lib.hid hy2
  have HF2 := Lib.hid hf2
  have hsz1 := htt1.size
  clear hx ht1 hy1 hf1 hy2 hf2 hr1 hrh hg1 htt1 hs1 HH c8
  go_wp2_with fail
  refine HT.out.mono ?_
  rintro e w2 ⟨hb2, hcase⟩
  have HB2 := Lib.hid hb2
  have hg2 := HG1.out.later hb2
  have HY2b := Lib.hid (by_later HY2.out hb2)
  have hsz2 := hb2.size
  rcases hcase with ⟨k, x, y, hok, hbd, rfl⟩ | ⟨hno, rfl⟩
  · have hal := Rc.below_new w2 (.cells #[.int .u8 (k : Int), .int .i64 x, .int .i64 y] 33)
    have hal0 := heap_alloc_new w2 (.cells #[.int .u8 (k : Int), .int .i64 x, .int .i64 y] 33)
    have hg3 := hg2.later hal
    have HAL := Lib.hid hal
    have HOK := Lib.hid hok
    have HBD := Lib.hid hbd
    have HY3 := Lib.hid (by_later HY2b.out hal)
    have a0 := cell_of_row _ w2.heap.size 0 _ _ _ hal0
    have a1 := cell_of_row _ w2.heap.size 1 _ _ _ hal0
    have a2 := cell_of_row _ w2.heap.size 2 _ _ _ hal0
    have HTW := Lib.hid ((HT1.out.trans (Turn.ofBelow HB2.out _)).trans (Turn.ofBelow hal _))
    cases fr with
    | false =>
      have HG3 := Lib.hid hg3
      clear hg2 hg3 hal hal0 hok hbd hb2 HT HG HY2 HY2b
      go_wp2_with fail
      go_ret
      exact ⟨bb, _, v, A2, c2, rfl, ⟨HY3.out, HF2.out⟩, HG3.out, HTW.out, bd, false, nh, HRH.out, .inr ⟨.inl rfl, rfl⟩⟩
    | true =>
      by_cases hz : z.k = 0
      · have HBU := Lib.hid (busy_any hg3)
        rw [decide_eq_false (show ¬ z.k ≠ 0 by simpa using hz)] at HBU
        obtain ⟨⟨-, -, -, -, d4, d5, d6, -⟩, fz⟩ := hg3.cells
        have f4 := fz 4
        have f5 := fz 5
        have f6 := fz 6
        have hgp : RbAt ((((w2.alloc (.cells #[.int .u8 (k : Int), .int .i64 x, .int .i64 y] 33)).setCell ⟨r, 4, none⟩ (.int .u8 (k : Int))).setCell ⟨r, 5, none⟩ (.int .i64 x)).setCell ⟨r, 6, none⟩ (.int .i64 y)) base r h s v { z with heard := nh, k := k, c := x, p := y } :=
          hg3.set (fun k hk => (set_only k hk).trans ((set_only k hk).trans (set_only k hk))) (put_act hg3.box) rfl rfl rfl
        have htp := turn_own r h s v (turn_act (w2.alloc (.cells #[.int .u8 (k : Int), .int .i64 x, .int .i64 y] 33)) r (.int .u8 (k : Int)) (.int .i64 x) (.int .i64 y))
        have HWH := Lib.hid (wasHeard_any hgp (Nat.le_trans hBb (HTW.out.trans htp).size) hn)
        have HTP := Lib.hid htp
        have HZ := Lib.hid hz
        clear hg2 hg3 hal hal0 hok hbd hb2 HT HG HY2 HY2b fz hgp htp hz
        go_wp2_with fail
        refine HBU.out.mono ?_
        rintro e w3 ⟨rfl, rfl⟩
        go_wp2_with fail
        refine HWH.out.mono ?_
        rintro e w4 ⟨v', rfl, hg4, ht4⟩
        have HG4 := Lib.hid hg4
        have HT4 := Lib.hid (HTP.out.trans ht4)
        clear hg4 ht4 HWH
        go_wp2_with fail
        go_ret
        exact ⟨bb, _, v', A2, c2, rfl, ⟨by_turnF HY3.out HT4.out HRF.out HF2.out, HF2.out⟩, HG4.out, HTW.out.trans HT4.out, bd, true, nh, HRH.out, .inl ⟨k, x, y, rfl, HZ.out, HOK.out, HBD.out, rfl⟩⟩
      · have HBU := Lib.hid (busy_any hg3)
        rw [decide_eq_true hz] at HBU
        have HG3 := Lib.hid hg3
        have HZ := Lib.hid hz
        clear hg2 hg3 hal hal0 hok hbd hb2 HT HG HY2 HY2b hz
        go_wp2_with fail
        refine HBU.out.mono ?_
        rintro e w3 ⟨rfl, rfl⟩
        go_wp2_with fail
        go_ret
        exact ⟨bb, _, v, A2, c2, rfl, ⟨HY3.out, HF2.out⟩, HG3.out, HTW.out, bd, true, nh, HRH.out, .inr ⟨.inr (.inl HZ.out), rfl⟩⟩
  · have hal := Rc.below_new w2 (.cells #[.int .u8 0, .int .i64 0, .int .i64 0] 33)
    have HG3 := Lib.hid (hg2.later hal)
    have HN := Lib.hid hno
    have HY3 := Lib.hid (by_later HY2b.out hal)
    have HTW := Lib.hid ((HT1.out.trans (Turn.ofBelow HB2.out _)).trans (Turn.ofBelow hal _))
    clear hg2 hal hno hb2 HT HG HY2 HY2b
    cases fr with
    | false =>
      go_wp2_with fail
      go_ret
      exact ⟨bb, _, v, A2, c2, rfl, ⟨HY3.out, HF2.out⟩, HG3.out, HTW.out, bd, false, nh, HRH.out, .inr ⟨.inl rfl, rfl⟩⟩
    | true =>
      go_wp2_with fail
      go_ret
      exact ⟨bb, _, v, A2, c2, rfl, ⟨HY3.out, HF2.out⟩, HG3.out, HTW.out, bd, true, nh, HRH.out, .inr ⟨.inr (.inr HN.out), rfl⟩⟩
end
end Rb
end Go.Proofs.YtobpinelhjpfgaaDoor
end

section
namespace Go.Proofs.YtobpinelhjpfgaaDoor
namespace Rb
open Go.RowKit Bp Ck Ln
open Rc (Aok Shp TakeATold act_uniq)
theorem actB_len (k : Nat) (c p : Int) : (actB k c p).length = 2 := Rc.act_len k _
theorem actB_byte (k : Nat) (c p : Int) : ∀ z ∈ actB k c p, z ≤ 255 := pack_byte _
/-- What the law's packet carries, and its bytes. -/
def pkD (k : Nat) (c p : Int) : List Nat := if Aok k c p then actB k c p else []
def pkB (n k : Nat) (c p : Int) : List Nat := lyZ false n (pkD k c p)
theorem pkD_byte (k : Nat) (c p : Int) : ∀ z ∈ pkD k c p, z ≤ 255 := by
  unfold pkD
  split
  · exact actB_byte k c p
  · simp
theorem pkD_len (k : Nat) (c p : Int) : (pkD k c p).length ≤ 2 := by
  unfold pkD
  split
  · exact Nat.le_of_eq (actB_len k c p)
  · simp
theorem pk_ok {n k : Nat} {c p : Int} (h : n + 1 < 18446744073709551616) : Ok false n (pkD k c p) := ⟨h, by have := pkD_len k c p; omega, fun e => (by cases e), pkD_byte k c p⟩
theorem pkB_play {n k : Nat} {c p : Int} (h : n + 1 < 18446744073709551616) : pkB n k c p = play false n (pkD k c p) := (ok_ly (pk_ok h)).2
theorem packet_law (n k : Nat) (hn : n < 18446744073709551616) (c p : Int) (w : World) : Calls Tryd.prog 13 #[.int .u64 (n : Int), .agg #[.int .u8 (k : Int), .int .i64 c, .int .i64 p]] w fun e w' => ∃ A cp, e = .returned (.slice A (pkB n k c p).length cp) ∧ By w'.heap.size w' A (pkB n k c p).length cp (pkB n k c p) ∧ Below w.heap.size w w' := by
  have hal := Rc.below_new w (.cells #[.int .u8 (k : Int), .int .i64 c, .int .i64 p] 33)
  have hal0 := heap_alloc_new w (.cells #[.int .u8 (k : Int), .int .i64 c, .int .i64 p] 33)
  have a0 := cell_of_row _ w.heap.size 0 _ _ _ hal0
  have a1 := cell_of_row _ w.heap.size 1 _ _ _ hal0
  have a2 := cell_of_row _ w.heap.size 2 _ _ _ hal0
  have HAL := Lib.hid hal
  have HPB := Lib.hid (lyZ_byte (h := false) hn (pkD_byte k c p))
  by_cases hok : Aok k c p
  · have HL := Lib.hid (Rc.rlayAct_ok k c p (w.alloc (.cells #[.int .u8 (k : Int), .int .i64 c, .int .i64 p] 33)) hok)
    have e1 : pkD k c p = actB k c p := by unfold pkD; rw [if_pos hok]
    unfold pkB
    rw [e1] at HPB ⊢
    clear hal hal0 hok e1
    go_enter Tryd.func13, Tryd.ntmps13
    go_wp2_with fail
    generalize w.alloc (.cells #[.int .u8 (k : Int), .int .i64 c, .int .i64 p] 33) = w1 at *
    refine HL.out.mono ?_
    intro e w2 hx
    obtain ⟨A1, c1, rfl, hy1, hb1⟩ := hx.own (pack_byte _)
    have HRL := Lib.hid (rlay_any (w := w2) (h := false) (n := n) hn hy1 (Nat.le_refl _))
    have HB1 := Lib.hid (HAL.out.trans (hb1.mono HAL.out.size))
    clear hx hy1 hb1 HL a0 a1 a2
    go_wp2_with fail
    refine HRL.out.mono ?_
    rintro e w3 ⟨A3, c3, rfl, ho3, hb3⟩
    have HO3 := Lib.hid (By.own ho3 HPB.out)
    have HB3 := Lib.hid (HB1.out.trans (hb3.mono HB1.out.size))
    clear ho3 hb3 HRL
    go_wp2_with fail
    go_ret
    exact ⟨A3, c3, rfl, HO3.out, HB3.out⟩
  · have HL := Lib.hid (Rc.rlayAct_no k c p (w.alloc (.cells #[.int .u8 (k : Int), .int .i64 c, .int .i64 p] 33)) hok)
    have e1 : pkD k c p = [] := by unfold pkD; rw [if_neg hok]
    unfold pkB
    rw [e1] at HPB ⊢
    clear hal hal0 hok e1
    go_enter Tryd.func13, Tryd.ntmps13
    go_wp2_with fail
    generalize w.alloc (.cells #[.int .u8 (k : Int), .int .i64 c, .int .i64 p] 33) = w1 at *
    refine HL.out.mono ?_
    rintro e w2 ⟨rfl, hb1⟩
    have HRL := Lib.hid (rlay_any (w := w2) (h := false) (n := n) hn (By.none_ 0 w2) (Nat.zero_le _))
    have HB1 := Lib.hid (HAL.out.trans (hb1.mono HAL.out.size))
    clear hb1 HL a0 a1 a2
    go_wp2_with fail
    refine HRL.out.mono ?_
    rintro e w3 ⟨A3, c3, rfl, ho3, hb3⟩
    have HO3 := Lib.hid (By.own ho3 HPB.out)
    have HB3 := Lib.hid (HB1.out.trans (hb3.mono HB1.out.size))
    clear ho3 hb3 HRL
    go_wp2_with fail
    go_ret
    exact ⟨A3, c3, rfl, HO3.out, HB3.out⟩
theorem same18 (A A' : Option Addr) (n c c' : Nat) (L : List Int) (w : World) (h1 : Bk.Lt w.heap.size w A n c L) (h2 : Bk.Lt w.heap.size w A' n c' L) (hn : n ≤ 1000000) :
    Calls Tryd.prog 25 #[.slice A n c, .slice A' n c'] w fun e w' => e = .returned (.bool true) ∧ Below w.heap.size w w' := by
  have H1 := Lib.hid h1
  have H2 := Lib.hid h2
  have hs := Bk.Gt.size h1
  have hs1 := hs.1
  have hs2 := hs.2
  have hs' := Bk.Gt.size h2
  have hs3 := hs'.1
  have hs4 := hs'.2
  clear h1 h2 hs hs'
  go_enter Tryd.func25, Tryd.ntmps25
  go_wp2_with fail
  go_loopw [5] (fun iv wr => ∃ j : Nat, iv = .int .i64 (j : Int) ∧ j ≤ n ∧ Below w.heap.size w wr) (fun iv _ => n - (intOf iv).toNat)
  case atStart => exact ⟨0, rfl, Nat.zero_le _, Below.refl _ _⟩
  case round =>
    rename World => wr
    obtain ⟨j, rfl, hj, hb⟩ := hrel
    have HB := Lib.hid hb
    clear hb
    by_cases hlj : j < n
    · have k1' : Bk.Lt wr.heap.size wr A n c L := Bk.Gt.later H1.out HB.out
      have k2' : Bk.Lt wr.heap.size wr A' n c' L := Bk.Gt.later H2.out HB.out
      obtain ⟨g1, o1, rfl, _, k1⟩ := k1'.cell hlj
      obtain ⟨g2, o2, rfl, _, k2⟩ := k2'.cell hlj
      have hjI : (j : Int) < (n : Int) := by omega
      clear k1' k2'
      generalize L.getD j 0 = x at *
      go_wp2_with fail
      go_big_quiet (fail)
      go_wp2_with fail
      go_roundw
      case rel => exact ⟨j + 1, by go_num, by omega, HB.out.trans (Bk.below_drewN _ _ _)⟩
      case measure => simp [intOf]; omega
    · obtain rfl : j = n := by omega
      go_wp2_with fail
      go_ret
      exact ⟨rfl, HB.out⟩
section
variable (w : World)
theorem nil_hear (A : Option Addr) (n c : Nat) : Calls Tryd.prog 21 #[.pointer none, .slice A n c] w fun e w' => e = .returned (.slice none 0 0) ∧ w = w' := by
  go_enter Tryd.func21, Tryd.ntmps21
  go_wp2
  go_ret
  exact ⟨rfl, rfl⟩
theorem nil_next : Calls Tryd.prog 23 #[.pointer none] w fun e w' => e = .returned (.tuple #[.agg #[.int .u8 0, .int .i64 0, .int .i64 0], .bool false]) ∧ Below w.heap.size w w' := by
  have hb1 := Rc.below_new w (.cells #[.int .u8 0, .int .i64 0, .int .i64 0] 33)
  have hr1 := heap_alloc_new w (.cells #[.int .u8 0, .int .i64 0, .int .i64 0] 33)
  obtain ⟨⟨r0, r1, r2⟩, f0, f1, f2⟩ := Rc.row_cells3 hr1
  have HB := Lib.hid hb1
  have HR1 := Lib.hid hr1
  clear hb1 hr1
  go_enter Tryd.func23, Tryd.ntmps23
  go_wp2_with fail
  generalize w.alloc (.cells #[.int .u8 0, .int .i64 0, .int .i64 0] 33) = w1 at *
  refine bodyPost_ret (ret_next _ rfl HR1.out) rfl ?_
  exact ⟨rfl, HB.out⟩
theorem nil_step : Calls Tryd.prog 17 #[.pointer none] w fun e w' => e = .returned (.bool false) ∧ w = w' := by
  go_enter Tryd.func17, Tryd.ntmps17
  go_wp2
  go_ret
  exact ⟨rfl, rfl⟩
theorem nil_packet : Calls Tryd.prog 24 #[.pointer none] w fun e w' => e = .returned (.tuple #[.slice none 0 0, .bool false]) ∧ w = w' := by
  go_enter Tryd.func24, Tryd.ntmps24
  go_wp2
  go_ret2
  exact ⟨rfl, rfl⟩
theorem nil_heard (A : Option Addr) (n c : Nat) : Calls Tryd.prog 19 #[.pointer none, .slice A n c] w fun e w' => e = .returned (.bool false) ∧ w = w' := by
  go_enter Tryd.func19, Tryd.ntmps19
  go_wp2
  go_ret
  exact ⟨rfl, rfl⟩
theorem nil_cells : Calls Tryd.prog 26 #[.pointer none] w fun e w' => e = .returned (.slice none 0 0) ∧ w = w' := by
  go_enter Tryd.func26, Tryd.ntmps26
  go_wp2
  go_ret
  exact ⟨rfl, rfl⟩
theorem nil_charge : Calls Tryd.prog 28 #[.pointer none] w fun e w' => e = .returned (.int .i64 0) ∧ w = w' := by
  go_enter Tryd.func28, Tryd.ntmps28
  go_wp2
  go_ret
  exact ⟨rfl, rfl⟩
theorem nil_done : Calls Tryd.prog 29 #[.pointer none] w fun e w' => e = .returned (.int .u64 0) ∧ w = w' := by
  go_enter Tryd.func29, Tryd.ntmps29
  go_wp2
  go_ret
  exact ⟨rfl, rfl⟩
end
/-- A new act is heard. -/
theorem hearR_new {z : R} {k : Nat} {c p : Int} (hn : z.heard + 2 < 18446744073709551616) (hk : z.k = 0) (ha : Aok k c p) : HearR z (pkB (z.heard + 1) k c p) { z with heard := z.heard + 1, k := k, c := c, p := p, told := if z.pk = [] then z.told else z.told + 1, pk := [] } (play true (z.heard + 1) []) := by
  have e1 : pkD k c p = actB k c p := by unfold pkD; rw [if_pos ha]
  have hok : Ok false (z.heard + 1) (pkD k c p) := pk_ok (by omega)
  rw [pkB_play (by omega)]
  exact ⟨actB k c p, true, z.heard + 1, .inl ⟨z.heard + 1, by rw [e1] at hok ⊢; exact is_play hok, rans_next hn, by omega, rfl, rfl, rfl⟩, .inl ⟨k, c, p, rfl, hk, ha, rfl, rfl⟩⟩
section
variable {w : World} {base r h s : Nat} {v : Value} {z : R}
/-- What hearing a new act comes to. -/
def ATold (base r h s : Nat) (v : Value) (z : R) (bb : List Nat) (w : World) (e : Ending) (w' : World) : Prop := ∃ (v' : Value) (A : Option Addr) (c : Nat), e = .returned (.slice A bb.length c) ∧ (By w'.heap.size w' A bb.length c bb ∧ ∀ a, A = some a → w.heap.size ≤ a.block) ∧ RbAt w' base r h s v' z ∧ Turn (RbF r h s v) (RbF r h s v') w w'
def nx (z : R) (k : Nat) (c p : Int) : R := { z with heard := z.heard + 1, k := k, c := c, p := p, told := if z.pk = [] then z.told else z.told + 1, pk := [] }
theorem hear_new {B : Nat} {A : Option Addr} {n cp : Nat} {k : Nat} {c p : Int} (g : RbAt w base r h s v z) (hBb : base ≤ w.heap.size) (h0 : 0 < base) (hS : Shp w) (hn : z.told + 2 < 18446744073709551616) (hh : z.heard + 2 < 18446744073709551616) (hk : z.k = 0) (ha : Aok k c p) (hd : By B w A n cp (pkB (z.heard + 1) k c p)) (hB : B ≤ w.heap.size) :
    Calls Tryd.prog 21 #[.pointer (some ⟨r, 0, none⟩), .slice A n cp] w (ATold base r h s v (nx z k c p) (play true (z.heard + 1) []) w) := by
  refine (hear_any g hBb h0 hS hn hd hB).mono ?_
  rintro e w' ⟨bb, z', v', A', c', rfl, hy, hg, ht, hr⟩
  obtain ⟨rfl, rfl⟩ := hr.uniq (hearR_new hh hk ha)
  exact ⟨v', A', c', rfl, hy, hg, ht⟩
end
end Rb
end Go.Proofs.YtobpinelhjpfgaaDoor
end

section
namespace Go.Proofs.YtobpinelhjpfgaaDoor
namespace Rb
open Go.RowKit Bp Ck Ln
open Rc (Aok Shp TakeATold act_uniq)
/-- A robot of one's own stays where all that was there ahead of it stays. -/
theorem RbAt.below {w0 w w' : World} {r h s : Nat} {v v' : Value} {z : R} (g : RbAt w w0.heap.size r h s v z) (hb : Below w0.heap.size w0 w) (ht : Turn (RbF r h s v) (RbF r h s v') w w') : Below w0.heap.size w0 w' :=
  hb.trans (ht.below _ hb.size (fun k hk => g.lo k hk))
/-- A robot, and all that was there ahead of it. -/
structure Rs (w0 w : World) (r h s : Nat) (v : Value) (z : R) : Prop where
  at_ : RbAt w w0.heap.size r h s v z
  below : Below w0.heap.size w0 w
  shp : Shp w0
section
variable {w0 w w' : World} {r h s : Nat} {v : Value} {z : R}
theorem Rs.later (g : Rs w0 w r h s v z) (hb : Below w.heap.size w w') : Rs w0 w' r h s v z := ⟨g.at_.later hb, g.below.trans (hb.mono g.below.size), g.shp⟩
theorem Rs.sh (g : Rs w0 w r h s v z) : Shp w := g.shp.below g.below g.shp.pos
theorem Rs.turn (g : Rs w0 w r h s v z) {v' : Value} {z' : R} (hg : RbAt w' w0.heap.size r h s v' z') (ht : Turn (RbF r h s v) (RbF r h s v') w w') : Rs w0 w' r h s v' z' := ⟨hg, g.at_.below g.below ht, g.shp⟩
theorem Rs.lt (g : Rs w0 w r h s v z) : ∀ k, RbF r h s v k → k < w.heap.size := g.at_.lt
theorem lt_turn {A : Option Addr} {n c B : Nat} {L : List Int} {F F' : Nat → Prop} (hl : Bk.Lt w.heap.size w A n c L) (ht : Turn F F' w w') (hF : ∀ k, F k → k < B) (hf : ∀ a, A = some a → B ≤ a.block) : Bk.Lt w'.heap.size w' A n c L :=
  ⟨hl.1, hl.2, hl.3, hl.4, fun hn => by
    obtain ⟨g, off, hA, hg, hc⟩ := Bk.Gt.cell hl hn
    have hk := ht.block g hg (fun hx => by have := hF _ hx; have := hf _ hA; simp only at this; omega)
    exact ⟨g, off, hA, Nat.lt_of_lt_of_le hg ht.size, fun j hj => (World.cell?_of_block (a := ⟨g, off + j, none⟩) hk).trans (hc j hj)⟩⟩
/-- What a call comes to that changes the robot. -/
def STo (w0 w : World) (r h s : Nat) (v : Value) (z : R) (x : Value) (e : Ending) (w' : World) : Prop := e = .returned x ∧ ∃ v', Rs w0 w' r h s v' z ∧ Turn (RbF r h s v) (RbF r h s v') w w'
theorem Rs.step (g : Rs w0 w r h s v z) (hc : z.chg ≤ 9223372036854775807) : Calls Tryd.prog 17 #[.pointer (some ⟨r, 0, none⟩)] w (STo w0 w r h s v (stD z).1 (.bool (stD z).2)) := by
  refine (step_any g.at_ g.below.size hc).mono ?_
  rintro e w' ⟨v', rfl, hg, ht⟩
  exact ⟨rfl, v', g.turn hg ht, ht⟩
theorem Rs.heard (g : Rs w0 w r h s v z) {A : Option Addr} {n c : Nat} {bs : List Nat} (hd : By w.heap.size w A n c bs) : Calls Tryd.prog 19 #[.pointer (some ⟨r, 0, none⟩), .slice A n c] w (STo w0 w r h s v { z with told := if heB z.told z.pk bs then z.told + 1 else z.told, pk := if heB z.told z.pk bs then [] else z.pk } (.bool (heB z.told z.pk bs))) := by
  refine (heard_any g.at_ g.below.size hd (Nat.le_refl _)).mono ?_
  rintro e w' ⟨v', rfl, hg, ht⟩
  exact ⟨rfl, v', g.turn hg ht, ht⟩
/-- What Hear comes to. -/
def HTo (w0 w : World) (r h s : Nat) (v : Value) (z : R) (bs : List Nat) (e : Ending) (w' : World) : Prop := ∃ (bb : List Nat) (z' : R) (A : Option Addr) (c : Nat), e = .returned (.slice A bb.length c) ∧ (By w'.heap.size w' A bb.length c bb ∧ ∀ a, A = some a → w.heap.size ≤ a.block) ∧ HearR z bs z' bb ∧ ∃ v', Rs w0 w' r h s v' z' ∧ Turn (RbF r h s v) (RbF r h s v') w w'
theorem Rs.hear (g : Rs w0 w r h s v z) {A : Option Addr} {n c : Nat} {bs : List Nat} (hn : z.told + 2 < 18446744073709551616) (hd : By w.heap.size w A n c bs) : Calls Tryd.prog 21 #[.pointer (some ⟨r, 0, none⟩), .slice A n c] w (HTo w0 w r h s v z bs) := by
  refine (hear_any g.at_ g.below.size g.shp.pos g.sh hn hd (Nat.le_refl _)).mono ?_
  rintro e w' ⟨bb, z', v', A', c', rfl, hy, hg, ht, hr⟩
  exact ⟨bb, z', A', c', rfl, hy, hr, v', g.turn hg ht, ht⟩
/-- A new act comes. -/
def NTo (w0 w : World) (r h s : Nat) (v : Value) (z : R) (bb : List Nat) (e : Ending) (w' : World) : Prop := ∃ (A : Option Addr) (c : Nat), e = .returned (.slice A bb.length c) ∧ (By w'.heap.size w' A bb.length c bb ∧ ∀ a, A = some a → w.heap.size ≤ a.block) ∧ ∃ v', Rs w0 w' r h s v' z ∧ Turn (RbF r h s v) (RbF r h s v') w w'
theorem Rs.new (g : Rs w0 w r h s v z) {A : Option Addr} {n cp : Nat} {k : Nat} {c p : Int} (hn : z.told + 2 < 18446744073709551616) (hh : z.heard + 2 < 18446744073709551616) (hk : z.k = 0) (ha : Aok k c p) (hd : By w.heap.size w A n cp (pkB (z.heard + 1) k c p)) :
    Calls Tryd.prog 21 #[.pointer (some ⟨r, 0, none⟩), .slice A n cp] w (NTo w0 w r h s v (nx z k c p) (play true (z.heard + 1) [])) := by
  refine (hear_new g.at_ g.below.size g.shp.pos g.sh hn hh hk ha hd (Nat.le_refl _)).mono ?_
  rintro e w' ⟨v', A', c', rfl, hy, hg, ht⟩
  exact ⟨A', c', rfl, hy, v', g.turn hg ht, ht⟩
theorem Rs.packet (g : Rs w0 w r h s v z) : Calls Tryd.prog 24 #[.pointer (some ⟨r, 0, none⟩)] w fun e w' => ∃ A c, e = .returned (.tuple #[.slice A z.pk.length c, .bool (decide (z.pk ≠ []))]) ∧ By w'.heap.size w' A z.pk.length c z.pk ∧ Below w.heap.size w w' := by
  refine (packet_any g.at_).mono ?_
  rintro e w' ⟨A, c, rfl, ho, hb⟩
  exact ⟨A, c, rfl, By.own ho g.at_.sat.byte, hb⟩
end
theorem rs_new (w : World) (hS : Shp w) (dock chg : Int) (hd : 0 ≤ dock ∧ dock ≤ 255) (hc : 0 ≤ chg) : Calls Tryd.prog 10 #[.int .i64 dock, .int .i64 chg] w fun e w' => ∃ r h s, e = .returned (.tuple #[.pointer (some ⟨r, 0, none⟩), .int .i64 0]) ∧ ∃ v, Rs w w' r h s v (z0 dock chg) := by
  refine (new_any dock chg hd hc w).mono ?_
  rintro e w' ⟨r, h, s, rfl, hg, hb⟩
  exact ⟨r, h, s, rfl, _, hg, hb, hS⟩
theorem tl_new {told : Nat} (h : told + 2 < 18446744073709551616) : tlP told [] [] = play false (told + 1) [] := by
  have e : tlE told [] 0 = 0 := by unfold tlE; rw [if_neg (by simp), if_neg (by omega)]
  unfold tlP
  rw [if_pos (show tlE told [] ([] : List Nat).length = 0 from e)]
theorem tl_ne {told : Nat} (h : told + 2 < 18446744073709551616) : tlP told [] [] ≠ [] := by
  rw [tl_new h]
  exact play_ne (ok_told h (by simp) (by simp))
theorem st_none {z : R} (hk : z.k = 0) : stD z = (z, false) := by unfold stD; rw [if_pos hk]
theorem st_go {z : R} (hk : z.k = 1) (ho : z.on = false) : stD z = (lvD z, false) := by
  unfold stD
  rw [if_neg (by omega), if_pos hk, if_neg (by simp [ho])]
theorem st_arr {z : R} (hk : z.k = 1) (ho : z.on = true) : stD z = (dnD (arD z), true) := by
  unfold stD
  rw [if_neg (by omega), if_pos hk, if_pos ho]
theorem st_do {z : R} (h0 : z.k ≠ 0) (h1 : z.k ≠ 1) : stD z = (dnD z, true) := by
  unfold stD
  rw [if_neg h0, if_neg h1]
theorem lv_yes {z : R} (h : 0 < z.chg) : lvD z = { z with chg := z.chg - 1, on := true } := by unfold lvD; rw [if_pos h]
theorem lv_no {z : R} (h : ¬ 0 < z.chg) : lvD z = z := by unfold lvD; rw [if_neg h]
theorem take_play {w w' : World} {n : Nat} {d : List Nat} {e : Ending} (hok : Ok false n d) (h : Ln.TakeTold w (play false n d) e w') : ∃ A c, e = .returned (.tuple #[.agg #[.bool false, .int .u64 (n : Int), .slice A d.length c], .int .i64 0]) ∧ By w'.heap.size w' A d.length c d ∧ Below w.heap.size w w' := by
  obtain ⟨hb, ⟨h', n', d', A, c, hi, he, hy, _⟩ | ⟨hno, _⟩⟩ := h
  · obtain ⟨rfl, rfl, rfl⟩ := hi.uniq (is_play hok)
    exact ⟨A, c, he, hy, hb⟩
  · exact absurd (is_play hok) (hno _ _ _)
theorem rlay_heard {w : World} {n : Nat} (hn : n + 1 < 18446744073709551616) : Calls Tryd.prog 16 #[.agg #[.bool true, .int .u64 (n : Int), .slice none 0 0]] w fun e w' => ∃ A c, e = .returned (.tuple #[.slice A (play true n []).length c, .int .i64 0]) ∧ By w'.heap.size w' A (play true n []).length c (play true n []) ∧ Below w.heap.size w w' := by
  have q := rlay_any (w := w) (h := true) (n := n) (by omega) (By.none_ 0 w) (Nat.zero_le _)
  obtain ⟨e1, e2⟩ := ok_ly (ok_heard hn)
  rw [e1, e2] at q
  refine q.mono ?_
  rintro e w' ⟨A, c, rfl, ho, hb⟩
  exact ⟨A, c, rfl, By.own ho (ok_heard hn).play_byte, hb⟩
theorem he_play {told : Nat} (h : told + 2 < 18446744073709551616) : heB told (play false (told + 1) []) (play true (told + 1) []) = true := by
  unfold heB
  rw [decide_eq_true (play_ne (ok_told h (by simp) (by simp))), decide_eq_true rfl]
  rfl
set_option maxHeartbeats 4000000 in
theorem shown18_any (w : World) (hS : Shp w) : Calls Tryd.prog 9 #[] w fun e w' => e = .returned (.bool true) ∧ Below w.heap.size w w' := by
  have HSH := Lib.hid hS
  have HN := Lib.hid (rs_new w hS 0 9 (by decide) (by decide))
  clear hS
  go_enter Tryd.func9, Tryd.ntmps9
  go_wp2_with fail
  refine HN.out.mono ?_
  rintro e w1 ⟨r, h, s, rfl, v, hg1⟩
  have HG1 := Lib.hid hg1
  clear hg1 HN
  go_wp2_with fail
  refine (packet_law 1 1 (by decide) 1 0 _).mono ?_
  rintro e w2 ⟨A2, c2, rfl, hy2, hb2⟩
  have HNW : Hid (Calls Tryd.prog 21 #[.pointer (some ⟨r, 0, none⟩), .slice A2 (pkB 1 1 1 0).length c2] w2 (NTo w w2 r h s v ⟨0, 9, 0, 9, 1, 1, 0, false, 1, 0, []⟩ (play true 1 []))) := Lib.hid ((HG1.out.later hb2).new (k := 1) (c := 1) (p := 0) (by decide) (by decide) rfl (by decide) hy2)
  have hl0 : 0 < (play true 1 []).length := (ok_heard (n := 1) (by decide)).size.1
  have hl1 : (play true 1 []).length ≤ 300 := (ok_heard (n := 1) (by decide)).size.2
  clear hy2 hb2 HG1
  generalize pkB 1 1 1 0 = pz at *
  generalize play true 1 [] = py at *
  have hn3 : ((py.length : Int) == 0) = false := by rw [beq_eq_false_iff_ne]; omega
  go_wp2_with fail
  refine HNW.out.mono ?_
  rintro e w3 ⟨A3, c3, rfl, ⟨hy3, hf3⟩, v3, hg3, -⟩
  have HG3 := Lib.hid hg3
  have HST := Lib.hid (hg3.step (by decide))
  clear hy3 hf3 hg3 HNW
  generalize py.length = n3 at *
  go_wp2_with fail
  refine HST.out.mono ?_
  rintro e w4 ⟨rfl, v4, hg4, -⟩
  have e4 : stD ⟨0, 9, 0, 9, 1, 1, 0, false, 1, 0, []⟩ = (⟨0, 9, 0, 8, 1, 1, 0, true, 1, 0, []⟩, false) := rfl
  rw [e4] at hg4 ⊢
  have HCE : Hid (Calls Tryd.prog 26 #[.pointer (some ⟨r, 0, none⟩)] w4 fun e w' => ∃ A c, e = .returned (.slice A 2 c) ∧ Bk.Lt w'.heap.size w' A 2 c [0, 1] ∧ Below w4.heap.size w4 w' ∧ ∀ a, A = some a → w4.heap.size ≤ a.block) := Lib.hid (cells_any hg4.at_)
  have HG4 := Lib.hid hg4
  clear hg4 e4 HST HG3
  go_wp2_with fail
  refine HCE.out.mono ?_
  rintro e w5 ⟨A5, c5, rfl, hl5, hb5, hf5⟩
  have hg5 := HG4.out.later hb5
  have HST := Lib.hid (hg5.step (by decide))
  have HLT : Hid (∀ k, RbF r h s v4 k → k < w4.heap.size) := Lib.hid HG4.out.lt
  have HF5 := Lib.hid hf5
  have HL5 := Lib.hid hl5
  have hc5 := Bk.Gt.size hl5
  have hc51 := hc5.1
  have hc52 := hc5.2
  clear hg5 hl5 hb5 hf5 HCE HG4 hc5
  go_wp2_with fail
  refine HST.out.mono ?_
  rintro e w6 ⟨rfl, v6, hg6, ht6⟩
  have e6 : stD ⟨0, 9, 0, 8, 1, 1, 0, true, 1, 0, []⟩ = (⟨0, 9, 1, 8, 0, 0, 0, false, 1, 0, tlP 0 [] []⟩, true) := rfl
  rw [e6] at hg6 ⊢
  have hl6 := lt_turn HL5.out ht6 (B := w4.heap.size) HLT.out HF5.out
  have HCE : Hid (Calls Tryd.prog 26 #[.pointer (some ⟨r, 0, none⟩)] w6 fun e w' => ∃ A c, e = .returned (.slice A 1 c) ∧ Bk.Lt w'.heap.size w' A 1 c [1] ∧ Below w6.heap.size w6 w' ∧ ∀ a, A = some a → w6.heap.size ≤ a.block) := Lib.hid (cells_any hg6.at_)
  have HG6 := Lib.hid hg6
  have HL6 := Lib.hid hl6
  clear hg6 hl6 ht6 e6 HST HL5 HLT HF5
  go_wp2_with fail
  refine HCE.out.mono ?_
  rintro e w7 ⟨A7, c7, rfl, hl7, hb7, -⟩
  have HG7 := Lib.hid (HG6.out.later hb7)
  have HL67 := Lib.hid (Bk.Gt.later HL6.out hb7)
  have HL7 := Lib.hid hl7
  have hc7 := Bk.Gt.size hl7
  have hc71 := hc7.1
  have hc72 := hc7.2
  have HP := Lib.hid HG7.out.packet
  have hpn : decide (tlP 0 [] [] ≠ []) = true := decide_eq_true (tl_ne (by decide))
  have HDN : Hid (dn ⟨0, 9, 1, 8, 0, 0, 0, false, 1, 0, tlP 0 [] []⟩ = 1) := Lib.hid (by unfold dn; rw [if_neg (tl_ne (by decide))])
  rw [show R.pk ⟨0, 9, 1, 8, 0, 0, 0, false, 1, 0, tlP 0 [] []⟩ = tlP 0 [] [] from rfl, hpn] at HP
  clear hl7 hb7 hc7 hpn HCE HG6 HL6
  generalize tlP 0 [] [] = pz at *
  go_wp2_with fail
  refine HP.out.mono ?_
  rintro e w8 ⟨A8, c8, rfl, hy8, hb8⟩
  have hb8b : Below w8.heap.size w8 (w8.alloc (.cells #[.int .i64 0, .int .i64 1] 3)) := Rc.below_new _ _
  have HG8 := Lib.hid ((HG7.out.later hb8).later hb8b)
  have HL8 := Lib.hid (Bk.Gt.later (Bk.Gt.later HL67.out hb8) hb8b)
  have HL78 := Lib.hid (Bk.Gt.later (Bk.Gt.later HL7.out hb8) hb8b)
  have HS1 := Lib.hid (same18 _ _ _ _ _ _ _ HL8.out (lt_two w8 0 1) (by decide))
  clear hy8 hb8 hb8b HP HG7 HL67 HL7
  go_wp2_with fail
  refine HS1.out.mono ?_
  rintro e w9 ⟨rfl, hb9⟩
  have hb9b : Below w9.heap.size w9 (w9.alloc (.cells #[.int .i64 1] 3)) := Rc.below_new _ _
  have HG9 := Lib.hid ((HG8.out.later hb9).later hb9b)
  have HS2 := Lib.hid (same18 _ _ _ _ _ _ _ (Bk.Gt.later (Bk.Gt.later HL78.out hb9) hb9b) (Bk.Lt.one w9 1) (by decide))
  clear hb9 hb9b HS1 HG8 HL8 HL78
  go_wp2_with fail
  refine HS2.out.mono ?_
  rintro e w10 ⟨rfl, hb10⟩
  have HG10 := Lib.hid (HG9.out.later hb10)
  have HD := Lib.hid (done_any HG10.out.at_)
  rw [HDN.out] at HD
  clear hb10 HS2 HG9 HDN
  go_wp2_with fail
  refine HD.out.mono ?_
  rintro e w11 ⟨rfl, hb11⟩
  have HG11 := Lib.hid (HG10.out.later hb11)
  have HC : Hid (Calls Tryd.prog 28 #[.pointer (some ⟨r, 0, none⟩)] w11 fun e w' => e = .returned (.int .i64 8) ∧ w11 = w') := Lib.hid (charge_any HG11.out.at_)
  clear hb11 HD HG10
  go_wp2_with fail
  refine HC.out.mono ?_
  rintro e w12 ⟨rfl, rfl⟩
  go_wp2_with fail
  go_ret
  exact ⟨rfl, HG11.out.below⟩
end Rb
end Go.Proofs.YtobpinelhjpfgaaDoor
end
