/-
  TopTold: what comes to the robot, and what comes back.
-/
import Derived.Test.YtobpinelhjpfgaaDoorTtB
set_option linter.unusedVariables false
set_option maxRecDepth 100000
namespace Go.Proofs.YtobpinelhjpfgaaDoor
namespace Tt
open Go.RowKit Go.Maps Bp Ck Ln Rb
open Rc (Aok Shp act_uniq)
def IvZ (i : Nat) (y : Zt) : Prop := Iv i y.z y.T y.D y.ts y.ps y.hh y.L1 y.L2
/-- What a call of the law's own functions comes to: all lies as ever, and what was told and done is the same. -/
def CTold (w0 : World) (m : Mt) (y : Zt) (i : Nat) (e : Ending) (w' : World) : Prop := e = .returned (.tuple #[]) ∧ ∃ y', Sm w0 w' m y' ∧ IvZ i y' ∧ y'.vT = y.vT ∧ y'.T = y.T ∧ y'.vD = y.vD ∧ y'.D = y.D
theorem cell_one {w : World} {b : Nat} {x : Value} {t : TypeId} (h : w.heap[b]? = some (.cells #[x] t (0, 0))) : w.cell? ⟨b, 0, none⟩ = some x ∧ w.frozen? ⟨b, 0, none⟩ = false := ⟨by rw [cell_of_row _ b 0 _ _ _ h]; rfl, frozen_of_row _ b 0 _ _ h⟩
theorem is_heard {n : Nat} (hn : n ≤ 100000) {h : Bool} {n' : Nat} {d : List Nat} (hi : Is (play true (n + 1) []) h n' d) : h = true ∧ n' = n + 1 ∧ d = [] := hi.uniq (is_play (okh hn))
theorem is_told {n : Nat} {d0 : List Nat} (hok : Ok false (n + 1) d0) {h : Bool} {n' : Nat} {d : List Nat} (hi : Is (play false (n + 1) d0) h n' d) : h = false ∧ n' = n + 1 ∧ d = d0 := hi.uniq (is_play hok)
/-- Take, of a packet. -/
theorem take_is {B : Nat} {w : World} {A : Option Addr} {n cap : Nat} {h : Bool} {m : Nat} {d : List Nat} (hok : Ok h m d) (hy : By B w A n cap (play h m d)) (hB : B ≤ w.heap.size) : Calls Tryd.prog 41 #[.slice A n cap] w fun e w' => ∃ A1 c1, e = .returned (.tuple #[.agg #[.bool h, .int .u64 (m : Int), .slice A1 d.length c1], .int .i64 0]) ∧ Below w.heap.size w w' := by
  refine (Ln.take_any hy hB).mono ?_
  rintro e w' ⟨hb, ⟨h', n', d', A', c', hi, he, _, _⟩ | ⟨hno, _⟩⟩
  · obtain ⟨rfl, rfl, rfl⟩ := hi.uniq (is_play hok)
    exact ⟨A', c', he, hb⟩
  · exact absurd (is_play hok) (hno _ _ _)
set_option maxHeartbeats 1000000 in
theorem comes_no {B : Nat} {w : World} {A : Option Addr} {n c : Nat} {bs : List Nat} (p1 p2 : Value) (hy : By B w A n c bs) (hB : B ≤ w.heap.size) : Calls Tryd.prog 40 #[.slice A n c, .bool false, p1, p2] w fun e w' => e = .returned (.tuple #[]) ∧ Below w.heap.size w w' := by
  have HT := Lib.hid (Ln.take_any hy hB)
  clear hy
  go_enter Tryd.func40, Tryd.ntmps40
  go_wp2_with fail
  refine HT.out.mono ?_
  rintro e w1 ⟨hb1, ⟨h, k, d, A1, c1, his, rfl, -, -⟩ | ⟨hno, rfl⟩⟩
  · have HB := Lib.hid (hb1.trans ((box3_below w1 (.bool h) (.int .u64 (k : Int)) (.slice A1 d.length c1)).mono hb1.size))
    clear his hb1 HT
    go_wp2_with fail
    try simp only [Exit.inBlock, Exit.then]
    refine bodyPost_ret (results_none rfl _ _ _) rfl ?_
    exact ⟨rfl, HB.out⟩
  · have HB := Lib.hid (hb1.trans ((box3_below w1 (.bool false) (.int .u64 0) (.slice none 0 0)).mono hb1.size))
    clear hno hb1 HT
    go_wp2_with fail
    try simp only [Exit.inBlock, Exit.then]
    refine bodyPost_ret (results_none rfl _ _ _) rfl ?_
    exact ⟨rfl, HB.out⟩
set_option maxHeartbeats 1000000 in
theorem back_no {B : Nat} {w : World} {A : Option Addr} {n c : Nat} {bs : List Nat} (p1 p2 p3 : Value) (hy : By B w A n c bs) (hB : B ≤ w.heap.size) : Calls Tryd.prog 43 #[.slice A n c, .bool false, p1, p2, p3] w fun e w' => e = .returned (.tuple #[]) ∧ Below w.heap.size w w' := by
  have HT := Lib.hid (Ln.take_any hy hB)
  clear hy
  go_enter Tryd.func43, Tryd.ntmps43
  go_wp2_with fail
  refine HT.out.mono ?_
  rintro e w1 ⟨hb1, ⟨h, k, d, A1, c1, his, rfl, -, -⟩ | ⟨hno, rfl⟩⟩
  · have HB := Lib.hid (hb1.trans ((box3_below w1 (.bool h) (.int .u64 (k : Int)) (.slice A1 d.length c1)).mono hb1.size))
    clear his hb1 HT
    go_wp2_with fail
    try simp only [Exit.inBlock, Exit.then]
    refine bodyPost_ret (results_none rfl _ _ _) rfl ?_
    exact ⟨rfl, HB.out⟩
  · have HB := Lib.hid (hb1.trans ((box3_below w1 (.bool false) (.int .u64 0) (.slice none 0 0)).mono hb1.size))
    clear hno hb1 HT
    go_wp2_with fail
    try simp only [Exit.inBlock, Exit.then]
    refine bodyPost_ret (results_none rfl _ _ _) rfl ?_
    exact ⟨rfl, HB.out⟩
section
variable {w0 w : World} {m : Mt} {y : Zt} {i : Nat} {A : Option Addr} {n c : Nat} {bs : List Nat}
set_option maxHeartbeats 4000000 in
theorem comes_yes (h : Sm w0 w m y) (iv : IvZ i y) (hy : By w.heap.size w A n c bs) (hto : ToR y.T y.hh bs) :
    Calls Tryd.prog 40 #[.slice A n c, .bool true, .pointer (some ⟨m.b3, 0, none⟩), .pointer (some ⟨m.b8, 0, none⟩)] w (CTold w0 m y i) := by
  have hlot := Iv.lot iv
  rcases hto with ⟨k, x, hx, rfl⟩ | ⟨k, hk, rfl⟩
  · have hkT : k < y.T.length := (List.getElem?_eq_some_iff.1 hx).1
    have hok := okp (n := k) x (by omega)
    have HT := Lib.hid (take_is hok hy (Nat.le_refl _))
    have HH := Lib.hid h
    have HI := Lib.hid iv
    have HX := Lib.hid hx
    have HY := Lib.hid hy
    clear h iv hy hx
    generalize hpl : play false (k + 1) (acB x) = pz at *
    go_enter Tryd.func40, Tryd.ntmps40
    go_wp2_with fail
    refine HT.out.mono ?_
    rintro e w1 ⟨A1, c1, rfl, hb1⟩
    have hal := box3_below w1 (.bool false) (.int .u64 ((k : Int) + 1)) (.slice A1 (acB x).length c1)
    have hal0 := box3 w1 (.bool false) (.int .u64 ((k : Int) + 1)) (.slice A1 (acB x).length c1)
    obtain ⟨d0, d1, d2⟩ := pkt_cells hal0
    have hb2 := hb1.trans (hal.mono hb1.size)
    have h2 := HH.out.later hb2
    obtain ⟨c3, -⟩ := cell_one h2.x3
    have HHE := Lib.hid (h2.tri.rb.hear (Gd.told HI.out.gd) (Ln.by_later HY.out hb2))
    have H2 := Lib.hid h2
    clear hb1 hal hal0 hb2 h2 HT HH HY
    go_wp2_with fail
    generalize w1.alloc (.cells #[.bool false, .int .u64 ((k : Int) + 1), .slice A1 (acB x).length c1] 48) = w2 at *
    refine HHE.out.mono ?_
    rintro e w3 ⟨bb, z', A3, c4, rfl, ⟨hy3, hf3⟩, hr, v3, hg3, ht3⟩
    rw [← hpl] at hr
    obtain ⟨ebb, hn3, hiv3⟩ := Iv.rhears HI.out HX.out hr
    obtain ⟨htr3, htt3⟩ := H2.out.tri.robot hg3 ht3
    have h3 := H2.out.trio htr3 htt3
    obtain ⟨c8, -⟩ := cell_one h3.x8
    have hbs := (okh (n := k) (by omega)).size
    rw [ebb] at hy3 ⊢
    have HSN := Lib.hid (Nw.Send_any h3.n2 h3.below.size A3 _ c4 _ (by_yb hy3) (by omega))
    have H3 := Lib.hid h3
    have HI3 := Lib.hid (Iv.answers hiv3 hn3)
    clear hy3 hf3 hr hg3 ht3 hiv3 htr3 htt3 h3 HHE H2 c3 d0 d1 d2
    generalize play true (k + 1) [] = pa at *
    have hgt : decide ((0 : Int) < (pa.length : Int)) = true := decide_eq_true (by omega)
    go_wp2_with fail
    refine HSN.out.mono ?_
    rintro e w4 ⟨v4, P4, rfl, hn4, ht4⟩
    have H4 := Lib.hid (H3.out.net2 hn4 ht4)
    clear hn4 ht4 HSN H3
    go_wp2_with fail
    go_end0
    exact ⟨rfl, _, H4.out, HI3.out, rfl, rfl, rfl, rfl⟩
  · have hok := okh (n := k) (by omega)
    have HT := Lib.hid (take_is hok hy (Nat.le_refl _))
    have HH := Lib.hid h
    have HI := Lib.hid iv
    have HY := Lib.hid hy
    clear h iv hy
    generalize hpl : play true (k + 1) [] = pz at *
    go_enter Tryd.func40, Tryd.ntmps40
    go_wp2_with fail
    refine HT.out.mono ?_
    rintro e w1 ⟨A1, c1, rfl, hb1⟩
    have hal := box3_below w1 (.bool true) (.int .u64 ((k : Int) + 1)) (.slice A1 0 c1)
    have hal0 := box3 w1 (.bool true) (.int .u64 ((k : Int) + 1)) (.slice A1 0 c1)
    obtain ⟨d0, d1, d2⟩ := pkt_cells hal0
    have hb2 := hb1.trans (hal.mono hb1.size)
    have h2 := HH.out.later hb2
    obtain ⟨c3, -⟩ := cell_one h2.x3
    have HHE := Lib.hid (h2.tri.rb.heard (Ln.by_later HY.out hb2))
    have H2 := Lib.hid h2
    clear hb1 hal hal0 hb2 h2 HT HH HY
    go_wp2_with fail
    generalize w1.alloc (.cells #[.bool true, .int .u64 ((k : Int) + 1), .slice A1 0 c1] 48) = w2 at *
    refine HHE.out.mono ?_
    rintro e w3 ⟨rfl, v3, hg3, ht3⟩
    have hg3' : Rs w0 w3 m.a.r m.a.h m.a.s v3 (hdD y.z pz) := hg3
    obtain ⟨htr3, htt3⟩ := H2.out.tri.robot hg3' ht3
    have H3 := Lib.hid (H2.out.trio htr3 htt3)
    have hiv3 := Iv.rheard HI.out hk
    rw [hpl] at hiv3
    have HI3 := Lib.hid hiv3
    clear hg3 hg3' ht3 htr3 htt3 hiv3 HHE H2 c3 d0 d1 d2
    go_wp2_with fail
    go_end0
    exact ⟨rfl, _, H3.out, HI3.out, rfl, rfl, rfl, rfl⟩
set_option maxHeartbeats 4000000 in
theorem back_yes (h : Sm w0 w m y) (iv : IvZ i y) (hy : By w.heap.size w A n c bs) (hfr : FromR y.z.heard y.D.length bs) :
    Calls Tryd.prog 43 #[.slice A n c, .bool true, .pointer (some ⟨m.b5, 0, none⟩), .pointer (some ⟨m.b6, 0, none⟩), .pointer (some ⟨m.b7, 0, none⟩)] w (CTold w0 m y i) := by
  have hlot := Iv.lot iv
  rcases hfr with ⟨k, hk, rfl⟩ | ⟨k, hk, rfl⟩
  · have hok := okh (n := k) (by omega)
    have HT := Lib.hid (take_is hok hy (Nat.le_refl _))
    have HH := Lib.hid h
    have HI := Lib.hid iv
    have HY := Lib.hid hy
    clear h iv hy
    generalize hpl : play true (k + 1) [] = pz at *
    go_enter Tryd.func43, Tryd.ntmps43
    go_wp2_with fail
    refine HT.out.mono ?_
    rintro e w1 ⟨A1, c1, rfl, hb1⟩
    have hal := box3_below w1 (.bool true) (.int .u64 ((k : Int) + 1)) (.slice A1 0 c1)
    have hal0 := box3 w1 (.bool true) (.int .u64 ((k : Int) + 1)) (.slice A1 0 c1)
    obtain ⟨d0, d1, d2⟩ := pkt_cells hal0
    have hb2 := hb1.trans (hal.mono hb1.size)
    have h2 := HH.out.later hb2
    obtain ⟨c3, -⟩ := cell_one h2.x5
    have HHE := Lib.hid (shear_any h2.tri.sat (Ln.by_later HY.out hb2) (Nat.le_refl _))
    have H2 := Lib.hid h2
    clear hb1 hal hal0 hb2 h2 HT HH HY
    go_wp2_with fail
    generalize w1.alloc (.cells #[.bool true, .int .u64 ((k : Int) + 1), .slice A1 0 c1] 48) = w2 at *
    refine HHE.out.mono ?_
    rintro e w3 ⟨u3, rfl, hs3, ht3, hv3⟩
    obtain ⟨htr3, htt3⟩ := H2.out.tri.sender hs3 ht3 hv3
    have H3 := Lib.hid (H2.out.trio htr3 htt3)
    have hiv3 := Iv.sheard HI.out hk
    rw [hpl] at hiv3
    have HI3 := Lib.hid hiv3
    clear hs3 ht3 hv3 htr3 htt3 hiv3 HHE H2 c3 d0 d1 d2
    go_wp2_with fail
    try simp only [Exit.inBlock, Exit.then]
    refine bodyPost_ret (results_none rfl _ _ _) rfl ?_
    exact ⟨rfl, _, H3.out, HI3.out, rfl, rfl, rfl, rfl⟩
  · have hok := oke (n := k) (by omega)
    have HT := Lib.hid (take_is hok hy (Nat.le_refl _))
    have HH := Lib.hid h
    have HI := Lib.hid iv
    have HY := Lib.hid hy
    clear h iv hy
    generalize hpl : play false (k + 1) [] = pz at *
    go_enter Tryd.func43, Tryd.ntmps43
    go_wp2_with fail
    refine HT.out.mono ?_
    rintro e w1 ⟨A1, c1, rfl, hb1⟩
    have hal := box3_below w1 (.bool false) (.int .u64 ((k : Int) + 1)) (.slice A1 0 c1)
    have hal0 := box3 w1 (.bool false) (.int .u64 ((k : Int) + 1)) (.slice A1 0 c1)
    obtain ⟨d0, d1, d2⟩ := pkt_cells hal0
    have hb2 := hb1.trans (hal.mono hb1.size)
    have h2 := HH.out.later hb2
    obtain ⟨c3, -⟩ := cell_one h2.x6
    have HHE := Lib.hid (rhear_any h2.tri.rat (Ln.by_later HY.out hb2) (Nat.le_refl _))
    have H2 := Lib.hid h2
    clear hb1 hal hal0 hb2 h2 HT HH HY
    go_wp2_with fail
    generalize w1.alloc (.cells #[.bool false, .int .u64 ((k : Int) + 1), .slice A1 0 c1] 48) = w2 at *
    refine HHE.out.mono ?_
    intro e w3 hx
    obtain ⟨bd, fr, bb, nh, A3, c4, A5, c5, rfl, ht3, -, ⟨hy3, hf3⟩, hr3, hrh⟩ := rh_form hx
    rw [← hpl] at hrh
    obtain ⟨ebb, hn3, hiv3⟩ := Iv.hhears HI.out hk hrh
    obtain ⟨htr3, htt3⟩ := H2.out.tri.receiver hr3 ht3
    have h3 := H2.out.trio htr3 htt3
    obtain ⟨c7, -⟩ := cell_one h3.x7
    have hbs := (okh (n := k) (by omega)).size
    rw [ebb] at hy3 ⊢
    have HSN := Lib.hid (Nw.Send_any h3.n1 h3.below.size A5 _ c5 _ (by_yb hy3) (by omega))
    have H3 := Lib.hid h3
    have HI3 := Lib.hid (Iv.replies hiv3 hn3)
    clear hx hy3 hf3 hr3 ht3 hrh hiv3 htr3 htt3 h3 HHE H2 c3 d0 d1 d2
    generalize play true (k + 1) [] = pa at *
    have hgt : decide ((0 : Int) < (pa.length : Int)) = true := decide_eq_true (by omega)
    go_wp2_with fail
    refine HSN.out.mono ?_
    rintro e w4 ⟨v4, P4, rfl, hn4, ht4⟩
    have H4 := Lib.hid (H3.out.net1 hn4 ht4)
    clear hn4 ht4 HSN H3
    go_wp2_with fail
    go_end0
    exact ⟨rfl, _, H4.out, HI3.out, rfl, rfl, rfl, rfl⟩
end
end Tt
end Go.Proofs.YtobpinelhjpfgaaDoor
