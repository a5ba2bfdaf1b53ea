/-
  Layer 18: the packet of an act; lists of numbers that are the same; the document's example; a robot of none.
-/
import Derived.Test.YtobpinelhjpfgaaDoorRbC
set_option linter.unusedVariables false
set_option maxRecDepth 100000
namespace Go.Proofs.YtobpinelhjpfgaaDoor
namespace Rb
open Go.RowKit Bp Ck Ln
open Rc (Aok Shp TakeATold act_uniq)
theorem actB_len (k : Nat) (c p : Int) : (actB k c p).length = 2 := Rc.act_len k _
theorem actB_byte (k : Nat) (c p : Int) : ∀ z ∈ actB k c p, z ≤ 255 := pack_byte _
/-- What the law's packet carries, and its bytes. -/
def pkD (k : Nat) (c p : Int) : List Nat := if Aok k c p then actB k c p else []
def pkB (n k : Nat) (c p : Int) : List Nat := lyZ false n (pkD k c p)
theorem pkD_byte (k : Nat) (c p : Int) : ∀ z ∈ pkD k c p, z ≤ 255 := by
  unfold pkD
  split
  · exact actB_byte k c p
  · simp
theorem pkD_len (k : Nat) (c p : Int) : (pkD k c p).length ≤ 2 := by
  unfold pkD
  split
  · exact Nat.le_of_eq (actB_len k c p)
  · simp
theorem pk_ok {n k : Nat} {c p : Int} (h : n + 1 < 18446744073709551616) : Ok false n (pkD k c p) := ⟨h, by have := pkD_len k c p; omega, fun e => (by cases e), pkD_byte k c p⟩
theorem pkB_play {n k : Nat} {c p : Int} (h : n + 1 < 18446744073709551616) : pkB n k c p = play false n (pkD k c p) := (ok_ly (pk_ok h)).2
theorem packet_law (n k : Nat) (hn : n < 18446744073709551616) (c p : Int) (w : World) : Calls Tryd.prog 13 #[.int .u64 (n : Int), .agg #[.int .u8 (k : Int), .int .i64 c, .int .i64 p]] w fun e w' => ∃ A cp, e = .returned (.slice A (pkB n k c p).length cp) ∧ By w'.heap.size w' A (pkB n k c p).length cp (pkB n k c p) ∧ Below w.heap.size w w' := by
  have hal := Rc.below_new w (.cells #[.int .u8 (k : Int), .int .i64 c, .int .i64 p] 33)
  have hal0 := heap_alloc_new w (.cells #[.int .u8 (k : Int), .int .i64 c, .int .i64 p] 33)
  have a0 := cell_of_row _ w.heap.size 0 _ _ _ hal0
  have a1 := cell_of_row _ w.heap.size 1 _ _ _ hal0
  have a2 := cell_of_row _ w.heap.size 2 _ _ _ hal0
  have HAL := Lib.hid hal
  have HPB := Lib.hid (lyZ_byte (h := false) hn (pkD_byte k c p))
  by_cases hok : Aok k c p
  · have HL := Lib.hid (Rc.rlayAct_ok k c p (w.alloc (.cells #[.int .u8 (k : Int), .int .i64 c, .int .i64 p] 33)) hok)
    have e1 : pkD k c p = actB k c p := by unfold pkD; rw [if_pos hok]
    unfold pkB
    rw [e1] at HPB ⊢
    clear hal hal0 hok e1
    go_enter Tryd.func13, Tryd.ntmps13
    go_wp2_with fail
    generalize w.alloc (.cells #[.int .u8 (k : Int), .int .i64 c, .int .i64 p] 33) = w1 at *
    refine HL.out.mono ?_
    intro e w2 hx
    obtain ⟨A1, c1, rfl, hy1, hb1⟩ := hx.own (pack_byte _)
    have HRL := Lib.hid (rlay_any (w := w2) (h := false) (n := n) hn hy1 (Nat.le_refl _))
    have HB1 := Lib.hid (HAL.out.trans (hb1.mono HAL.out.size))
    clear hx hy1 hb1 HL a0 a1 a2
    go_wp2_with fail
    refine HRL.out.mono ?_
    rintro e w3 ⟨A3, c3, rfl, ho3, hb3⟩
    have HO3 := Lib.hid (By.own ho3 HPB.out)
    have HB3 := Lib.hid (HB1.out.trans (hb3.mono HB1.out.size))
    clear ho3 hb3 HRL
    go_wp2_with fail
    go_ret
    exact ⟨A3, c3, rfl, HO3.out, HB3.out⟩
  · have HL := Lib.hid (Rc.rlayAct_no k c p (w.alloc (.cells #[.int .u8 (k : Int), .int .i64 c, .int .i64 p] 33)) hok)
    have e1 : pkD k c p = [] := by unfold pkD; rw [if_neg hok]
    unfold pkB
    rw [e1] at HPB ⊢
    clear hal hal0 hok e1
    go_enter Tryd.func13, Tryd.ntmps13
    go_wp2_with fail
    generalize w.alloc (.cells #[.int .u8 (k : Int), .int .i64 c, .int .i64 p] 33) = w1 at *
    refine HL.out.mono ?_
    rintro e w2 ⟨rfl, hb1⟩
    have HRL := Lib.hid (rlay_any (w := w2) (h := false) (n := n) hn (By.none_ 0 w2) (Nat.zero_le _))
    have HB1 := Lib.hid (HAL.out.trans (hb1.mono HAL.out.size))
    clear hb1 HL a0 a1 a2
    go_wp2_with fail
    refine HRL.out.mono ?_
    rintro e w3 ⟨A3, c3, rfl, ho3, hb3⟩
    have HO3 := Lib.hid (By.own ho3 HPB.out)
    have HB3 := Lib.hid (HB1.out.trans (hb3.mono HB1.out.size))
    clear ho3 hb3 HRL
    go_wp2_with fail
    go_ret
    exact ⟨A3, c3, rfl, HO3.out, HB3.out⟩
theorem same18 (A A' : Option Addr) (n c c' : Nat) (L : List Int) (w : World) (h1 : Bk.Lt w.heap.size w A n c L) (h2 : Bk.Lt w.heap.size w A' n c' L) (hn : n ≤ 1000000) :
    Calls Tryd.prog 25 #[.slice A n c, .slice A' n c'] w fun e w' => e = .returned (.bool true) ∧ Below w.heap.size w w' := by
  have H1 := Lib.hid h1
  have H2 := Lib.hid h2
  have hs := Bk.Gt.size h1
  have hs1 := hs.1
  have hs2 := hs.2
  have hs' := Bk.Gt.size h2
  have hs3 := hs'.1
  have hs4 := hs'.2
  clear h1 h2 hs hs'
  go_enter Tryd.func25, Tryd.ntmps25
  go_wp2_with fail
  go_loopw [5] (fun iv wr => ∃ j : Nat, iv = .int .i64 (j : Int) ∧ j ≤ n ∧ Below w.heap.size w wr) (fun iv _ => n - (intOf iv).toNat)
  case atStart => exact ⟨0, rfl, Nat.zero_le _, Below.refl _ _⟩
  case round =>
    rename World => wr
    obtain ⟨j, rfl, hj, hb⟩ := hrel
    have HB := Lib.hid hb
    clear hb
    by_cases hlj : j < n
    · have k1' : Bk.Lt wr.heap.size wr A n c L := Bk.Gt.later H1.out HB.out
      have k2' : Bk.Lt wr.heap.size wr A' n c' L := Bk.Gt.later H2.out HB.out
      obtain ⟨g1, o1, rfl, _, k1⟩ := k1'.cell hlj
      obtain ⟨g2, o2, rfl, _, k2⟩ := k2'.cell hlj
      have hjI : (j : Int) < (n : Int) := by omega
      clear k1' k2'
      generalize L.getD j 0 = x at *
      go_wp2_with fail
      go_big_quiet (fail)
      go_wp2_with fail
      go_roundw
      case rel => exact ⟨j + 1, by go_num, by omega, HB.out.trans (Bk.below_drewN _ _ _)⟩
      case measure => simp [intOf]; omega
    · obtain rfl : j = n := by omega
      go_wp2_with fail
      go_ret
      exact ⟨rfl, HB.out⟩
section
variable (w : World)
theorem nil_hear (A : Option Addr) (n c : Nat) : Calls Tryd.prog 21 #[.pointer none, .slice A n c] w fun e w' => e = .returned (.slice none 0 0) ∧ w = w' := by
  go_enter Tryd.func21, Tryd.ntmps21
  go_wp2
  go_ret
  exact ⟨rfl, rfl⟩
theorem nil_next : Calls Tryd.prog 23 #[.pointer none] w fun e w' => e = .returned (.tuple #[.agg #[.int .u8 0, .int .i64 0, .int .i64 0], .bool false]) ∧ Below w.heap.size w w' := by
  have hb1 := Rc.below_new w (.cells #[.int .u8 0, .int .i64 0, .int .i64 0] 33)
  have hr1 := heap_alloc_new w (.cells #[.int .u8 0, .int .i64 0, .int .i64 0] 33)
  obtain ⟨⟨r0, r1, r2⟩, f0, f1, f2⟩ := Rc.row_cells3 hr1
  have HB := Lib.hid hb1
  have HR1 := Lib.hid hr1
  clear hb1 hr1
  go_enter Tryd.func23, Tryd.ntmps23
  go_wp2_with fail
  generalize w.alloc (.cells #[.int .u8 0, .int .i64 0, .int .i64 0] 33) = w1 at *
  refine bodyPost_ret (ret_next _ rfl HR1.out) rfl ?_
  exact ⟨rfl, HB.out⟩
theorem nil_step : Calls Tryd.prog 17 #[.pointer none] w fun e w' => e = .returned (.bool false) ∧ w = w' := by
  go_enter Tryd.func17, Tryd.ntmps17
  go_wp2
  go_ret
  exact ⟨rfl, rfl⟩
theorem nil_packet : Calls Tryd.prog 24 #[.pointer none] w fun e w' => e = .returned (.tuple #[.slice none 0 0, .bool false]) ∧ w = w' := by
  go_enter Tryd.func24, Tryd.ntmps24
  go_wp2
  go_ret2
  exact ⟨rfl, rfl⟩
theorem nil_heard (A : Option Addr) (n c : Nat) : Calls Tryd.prog 19 #[.pointer none, .slice A n c] w fun e w' => e = .returned (.bool false) ∧ w = w' := by
  go_enter Tryd.func19, Tryd.ntmps19
  go_wp2
  go_ret
  exact ⟨rfl, rfl⟩
theorem nil_cells : Calls Tryd.prog 26 #[.pointer none] w fun e w' => e = .returned (.slice none 0 0) ∧ w = w' := by
  go_enter Tryd.func26, Tryd.ntmps26
  go_wp2
  go_ret
  exact ⟨rfl, rfl⟩
theorem nil_charge : Calls Tryd.prog 28 #[.pointer none] w fun e w' => e = .returned (.int .i64 0) ∧ w = w' := by
  go_enter Tryd.func28, Tryd.ntmps28
  go_wp2
  go_ret
  exact ⟨rfl, rfl⟩
theorem nil_done : Calls Tryd.prog 29 #[.pointer none] w fun e w' => e = .returned (.int .u64 0) ∧ w = w' := by
  go_enter Tryd.func29, Tryd.ntmps29
  go_wp2
  go_ret
  exact ⟨rfl, rfl⟩
end
/-- A new act is heard. -/
theorem hearR_new {z : R} {k : Nat} {c p : Int} (hn : z.heard + 2 < 18446744073709551616) (hk : z.k = 0) (ha : Aok k c p) : HearR z (pkB (z.heard + 1) k c p) { z with heard := z.heard + 1, k := k, c := c, p := p, told := if z.pk = [] then z.told else z.told + 1, pk := [] } (play true (z.heard + 1) []) := by
  have e1 : pkD k c p = actB k c p := by unfold pkD; rw [if_pos ha]
  have hok : Ok false (z.heard + 1) (pkD k c p) := pk_ok (by omega)
  rw [pkB_play (by omega)]
  exact ⟨actB k c p, true, z.heard + 1, .inl ⟨z.heard + 1, by rw [e1] at hok ⊢; exact is_play hok, rans_next hn, by omega, rfl, rfl, rfl⟩, .inl ⟨k, c, p, rfl, hk, ha, rfl, rfl⟩⟩
section
variable {w : World} {base r h s : Nat} {v : Value} {z : R}
/-- What hearing a new act comes to. -/
def ATold (base r h s : Nat) (v : Value) (z : R) (bb : List Nat) (w : World) (e : Ending) (w' : World) : Prop := ∃ (v' : Value) (A : Option Addr) (c : Nat), e = .returned (.slice A bb.length c) ∧ (By w'.heap.size w' A bb.length c bb ∧ ∀ a, A = some a → w.heap.size ≤ a.block) ∧ RbAt w' base r h s v' z ∧ Turn (RbF r h s v) (RbF r h s v') w w'
def nx (z : R) (k : Nat) (c p : Int) : R := { z with heard := z.heard + 1, k := k, c := c, p := p, told := if z.pk = [] then z.told else z.told + 1, pk := [] }
theorem hear_new {B : Nat} {A : Option Addr} {n cp : Nat} {k : Nat} {c p : Int} (g : RbAt w base r h s v z) (hBb : base ≤ w.heap.size) (h0 : 0 < base) (hS : Shp w) (hn : z.told + 2 < 18446744073709551616) (hh : z.heard + 2 < 18446744073709551616) (hk : z.k = 0) (ha : Aok k c p) (hd : By B w A n cp (pkB (z.heard + 1) k c p)) (hB : B ≤ w.heap.size) :
    Calls Tryd.prog 21 #[.pointer (some ⟨r, 0, none⟩), .slice A n cp] w (ATold base r h s v (nx z k c p) (play true (z.heard + 1) []) w) := by
  refine (hear_any g hBb h0 hS hn hd hB).mono ?_
  rintro e w' ⟨bb, z', v', A', c', rfl, hy, hg, ht, hr⟩
  obtain ⟨rfl, rfl⟩ := hr.uniq (hearR_new hh hk ha)
  exact ⟨v', A', c', rfl, hy, hg, ht⟩
end
end Rb
end Go.Proofs.YtobpinelhjpfgaaDoor
