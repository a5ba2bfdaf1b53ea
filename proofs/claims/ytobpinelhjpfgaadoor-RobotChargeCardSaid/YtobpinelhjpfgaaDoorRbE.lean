/-
  Layer 18: the document's example.
-/
import Derived.Test.YtobpinelhjpfgaaDoorRbD
set_option linter.unusedVariables false
set_option maxRecDepth 100000
namespace Go.Proofs.YtobpinelhjpfgaaDoor
namespace Rb
open Go.RowKit Bp Ck Ln
open Rc (Aok Shp TakeATold act_uniq)
/-- A robot of one's own stays where all that was there ahead of it stays. -/
theorem RbAt.below {w0 w w' : World} {r h s : Nat} {v v' : Value} {z : R} (g : RbAt w w0.heap.size r h s v z) (hb : Below w0.heap.size w0 w) (ht : Turn (RbF r h s v) (RbF r h s v') w w') : Below w0.heap.size w0 w' :=
  hb.trans (ht.below _ hb.size (fun k hk => g.lo k hk))
/-- A robot, and all that was there ahead of it. -/
structure Rs (w0 w : World) (r h s : Nat) (v : Value) (z : R) : Prop where
  at_ : RbAt w w0.heap.size r h s v z
  below : Below w0.heap.size w0 w
  shp : Shp w0
section
variable {w0 w w' : World} {r h s : Nat} {v : Value} {z : R}
theorem Rs.later (g : Rs w0 w r h s v z) (hb : Below w.heap.size w w') : Rs w0 w' r h s v z := ⟨g.at_.later hb, g.below.trans (hb.mono g.below.size), g.shp⟩
theorem Rs.sh (g : Rs w0 w r h s v z) : Shp w := g.shp.below g.below g.shp.pos
theorem Rs.turn (g : Rs w0 w r h s v z) {v' : Value} {z' : R} (hg : RbAt w' w0.heap.size r h s v' z') (ht : Turn (RbF r h s v) (RbF r h s v') w w') : Rs w0 w' r h s v' z' := ⟨hg, g.at_.below g.below ht, g.shp⟩
theorem Rs.lt (g : Rs w0 w r h s v z) : ∀ k, RbF r h s v k → k < w.heap.size := g.at_.lt
theorem lt_turn {A : Option Addr} {n c B : Nat} {L : List Int} {F F' : Nat → Prop} (hl : Bk.Lt w.heap.size w A n c L) (ht : Turn F F' w w') (hF : ∀ k, F k → k < B) (hf : ∀ a, A = some a → B ≤ a.block) : Bk.Lt w'.heap.size w' A n c L :=
  ⟨hl.1, hl.2, hl.3, hl.4, fun hn => by
    obtain ⟨g, off, hA, hg, hc⟩ := Bk.Gt.cell hl hn
    have hk := ht.block g hg (fun hx => by have := hF _ hx; have := hf _ hA; simp only at this; omega)
    exact ⟨g, off, hA, Nat.lt_of_lt_of_le hg ht.size, fun j hj => (World.cell?_of_block (a := ⟨g, off + j, none⟩) hk).trans (hc j hj)⟩⟩
/-- What a call comes to that changes the robot. -/
def STo (w0 w : World) (r h s : Nat) (v : Value) (z : R) (x : Value) (e : Ending) (w' : World) : Prop := e = .returned x ∧ ∃ v', Rs w0 w' r h s v' z ∧ Turn (RbF r h s v) (RbF r h s v') w w'
theorem Rs.step (g : Rs w0 w r h s v z) (hc : z.chg ≤ 9223372036854775807) : Calls Tryd.prog 17 #[.pointer (some ⟨r, 0, none⟩)] w (STo w0 w r h s v (stD z).1 (.bool (stD z).2)) := by
  refine (step_any g.at_ g.below.size hc).mono ?_
  rintro e w' ⟨v', rfl, hg, ht⟩
  exact ⟨rfl, v', g.turn hg ht, ht⟩
theorem Rs.heard (g : Rs w0 w r h s v z) {A : Option Addr} {n c : Nat} {bs : List Nat} (hd : By w.heap.size w A n c bs) : Calls Tryd.prog 19 #[.pointer (some ⟨r, 0, none⟩), .slice A n c] w (STo w0 w r h s v { z with told := if heB z.told z.pk bs then z.told + 1 else z.told, pk := if heB z.told z.pk bs then [] else z.pk } (.bool (heB z.told z.pk bs))) := by
  refine (heard_any g.at_ g.below.size hd (Nat.le_refl _)).mono ?_
  rintro e w' ⟨v', rfl, hg, ht⟩
  exact ⟨rfl, v', g.turn hg ht, ht⟩
/-- What Hear comes to. -/
def HTo (w0 w : World) (r h s : Nat) (v : Value) (z : R) (bs : List Nat) (e : Ending) (w' : World) : Prop := ∃ (bb : List Nat) (z' : R) (A : Option Addr) (c : Nat), e = .returned (.slice A bb.length c) ∧ (By w'.heap.size w' A bb.length c bb ∧ ∀ a, A = some a → w.heap.size ≤ a.block) ∧ HearR z bs z' bb ∧ ∃ v', Rs w0 w' r h s v' z' ∧ Turn (RbF r h s v) (RbF r h s v') w w'
theorem Rs.hear (g : Rs w0 w r h s v z) {A : Option Addr} {n c : Nat} {bs : List Nat} (hn : z.told + 2 < 18446744073709551616) (hd : By w.heap.size w A n c bs) : Calls Tryd.prog 21 #[.pointer (some ⟨r, 0, none⟩), .slice A n c] w (HTo w0 w r h s v z bs) := by
  refine (hear_any g.at_ g.below.size g.shp.pos g.sh hn hd (Nat.le_refl _)).mono ?_
  rintro e w' ⟨bb, z', v', A', c', rfl, hy, hg, ht, hr⟩
  exact ⟨bb, z', A', c', rfl, hy, hr, v', g.turn hg ht, ht⟩
/-- A new act comes. -/
def NTo (w0 w : World) (r h s : Nat) (v : Value) (z : R) (bb : List Nat) (e : Ending) (w' : World) : Prop := ∃ (A : Option Addr) (c : Nat), e = .returned (.slice A bb.length c) ∧ (By w'.heap.size w' A bb.length c bb ∧ ∀ a, A = some a → w.heap.size ≤ a.block) ∧ ∃ v', Rs w0 w' r h s v' z ∧ Turn (RbF r h s v) (RbF r h s v') w w'
theorem Rs.new (g : Rs w0 w r h s v z) {A : Option Addr} {n cp : Nat} {k : Nat} {c p : Int} (hn : z.told + 2 < 18446744073709551616) (hh : z.heard + 2 < 18446744073709551616) (hk : z.k = 0) (ha : Aok k c p) (hd : By w.heap.size w A n cp (pkB (z.heard + 1) k c p)) :
    Calls Tryd.prog 21 #[.pointer (some ⟨r, 0, none⟩), .slice A n cp] w (NTo w0 w r h s v (nx z k c p) (play true (z.heard + 1) [])) := by
  refine (hear_new g.at_ g.below.size g.shp.pos g.sh hn hh hk ha hd (Nat.le_refl _)).mono ?_
  rintro e w' ⟨v', A', c', rfl, hy, hg, ht⟩
  exact ⟨A', c', rfl, hy, v', g.turn hg ht, ht⟩
theorem Rs.packet (g : Rs w0 w r h s v z) : Calls Tryd.prog 24 #[.pointer (some ⟨r, 0, none⟩)] w fun e w' => ∃ A c, e = .returned (.tuple #[.slice A z.pk.length c, .bool (decide (z.pk ≠ []))]) ∧ By w'.heap.size w' A z.pk.length c z.pk ∧ Below w.heap.size w w' := by
  refine (packet_any g.at_).mono ?_
  rintro e w' ⟨A, c, rfl, ho, hb⟩
  exact ⟨A, c, rfl, By.own ho g.at_.sat.byte, hb⟩
end
theorem rs_new (w : World) (hS : Shp w) (dock chg : Int) (hd : 0 ≤ dock ∧ dock ≤ 255) (hc : 0 ≤ chg) : Calls Tryd.prog 10 #[.int .i64 dock, .int .i64 chg] w fun e w' => ∃ r h s, e = .returned (.tuple #[.pointer (some ⟨r, 0, none⟩), .int .i64 0]) ∧ ∃ v, Rs w w' r h s v (z0 dock chg) := by
  refine (new_any dock chg hd hc w).mono ?_
  rintro e w' ⟨r, h, s, rfl, hg, hb⟩
  exact ⟨r, h, s, rfl, _, hg, hb, hS⟩
theorem tl_new {told : Nat} (h : told + 2 < 18446744073709551616) : tlP told [] [] = play false (told + 1) [] := by
  have e : tlE told [] 0 = 0 := by unfold tlE; rw [if_neg (by simp), if_neg (by omega)]
  unfold tlP
  rw [if_pos (show tlE told [] ([] : List Nat).length = 0 from e)]
theorem tl_ne {told : Nat} (h : told + 2 < 18446744073709551616) : tlP told [] [] ≠ [] := by
  rw [tl_new h]
  exact play_ne (ok_told h (by simp) (by simp))
theorem st_none {z : R} (hk : z.k = 0) : stD z = (z, false) := by unfold stD; rw [if_pos hk]
theorem st_go {z : R} (hk : z.k = 1) (ho : z.on = false) : stD z = (lvD z, false) := by
  unfold stD
  rw [if_neg (by omega), if_pos hk, if_neg (by simp [ho])]
theorem st_arr {z : R} (hk : z.k = 1) (ho : z.on = true) : stD z = (dnD (arD z), true) := by
  unfold stD
  rw [if_neg (by omega), if_pos hk, if_pos ho]
theorem st_do {z : R} (h0 : z.k ≠ 0) (h1 : z.k ≠ 1) : stD z = (dnD z, true) := by
  unfold stD
  rw [if_neg h0, if_neg h1]
theorem lv_yes {z : R} (h : 0 < z.chg) : lvD z = { z with chg := z.chg - 1, on := true } := by unfold lvD; rw [if_pos h]
theorem lv_no {z : R} (h : ¬ 0 < z.chg) : lvD z = z := by unfold lvD; rw [if_neg h]
theorem take_play {w w' : World} {n : Nat} {d : List Nat} {e : Ending} (hok : Ok false n d) (h : Ln.TakeTold w (play false n d) e w') : ∃ A c, e = .returned (.tuple #[.agg #[.bool false, .int .u64 (n : Int), .slice A d.length c], .int .i64 0]) ∧ By w'.heap.size w' A d.length c d ∧ Below w.heap.size w w' := by
  obtain ⟨hb, ⟨h', n', d', A, c, hi, he, hy, _⟩ | ⟨hno, _⟩⟩ := h
  · obtain ⟨rfl, rfl, rfl⟩ := hi.uniq (is_play hok)
    exact ⟨A, c, he, hy, hb⟩
  · exact absurd (is_play hok) (hno _ _ _)
theorem rlay_heard {w : World} {n : Nat} (hn : n + 1 < 18446744073709551616) : Calls Tryd.prog 16 #[.agg #[.bool true, .int .u64 (n : Int), .slice none 0 0]] w fun e w' => ∃ A c, e = .returned (.tuple #[.slice A (play true n []).length c, .int .i64 0]) ∧ By w'.heap.size w' A (play true n []).length c (play true n []) ∧ Below w.heap.size w w' := by
  have q := rlay_any (w := w) (h := true) (n := n) (by omega) (By.none_ 0 w) (Nat.zero_le _)
  obtain ⟨e1, e2⟩ := ok_ly (ok_heard hn)
  rw [e1, e2] at q
  refine q.mono ?_
  rintro e w' ⟨A, c, rfl, ho, hb⟩
  exact ⟨A, c, rfl, By.own ho (ok_heard hn).play_byte, hb⟩
theorem he_play {told : Nat} (h : told + 2 < 18446744073709551616) : heB told (play false (told + 1) []) (play true (told + 1) []) = true := by
  unfold heB
  rw [decide_eq_true (play_ne (ok_told h (by simp) (by simp))), decide_eq_true rfl]
  rfl
set_option maxHeartbeats 4000000 in
theorem shown18_any (w : World) (hS : Shp w) : Calls Tryd.prog 9 #[] w fun e w' => e = .returned (.bool true) ∧ Below w.heap.size w w' := by
  have HSH := Lib.hid hS
  have HN := Lib.hid (rs_new w hS 0 9 (by decide) (by decide))
  clear hS
  go_enter Tryd.func9, Tryd.ntmps9
  go_wp2_with fail
  refine HN.out.mono ?_
  rintro e w1 ⟨r, h, s, rfl, v, hg1⟩
  have HG1 := Lib.hid hg1
  clear hg1 HN
  go_wp2_with fail
  refine (packet_law 1 1 (by decide) 1 0 _).mono ?_
  rintro e w2 ⟨A2, c2, rfl, hy2, hb2⟩
  have HNW : Hid (Calls Tryd.prog 21 #[.pointer (some ⟨r, 0, none⟩), .slice A2 (pkB 1 1 1 0).length c2] w2 (NTo w w2 r h s v ⟨0, 9, 0, 9, 1, 1, 0, false, 1, 0, []⟩ (play true 1 []))) := Lib.hid ((HG1.out.later hb2).new (k := 1) (c := 1) (p := 0) (by decide) (by decide) rfl (by decide) hy2)
  have hl0 : 0 < (play true 1 []).length := (ok_heard (n := 1) (by decide)).size.1
  have hl1 : (play true 1 []).length ≤ 300 := (ok_heard (n := 1) (by decide)).size.2
  clear hy2 hb2 HG1
  generalize pkB 1 1 1 0 = pz at *
  generalize play true 1 [] = py at *
  have hn3 : ((py.length : Int) == 0) = false := by rw [beq_eq_false_iff_ne]; omega
  go_wp2_with fail
  refine HNW.out.mono ?_
  rintro e w3 ⟨A3, c3, rfl, ⟨hy3, hf3⟩, v3, hg3, -⟩
  have HG3 := Lib.hid hg3
  have HST := Lib.hid (hg3.step (by decide))
  clear hy3 hf3 hg3 HNW
  generalize py.length = n3 at *
  go_wp2_with fail
  refine HST.out.mono ?_
  rintro e w4 ⟨rfl, v4, hg4, -⟩
  have e4 : stD ⟨0, 9, 0, 9, 1, 1, 0, false, 1, 0, []⟩ = (⟨0, 9, 0, 8, 1, 1, 0, true, 1, 0, []⟩, false) := rfl
  rw [e4] at hg4 ⊢
  have HCE : Hid (Calls Tryd.prog 26 #[.pointer (some ⟨r, 0, none⟩)] w4 fun e w' => ∃ A c, e = .returned (.slice A 2 c) ∧ Bk.Lt w'.heap.size w' A 2 c [0, 1] ∧ Below w4.heap.size w4 w' ∧ ∀ a, A = some a → w4.heap.size ≤ a.block) := Lib.hid (cells_any hg4.at_)
  have HG4 := Lib.hid hg4
  clear hg4 e4 HST HG3
  go_wp2_with fail
  refine HCE.out.mono ?_
  rintro e w5 ⟨A5, c5, rfl, hl5, hb5, hf5⟩
  have hg5 := HG4.out.later hb5
  have HST := Lib.hid (hg5.step (by decide))
  have HLT : Hid (∀ k, RbF r h s v4 k → k < w4.heap.size) := Lib.hid HG4.out.lt
  have HF5 := Lib.hid hf5
  have HL5 := Lib.hid hl5
  have hc5 := Bk.Gt.size hl5
  have hc51 := hc5.1
  have hc52 := hc5.2
  clear hg5 hl5 hb5 hf5 HCE HG4 hc5
  go_wp2_with fail
  refine HST.out.mono ?_
  rintro e w6 ⟨rfl, v6, hg6, ht6⟩
  have e6 : stD ⟨0, 9, 0, 8, 1, 1, 0, true, 1, 0, []⟩ = (⟨0, 9, 1, 8, 0, 0, 0, false, 1, 0, tlP 0 [] []⟩, true) := rfl
  rw [e6] at hg6 ⊢
  have hl6 := lt_turn HL5.out ht6 (B := w4.heap.size) HLT.out HF5.out
  have HCE : Hid (Calls Tryd.prog 26 #[.pointer (some ⟨r, 0, none⟩)] w6 fun e w' => ∃ A c, e = .returned (.slice A 1 c) ∧ Bk.Lt w'.heap.size w' A 1 c [1] ∧ Below w6.heap.size w6 w' ∧ ∀ a, A = some a → w6.heap.size ≤ a.block) := Lib.hid (cells_any hg6.at_)
  have HG6 := Lib.hid hg6
  have HL6 := Lib.hid hl6
  clear hg6 hl6 ht6 e6 HST HL5 HLT HF5
  go_wp2_with fail
  refine HCE.out.mono ?_
  rintro e w7 ⟨A7, c7, rfl, hl7, hb7, -⟩
  have HG7 := Lib.hid (HG6.out.later hb7)
  have HL67 := Lib.hid (Bk.Gt.later HL6.out hb7)
  have HL7 := Lib.hid hl7
  have hc7 := Bk.Gt.size hl7
  have hc71 := hc7.1
  have hc72 := hc7.2
  have HP := Lib.hid HG7.out.packet
  have hpn : decide (tlP 0 [] [] ≠ []) = true := decide_eq_true (tl_ne (by decide))
  have HDN : Hid (dn ⟨0, 9, 1, 8, 0, 0, 0, false, 1, 0, tlP 0 [] []⟩ = 1) := Lib.hid (by unfold dn; rw [if_neg (tl_ne (by decide))])
  rw [show R.pk ⟨0, 9, 1, 8, 0, 0, 0, false, 1, 0, tlP 0 [] []⟩ = tlP 0 [] [] from rfl, hpn] at HP
  clear hl7 hb7 hc7 hpn HCE HG6 HL6
  generalize tlP 0 [] [] = pz at *
  go_wp2_with fail
  refine HP.out.mono ?_
  rintro e w8 ⟨A8, c8, rfl, hy8, hb8⟩
  have hb8b : Below w8.heap.size w8 (w8.alloc (.cells #[.int .i64 0, .int .i64 1] 3)) := Rc.below_new _ _
  have HG8 := Lib.hid ((HG7.out.later hb8).later hb8b)
  have HL8 := Lib.hid (Bk.Gt.later (Bk.Gt.later HL67.out hb8) hb8b)
  have HL78 := Lib.hid (Bk.Gt.later (Bk.Gt.later HL7.out hb8) hb8b)
  have HS1 := Lib.hid (same18 _ _ _ _ _ _ _ HL8.out (lt_two w8 0 1) (by decide))
  clear hy8 hb8 hb8b HP HG7 HL67 HL7
  go_wp2_with fail
  refine HS1.out.mono ?_
  rintro e w9 ⟨rfl, hb9⟩
  have hb9b : Below w9.heap.size w9 (w9.alloc (.cells #[.int .i64 1] 3)) := Rc.below_new _ _
  have HG9 := Lib.hid ((HG8.out.later hb9).later hb9b)
  have HS2 := Lib.hid (same18 _ _ _ _ _ _ _ (Bk.Gt.later (Bk.Gt.later HL78.out hb9) hb9b) (Bk.Lt.one w9 1) (by decide))
  clear hb9 hb9b HS1 HG8 HL8 HL78
  go_wp2_with fail
  refine HS2.out.mono ?_
  rintro e w10 ⟨rfl, hb10⟩
  have HG10 := Lib.hid (HG9.out.later hb10)
  have HD := Lib.hid (done_any HG10.out.at_)
  rw [HDN.out] at HD
  clear hb10 HS2 HG9 HDN
  go_wp2_with fail
  refine HD.out.mono ?_
  rintro e w11 ⟨rfl, hb11⟩
  have HG11 := Lib.hid (HG10.out.later hb11)
  have HC : Hid (Calls Tryd.prog 28 #[.pointer (some ⟨r, 0, none⟩)] w11 fun e w' => e = .returned (.int .i64 8) ∧ w11 = w') := Lib.hid (charge_any HG11.out.at_)
  clear hb11 HD HG10
  go_wp2_with fail
  refine HC.out.mono ?_
  rintro e w12 ⟨rfl, rfl⟩
  go_wp2_with fail
  go_ret
  exact ⟨rfl, HG11.out.below⟩
end Rb
end Go.Proofs.YtobpinelhjpfgaaDoor
