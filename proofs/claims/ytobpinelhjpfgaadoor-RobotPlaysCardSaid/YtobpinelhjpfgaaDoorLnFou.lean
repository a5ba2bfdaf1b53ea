/-
  Layer 14: the document's sender and receiver.
  Layer 14: the document's receiver; the acts of LinkPlays.
  Layer 14: both senders and both receivers in one memory.
-/
import Derived.Test.YtobpinelhjpfgaaDoorLnThr
import Derived.Test.YtobpinelhjpfgaaDoorLnR
import Derived.Lib.ConvBytes
import Derived.Test.YtobpinelhjpfgaaDoorLnArgs
set_option linter.unusedVariables false
set_option maxRecDepth 100000
section
namespace Go.Proofs.YtobpinelhjpfgaaDoor
namespace Ln
open Go.RowKit Bp Ck
theorem strOf_size (d : List Nat) : (strOf d).size = d.length := by
  show (strOfNums _).size = _
  rw [strOfNums_size, List.length_map]
theorem strOf_get (d : List Nat) (hb : ∀ z ∈ d, z ≤ 255) (j : Nat) (hj : j < d.length) : ((strOf d).data.toList.getD j 0).toNat = d.getD j 0 := by
  have e : (strOf d).data.toList = (d.map fun n : Nat => (n : Int)).map (fun z => UInt8.ofNat z.toNat) := by
    show (strOfNums _).data.toList = _
    exact strOfNums_data _
  have hx : d[j] ≤ 255 := hb _ (List.getElem_mem hj)
  rw [e]
  simp [List.getD, hj]
  omega
/-- What the bytes of a text are. -/
theorem bytes_by (w : World) (d : List Nat) (hb : ∀ z ∈ d, z ≤ 255) (hl : d.length ≤ 300) :
    By (Lib.bytesWorld w 5 (strOf d)).heap.size (Lib.bytesWorld w 5 (strOf d)) (some ⟨w.heap.size, 0, none⟩) d.length (grownCap w d.length 0 5) d := by
  refine ⟨rfl, grownCap_ge _ _ _ _, grownCap_le_maxLen _ _ _ _ (by unfold maxLen; omega), fun e => (by cases e), hb, fun hn => ⟨w.heap.size, 0, rfl, by rw [Lib.bytesWorld_size]; omega, fun j hj => ?_⟩⟩
  rw [Nat.zero_add, Lib.bytesWorld_cell w 5 (strOf d) j (by rw [strOf_size]; exact hj), strOf_get d hb j hj]
theorem bytes_below (w : World) (s : ByteArray) : Below w.heap.size w (Lib.bytesWorld w 5 s) := ⟨rfl, rfl, rfl, by rw [Lib.bytesWorld_size]; omega, fun k hk => Lib.bytesWorld_at_old w _ s k hk⟩
/-- The document's sender in block v. -/
def VAt (w : World) (v told : Nat) (pk d : List Nat) : Prop := w.heap[v]? = some (.cells #[.int .u64 (told : Int), .bool (decide (pk ≠ [])), .string (strOf d)] 42 (0, 0))
theorem VAt.later {w w' : World} {v told : Nat} {pk d : List Nat} (h : VAt w v told pk d) (hb : Below w.heap.size w w') : VAt w' v told pk d := (hb.block v (lt_of_heap h)).trans h
theorem VAt.turn {w w' : World} {v told s : Nat} {pk d : List Nat} (h : VAt w v told pk d) (ht : Turn (One s) (One s) w w') (hr : v ≠ s) : VAt w' v told pk d := (ht.block v (lt_of_heap h) hr).trans h
theorem VAt.cells {w : World} {v told : Nat} {pk d : List Nat} (h : VAt w v told pk d) : w.cell? ⟨v, 0, none⟩ = some (.int .u64 (told : Int)) ∧ w.cell? ⟨v, 1, none⟩ = some (.bool (decide (pk ≠ []))) ∧ w.cell? ⟨v, 2, none⟩ = some (.string (strOf d)) ∧
    w.frozen? ⟨v, 0, none⟩ = false ∧ w.frozen? ⟨v, 1, none⟩ = false ∧ w.frozen? ⟨v, 2, none⟩ = false :=
  ⟨by rw [cell_of_row _ v 0 _ _ _ h]; rfl, by rw [cell_of_row _ v 1 _ _ _ h]; rfl, by rw [cell_of_row _ v 2 _ _ _ h]; rfl, frozen_of_row _ v 0 _ _ h, frozen_of_row _ v 1 _ _ h, frozen_of_row _ v 2 _ _ h⟩
/-- The document's receiver in block v. -/
structure WAt (w : World) (v heard : Nat) : Prop where
  box : w.heap[v]? = some (.cells #[.int .u64 (heard : Int)] 40 (0, 0))
  num : heard < 18446744073709551616
theorem WAt.later {w w' : World} {v heard : Nat} (h : WAt w v heard) (hb : Below w.heap.size w w') : WAt w' v heard := ⟨(hb.block v (lt_of_heap h.box)).trans h.box, h.num⟩
theorem WAt.turn {w w' : World} {v heard s : Nat} (h : WAt w v heard) (ht : Turn (One s) (One s) w w') (hr : v ≠ s) : WAt w' v heard := ⟨(ht.block v (lt_of_heap h.box) hr).trans h.box, h.num⟩
theorem WAt.cells {w : World} {v heard : Nat} (h : WAt w v heard) : w.cell? ⟨v, 0, none⟩ = some (.int .u64 (heard : Int)) ∧ w.frozen? ⟨v, 0, none⟩ = false :=
  ⟨by rw [cell_of_row _ v 0 _ _ _ h.box]; rfl, frozen_of_row _ v 0 _ _ h.box⟩
def tlD (told : Nat) (pk d x : List Nat) : List Nat := if tlE told pk x.length = 0 then x else d
/-- The document's Tell. -/
theorem rtell_any {w : World} {v told : Nat} {pk d x : List Nat} (h : VAt w v told pk d) (hx : told < 18446744073709551616) (hxl : x.length ≤ 9223372036854775807) (hpl : told + 2 < 18446744073709551616 → x.length ≤ 200 → play false (told + 1) x ≠ []) :
    Calls Tryd.prog 96 #[.pointer (some ⟨v, 0, none⟩), .string (strOf x)] w fun e w' => e = .returned (.int .i64 (tlE told pk x.length)) ∧ Turn (One v) (One v) w w' ∧ VAt w' v told (tlP told pk x) (tlD told pk d x) := by
  obtain ⟨c0, c1, c2, f0, f1, f2⟩ := h.cells
  have hsz := strOf_size x
  have HV := Lib.hid h
  clear h
  by_cases hp : pk = []
  · subst hp
    have q1 : decide (([] : List Nat) ≠ []) = false := by simp
    rw [q1] at c1
    by_cases h1 : 200 < x.length
    · have e1 : tlE told [] x.length = 4 := by unfold tlE; rw [if_neg (by simp), if_pos (.inl h1)]
      have e2 : tlP told [] x = [] := by unfold tlP; rw [e1]; rfl
      have e3 : tlD told [] d x = d := by unfold tlD; rw [e1]; rfl
      rw [e1, e2, e3]
      have t1 : decide ((200 : Int) < ((strOf x).size : Int)) = true := decide_eq_true (by omega)
      clear e1 e2 e3 hpl
      go_enter Tryd.func96, Tryd.ntmps96
      go_wp2_with fail
      go_ret
      exact ⟨rfl, Turn.refl _ _, HV.out⟩
    · have t1 : decide ((200 : Int) < ((strOf x).size : Int)) = false := decide_eq_false (by omega)
      by_cases h2 : 18446744073709551614 ≤ told
      · have e1 : tlE told [] x.length = 4 := by unfold tlE; rw [if_neg (by simp), if_pos (.inr h2)]
        have e2 : tlP told [] x = [] := by unfold tlP; rw [e1]; rfl
        have e3 : tlD told [] d x = d := by unfold tlD; rw [e1]; rfl
        rw [e1, e2, e3]
        have t2 : decide ((18446744073709551614 : Int) ≤ (told : Int)) = true := decide_eq_true (by omega)
        clear e1 e2 e3 hpl
        go_enter Tryd.func96, Tryd.ntmps96
        go_wp2_with fail
        go_ret
        exact ⟨rfl, Turn.refl _ _, HV.out⟩
      · have e1 : tlE told [] x.length = 0 := by unfold tlE; rw [if_neg (by simp), if_neg (by omega)]
        have e2 : tlP told [] x = play false (told + 1) x := by unfold tlP; rw [e1]; rfl
        have e3 : tlD told [] d x = x := by unfold tlD; rw [e1]; rfl
        rw [e1, e2, e3]
        have t2 : decide ((18446744073709551614 : Int) ≤ (told : Int)) = false := decide_eq_false (by omega)
        have hpl2 := Lib.hid (hpl (by omega) (by omega))
        clear e1 e2 e3 hpl
        go_enter Tryd.func96, Tryd.ntmps96
        go_wp2_with fail
        go_ret
        refine ⟨rfl, ((Turn.refl (One v) w).put _ (show One v v from rfl)).put _ (show One v v from rfl), ?_⟩
        have hh := HV.out
        unfold VAt at hh ⊢
        have g1 : (w.setCell ⟨v, 1, none⟩ (.bool true)).heap[v]? = _ := heap_setCell_same w v 1 _ _ _ hh
        rw [heap_setCell_same (w.setCell ⟨v, 1, none⟩ (.bool true)) v 2 _ _ _ g1, decide_eq_true hpl2.out]
        simp
  · have e1 : tlE told pk x.length = 3 := by unfold tlE; rw [if_pos hp]
    have e2 : tlP told pk x = pk := by unfold tlP; rw [e1]; rfl
    have e3 : tlD told pk d x = d := by unfold tlD; rw [e1]; rfl
    rw [e1, e2, e3]
    have q1 : decide (pk ≠ []) = true := decide_eq_true hp
    rw [q1] at c1
    clear e1 e2 e3 hpl
    go_enter Tryd.func96, Tryd.ntmps96
    go_wp2_with fail
    go_ret
    exact ⟨rfl, Turn.refl _ _, HV.out⟩
/-- The document's Packet. -/
theorem rpacket_any {w : World} {v told : Nat} {pk d : List Nat} (h : VAt w v told pk d) (hp : pk ≠ [] → pk = play false (told + 1) d ∧ Ok false (told + 1) d) :
    Calls Tryd.prog 14 #[.pointer (some ⟨v, 0, none⟩)] w fun e w' => ∃ A c, e = .returned (.tuple #[.slice A pk.length c, .bool (decide (pk ≠ []))]) ∧ By w'.heap.size w' A pk.length c pk ∧ Below w.heap.size w w' := by
  obtain ⟨c0, c1, c2, f0, f1, f2⟩ := h.cells
  have HV := Lib.hid h
  clear h
  by_cases h0 : pk = []
  · subst h0
    have q1 : decide (([] : List Nat) ≠ []) = false := by simp
    rw [q1] at c1 ⊢
    clear hp
    go_enter Tryd.func14, Tryd.ntmps14
    go_wp2_with fail
    go_ret2
    exact ⟨none, 0, rfl, By.none_ _ _, Below.refl _ _⟩
  · have q1 : decide (pk ≠ []) = true := decide_eq_true h0
    rw [q1] at c1 ⊢
    obtain ⟨hpk, hok⟩ := hp h0
    have H0 := Lib.hid h0
    have HW : Hid (IntKind.u64.wrap ((told : Int) + 1) = (told : Int) + 1) := Lib.hid (by have := hok.num; simp [IntKind.wrap, IntKind.signed, IntKind.bits]; omega)
    have hby := bytes_by w.drew d hok.byte (by have := hok.few; omega)
    have hbl := bytes_below w.drew (strOf d)
    have hlz := (ok_ly hok).2
    have hnum := hok.num
    have HC : Hid ((convert 9 35 (.string (strOf d))).run Tryd.prog w.drew = .ok (.slice (some ⟨w.heap.size, 0, none⟩) d.length (grownCap w.drew d.length 0 5)) (Lib.bytesWorld w.drew 5 (strOf d))) := Lib.hid (by
      have := Lib.run_convert_string_bytes (P := Tryd.prog) w.drew 9 35 5 (strOf d) Tryd.underlying9 Tryd.underlying35 Tryd.underlying5
      rw [strOf_size] at this
      exact this)
    have hl0 := rlay_any (w := Lib.bytesWorld w.drew 5 (strOf d)) (h := false) (n := told + 1) (by omega) hby (Nat.le_refl _)
    rw [hlz, ← hpk] at hl0
    have HL : Hid (Calls Tryd.prog 16 #[.agg #[.bool false, .int .u64 ((told : Int) + 1), .slice (some ⟨w.heap.size, 0, none⟩) d.length (grownCap w.drew d.length 0 5)]] (Lib.bytesWorld w.drew 5 (strOf d)) (LayAll (lyE false (told + 1) d.length) pk (Lib.bytesWorld w.drew 5 (strOf d)))) := Lib.hid hl0
    have HB : Hid (Below w.heap.size w (Lib.bytesWorld w.drew 5 (strOf d))) := Lib.hid ((Below.refl _ w).drew.trans hbl)
    have HPB := Lib.hid (show ∀ z ∈ pk, z ≤ 255 from by rw [hpk]; exact hok.play_byte)
    have kc := HC.out
    clear hby hbl hlz hp hpk h0 q1 HC hl0
    generalize lyE false (told + 1) d.length = EL at *
    generalize grownCap w.drew d.length 0 5 = gc at *
    have hv1 := HV.out.later HB.out
    obtain ⟨d0, d1, d2, k0, k1, k2⟩ := hv1.cells
    rw [decide_eq_true H0.out] at d1
    clear hv1
    generalize Lib.bytesWorld w.drew 5 (strOf d) = w1 at *
    go_enter Tryd.func14, Tryd.ntmps14
    go_wp2_with fail
    go_region_with (go_simp; go_at_call 16; rw [HW.out]; refine HL.out.mono ?_; rintro e w2 ⟨A, c, rfl, ho, hb⟩; have HY := Lib.hid (By.own ho HPB.out); have HB2 := Lib.hid (HB.out.trans (hb.mono HB.out.size)); clear ho hb)
    all_goals (go_wp2_with fail; go_ret2; exact ⟨A, c, rfl, HY.out, HB2.out⟩)
/-- What hearing leaves. -/
def heN (told : Nat) (pk bs : List Nat) : Nat := if heB told pk bs then told + 1 else told
def heK (told : Nat) (pk bs : List Nat) : List Nat := if heB told pk bs then [] else pk
def VTold (v : Nat) (b : Bool) (told : Nat) (pk d : List Nat) (w : World) (e : Ending) (w' : World) : Prop := e = .returned (.bool b) ∧ Turn (One v) (One v) w w' ∧ VAt w' v told pk d
set_option maxHeartbeats 1000000 in
/-- The document's Hear of a sender. -/
theorem rshear_any {w : World} {v told B : Nat} {pk d : List Nat} {A : Option Addr} {n c : Nat} {bs : List Nat} (h : VAt w v told pk d) (hn : pk ≠ [] → told + 2 < 18446744073709551616) (hd : By B w A n c bs) (hB : B ≤ w.heap.size) :
    Calls Tryd.prog 20 #[.pointer (some ⟨v, 0, none⟩), .slice A n c] w (VTold v (heB told pk bs) (heN told pk bs) (heK told pk bs) d w) := by
  have HT := Lib.hid (rtake_any hd hB)
  have HV := Lib.hid h
  have HN := Lib.hid hn
  clear h hd hn
  go_enter Tryd.func20, Tryd.ntmps20
  go_wp2_with fail
  refine HT.out.mono ?_
  rintro e w1 ⟨hb1, hcase⟩
  have HB1 := Lib.hid hb1
  have HV1 := Lib.hid (HV.out.later hb1)
  clear hb1 HT
  rcases hcase with ⟨h, m, q, A1, c1, his, rfl, hy, hfr⟩ | ⟨hno, rfl⟩
  · have HI := Lib.hid his
    have k1 := box3 w1 (.bool h) (.int .u64 (m : Int)) (.slice A1 q.length c1)
    have k2 := Lib.hid (box3_below w1 (.bool h) (.int .u64 (m : Int)) (.slice A1 q.length c1))
    have HV2 := Lib.hid (HV1.out.later k2.out)
    obtain ⟨d0, d1, d2⟩ := pkt_cells k1
    obtain ⟨r0, r1, r2, r3, r4, r5⟩ := HV2.out.cells
    clear his hy hfr k1
    go_wp2_with fail
    generalize w1.alloc (.cells #[.bool h, .int .u64 (m : Int), .slice A1 q.length c1] 48) = w2 at *
    have HB2 := Lib.hid (HB1.out.trans (k2.out.mono HB1.out.size))
    by_cases hp : pk = []
    · have q1 : decide (pk ≠ []) = false := decide_eq_false (by simpa using hp)
      have e1 : heB told pk bs = false := by unfold heB; rw [q1]; rfl
      have E1 := Lib.hid e1
      rw [q1] at r1
      clear HN hp e1
      go_wp2_with fail
      go_region
      go_wp2_with fail
      go_ret
      exact ⟨congrArg (fun x => Ending.returned (.bool x)) E1.out.symm, Turn.ofBelow HB2.out.drew _, by unfold heN heK; rw [E1.out]; exact HV2.out⟩
    · have q1 : decide (pk ≠ []) = true := decide_eq_true hp
      have h2 := HN.out hp
      rw [q1] at r1
      cases h
      · have e1 : heB told pk bs = false := by
          unfold heB
          rw [q1, decide_eq_false]; rfl
          intro e
          have hi2 := is_play (ok_heard (n := told + 1) (by omega))
          rw [← e] at hi2
          exact absurd (hi2.uniq HI.out).1 (by decide)
        have E1 := Lib.hid e1
        clear hp e1
        go_wp2_with fail
        go_region
        go_wp2_with fail
        go_ret
        exact ⟨congrArg (fun x => Ending.returned (.bool x)) E1.out.symm, Turn.ofBelow HB2.out.drew _, by unfold heN heK; rw [E1.out]; exact HV2.out⟩
      · by_cases hm : m = told + 1
        · subst hm
          have hq : q = [] := HI.out.1.none_ rfl
          have e1 : heB told pk bs = true := by
            unfold heB
            rw [q1, decide_eq_true]; rfl
            rw [← hq]; exact HI.out.2
          have E1 := Lib.hid e1
          have t1 : (((told + 1 : Nat) : Int) != (told : Int) + 1) = false := by simp
          clear hp e1
          go_wp2_with fail
          go_region
          go_wp2_with fail
          go_ret
          refine ⟨congrArg (fun x => Ending.returned (.bool x)) E1.out.symm, ((Turn.ofBelow HB2.out.drew (One v)).put _ (show One v v from rfl)).put _ (show One v v from rfl), ?_⟩
          unfold heN heK
          rw [E1.out]
          have hh := HV2.out
          unfold VAt at hh ⊢
          have g1 : (w2.setCell ⟨v, 1, none⟩ (.bool false)).heap[v]? = _ := heap_setCell_same w2 v 1 _ _ _ hh
          rw [if_pos rfl, if_pos rfl]
          show ((w2.setCell ⟨v, 1, none⟩ (.bool false)).setCell ⟨v, 0, none⟩ (.int .u64 ((told : Int) + 1))).heap[v]? = _
          rw [heap_setCell_same (w2.setCell ⟨v, 1, none⟩ (.bool false)) v 0 _ _ _ g1]
          simp
        · have e1 : heB told pk bs = false := by
            unfold heB
            rw [q1, decide_eq_false]; rfl
            intro e
            have hi2 := is_play (ok_heard (n := told + 1) (by omega))
            rw [← e] at hi2
            exact absurd (hi2.uniq HI.out).2.1.symm hm
          have E1 := Lib.hid e1
          have t1 : ((m : Int) != (told : Int) + 1) = true := by rw [bne_iff_ne]; omega
          clear hp e1
          go_wp2_with fail
          go_region
          go_wp2_with fail
          go_ret
          exact ⟨congrArg (fun x => Ending.returned (.bool x)) E1.out.symm, Turn.ofBelow HB2.out.drew _, by unfold heN heK; rw [E1.out]; exact HV2.out⟩
  · have HI := Lib.hid hno
    have k1 := box3 w1 (.bool false) (.int .u64 0) (.slice none 0 0)
    have k2 := Lib.hid (box3_below w1 (.bool false) (.int .u64 0) (.slice none 0 0))
    have HV2 := Lib.hid (HV1.out.later k2.out)
    obtain ⟨d0, d1, d2⟩ := pkt_cells k1
    obtain ⟨r0, r1, r2, r3, r4, r5⟩ := HV2.out.cells
    have e1 : heB told pk bs = false := by
      cases hx : heB told pk bs
      · rfl
      · unfold heB at hx
        rw [Bool.and_eq_true, decide_eq_true_eq, decide_eq_true_eq] at hx
        have h2 := HN.out hx.1
        have hi2 := is_play (ok_heard (n := told + 1) (by omega))
        rw [← hx.2] at hi2
        exact absurd hi2 (HI.out _ _ _)
    have E1 := Lib.hid e1
    clear hno k1 e1
    go_wp2_with fail
    generalize w1.alloc (.cells #[.bool false, .int .u64 0, .slice none 0 0] 48) = w2 at *
    have HB2 := Lib.hid (HB1.out.trans (k2.out.mono HB1.out.size))
    by_cases hp : pk = []
    · have q1 : decide (pk ≠ []) = false := decide_eq_false (by simpa using hp)
      rw [q1] at r1
      clear hp HN
      go_wp2_with fail
      go_region
      go_wp2_with fail
      go_ret
      exact ⟨congrArg (fun x => Ending.returned (.bool x)) E1.out.symm, Turn.ofBelow HB2.out.drew _, by unfold heN heK; rw [E1.out]; exact HV2.out⟩
    · have q1 : decide (pk ≠ []) = true := decide_eq_true hp
      rw [q1] at r1
      clear hp HN
      go_wp2_with fail
      go_region
      go_wp2_with fail
      go_ret
      exact ⟨congrArg (fun x => Ending.returned (.bool x)) E1.out.symm, Turn.ofBelow HB2.out.drew _, by unfold heN heK; rw [E1.out]; exact HV2.out⟩
end Ln
end Go.Proofs.YtobpinelhjpfgaaDoor
end

section
namespace Go.Proofs.YtobpinelhjpfgaaDoor
namespace Ln
open Go.RowKit Bp Ck
theorem WAt.drew {w : World} {v heard : Nat} (h : WAt w v heard) : WAt w.drew v heard := ⟨h.box, h.num⟩
/-- What the document's Hear of a receiver comes to. -/
def RRTold (r heard : Nat) (bs : List Nat) (w : World) (e : Ending) (w' : World) : Prop := Turn (One r) (One r) w w' ∧
  ((∃ n d A c A2 c2, Is bs false n d ∧ rAns heard n = true ∧ heard < n ∧ e = .returned (.tuple #[.slice A d.length c, .bool true, .slice A2 (play true n []).length c2]) ∧ By w'.heap.size w' A d.length c d ∧ (By w'.heap.size w' A2 (play true n []).length c2 (play true n []) ∧ ∀ a, A2 = some a → w.heap.size ≤ a.block) ∧ WAt w' r n) ∨
   (∃ n d A2 c2, Is bs false n d ∧ rAns heard n = true ∧ n ≤ heard ∧ e = .returned (.tuple #[.slice none 0 0, .bool false, .slice A2 (play true n []).length c2]) ∧ (By w'.heap.size w' A2 (play true n []).length c2 (play true n []) ∧ ∀ a, A2 = some a → w.heap.size ≤ a.block) ∧ WAt w' r heard) ∨
   ((∀ n d, Is bs false n d → rAns heard n = false) ∧ e = .returned (.tuple #[.slice none 0 0, .bool false, .slice none 0 0]) ∧ WAt w' r heard))
set_option maxHeartbeats 4000000 in
theorem rrhear_any {w : World} {r heard B : Nat} {A : Option Addr} {n c : Nat} {bs : List Nat} (h : WAt w r heard) (hd : By B w A n c bs) (hB : B ≤ w.heap.size) :
    Calls Tryd.prog 64 #[.pointer (some ⟨r, 0, none⟩), .slice A n c] w (RRTold r heard bs w) := by
  have HT := Lib.hid (rtake_any hd hB)
  have HR := Lib.hid h
  have hrn := h.num
  have HRL := Lib.hid (lt_of_heap h.box)
  clear h hd
  go_enter Tryd.func64, Tryd.ntmps64
  go_wp2_with fail
  refine HT.out.mono ?_
  rintro e w1 ⟨hb1, hcase⟩
  have HB1 := Lib.hid hb1
  have HR1 := Lib.hid (HR.out.later hb1)
  clear hb1
  rcases hcase with ⟨h, m, d, A1, c1, his, rfl, hy, hfr⟩ | ⟨hno, rfl⟩
  · have HI := Lib.hid his
    have HY := Lib.hid hy
    have HFR := Lib.hid hfr
    have hm := his.1.num
    have k1 := box3 w1 (.bool h) (.int .u64 (m : Int)) (.slice A1 d.length c1)
    have k2 := Lib.hid (box3_below w1 (.bool h) (.int .u64 (m : Int)) (.slice A1 d.length c1))
    have HR2 := Lib.hid (HR1.out.later k2.out)
    obtain ⟨r0, r1⟩ := HR2.out.cells
    obtain ⟨d0, d1, d2⟩ := pkt_cells k1
    have K1 := Lib.hid k1
    have HY2 := Lib.hid (by_later HY.out k2.out)
    have HB2 := Lib.hid (HB1.out.trans (k2.out.mono HB1.out.size))
    clear his hy hfr k1 HT HR
    cases h
    · by_cases hans : rAns heard m = true
      · have hm0 : m ≠ 0 := fun e => by rw [e] at hans; simp [rAns] at hans
        have hm1 : m ≤ (heard + 1) % 18446744073709551616 := by
          unfold rAns at hans
          rw [Bool.and_eq_true, decide_eq_true_eq, decide_eq_true_eq] at hans
          exact hans.2
        have hh1 : heard + 1 < 18446744073709551616 := by
          rcases Nat.lt_or_ge (heard + 1) 18446744073709551616 with x | x
          · exact x
          · have : heard + 1 = 18446744073709551616 := by omega
            rw [this] at hm1
            omega
        rw [Nat.mod_eq_of_lt hh1] at hm1
        have t0 : ((m : Int) == 0) = false := by rw [beq_eq_false_iff_ne]; omega
        have t1 : decide ((heard : Int) + 1 < (m : Int)) = false := decide_eq_false (by omega)
        have HANS := Lib.hid hans
        have hok : Ok true m [] := ⟨hm, by simp, fun _ => rfl, by simp⟩
        have hl0 := rlay_any (w := (w1.alloc (.cells #[.bool false, .int .u64 (m : Int), .slice A1 d.length c1] 48)).drew) (h := true) (n := m) (by omega) (By.none_ 0 _) (Nat.zero_le _)
        rw [(ok_ly hok).2] at hl0
        have HL := Lib.hid hl0
        have HOB := Lib.hid hok.play_byte
        clear hans hl0 hok
        generalize hPZ : play true m [] = PZ at *
        go_wp2_with fail
        go_region
        go_wp2_with fail
        generalize w1.alloc (.cells #[.bool false, .int .u64 (m : Int), .slice A1 d.length c1] 48) = w2 at *
        refine HL.out.mono ?_
        rintro e w3 ⟨g3, c3, rfl, ho3, hb3⟩
        have hb3 : Below w2.heap.size w2 w3 := (Below.refl _ w2).drew.trans hb3
        have hk : w3.heap[w1.heap.size]? = some (.cells #[.bool false, .int .u64 (m : Int), .slice A1 d.length c1] 48 (0, 0)) := (hb3.block _ (lt_of_heap K1.out)).trans K1.out
        obtain ⟨e0, e1, e2⟩ := pkt_cells hk
        have HR3 := Lib.hid (HR2.out.later hb3)
        obtain ⟨q0, q1⟩ := HR3.out.cells
        have HY3 := Lib.hid (by_later HY2.out hb3)
        have HO3 := Lib.hid (By.own ho3 HOB.out)
        have HB3 := Lib.hid (HB2.out.trans (hb3.mono HB2.out.size))
        have HG3 : Hid (∀ a, g3 = some a → w.heap.size ≤ a.block) := Lib.hid (fun a ha => by
          subst ha
          rcases ho3.2 with ⟨e, _⟩ | ⟨g, c, cur, e, hg, _⟩
          · injection e with e; cases e
          · injection e with e
            injection e with e
            subst e
            have := HB2.out.size
            have hg' : w2.heap.size ≤ g := hg
            show w.heap.size ≤ g
            omega)
        clear hk ho3 hb3 d0 d1 d2 r0 r1 HL HR2 HY2 HOB
        by_cases hle : m ≤ heard
        · have hd : (((m : Int)) != (heard : Int) + 1) = true := by rw [bne_iff_ne]; omega
          go_wp2_with fail
          go_region
          go_wp2_with fail
          go_ret3
          subst hPZ
          exact ⟨Turn.ofBelow HB3.out.drew _, .inr (.inl ⟨m, d, g3, c3, HI.out, HANS.out, hle, rfl, ⟨HO3.out.drew, HG3.out⟩, HR3.out.drew⟩)⟩
        · have hd : (((m : Int)) != (heard : Int) + 1) = false := by rw [bne_eq_false_iff_eq]; omega
          go_wp2_with fail
          go_region
          go_wp2_with fail
          go_ret3
          subst hPZ
          obtain rfl : m = heard + 1 := by omega
          refine ⟨(Turn.ofBelow HB3.out.drew (One r)).put _ (show One r r from rfl), .inl ⟨heard + 1, d, A1, c1, g3, c3, HI.out, HANS.out, by omega, rfl, ?_, ⟨?_, HG3.out⟩, ?_, by omega⟩⟩
          · exact by_keep HY3.out (by simp) (fun a ha => (Below.heap_setCell w3.drew _ _ _ (by have := HFR.out a ha; have := HRL.out; show a.block ≠ r; omega)))
          · exact by_keep HO3.out (by simp) (fun a ha => (Below.heap_setCell w3.drew _ _ _ (by have := HG3.out a ha; have := HRL.out; show a.block ≠ r; omega)))
          · show (w3.setCell ⟨r, 0, none⟩ (.int .u64 ((heard : Int) + 1))).heap[r]? = _
            rw [heap_setCell_same w3 r 0 _ _ _ HR3.out.box]; simp
      · have hans2 : rAns heard m = false := by simpa using hans
        have HNA := Lib.hid hans2
        by_cases hm0 : m = 0
        · have t0 : ((m : Int) == 0) = true := by rw [beq_iff_eq]; omega
          clear hans hans2
          go_wp2_with fail
          go_region
          go_wp2_with fail
          subst hm0
          go_ret3
          exact ⟨Turn.ofBelow HB2.out.drew _, .inr (.inr ⟨fun n d hi => by rw [(hi.uniq HI.out).2.1]; exact HNA.out, rfl, HR2.out.drew⟩)⟩
        · have t0 : ((m : Int) == 0) = false := by rw [beq_eq_false_iff_ne]; omega
          by_cases hh : heard = 18446744073709551615
          · have t1 : decide (IntKind.u64.wrap ((heard : Int) + 1) < (m : Int)) = true := by
              rw [hh, show IntKind.u64.wrap (((18446744073709551615 : Nat) : Int) + 1) = 0 from by decide]
              exact decide_eq_true (by omega)
            clear hans hans2 hh
            go_wp2_with fail
            go_region
            go_wp2_with fail
            generalize w1.alloc (.cells #[.bool false, .int .u64 (m : Int), .slice A1 d.length c1] 48) = w2 at *
            go_ret3
            exact ⟨Turn.ofBelow HB2.out.drew _, .inr (.inr ⟨fun n d hi => by rw [(hi.uniq HI.out).2.1]; exact HNA.out, rfl, HR2.out.drew⟩)⟩
          · have hgt : heard + 1 < m := by
              unfold rAns at hans2
              rw [decide_eq_true hm0, Nat.mod_eq_of_lt (by omega), Bool.true_and, decide_eq_false_iff_not] at hans2
              omega
            have t1 : decide ((heard : Int) + 1 < (m : Int)) = true := decide_eq_true (by omega)
            clear hans hans2
            go_wp2_with fail
            go_region
            go_wp2_with fail
            generalize w1.alloc (.cells #[.bool false, .int .u64 (m : Int), .slice A1 d.length c1] 48) = w2 at *
            go_ret3
            exact ⟨Turn.ofBelow HB2.out.drew _, .inr (.inr ⟨fun n d hi => by rw [(hi.uniq HI.out).2.1]; exact HNA.out, rfl, HR2.out.drew⟩)⟩
    · go_wp2_with fail
      go_region
      go_wp2_with fail
      generalize w1.alloc (.cells #[.bool true, .int .u64 (m : Int), .slice A1 d.length c1] 48) = w2 at *
      go_ret3
      exact ⟨Turn.ofBelow HB2.out.drew _, .inr (.inr ⟨fun n d hi => absurd (hi.uniq HI.out).1 (by decide), rfl, HR2.out.drew⟩)⟩
  · have HN := Lib.hid hno
    have k1 := box3 w1 (.bool false) (.int .u64 0) (.slice none 0 0)
    have k2 := Lib.hid (box3_below w1 (.bool false) (.int .u64 0) (.slice none 0 0))
    have HR2 := Lib.hid (HR1.out.later k2.out)
    obtain ⟨r0, r1⟩ := HR2.out.cells
    obtain ⟨d0, d1, d2⟩ := pkt_cells k1
    have HB2 := Lib.hid (HB1.out.trans (k2.out.mono HB1.out.size))
    clear hno k1
    go_wp2_with fail
    go_region
    go_wp2_with fail
    generalize w1.alloc (.cells #[.bool false, .int .u64 0, .slice none 0 0] 48) = w2 at *
    go_ret3
    exact ⟨Turn.ofBelow HB2.out.drew _, .inr (.inr ⟨fun n d hi => absurd hi (HN.out _ _ _), rfl, HR2.out.drew⟩)⟩
end Ln
end Go.Proofs.YtobpinelhjpfgaaDoor
end

section
namespace Go.Proofs.YtobpinelhjpfgaaDoor
namespace Ln
open Go.RowKit Bp Ck
/-- The blocks: a sender, a receiver, the document's; from t on none of them lies. -/
structure Qa where
  s : Nat
  r : Nat
  v : Nat
  q : Nat
  t : Nat
/-- What all hold: the program's, the document's, and what came back last. -/
structure Qz where
  vv : Value
  told : Nat
  pk : List Nat
  told2 : Nat
  pk2 : List Nat
  d : List Nat
  heard : Nat
  heard2 : Nat
  kA : Option Addr
  kc : Nat
  bk : List Nat
structure Qo (w0 w : World) (a : Qa) (z : Qz) : Prop where
  below : Below w0.heap.size w0 w
  sat : SAt w a.s z.vv z.told z.pk
  rat : RAt w a.r z.heard
  vat : VAt w a.v z.told2 z.pk2 z.d
  wat : WAt w a.q z.heard2
  back : By w.heap.size w z.kA z.bk.length z.kc z.bk
  fresh : ∀ x, z.kA = some x → a.t ≤ x.block
  lo : w0.heap.size ≤ a.s ∧ w0.heap.size ≤ a.r ∧ w0.heap.size ≤ a.v ∧ w0.heap.size ≤ a.q
  hi : a.s < a.t ∧ a.r < a.t ∧ a.v < a.t ∧ a.q < a.t
  top : a.t ≤ w.heap.size
section
variable {w0 w w' : World} {a : Qa} {z : Qz}
theorem VAt.ne {s told told2 heard r : Nat} {v : Value} {pk pk2 d : List Nat} (h : VAt w r told2 pk2 d) (hs : SAt w s v told pk) : ¬ SF s v r := hs.apart h (by decide) (by decide)
theorem WAt.ne {s told heard r : Nat} {v : Value} {pk : List Nat} (h : WAt w r heard) (hs : SAt w s v told pk) : ¬ SF s v r := hs.apart h.box (by decide) (by decide)
theorem two_ne {b b2 : Nat} {c c2 : Array Value} {t t2 : TypeId} {fz fz2 : Nat × Nat} (h : w.heap[b]? = some (.cells c t fz)) (h2 : w.heap[b2]? = some (.cells c2 t2 fz2)) (ht : t ≠ t2) : b ≠ b2 := by
  rintro rfl
  rw [h] at h2
  injection h2 with h2
  injection h2 with _ e _
  exact ht e
theorem turn_below {b : Nat} {B : Nat} (ht : Turn (One b) (One b) w w') (hw : B ≤ w.heap.size) (hb : B ≤ b) : Below B w w' :=
  ⟨ht.os, ht.tape, ht.output, ht.size, fun k hk => ht.block k (by omega) (fun e => by have : k = b := e; omega)⟩
theorem by_turn2 {A : Option Addr} {n c : Nat} {zs : List Nat} {F F' : Nat → Prop} (h : By w.heap.size w A n c zs) (ht : Turn F F' w w') (hf : 0 < n → ∀ a, A = some a → ¬ F a.block) : By w'.heap.size w' A n c zs :=
  ⟨h.len, h.le, h.max, h.nil, h.byte, fun hn => by
    obtain ⟨g, off, hA, hg, hc⟩ := h.cell hn
    have hk := ht.block g hg (hf hn _ hA)
    exact ⟨g, off, hA, Nat.lt_of_lt_of_le hg ht.size, fun j hj => (World.cell?_of_block (a := ⟨g, off + j, none⟩) hk).trans (hc j hj)⟩⟩
theorem Qo.later (h : Qo w0 w a z) (hb : Below w.heap.size w w') : Qo w0 w' a z :=
  ⟨h.below.trans (hb.mono h.below.size), h.sat.later hb, h.rat.later hb, h.vat.later hb, h.wat.later hb, by_later h.back hb, h.fresh, h.lo, h.hi, Nat.le_trans h.top hb.size⟩
theorem Qo.sender (h : Qo w0 w a z) {v' : Value} {told' : Nat} {pk' : List Nat} (hs : SAt w' a.s v' told' pk') (ht : Turn (One a.s) (One a.s) w w') : Qo w0 w' a { z with vv := v', told := told', pk := pk' } :=
  ⟨h.below.trans (turn_below ht h.below.size h.lo.1), hs, h.rat.turn ht (h.rat.ne h.sat), h.vat.turn ht (fun e => VAt.ne (heard := 0) h.vat h.sat (.inl e)), h.wat.turn ht (fun e => h.wat.ne h.sat (.inl e)),
   by_turn h.back ht (fun x hx e => by have e2 : x.block = a.s := e; have := h.fresh x hx; have := h.hi; omega), h.fresh, h.lo, h.hi, Nat.le_trans h.top ht.size⟩
theorem Qo.vsender (h : Qo w0 w a z) {told' : Nat} {pk' d' : List Nat} (hs : VAt w' a.v told' pk' d') (ht : Turn (One a.v) (One a.v) w w') : Qo w0 w' a { z with told2 := told', pk2 := pk', d := d' } :=
  ⟨h.below.trans (turn_below ht h.below.size h.lo.2.2.1), h.sat.turn ht (VAt.ne (heard := 0) h.vat h.sat), h.rat.turn ht (two_ne h.rat.box h.vat (by decide)), hs, h.wat.turn ht (two_ne h.wat.box h.vat (by decide)),
   by_turn h.back ht (fun x hx e => by have e2 : x.block = a.v := e; have := h.fresh x hx; have := h.hi; omega), h.fresh, h.lo, h.hi, Nat.le_trans h.top ht.size⟩
theorem Qo.receiver (h : Qo w0 w a z) {n : Nat} (hs : RAt w' a.r n) (ht : Turn (One a.r) (One a.r) w w') : Qo w0 w' a { z with heard := n } :=
  ⟨h.below.trans (turn_below ht h.below.size h.lo.2.1), h.sat.turn ht (h.rat.free h.sat), hs, h.vat.turn ht (two_ne h.vat h.rat.box (by decide)), h.wat.turn ht (two_ne h.wat.box h.rat.box (by decide)),
   by_turn h.back ht (fun x hx e => by have e2 : x.block = a.r := e; have := h.fresh x hx; have := h.hi; omega), h.fresh, h.lo, h.hi, Nat.le_trans h.top ht.size⟩
theorem Qo.wreceiver (h : Qo w0 w a z) {n : Nat} (hs : WAt w' a.q n) (ht : Turn (One a.q) (One a.q) w w') : Qo w0 w' a { z with heard2 := n } :=
  ⟨h.below.trans (turn_below ht h.below.size h.lo.2.2.2), h.sat.turn ht (h.wat.ne h.sat), h.rat.turn ht (two_ne h.rat.box h.wat.box (by decide)), h.vat.turn ht (two_ne h.vat h.wat.box (by decide)), hs,
   by_turn h.back ht (fun x hx e => by have e2 : x.block = a.q := e; have := h.fresh x hx; have := h.hi; omega), h.fresh, h.lo, h.hi, Nat.le_trans h.top ht.size⟩
/-- A block is written that is none of theirs. -/
theorem Qo.other (h : Qo w0 w a z) {g : Nat} (ht : Turn (One g) (One g) w w') (h1 : ¬ SF a.s z.vv g) (h2 : a.t ≤ g) (h3 : 0 < z.bk.length → ∀ x, z.kA = some x → x.block ≠ g) : Qo w0 w' a z :=
  ⟨h.below.trans (turn_below ht h.below.size (by have := h.lo; have := h.hi; omega)), h.sat.turn ht h1, h.rat.turn ht (by have := h.hi; omega), h.vat.turn ht (by have := h.hi; omega), h.wat.turn ht (by have := h.hi; omega),
   by_turn2 h.back ht (fun hn x hx e => h3 hn x hx e), h.fresh, h.lo, h.hi, Nat.le_trans h.top ht.size⟩
/-- Something else came back. -/
theorem Qo.came (h : Qo w0 w a z) {A : Option Addr} {c : Nat} {bs : List Nat} (hb : By w.heap.size w A bs.length c bs) (hf : ∀ x, A = some x → a.t ≤ x.block) : Qo w0 w a { z with kA := A, kc := c, bk := bs } :=
  ⟨h.below, h.sat, h.rat, h.vat, h.wat, hb, hf, h.lo, h.hi, h.top⟩
end
/-- Both tell the same. -/
structure Qe (z : Qz) : Prop where
  told : z.told2 = z.told
  pk : z.pk2 = z.pk
  heard : z.heard2 = z.heard
  link : z.pk ≠ [] → z.pk = play false (z.told + 1) z.d ∧ Ok false (z.told + 1) z.d
theorem Qe.tell {z : Qz} (h : Qe z) (hg : z.told < 18446744073709551616) {x : List Nat} (hx : ∀ y ∈ x, y ≤ 255) (vv : Value) (kA : Option Addr) (kc : Nat) (bk : List Nat) :
    Qe { z with vv := vv, pk := tlP z.told z.pk x, pk2 := tlP z.told2 z.pk2 x, d := tlD z.told2 z.pk2 z.d x } := by
  refine ⟨h.told, by show tlP z.told2 z.pk2 x = tlP z.told z.pk x; rw [h.told, h.pk], h.heard, ?_⟩
  show tlP z.told z.pk x ≠ [] → tlP z.told z.pk x = play false (z.told + 1) (tlD z.told2 z.pk2 z.d x) ∧ Ok false (z.told + 1) (tlD z.told2 z.pk2 z.d x)
  rw [h.told, h.pk]
  intro hp
  unfold tlP tlD at *
  by_cases he : tlE z.told z.pk x.length = 0
  · rw [if_pos he, if_pos he]
    refine ⟨rfl, ?_⟩
    unfold tlE at he
    by_cases h0 : z.pk ≠ []
    · rw [if_pos h0] at he; omega
    · rw [if_neg h0] at he
      by_cases h1 : 200 < x.length ∨ 18446744073709551614 ≤ z.told
      · rw [if_pos h1] at he; omega
      · exact ok_told (by omega) (by omega) hx
  · rw [if_neg he] at hp ⊢
    rw [if_neg he]
    exact h.link hp
theorem Qe.hear {z : Qz} (h : Qe z) (bs : List Nat) (vv : Value) :
    Qe { z with vv := vv, told := (if heB z.told z.pk bs then z.told + 1 else z.told), pk := (if heB z.told z.pk bs then [] else z.pk), told2 := heN z.told2 z.pk2 bs, pk2 := heK z.told2 z.pk2 bs } := by
  refine ⟨?_, ?_, h.heard, ?_⟩
  · show heN z.told2 z.pk2 bs = _
    unfold heN; rw [h.told, h.pk]
  · show heK z.told2 z.pk2 bs = _
    unfold heK; rw [h.told, h.pk]
  · show (if heB z.told z.pk bs then [] else z.pk) ≠ [] → (if heB z.told z.pk bs then [] else z.pk) = play false ((if heB z.told z.pk bs then z.told + 1 else z.told) + 1) z.d ∧ Ok false ((if heB z.told z.pk bs then z.told + 1 else z.told) + 1) z.d
    cases hb : heB z.told z.pk bs
    · simpa using h.link
    · simp
/-- What hearing comes to. -/
def Rh (heard : Nat) (bs bd : List Nat) (fr : Bool) (bb : List Nat) (nh : Nat) : Prop :=
  (∃ n, Is bs false n bd ∧ rAns heard n = true ∧ heard < n ∧ fr = true ∧ bb = play true n [] ∧ nh = n) ∨
  (∃ n d, Is bs false n d ∧ rAns heard n = true ∧ n ≤ heard ∧ bd = [] ∧ fr = false ∧ bb = play true n [] ∧ nh = heard) ∨
  ((∀ n d, Is bs false n d → rAns heard n = false) ∧ bd = [] ∧ fr = false ∧ bb = [] ∧ nh = heard)
theorem Rh.uniq {heard : Nat} {bs bd bd' : List Nat} {fr fr' : Bool} {bb bb' : List Nat} {nh nh' : Nat} (h : Rh heard bs bd fr bb nh) (h' : Rh heard bs bd' fr' bb' nh') : bd = bd' ∧ fr = fr' ∧ bb = bb' ∧ nh = nh' := by
  rcases h with ⟨n, hi, ha, hl, rfl, rfl, rfl⟩ | ⟨n, d, hi, ha, hl, rfl, rfl, rfl, rfl⟩ | ⟨hn, rfl, rfl, rfl, rfl⟩
  · rcases h' with ⟨n', hi', ha', hl', rfl, rfl, rfl⟩ | ⟨n', d', hi', ha', hl', rfl, rfl, rfl, rfl⟩ | ⟨hn', rfl, rfl, rfl, rfl⟩
    · obtain ⟨_, rfl, rfl⟩ := hi.uniq hi'
      exact ⟨rfl, rfl, rfl, rfl⟩
    · have := (hi.uniq hi').2.1; omega
    · have := hn' _ _ hi; rw [ha] at this; cases this
  · rcases h' with ⟨n', hi', ha', hl', rfl, rfl, rfl⟩ | ⟨n', d', hi', ha', hl', rfl, rfl, rfl, rfl⟩ | ⟨hn', rfl, rfl, rfl, rfl⟩
    · have := (hi.uniq hi').2.1; omega
    · obtain ⟨_, rfl, rfl⟩ := hi.uniq hi'
      exact ⟨rfl, rfl, rfl, rfl⟩
    · have := hn' _ _ hi; rw [ha] at this; cases this
  · rcases h' with ⟨n', hi', ha', hl', rfl, rfl, rfl⟩ | ⟨n', d', hi', ha', hl', rfl, rfl, rfl, rfl⟩ | ⟨hn', rfl, rfl, rfl, rfl⟩
    · have := hn _ _ hi'; rw [ha'] at this; cases this
    · have := hn _ _ hi'; rw [ha'] at this; cases this
    · exact ⟨rfl, rfl, rfl, rfl⟩
theorem rh_form {r heard : Nat} {bs : List Nat} {w w' : World} {e : Ending} (h : RHTold r heard bs w e w') : ∃ (bd : List Nat) (fr : Bool) (bb : List Nat) (nh : Nat) (A : Option Addr) (c : Nat) (A2 : Option Addr) (c2 : Nat),
    e = .returned (.tuple #[.slice A bd.length c, .bool fr, .slice A2 bb.length c2]) ∧ Turn (One r) (One r) w w' ∧ (By w'.heap.size w' A bd.length c bd ∧ ∀ a, A = some a → w.heap.size ≤ a.block) ∧ (By w'.heap.size w' A2 bb.length c2 bb ∧ ∀ a, A2 = some a → w.heap.size ≤ a.block) ∧ RAt w' r nh ∧ Rh heard bs bd fr bb nh := by
  obtain ⟨ht, ⟨n, d, A, c, A2, c2, hi, ha, hl, he, hx, hy, hr⟩ | ⟨n, d, A2, c2, hi, ha, hl, he, hy, hr⟩ | ⟨hn, he, hr⟩⟩ := h
  · exact ⟨d, true, play true n [], n, A, c, A2, c2, he, ht, hx, hy, (by first | exact hr | exact hr.1), .inl ⟨n, hi, ha, hl, rfl, rfl, rfl⟩⟩
  · exact ⟨[], false, play true n [], heard, none, 0, A2, c2, he, ht, ⟨By.none_ _ _, fun a e => (by cases e)⟩, hy, hr, .inr (.inl ⟨n, d, hi, ha, hl, rfl, rfl, rfl, rfl⟩)⟩
  · exact ⟨[], false, [], heard, none, 0, none, 0, he, ht, ⟨By.none_ _ _, fun a e => (by cases e)⟩, ⟨By.none_ _ _, fun a e => (by cases e)⟩, hr, .inr (.inr ⟨hn, rfl, rfl, rfl, rfl⟩)⟩
theorem rr_form {r heard : Nat} {bs : List Nat} {w w' : World} {e : Ending} (h : RRTold r heard bs w e w') : ∃ (bd : List Nat) (fr : Bool) (bb : List Nat) (nh : Nat) (A : Option Addr) (c : Nat) (A2 : Option Addr) (c2 : Nat),
    e = .returned (.tuple #[.slice A bd.length c, .bool fr, .slice A2 bb.length c2]) ∧ Turn (One r) (One r) w w' ∧ By w'.heap.size w' A bd.length c bd ∧ (By w'.heap.size w' A2 bb.length c2 bb ∧ ∀ a, A2 = some a → w.heap.size ≤ a.block) ∧ WAt w' r nh ∧ Rh heard bs bd fr bb nh := by
  obtain ⟨ht, ⟨n, d, A, c, A2, c2, hi, ha, hl, he, hx, hy, hr⟩ | ⟨n, d, A2, c2, hi, ha, hl, he, hy, hr⟩ | ⟨hn, he, hr⟩⟩ := h
  · exact ⟨d, true, play true n [], n, A, c, A2, c2, he, ht, hx, hy, hr, .inl ⟨n, hi, ha, hl, rfl, rfl, rfl⟩⟩
  · exact ⟨[], false, play true n [], heard, none, 0, A2, c2, he, ht, By.none_ _ _, hy, hr, .inr (.inl ⟨n, d, hi, ha, hl, rfl, rfl, rfl, rfl⟩)⟩
  · exact ⟨[], false, [], heard, none, 0, none, 0, he, ht, By.none_ _ _, ⟨By.none_ _ _, fun a e => (by cases e)⟩, hr, .inr (.inr ⟨hn, rfl, rfl, rfl, rfl⟩)⟩
def uc (cs : List Int) : List Value := cs.map fun z => Value.int .u8 z
theorem uc_bc (d : List Nat) : bc d = uc (d.map fun n : Nat => (n : Int)) := by simp [bc, uc]
theorem uc_set (cs : List Int) (j : Nat) (y : Int) : (uc cs).set j (.int .u8 y) = uc (cs.set j y) := by simp [uc]
theorem uc_len (cs : List Int) : (uc cs).length = cs.length := by simp [uc]
end Ln
end Go.Proofs.YtobpinelhjpfgaaDoor
end
