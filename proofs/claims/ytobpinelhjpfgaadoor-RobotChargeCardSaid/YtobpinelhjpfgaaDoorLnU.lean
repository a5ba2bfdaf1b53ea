/-
  Layer 14: the document's sender and receiver.
-/
import Derived.Test.YtobpinelhjpfgaaDoorLnT
import Derived.Test.YtobpinelhjpfgaaDoorLnR
import Derived.Lib.ConvBytes
set_option linter.unusedVariables false
set_option maxRecDepth 100000
namespace Go.Proofs.YtobpinelhjpfgaaDoor
namespace Ln
open Go.RowKit Bp Ck
theorem strOf_size (d : List Nat) : (strOf d).size = d.length := by
  show (strOfNums _).size = _
  rw [strOfNums_size, List.length_map]
theorem strOf_get (d : List Nat) (hb : ∀ z ∈ d, z ≤ 255) (j : Nat) (hj : j < d.length) : ((strOf d).data.toList.getD j 0).toNat = d.getD j 0 := by
  have e : (strOf d).data.toList = (d.map fun n : Nat => (n : Int)).map (fun z => UInt8.ofNat z.toNat) := by
    show (strOfNums _).data.toList = _
    exact strOfNums_data _
  have hx : d[j] ≤ 255 := hb _ (List.getElem_mem hj)
  rw [e]
  simp [List.getD, hj]
  omega
/-- What the bytes of a text are. -/
theorem bytes_by (w : World) (d : List Nat) (hb : ∀ z ∈ d, z ≤ 255) (hl : d.length ≤ 300) :
    By (Lib.bytesWorld w 5 (strOf d)).heap.size (Lib.bytesWorld w 5 (strOf d)) (some ⟨w.heap.size, 0, none⟩) d.length (grownCap w d.length 0 5) d := by
  refine ⟨rfl, grownCap_ge _ _ _ _, grownCap_le_maxLen _ _ _ _ (by unfold maxLen; omega), fun e => (by cases e), hb, fun hn => ⟨w.heap.size, 0, rfl, by rw [Lib.bytesWorld_size]; omega, fun j hj => ?_⟩⟩
  rw [Nat.zero_add, Lib.bytesWorld_cell w 5 (strOf d) j (by rw [strOf_size]; exact hj), strOf_get d hb j hj]
theorem bytes_below (w : World) (s : ByteArray) : Below w.heap.size w (Lib.bytesWorld w 5 s) := ⟨rfl, rfl, rfl, by rw [Lib.bytesWorld_size]; omega, fun k hk => Lib.bytesWorld_at_old w _ s k hk⟩
/-- The document's sender in block v. -/
def VAt (w : World) (v told : Nat) (pk d : List Nat) : Prop := w.heap[v]? = some (.cells #[.int .u64 (told : Int), .bool (decide (pk ≠ [])), .string (strOf d)] 42 (0, 0))
theorem VAt.later {w w' : World} {v told : Nat} {pk d : List Nat} (h : VAt w v told pk d) (hb : Below w.heap.size w w') : VAt w' v told pk d := (hb.block v (lt_of_heap h)).trans h
theorem VAt.turn {w w' : World} {v told s : Nat} {pk d : List Nat} (h : VAt w v told pk d) (ht : Turn (One s) (One s) w w') (hr : v ≠ s) : VAt w' v told pk d := (ht.block v (lt_of_heap h) hr).trans h
theorem VAt.cells {w : World} {v told : Nat} {pk d : List Nat} (h : VAt w v told pk d) : w.cell? ⟨v, 0, none⟩ = some (.int .u64 (told : Int)) ∧ w.cell? ⟨v, 1, none⟩ = some (.bool (decide (pk ≠ []))) ∧ w.cell? ⟨v, 2, none⟩ = some (.string (strOf d)) ∧
    w.frozen? ⟨v, 0, none⟩ = false ∧ w.frozen? ⟨v, 1, none⟩ = false ∧ w.frozen? ⟨v, 2, none⟩ = false :=
  ⟨by rw [cell_of_row _ v 0 _ _ _ h]; rfl, by rw [cell_of_row _ v 1 _ _ _ h]; rfl, by rw [cell_of_row _ v 2 _ _ _ h]; rfl, frozen_of_row _ v 0 _ _ h, frozen_of_row _ v 1 _ _ h, frozen_of_row _ v 2 _ _ h⟩
/-- The document's receiver in block v. -/
structure WAt (w : World) (v heard : Nat) : Prop where
  box : w.heap[v]? = some (.cells #[.int .u64 (heard : Int)] 40 (0, 0))
  num : heard < 18446744073709551616
theorem WAt.later {w w' : World} {v heard : Nat} (h : WAt w v heard) (hb : Below w.heap.size w w') : WAt w' v heard := ⟨(hb.block v (lt_of_heap h.box)).trans h.box, h.num⟩
theorem WAt.turn {w w' : World} {v heard s : Nat} (h : WAt w v heard) (ht : Turn (One s) (One s) w w') (hr : v ≠ s) : WAt w' v heard := ⟨(ht.block v (lt_of_heap h.box) hr).trans h.box, h.num⟩
theorem WAt.cells {w : World} {v heard : Nat} (h : WAt w v heard) : w.cell? ⟨v, 0, none⟩ = some (.int .u64 (heard : Int)) ∧ w.frozen? ⟨v, 0, none⟩ = false :=
  ⟨by rw [cell_of_row _ v 0 _ _ _ h.box]; rfl, frozen_of_row _ v 0 _ _ h.box⟩
def tlD (told : Nat) (pk d x : List Nat) : List Nat := if tlE told pk x.length = 0 then x else d
/-- The document's Tell. -/
theorem rtell_any {w : World} {v told : Nat} {pk d x : List Nat} (h : VAt w v told pk d) (hx : told < 18446744073709551616) (hxl : x.length ≤ 9223372036854775807) (hpl : told + 2 < 18446744073709551616 → x.length ≤ 200 → play false (told + 1) x ≠ []) :
    Calls Tryd.prog 96 #[.pointer (some ⟨v, 0, none⟩), .string (strOf x)] w fun e w' => e = .returned (.int .i64 (tlE told pk x.length)) ∧ Turn (One v) (One v) w w' ∧ VAt w' v told (tlP told pk x) (tlD told pk d x) := by
  obtain ⟨c0, c1, c2, f0, f1, f2⟩ := h.cells
  have hsz := strOf_size x
  have HV := Lib.hid h
  clear h
  by_cases hp : pk = []
  · subst hp
    have q1 : decide (([] : List Nat) ≠ []) = false := by simp
    rw [q1] at c1
    by_cases h1 : 200 < x.length
    · have e1 : tlE told [] x.length = 4 := by unfold tlE; rw [if_neg (by simp), if_pos (.inl h1)]
      have e2 : tlP told [] x = [] := by unfold tlP; rw [e1]; rfl
      have e3 : tlD told [] d x = d := by unfold tlD; rw [e1]; rfl
      rw [e1, e2, e3]
      have t1 : decide ((200 : Int) < ((strOf x).size : Int)) = true := decide_eq_true (by omega)
      clear e1 e2 e3 hpl
      go_enter Tryd.func96, Tryd.ntmps96
      go_wp2_with fail
      go_ret
      exact ⟨rfl, Turn.refl _ _, HV.out⟩
    · have t1 : decide ((200 : Int) < ((strOf x).size : Int)) = false := decide_eq_false (by omega)
      by_cases h2 : 18446744073709551614 ≤ told
      · have e1 : tlE told [] x.length = 4 := by unfold tlE; rw [if_neg (by simp), if_pos (.inr h2)]
        have e2 : tlP told [] x = [] := by unfold tlP; rw [e1]; rfl
        have e3 : tlD told [] d x = d := by unfold tlD; rw [e1]; rfl
        rw [e1, e2, e3]
        have t2 : decide ((18446744073709551614 : Int) ≤ (told : Int)) = true := decide_eq_true (by omega)
        clear e1 e2 e3 hpl
        go_enter Tryd.func96, Tryd.ntmps96
        go_wp2_with fail
        go_ret
        exact ⟨rfl, Turn.refl _ _, HV.out⟩
      · have e1 : tlE told [] x.length = 0 := by unfold tlE; rw [if_neg (by simp), if_neg (by omega)]
        have e2 : tlP told [] x = play false (told + 1) x := by unfold tlP; rw [e1]; rfl
        have e3 : tlD told [] d x = x := by unfold tlD; rw [e1]; rfl
        rw [e1, e2, e3]
        have t2 : decide ((18446744073709551614 : Int) ≤ (told : Int)) = false := decide_eq_false (by omega)
        have hpl2 := Lib.hid (hpl (by omega) (by omega))
        clear e1 e2 e3 hpl
        go_enter Tryd.func96, Tryd.ntmps96
        go_wp2_with fail
        go_ret
        refine ⟨rfl, ((Turn.refl (One v) w).put _ (show One v v from rfl)).put _ (show One v v from rfl), ?_⟩
        have hh := HV.out
        unfold VAt at hh ⊢
        have g1 : (w.setCell ⟨v, 1, none⟩ (.bool true)).heap[v]? = _ := heap_setCell_same w v 1 _ _ _ hh
        rw [heap_setCell_same (w.setCell ⟨v, 1, none⟩ (.bool true)) v 2 _ _ _ g1, decide_eq_true hpl2.out]
        simp
  · have e1 : tlE told pk x.length = 3 := by unfold tlE; rw [if_pos hp]
    have e2 : tlP told pk x = pk := by unfold tlP; rw [e1]; rfl
    have e3 : tlD told pk d x = d := by unfold tlD; rw [e1]; rfl
    rw [e1, e2, e3]
    have q1 : decide (pk ≠ []) = true := decide_eq_true hp
    rw [q1] at c1
    clear e1 e2 e3 hpl
    go_enter Tryd.func96, Tryd.ntmps96
    go_wp2_with fail
    go_ret
    exact ⟨rfl, Turn.refl _ _, HV.out⟩
/-- The document's Packet. -/
theorem rpacket_any {w : World} {v told : Nat} {pk d : List Nat} (h : VAt w v told pk d) (hp : pk ≠ [] → pk = play false (told + 1) d ∧ Ok false (told + 1) d) :
    Calls Tryd.prog 14 #[.pointer (some ⟨v, 0, none⟩)] w fun e w' => ∃ A c, e = .returned (.tuple #[.slice A pk.length c, .bool (decide (pk ≠ []))]) ∧ By w'.heap.size w' A pk.length c pk ∧ Below w.heap.size w w' := by
  obtain ⟨c0, c1, c2, f0, f1, f2⟩ := h.cells
  have HV := Lib.hid h
  clear h
  by_cases h0 : pk = []
  · subst h0
    have q1 : decide (([] : List Nat) ≠ []) = false := by simp
    rw [q1] at c1 ⊢
    clear hp
    go_enter Tryd.func14, Tryd.ntmps14
    go_wp2_with fail
    go_ret2
    exact ⟨none, 0, rfl, By.none_ _ _, Below.refl _ _⟩
  · have q1 : decide (pk ≠ []) = true := decide_eq_true h0
    rw [q1] at c1 ⊢
    obtain ⟨hpk, hok⟩ := hp h0
    have H0 := Lib.hid h0
    have HW : Hid (IntKind.u64.wrap ((told : Int) + 1) = (told : Int) + 1) := Lib.hid (by have := hok.num; simp [IntKind.wrap, IntKind.signed, IntKind.bits]; omega)
    have hby := bytes_by w.drew d hok.byte (by have := hok.few; omega)
    have hbl := bytes_below w.drew (strOf d)
    have hlz := (ok_ly hok).2
    have hnum := hok.num
    have HC : Hid ((convert 9 35 (.string (strOf d))).run Tryd.prog w.drew = .ok (.slice (some ⟨w.heap.size, 0, none⟩) d.length (grownCap w.drew d.length 0 5)) (Lib.bytesWorld w.drew 5 (strOf d))) := Lib.hid (by
      have := Lib.run_convert_string_bytes (P := Tryd.prog) w.drew 9 35 5 (strOf d) Tryd.underlying9 Tryd.underlying35 Tryd.underlying5
      rw [strOf_size] at this
      exact this)
    have hl0 := rlay_any (w := Lib.bytesWorld w.drew 5 (strOf d)) (h := false) (n := told + 1) (by omega) hby (Nat.le_refl _)
    rw [hlz, ← hpk] at hl0
    have HL : Hid (Calls Tryd.prog 16 #[.agg #[.bool false, .int .u64 ((told : Int) + 1), .slice (some ⟨w.heap.size, 0, none⟩) d.length (grownCap w.drew d.length 0 5)]] (Lib.bytesWorld w.drew 5 (strOf d)) (LayAll (lyE false (told + 1) d.length) pk (Lib.bytesWorld w.drew 5 (strOf d)))) := Lib.hid hl0
    have HB : Hid (Below w.heap.size w (Lib.bytesWorld w.drew 5 (strOf d))) := Lib.hid ((Below.refl _ w).drew.trans hbl)
    have HPB := Lib.hid (show ∀ z ∈ pk, z ≤ 255 from by rw [hpk]; exact hok.play_byte)
    have kc := HC.out
    clear hby hbl hlz hp hpk h0 q1 HC hl0
    generalize lyE false (told + 1) d.length = EL at *
    generalize grownCap w.drew d.length 0 5 = gc at *
    have hv1 := HV.out.later HB.out
    obtain ⟨d0, d1, d2, k0, k1, k2⟩ := hv1.cells
    rw [decide_eq_true H0.out] at d1
    clear hv1
    generalize Lib.bytesWorld w.drew 5 (strOf d) = w1 at *
    go_enter Tryd.func14, Tryd.ntmps14
    go_wp2_with fail
    go_region_with (go_simp; go_at_call 16; rw [HW.out]; refine HL.out.mono ?_; rintro e w2 ⟨A, c, rfl, ho, hb⟩; have HY := Lib.hid (By.own ho HPB.out); have HB2 := Lib.hid (HB.out.trans (hb.mono HB.out.size)); clear ho hb)
    all_goals (go_wp2_with fail; go_ret2; exact ⟨A, c, rfl, HY.out, HB2.out⟩)
/-- What hearing leaves. -/
def heN (told : Nat) (pk bs : List Nat) : Nat := if heB told pk bs then told + 1 else told
def heK (told : Nat) (pk bs : List Nat) : List Nat := if heB told pk bs then [] else pk
def VTold (v : Nat) (b : Bool) (told : Nat) (pk d : List Nat) (w : World) (e : Ending) (w' : World) : Prop := e = .returned (.bool b) ∧ Turn (One v) (One v) w w' ∧ VAt w' v told pk d
set_option maxHeartbeats 1000000 in
/-- The document's Hear of a sender. -/
theorem rshear_any {w : World} {v told B : Nat} {pk d : List Nat} {A : Option Addr} {n c : Nat} {bs : List Nat} (h : VAt w v told pk d) (hn : pk ≠ [] → told + 2 < 18446744073709551616) (hd : By B w A n c bs) (hB : B ≤ w.heap.size) :
    Calls Tryd.prog 20 #[.pointer (some ⟨v, 0, none⟩), .slice A n c] w (VTold v (heB told pk bs) (heN told pk bs) (heK told pk bs) d w) := by
  have HT := Lib.hid (rtake_any hd hB)
  have HV := Lib.hid h
  have HN := Lib.hid hn
  clear h hd hn
  go_enter Tryd.func20, Tryd.ntmps20
  go_wp2_with fail
  refine HT.out.mono ?_
  rintro e w1 ⟨hb1, hcase⟩
  have HB1 := Lib.hid hb1
  have HV1 := Lib.hid (HV.out.later hb1)
  clear hb1 HT
  rcases hcase with ⟨h, m, q, A1, c1, his, rfl, hy, hfr⟩ | ⟨hno, rfl⟩
  · have HI := Lib.hid his
    have k1 := box3 w1 (.bool h) (.int .u64 (m : Int)) (.slice A1 q.length c1)
    have k2 := Lib.hid (box3_below w1 (.bool h) (.int .u64 (m : Int)) (.slice A1 q.length c1))
    have HV2 := Lib.hid (HV1.out.later k2.out)
    obtain ⟨d0, d1, d2⟩ := pkt_cells k1
    obtain ⟨r0, r1, r2, r3, r4, r5⟩ := HV2.out.cells
    clear his hy hfr k1
    go_wp2_with fail
    generalize w1.alloc (.cells #[.bool h, .int .u64 (m : Int), .slice A1 q.length c1] 48) = w2 at *
    have HB2 := Lib.hid (HB1.out.trans (k2.out.mono HB1.out.size))
    by_cases hp : pk = []
    · have q1 : decide (pk ≠ []) = false := decide_eq_false (by simpa using hp)
      have e1 : heB told pk bs = false := by unfold heB; rw [q1]; rfl
      have E1 := Lib.hid e1
      rw [q1] at r1
      clear HN hp e1
      go_wp2_with fail
      go_region
      go_wp2_with fail
      go_ret
      exact ⟨congrArg (fun x => Ending.returned (.bool x)) E1.out.symm, Turn.ofBelow HB2.out.drew _, by unfold heN heK; rw [E1.out]; exact HV2.out⟩
    · have q1 : decide (pk ≠ []) = true := decide_eq_true hp
      have h2 := HN.out hp
      rw [q1] at r1
      cases h
      · have e1 : heB told pk bs = false := by
          unfold heB
          rw [q1, decide_eq_false]; rfl
          intro e
          have hi2 := is_play (ok_heard (n := told + 1) (by omega))
          rw [← e] at hi2
          exact absurd (hi2.uniq HI.out).1 (by decide)
        have E1 := Lib.hid e1
        clear hp e1
        go_wp2_with fail
        go_region
        go_wp2_with fail
        go_ret
        exact ⟨congrArg (fun x => Ending.returned (.bool x)) E1.out.symm, Turn.ofBelow HB2.out.drew _, by unfold heN heK; rw [E1.out]; exact HV2.out⟩
      · by_cases hm : m = told + 1
        · subst hm
          have hq : q = [] := HI.out.1.none_ rfl
          have e1 : heB told pk bs = true := by
            unfold heB
            rw [q1, decide_eq_true]; rfl
            rw [← hq]; exact HI.out.2
          have E1 := Lib.hid e1
          have t1 : (((told + 1 : Nat) : Int) != (told : Int) + 1) = false := by simp
          clear hp e1
          go_wp2_with fail
          go_region
          go_wp2_with fail
          go_ret
          refine ⟨congrArg (fun x => Ending.returned (.bool x)) E1.out.symm, ((Turn.ofBelow HB2.out.drew (One v)).put _ (show One v v from rfl)).put _ (show One v v from rfl), ?_⟩
          unfold heN heK
          rw [E1.out]
          have hh := HV2.out
          unfold VAt at hh ⊢
          have g1 : (w2.setCell ⟨v, 1, none⟩ (.bool false)).heap[v]? = _ := heap_setCell_same w2 v 1 _ _ _ hh
          rw [if_pos rfl, if_pos rfl]
          show ((w2.setCell ⟨v, 1, none⟩ (.bool false)).setCell ⟨v, 0, none⟩ (.int .u64 ((told : Int) + 1))).heap[v]? = _
          rw [heap_setCell_same (w2.setCell ⟨v, 1, none⟩ (.bool false)) v 0 _ _ _ g1]
          simp
        · have e1 : heB told pk bs = false := by
            unfold heB
            rw [q1, decide_eq_false]; rfl
            intro e
            have hi2 := is_play (ok_heard (n := told + 1) (by omega))
            rw [← e] at hi2
            exact absurd (hi2.uniq HI.out).2.1.symm hm
          have E1 := Lib.hid e1
          have t1 : ((m : Int) != (told : Int) + 1) = true := by rw [bne_iff_ne]; omega
          clear hp e1
          go_wp2_with fail
          go_region
          go_wp2_with fail
          go_ret
          exact ⟨congrArg (fun x => Ending.returned (.bool x)) E1.out.symm, Turn.ofBelow HB2.out.drew _, by unfold heN heK; rw [E1.out]; exact HV2.out⟩
  · have HI := Lib.hid hno
    have k1 := box3 w1 (.bool false) (.int .u64 0) (.slice none 0 0)
    have k2 := Lib.hid (box3_below w1 (.bool false) (.int .u64 0) (.slice none 0 0))
    have HV2 := Lib.hid (HV1.out.later k2.out)
    obtain ⟨d0, d1, d2⟩ := pkt_cells k1
    obtain ⟨r0, r1, r2, r3, r4, r5⟩ := HV2.out.cells
    have e1 : heB told pk bs = false := by
      cases hx : heB told pk bs
      · rfl
      · unfold heB at hx
        rw [Bool.and_eq_true, decide_eq_true_eq, decide_eq_true_eq] at hx
        have h2 := HN.out hx.1
        have hi2 := is_play (ok_heard (n := told + 1) (by omega))
        rw [← hx.2] at hi2
        exact absurd hi2 (HI.out _ _ _)
    have E1 := Lib.hid e1
    clear hno k1 e1
    go_wp2_with fail
    generalize w1.alloc (.cells #[.bool false, .int .u64 0, .slice none 0 0] 48) = w2 at *
    have HB2 := Lib.hid (HB1.out.trans (k2.out.mono HB1.out.size))
    by_cases hp : pk = []
    · have q1 : decide (pk ≠ []) = false := decide_eq_false (by simpa using hp)
      rw [q1] at r1
      clear hp HN
      go_wp2_with fail
      go_region
      go_wp2_with fail
      go_ret
      exact ⟨congrArg (fun x => Ending.returned (.bool x)) E1.out.symm, Turn.ofBelow HB2.out.drew _, by unfold heN heK; rw [E1.out]; exact HV2.out⟩
    · have q1 : decide (pk ≠ []) = true := decide_eq_true hp
      rw [q1] at r1
      clear hp HN
      go_wp2_with fail
      go_region
      go_wp2_with fail
      go_ret
      exact ⟨congrArg (fun x => Ending.returned (.bool x)) E1.out.symm, Turn.ofBelow HB2.out.drew _, by unfold heN heK; rw [E1.out]; exact HV2.out⟩
end Ln
end Go.Proofs.YtobpinelhjpfgaaDoor
