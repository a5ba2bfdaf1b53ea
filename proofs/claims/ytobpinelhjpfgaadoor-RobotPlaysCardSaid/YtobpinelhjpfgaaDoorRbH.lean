/-
  Layer 18: the document's robot (written by tools/rbdoc.py).
-/
import Derived.Test.YtobpinelhjpfgaaDoorRbF
import Derived.Test.YtobpinelhjpfgaaDoorRcV
set_option linter.unusedVariables false
set_option maxRecDepth 100000
namespace Go.Proofs.YtobpinelhjpfgaaDoor
namespace Rb
open Go.RowKit Bp Ck Ln
open Rc (Aok Shp TakeATold act_uniq)
/-- Its cells, out of the program's robot. -/
def rclR (z : R) : Array Value := #[.int .i64 z.cell, .int .i64 (if z.on = true then z.c else -1), .int .i64 z.dock, .int .i64 z.full, .int .i64 z.chg, .bool (decide (z.k ≠ 0)), .int .u8 (z.k : Int), .int .i64 z.c, .int .i64 z.p, .int .u64 (dn z : Int), .int .u64 (z.heard : Int), .int .u64 (z.told : Int), .bool (decide (z.pk ≠ [])), .string (strOf [])]
structure DAt (w : World) (q : Nat) (z : R) : Prop where
  box : w.heap[q]? = some (.cells (rclR z) 44 (0, 0))
  num : z.heard < 18446744073709551616
section
variable {w w' : World} {q : Nat} {z : R}
theorem DAt.later (h : DAt w q z) (hb : Below w.heap.size w w') : DAt w' q z := ⟨(hb.block q (lt_of_heap h.box)).trans h.box, h.num⟩
theorem DAt.drew (h : DAt w q z) : DAt w.drew q z := ⟨h.box, h.num⟩
theorem DAt.turn {F F' : Nat → Prop} (h : DAt w q z) (ht : Turn F F' w w') (hr : ¬ F q) : DAt w' q z := ⟨(ht.block q (lt_of_heap h.box) hr).trans h.box, h.num⟩
theorem DAt.row (h : DAt w q z) (j : Nat) : w.cell? ⟨q, j, none⟩ = (rclR z)[j]? ∧ w.frozen? ⟨q, j, none⟩ = false := ⟨cell_of_row _ q j _ _ _ h.box, frozen_of_row _ q j _ _ h.box⟩
theorem DAt.heardC (h : DAt w q z) : w.cell? ⟨q, 10, none⟩ = some (.int .u64 (z.heard : Int)) ∧ w.frozen? ⟨q, 10, none⟩ = false := h.row 10
theorem DAt.sends (h : DAt w q z) : w.cell? ⟨q, 11, none⟩ = some (.int .u64 (z.told : Int)) ∧ w.cell? ⟨q, 12, none⟩ = some (.bool (decide (z.pk ≠ []))) ∧ w.cell? ⟨q, 13, none⟩ = some (.string (strOf [])) ∧
    w.frozen? ⟨q, 11, none⟩ = false ∧ w.frozen? ⟨q, 12, none⟩ = false ∧ w.frozen? ⟨q, 13, none⟩ = false := ⟨(h.row 11).1, (h.row 12).1, (h.row 13).1, (h.row 11).2, (h.row 12).2, (h.row 13).2⟩
end
/-- What the document's Hear of a receiver comes to. -/
def DRTold (q : Nat) (z : R) (bs : List Nat) (w : World) (e : Ending) (w' : World) : Prop := Turn (One q) (One q) w w' ∧
  ((∃ n d A c A2 c2, Is bs false n d ∧ rAns z.heard n = true ∧ z.heard < n ∧ e = .returned (.tuple #[.slice A d.length c, .bool true, .slice A2 (play true n []).length c2]) ∧ By w'.heap.size w' A d.length c d ∧ (By w'.heap.size w' A2 (play true n []).length c2 (play true n []) ∧ ∀ a, A2 = some a → w.heap.size ≤ a.block) ∧ DAt w' q { z with heard := n }) ∨
   (∃ n d A2 c2, Is bs false n d ∧ rAns z.heard n = true ∧ n ≤ z.heard ∧ e = .returned (.tuple #[.slice none 0 0, .bool false, .slice A2 (play true n []).length c2]) ∧ (By w'.heap.size w' A2 (play true n []).length c2 (play true n []) ∧ ∀ a, A2 = some a → w.heap.size ≤ a.block) ∧ DAt w' q z) ∨
   ((∀ n d, Is bs false n d → rAns z.heard n = false) ∧ e = .returned (.tuple #[.slice none 0 0, .bool false, .slice none 0 0]) ∧ DAt w' q z))
set_option maxHeartbeats 4000000 in
theorem d_rhear {w : World} {r B : Nat} {z : R} {A : Option Addr} {n c : Nat} {bs : List Nat} (h : DAt w r z) (hd : By B w A n c bs) (hB : B ≤ w.heap.size) :
    Calls Tryd.prog 64 #[.pointer (some ⟨r, 10, none⟩), .slice A n c] w (DRTold r z bs w) := by
  obtain ⟨heard, hhe⟩ : ∃ heard, z.heard = heard := ⟨_, rfl⟩
  unfold DRTold
  rw [hhe]
  have HHE := Lib.hid hhe
  have HT := Lib.hid (Ln.rtake_any hd hB)
  have HR := Lib.hid h
  have hrn := h.num
  rw [hhe] at hrn
  have HRL := Lib.hid (lt_of_heap h.box)
  clear h hd hhe
  go_enter Tryd.func64, Tryd.ntmps64
  go_wp2_with fail
  refine HT.out.mono ?_
  rintro e w1 ⟨hb1, hcase⟩
  have HB1 := Lib.hid hb1
  have HR1 := Lib.hid (HR.out.later hb1)
  clear hb1
  rcases hcase with ⟨h, m, d, A1, c1, his, rfl, hy, hfr⟩ | ⟨hno, rfl⟩
  · have HI := Lib.hid his
    have HY := Lib.hid hy
    have HFR := Lib.hid hfr
    have hm := his.1.num
    have k1 := box3 w1 (.bool h) (.int .u64 (m : Int)) (.slice A1 d.length c1)
    have k2 := Lib.hid (box3_below w1 (.bool h) (.int .u64 (m : Int)) (.slice A1 d.length c1))
    have HR2 := Lib.hid (HR1.out.later k2.out)
    obtain ⟨r0, r1⟩ := HR2.out.heardC
    rw [HHE.out] at r0
    obtain ⟨d0, d1, d2⟩ := pkt_cells k1
    have K1 := Lib.hid k1
    have HY2 := Lib.hid (by_later HY.out k2.out)
    have HB2 := Lib.hid (HB1.out.trans (k2.out.mono HB1.out.size))
    clear his hy hfr k1 HT HR
    cases h
    · by_cases hans : rAns heard m = true
      · have hm0 : m ≠ 0 := fun e => by rw [e] at hans; simp [rAns] at hans
        have hm1 : m ≤ (heard + 1) % 18446744073709551616 := by
          unfold rAns at hans
          rw [Bool.and_eq_true, decide_eq_true_eq, decide_eq_true_eq] at hans
          exact hans.2
        have hh1 : heard + 1 < 18446744073709551616 := by
          rcases Nat.lt_or_ge (heard + 1) 18446744073709551616 with x | x
          · exact x
          · have : heard + 1 = 18446744073709551616 := by omega
            rw [this] at hm1
            omega
        rw [Nat.mod_eq_of_lt hh1] at hm1
        have t0 : ((m : Int) == 0) = false := by rw [beq_eq_false_iff_ne]; omega
        have t1 : decide ((heard : Int) + 1 < (m : Int)) = false := decide_eq_false (by omega)
        have HANS := Lib.hid hans
        have hok : Ok true m [] := ⟨hm, by simp, fun _ => rfl, by simp⟩
        have hl0 := rlay_any (w := (w1.alloc (.cells #[.bool false, .int .u64 (m : Int), .slice A1 d.length c1] 48)).drew) (h := true) (n := m) (by omega) (By.none_ 0 _) (Nat.zero_le _)
        rw [(ok_ly hok).2] at hl0
        have HL := Lib.hid hl0
        have HOB := Lib.hid hok.play_byte
        clear hans hl0 hok
        generalize hPZ : play true m [] = PZ at *
        go_wp2_with fail
        go_region
        go_wp2_with fail
        generalize w1.alloc (.cells #[.bool false, .int .u64 (m : Int), .slice A1 d.length c1] 48) = w2 at *
        refine HL.out.mono ?_
        rintro e w3 ⟨g3, c3, rfl, ho3, hb3⟩
        have hb3 : Below w2.heap.size w2 w3 := (Below.refl _ w2).drew.trans hb3
        have hk : w3.heap[w1.heap.size]? = some (.cells #[.bool false, .int .u64 (m : Int), .slice A1 d.length c1] 48 (0, 0)) := (hb3.block _ (lt_of_heap K1.out)).trans K1.out
        obtain ⟨e0, e1, e2⟩ := pkt_cells hk
        have HR3 := Lib.hid (HR2.out.later hb3)
        obtain ⟨q0, q1⟩ := HR3.out.heardC
        rw [HHE.out] at q0
        have HY3 := Lib.hid (by_later HY2.out hb3)
        have HO3 := Lib.hid (By.own ho3 HOB.out)
        have HB3 := Lib.hid (HB2.out.trans (hb3.mono HB2.out.size))
        have HG3 : Hid (∀ a, g3 = some a → w.heap.size ≤ a.block) := Lib.hid (fun a ha => by
          subst ha
          rcases ho3.2 with ⟨e, _⟩ | ⟨g, c, cur, e, hg, _⟩
          · injection e with e; cases e
          · injection e with e
            injection e with e
            subst e
            have := HB2.out.size
            have hg' : w2.heap.size ≤ g := hg
            show w.heap.size ≤ g
            omega)
        clear hk ho3 hb3 d0 d1 d2 r0 r1 HL HR2 HY2 HOB
        by_cases hle : m ≤ heard
        · have hd : (((m : Int)) != (heard : Int) + 1) = true := by rw [bne_iff_ne]; omega
          go_wp2_with fail
          go_region
          go_wp2_with fail
          go_ret3
          subst hPZ
          exact ⟨Turn.ofBelow HB3.out.drew _, .inr (.inl ⟨m, d, g3, c3, HI.out, HANS.out, hle, rfl, ⟨HO3.out.drew, HG3.out⟩, HR3.out.drew⟩)⟩
        · have hd : (((m : Int)) != (heard : Int) + 1) = false := by rw [bne_eq_false_iff_eq]; omega
          go_wp2_with fail
          go_region
          go_wp2_with fail
          go_ret3
          subst hPZ
          obtain rfl : m = heard + 1 := by omega
          refine ⟨(Turn.ofBelow HB3.out.drew (One r)).put _ (show One r r from rfl), .inl ⟨heard + 1, d, A1, c1, g3, c3, HI.out, HANS.out, by omega, rfl, ?_, ⟨?_, HG3.out⟩, ?_, by omega⟩⟩
          · exact by_keep HY3.out (by simp) (fun a ha => (Below.heap_setCell w3.drew _ _ _ (by have := HFR.out a ha; have := HRL.out; show a.block ≠ r; omega)))
          · exact by_keep HO3.out (by simp) (fun a ha => (Below.heap_setCell w3.drew _ _ _ (by have := HG3.out a ha; have := HRL.out; show a.block ≠ r; omega)))
          · show (w3.setCell ⟨r, 10, none⟩ (.int .u64 ((heard : Int) + 1))).heap[r]? = _
            rw [heap_setCell_same w3 r 10 _ _ _ HR3.out.box]; rfl
      · have hans2 : rAns heard m = false := by simpa using hans
        have HNA := Lib.hid hans2
        by_cases hm0 : m = 0
        · have t0 : ((m : Int) == 0) = true := by rw [beq_iff_eq]; omega
          clear hans hans2
          go_wp2_with fail
          go_region
          go_wp2_with fail
          subst hm0
          go_ret3
          exact ⟨Turn.ofBelow HB2.out.drew _, .inr (.inr ⟨fun n d hi => by rw [(hi.uniq HI.out).2.1]; exact HNA.out, rfl, HR2.out.drew⟩)⟩
        · have t0 : ((m : Int) == 0) = false := by rw [beq_eq_false_iff_ne]; omega
          by_cases hh : heard = 18446744073709551615
          · have t1 : decide (IntKind.u64.wrap ((heard : Int) + 1) < (m : Int)) = true := by
              rw [hh, show IntKind.u64.wrap (((18446744073709551615 : Nat) : Int) + 1) = 0 from by decide]
              exact decide_eq_true (by omega)
            clear hans hans2 hh
            go_wp2_with fail
            go_region
            go_wp2_with fail
            generalize w1.alloc (.cells #[.bool false, .int .u64 (m : Int), .slice A1 d.length c1] 48) = w2 at *
            go_ret3
            exact ⟨Turn.ofBelow HB2.out.drew _, .inr (.inr ⟨fun n d hi => by rw [(hi.uniq HI.out).2.1]; exact HNA.out, rfl, HR2.out.drew⟩)⟩
          · have hgt : heard + 1 < m := by
              unfold rAns at hans2
              rw [decide_eq_true hm0, Nat.mod_eq_of_lt (by omega), Bool.true_and, decide_eq_false_iff_not] at hans2
              omega
            have t1 : decide ((heard : Int) + 1 < (m : Int)) = true := decide_eq_true (by omega)
            clear hans hans2
            go_wp2_with fail
            go_region
            go_wp2_with fail
            generalize w1.alloc (.cells #[.bool false, .int .u64 (m : Int), .slice A1 d.length c1] 48) = w2 at *
            go_ret3
            exact ⟨Turn.ofBelow HB2.out.drew _, .inr (.inr ⟨fun n d hi => by rw [(hi.uniq HI.out).2.1]; exact HNA.out, rfl, HR2.out.drew⟩)⟩
    · go_wp2_with fail
      go_region
      go_wp2_with fail
      generalize w1.alloc (.cells #[.bool true, .int .u64 (m : Int), .slice A1 d.length c1] 48) = w2 at *
      go_ret3
      exact ⟨Turn.ofBelow HB2.out.drew _, .inr (.inr ⟨fun n d hi => absurd (hi.uniq HI.out).1 (by decide), rfl, HR2.out.drew⟩)⟩
  · have HN := Lib.hid hno
    have k1 := box3 w1 (.bool false) (.int .u64 0) (.slice none 0 0)
    have k2 := Lib.hid (box3_below w1 (.bool false) (.int .u64 0) (.slice none 0 0))
    have HR2 := Lib.hid (HR1.out.later k2.out)
    obtain ⟨r0, r1⟩ := HR2.out.heardC
    rw [HHE.out] at r0
    obtain ⟨d0, d1, d2⟩ := pkt_cells k1
    have HB2 := Lib.hid (HB1.out.trans (k2.out.mono HB1.out.size))
    clear hno k1
    go_wp2_with fail
    go_region
    go_wp2_with fail
    generalize w1.alloc (.cells #[.bool false, .int .u64 0, .slice none 0 0] 48) = w2 at *
    go_ret3
    exact ⟨Turn.ofBelow HB2.out.drew _, .inr (.inr ⟨fun n d hi => absurd hi (HN.out _ _ _), rfl, HR2.out.drew⟩)⟩
/-- The same, as what hearing comes to. -/
theorem d_form {q : Nat} {z : R} {bs : List Nat} {w w' : World} {e : Ending} (h : DRTold q z bs w e w') : ∃ (bd : List Nat) (fr : Bool) (bb : List Nat) (nh : Nat) (A : Option Addr) (c : Nat) (A2 : Option Addr) (c2 : Nat),
    e = .returned (.tuple #[.slice A bd.length c, .bool fr, .slice A2 bb.length c2]) ∧ Turn (One q) (One q) w w' ∧ By w'.heap.size w' A bd.length c bd ∧ (By w'.heap.size w' A2 bb.length c2 bb ∧ ∀ a, A2 = some a → w.heap.size ≤ a.block) ∧ DAt w' q { z with heard := nh } ∧ Rh z.heard bs bd fr bb nh := by
  obtain ⟨ht, ⟨n, d, A, c, A2, c2, hi, ha, hl, he, hx, hy, hr⟩ | ⟨n, d, A2, c2, hi, ha, hl, he, hy, hr⟩ | ⟨hn, he, hr⟩⟩ := h
  · exact ⟨d, true, play true n [], n, A, c, A2, c2, he, ht, hx, hy, hr, .inl ⟨n, hi, ha, hl, rfl, rfl, rfl⟩⟩
  · exact ⟨[], false, play true n [], z.heard, none, 0, A2, c2, he, ht, By.none_ _ _, hy, hr, .inr (.inl ⟨n, d, hi, ha, hl, rfl, rfl, rfl, rfl⟩)⟩
  · exact ⟨[], false, [], z.heard, none, 0, none, 0, he, ht, By.none_ _ _, ⟨By.none_ _ _, fun a e => (by cases e)⟩, hr, .inr (.inr ⟨hn, rfl, rfl, rfl, rfl⟩)⟩
/-- The document's Packet. -/
theorem d_packet {w : World} {v : Nat} {z : R} (h : DAt w v z) (hp : z.pk ≠ [] → z.pk = play false (z.told + 1) [] ∧ Ok false (z.told + 1) []) :
    Calls Tryd.prog 14 #[.pointer (some ⟨v, 11, none⟩)] w fun e w' => ∃ A c, e = .returned (.tuple #[.slice A z.pk.length c, .bool (decide (z.pk ≠ []))]) ∧ By w'.heap.size w' A z.pk.length c z.pk ∧ Below w.heap.size w w' := by
  obtain ⟨told, htd⟩ : ∃ told, z.told = told := ⟨_, rfl⟩
  obtain ⟨pk, hpk0⟩ : ∃ pk, z.pk = pk := ⟨_, rfl⟩
  obtain ⟨d, hd0⟩ : ∃ d : List Nat, d = [] := ⟨_, rfl⟩
  obtain ⟨c0, c1, c2, f0, f1, f2⟩ := h.sends
  rw [htd, hpk0] at hp
  rw [hpk0]
  have hp : pk ≠ [] → pk = play false (told + 1) d ∧ Ok false (told + 1) d := by rw [hd0]; exact hp
  rw [← hd0] at c2
  rw [htd] at c0
  rw [hpk0] at c1
  have HTD := Lib.hid htd
  have HPK0 := Lib.hid hpk0
  have HD0 := Lib.hid hd0
  have HV := Lib.hid h
  clear h htd hpk0 hd0
  by_cases h0 : pk = []
  · subst h0
    have q1 : decide (([] : List Nat) ≠ []) = false := by simp
    rw [q1] at c1 ⊢
    clear hp
    go_enter Tryd.func14, Tryd.ntmps14
    go_wp2_with fail
    go_ret2
    exact ⟨none, 0, rfl, By.none_ _ _, Below.refl _ _⟩
  · have q1 : decide (pk ≠ []) = true := decide_eq_true h0
    rw [q1] at c1 ⊢
    obtain ⟨hpk, hok⟩ := hp h0
    have H0 := Lib.hid h0
    have HW : Hid (IntKind.u64.wrap ((told : Int) + 1) = (told : Int) + 1) := Lib.hid (by have := hok.num; simp [IntKind.wrap, IntKind.signed, IntKind.bits]; omega)
    have hby := bytes_by w.drew d hok.byte (by have := hok.few; omega)
    have hbl := bytes_below w.drew (strOf d)
    have hlz := (ok_ly hok).2
    have hnum := hok.num
    have HC : Hid ((convert 9 35 (.string (strOf d))).run Tryd.prog w.drew = .ok (.slice (some ⟨w.heap.size, 0, none⟩) d.length (grownCap w.drew d.length 0 5)) (Lib.bytesWorld w.drew 5 (strOf d))) := Lib.hid (by
      have := Lib.run_convert_string_bytes (P := Tryd.prog) w.drew 9 35 5 (strOf d) Tryd.underlying9 Tryd.underlying35 Tryd.underlying5
      rw [strOf_size] at this
      exact this)
    have hl0 := rlay_any (w := Lib.bytesWorld w.drew 5 (strOf d)) (h := false) (n := told + 1) (by omega) hby (Nat.le_refl _)
    rw [hlz, ← hpk] at hl0
    have HL : Hid (Calls Tryd.prog 16 #[.agg #[.bool false, .int .u64 ((told : Int) + 1), .slice (some ⟨w.heap.size, 0, none⟩) d.length (grownCap w.drew d.length 0 5)]] (Lib.bytesWorld w.drew 5 (strOf d)) (LayAll (lyE false (told + 1) d.length) pk (Lib.bytesWorld w.drew 5 (strOf d)))) := Lib.hid hl0
    have HB : Hid (Below w.heap.size w (Lib.bytesWorld w.drew 5 (strOf d))) := Lib.hid ((Below.refl _ w).drew.trans hbl)
    have HPB := Lib.hid (show ∀ z ∈ pk, z ≤ 255 from by rw [hpk]; exact hok.play_byte)
    have kc := HC.out
    clear hby hbl hlz hp hpk h0 q1 HC hl0
    generalize lyE false (told + 1) d.length = EL at *
    generalize grownCap w.drew d.length 0 5 = gc at *
    have hv1 := HV.out.later HB.out
    obtain ⟨d0, d1, d2, k0, k1, k2⟩ := hv1.sends
    rw [HTD.out] at d0
    rw [HPK0.out] at d1
    rw [← HD0.out] at d2
    rw [decide_eq_true H0.out] at d1
    clear hv1
    generalize Lib.bytesWorld w.drew 5 (strOf d) = w1 at *
    go_enter Tryd.func14, Tryd.ntmps14
    go_wp2_with fail
    go_region_with (go_simp; go_at_call 16; rw [HW.out]; refine HL.out.mono ?_; rintro e w2 ⟨A, c, rfl, ho, hb⟩; have HY := Lib.hid (By.own ho HPB.out); have HB2 := Lib.hid (HB.out.trans (hb.mono HB.out.size)); clear ho hb)
    all_goals (go_wp2_with fail; go_ret2; exact ⟨A, c, rfl, HY.out, HB2.out⟩)
set_option maxHeartbeats 1000000 in
/-- The document's Hear of a sender. -/
theorem d_shear {w : World} {v B : Nat} {z : R} {A : Option Addr} {n c : Nat} {bs : List Nat} (h : DAt w v z) (hn : z.pk ≠ [] → z.told + 2 < 18446744073709551616) (hd : By B w A n c bs) (hB : B ≤ w.heap.size) :
    Calls Tryd.prog 20 #[.pointer (some ⟨v, 11, none⟩), .slice A n c] w fun e w' => e = .returned (.bool (heB z.told z.pk bs)) ∧ Turn (One v) (One v) w w' ∧ DAt w' v (hdD z bs) := by
  obtain ⟨told, htd⟩ : ∃ told, z.told = told := ⟨_, rfl⟩
  obtain ⟨pk, hpk0⟩ : ∃ pk, z.pk = pk := ⟨_, rfl⟩
  have HNO : Hid (heB told pk bs = false → hdD z bs = z) := Lib.hid (fun hb => by unfold hdD; rw [htd, hpk0, hb, ← htd, ← hpk0]; rfl)
  have HYE : Hid (heB told pk bs = true → hdD z bs = { z with told := told + 1, pk := [] } ∧ dn (hdD z bs) = dn z) := Lib.hid (fun hb => by
    have e : hdD z bs = { z with told := told + 1, pk := [] } := by unfold hdD; rw [htd, hpk0, hb]; rfl
    have hp : pk ≠ [] := by
      unfold heB at hb
      rw [Bool.and_eq_true, decide_eq_true_eq] at hb
      exact hb.1
    refine ⟨e, ?_⟩
    rw [e]
    unfold dn
    rw [htd, hpk0, if_neg hp]
    simp)
  rw [htd, hpk0] at hn ⊢
  have HTD := Lib.hid htd
  have HPK0 := Lib.hid hpk0
  clear htd hpk0
  have HT := Lib.hid (Ln.rtake_any hd hB)
  have HV := Lib.hid h
  have HN := Lib.hid hn
  clear h hd hn
  go_enter Tryd.func20, Tryd.ntmps20
  go_wp2_with fail
  refine HT.out.mono ?_
  rintro e w1 ⟨hb1, hcase⟩
  have HB1 := Lib.hid hb1
  have HV1 := Lib.hid (HV.out.later hb1)
  clear hb1 HT
  rcases hcase with ⟨h, m, q, A1, c1, his, rfl, hy, hfr⟩ | ⟨hno, rfl⟩
  · have HI := Lib.hid his
    have k1 := box3 w1 (.bool h) (.int .u64 (m : Int)) (.slice A1 q.length c1)
    have k2 := Lib.hid (box3_below w1 (.bool h) (.int .u64 (m : Int)) (.slice A1 q.length c1))
    have HV2 := Lib.hid (HV1.out.later k2.out)
    obtain ⟨d0, d1, d2⟩ := pkt_cells k1
    obtain ⟨r0, r1, r2, r3, r4, r5⟩ := HV2.out.sends
    rw [HTD.out] at r0
    rw [HPK0.out] at r1
    clear his hy hfr k1
    go_wp2_with fail
    generalize w1.alloc (.cells #[.bool h, .int .u64 (m : Int), .slice A1 q.length c1] 48) = w2 at *
    have HB2 := Lib.hid (HB1.out.trans (k2.out.mono HB1.out.size))
    by_cases hp : pk = []
    · have q1 : decide (pk ≠ []) = false := decide_eq_false (by simpa using hp)
      have e1 : heB told pk bs = false := by unfold heB; rw [q1]; rfl
      have E1 := Lib.hid e1
      rw [q1] at r1
      clear HN hp e1
      go_wp2_with fail
      go_region
      go_wp2_with fail
      go_ret
      exact ⟨congrArg (fun x => Ending.returned (.bool x)) E1.out.symm, Turn.ofBelow HB2.out.drew _, by rw [HNO.out E1.out]; exact HV2.out.drew⟩
    · have q1 : decide (pk ≠ []) = true := decide_eq_true hp
      have h2 := HN.out hp
      rw [q1] at r1
      cases h
      · have e1 : heB told pk bs = false := by
          unfold heB
          rw [q1, decide_eq_false]; rfl
          intro e
          have hi2 := is_play (ok_heard (n := told + 1) (by omega))
          rw [← e] at hi2
          exact absurd (hi2.uniq HI.out).1 (by decide)
        have E1 := Lib.hid e1
        clear hp e1
        go_wp2_with fail
        go_region
        go_wp2_with fail
        go_ret
        exact ⟨congrArg (fun x => Ending.returned (.bool x)) E1.out.symm, Turn.ofBelow HB2.out.drew _, by rw [HNO.out E1.out]; exact HV2.out.drew⟩
      · by_cases hm : m = told + 1
        · subst hm
          have hq : q = [] := HI.out.1.none_ rfl
          have e1 : heB told pk bs = true := by
            unfold heB
            rw [q1, decide_eq_true]; rfl
            rw [← hq]; exact HI.out.2
          have E1 := Lib.hid e1
          have t1 : (((told + 1 : Nat) : Int) != (told : Int) + 1) = false := by simp
          clear hp e1
          go_wp2_with fail
          go_region
          go_wp2_with fail
          go_ret
          refine ⟨congrArg (fun x => Ending.returned (.bool x)) E1.out.symm, ((Turn.ofBelow HB2.out.drew (One v)).put _ (show One v v from rfl)).put _ (show One v v from rfl), ?_⟩
          obtain ⟨y1, y2⟩ := HYE.out E1.out
          refine ⟨?_, by rw [y1]; exact HV2.out.num⟩
          have hh := HV2.out.box
          have g1 : (w2.setCell ⟨v, 12, none⟩ (.bool false)).heap[v]? = _ := heap_setCell_same w2 v 12 _ _ _ hh
          show ((w2.setCell ⟨v, 12, none⟩ (.bool false)).setCell ⟨v, 11, none⟩ (.int .u64 ((told : Int) + 1))).heap[v]? = _
          rw [heap_setCell_same (w2.setCell ⟨v, 12, none⟩ (.bool false)) v 11 _ _ _ g1]
          unfold rclR
          rw [y2, y1]
          rfl
        · have e1 : heB told pk bs = false := by
            unfold heB
            rw [q1, decide_eq_false]; rfl
            intro e
            have hi2 := is_play (ok_heard (n := told + 1) (by omega))
            rw [← e] at hi2
            exact absurd (hi2.uniq HI.out).2.1.symm hm
          have E1 := Lib.hid e1
          have t1 : ((m : Int) != (told : Int) + 1) = true := by rw [bne_iff_ne]; omega
          clear hp e1
          go_wp2_with fail
          go_region
          go_wp2_with fail
          go_ret
          exact ⟨congrArg (fun x => Ending.returned (.bool x)) E1.out.symm, Turn.ofBelow HB2.out.drew _, by rw [HNO.out E1.out]; exact HV2.out.drew⟩
  · have HI := Lib.hid hno
    have k1 := box3 w1 (.bool false) (.int .u64 0) (.slice none 0 0)
    have k2 := Lib.hid (box3_below w1 (.bool false) (.int .u64 0) (.slice none 0 0))
    have HV2 := Lib.hid (HV1.out.later k2.out)
    obtain ⟨d0, d1, d2⟩ := pkt_cells k1
    obtain ⟨r0, r1, r2, r3, r4, r5⟩ := HV2.out.sends
    rw [HTD.out] at r0
    rw [HPK0.out] at r1
    have e1 : heB told pk bs = false := by
      cases hx : heB told pk bs
      · rfl
      · unfold heB at hx
        rw [Bool.and_eq_true, decide_eq_true_eq, decide_eq_true_eq] at hx
        have h2 := HN.out hx.1
        have hi2 := is_play (ok_heard (n := told + 1) (by omega))
        rw [← hx.2] at hi2
        exact absurd hi2 (HI.out _ _ _)
    have E1 := Lib.hid e1
    clear hno k1 e1
    go_wp2_with fail
    generalize w1.alloc (.cells #[.bool false, .int .u64 0, .slice none 0 0] 48) = w2 at *
    have HB2 := Lib.hid (HB1.out.trans (k2.out.mono HB1.out.size))
    by_cases hp : pk = []
    · have q1 : decide (pk ≠ []) = false := decide_eq_false (by simpa using hp)
      rw [q1] at r1
      clear hp HN
      go_wp2_with fail
      go_region
      go_wp2_with fail
      go_ret
      exact ⟨congrArg (fun x => Ending.returned (.bool x)) E1.out.symm, Turn.ofBelow HB2.out.drew _, by rw [HNO.out E1.out]; exact HV2.out.drew⟩
    · have q1 : decide (pk ≠ []) = true := decide_eq_true hp
      rw [q1] at r1
      clear hp HN
      go_wp2_with fail
      go_region
      go_wp2_with fail
      go_ret
      exact ⟨congrArg (fun x => Ending.returned (.bool x)) E1.out.symm, Turn.ofBelow HB2.out.drew _, by rw [HNO.out E1.out]; exact HV2.out.drew⟩
end Rb
end Go.Proofs.YtobpinelhjpfgaaDoor
