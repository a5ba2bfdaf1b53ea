/-
  Layer 14: the document's receiver; the acts of LinkPlays.
-/
import Derived.Test.YtobpinelhjpfgaaDoorLnU
import Derived.Test.YtobpinelhjpfgaaDoorLnArgs
set_option linter.unusedVariables false
set_option maxRecDepth 100000
namespace Go.Proofs.YtobpinelhjpfgaaDoor
namespace Ln
open Go.RowKit Bp Ck
theorem WAt.drew {w : World} {v heard : Nat} (h : WAt w v heard) : WAt w.drew v heard := ⟨h.box, h.num⟩
/-- What the document's Hear of a receiver comes to. -/
def RRTold (r heard : Nat) (bs : List Nat) (w : World) (e : Ending) (w' : World) : Prop := Turn (One r) (One r) w w' ∧
  ((∃ n d A c A2 c2, Is bs false n d ∧ rAns heard n = true ∧ heard < n ∧ e = .returned (.tuple #[.slice A d.length c, .bool true, .slice A2 (play true n []).length c2]) ∧ By w'.heap.size w' A d.length c d ∧ (By w'.heap.size w' A2 (play true n []).length c2 (play true n []) ∧ ∀ a, A2 = some a → w.heap.size ≤ a.block) ∧ WAt w' r n) ∨
   (∃ n d A2 c2, Is bs false n d ∧ rAns heard n = true ∧ n ≤ heard ∧ e = .returned (.tuple #[.slice none 0 0, .bool false, .slice A2 (play true n []).length c2]) ∧ (By w'.heap.size w' A2 (play true n []).length c2 (play true n []) ∧ ∀ a, A2 = some a → w.heap.size ≤ a.block) ∧ WAt w' r heard) ∨
   ((∀ n d, Is bs false n d → rAns heard n = false) ∧ e = .returned (.tuple #[.slice none 0 0, .bool false, .slice none 0 0]) ∧ WAt w' r heard))
set_option maxHeartbeats 4000000 in
theorem rrhear_any {w : World} {r heard B : Nat} {A : Option Addr} {n c : Nat} {bs : List Nat} (h : WAt w r heard) (hd : By B w A n c bs) (hB : B ≤ w.heap.size) :
    Calls Tryd.prog 64 #[.pointer (some ⟨r, 0, none⟩), .slice A n c] w (RRTold r heard bs w) := by
  have HT := Lib.hid (rtake_any hd hB)
  have HR := Lib.hid h
  have hrn := h.num
  have HRL := Lib.hid (lt_of_heap h.box)
  clear h hd
  go_enter Tryd.func64, Tryd.ntmps64
  go_wp2_with fail
  refine HT.out.mono ?_
  rintro e w1 ⟨hb1, hcase⟩
  have HB1 := Lib.hid hb1
  have HR1 := Lib.hid (HR.out.later hb1)
  clear hb1
  rcases hcase with ⟨h, m, d, A1, c1, his, rfl, hy, hfr⟩ | ⟨hno, rfl⟩
  · have HI := Lib.hid his
    have HY := Lib.hid hy
    have HFR := Lib.hid hfr
    have hm := his.1.num
    have k1 := box3 w1 (.bool h) (.int .u64 (m : Int)) (.slice A1 d.length c1)
    have k2 := Lib.hid (box3_below w1 (.bool h) (.int .u64 (m : Int)) (.slice A1 d.length c1))
    have HR2 := Lib.hid (HR1.out.later k2.out)
    obtain ⟨r0, r1⟩ := HR2.out.cells
    obtain ⟨d0, d1, d2⟩ := pkt_cells k1
    have K1 := Lib.hid k1
    have HY2 := Lib.hid (by_later HY.out k2.out)
    have HB2 := Lib.hid (HB1.out.trans (k2.out.mono HB1.out.size))
    clear his hy hfr k1 HT HR
    cases h
    · by_cases hans : rAns heard m = true
      · have hm0 : m ≠ 0 := fun e => by rw [e] at hans; simp [rAns] at hans
        have hm1 : m ≤ (heard + 1) % 18446744073709551616 := by
          unfold rAns at hans
          rw [Bool.and_eq_true, decide_eq_true_eq, decide_eq_true_eq] at hans
          exact hans.2
        have hh1 : heard + 1 < 18446744073709551616 := by
          rcases Nat.lt_or_ge (heard + 1) 18446744073709551616 with x | x
          · exact x
          · have : heard + 1 = 18446744073709551616 := by omega
            rw [this] at hm1
            omega
        rw [Nat.mod_eq_of_lt hh1] at hm1
        have t0 : ((m : Int) == 0) = false := by rw [beq_eq_false_iff_ne]; omega
        have t1 : decide ((heard : Int) + 1 < (m : Int)) = false := decide_eq_false (by omega)
        have HANS := Lib.hid hans
        have hok : Ok true m [] := ⟨hm, by simp, fun _ => rfl, by simp⟩
        have hl0 := rlay_any (w := (w1.alloc (.cells #[.bool false, .int .u64 (m : Int), .slice A1 d.length c1] 48)).drew) (h := true) (n := m) (by omega) (By.none_ 0 _) (Nat.zero_le _)
        rw [(ok_ly hok).2] at hl0
        have HL := Lib.hid hl0
        have HOB := Lib.hid hok.play_byte
        clear hans hl0 hok
        generalize hPZ : play true m [] = PZ at *
        go_wp2_with fail
        go_region
        go_wp2_with fail
        generalize w1.alloc (.cells #[.bool false, .int .u64 (m : Int), .slice A1 d.length c1] 48) = w2 at *
        refine HL.out.mono ?_
        rintro e w3 ⟨g3, c3, rfl, ho3, hb3⟩
        have hb3 : Below w2.heap.size w2 w3 := (Below.refl _ w2).drew.trans hb3
        have hk : w3.heap[w1.heap.size]? = some (.cells #[.bool false, .int .u64 (m : Int), .slice A1 d.length c1] 48 (0, 0)) := (hb3.block _ (lt_of_heap K1.out)).trans K1.out
        obtain ⟨e0, e1, e2⟩ := pkt_cells hk
        have HR3 := Lib.hid (HR2.out.later hb3)
        obtain ⟨q0, q1⟩ := HR3.out.cells
        have HY3 := Lib.hid (by_later HY2.out hb3)
        have HO3 := Lib.hid (By.own ho3 HOB.out)
        have HB3 := Lib.hid (HB2.out.trans (hb3.mono HB2.out.size))
        have HG3 : Hid (∀ a, g3 = some a → w.heap.size ≤ a.block) := Lib.hid (fun a ha => by
          subst ha
          rcases ho3.2 with ⟨e, _⟩ | ⟨g, c, cur, e, hg, _⟩
          · injection e with e; cases e
          · injection e with e
            injection e with e
            subst e
            have := HB2.out.size
            have hg' : w2.heap.size ≤ g := hg
            show w.heap.size ≤ g
            omega)
        clear hk ho3 hb3 d0 d1 d2 r0 r1 HL HR2 HY2 HOB
        by_cases hle : m ≤ heard
        · have hd : (((m : Int)) != (heard : Int) + 1) = true := by rw [bne_iff_ne]; omega
          go_wp2_with fail
          go_region
          go_wp2_with fail
          go_ret3
          subst hPZ
          exact ⟨Turn.ofBelow HB3.out.drew _, .inr (.inl ⟨m, d, g3, c3, HI.out, HANS.out, hle, rfl, ⟨HO3.out.drew, HG3.out⟩, HR3.out.drew⟩)⟩
        · have hd : (((m : Int)) != (heard : Int) + 1) = false := by rw [bne_eq_false_iff_eq]; omega
          go_wp2_with fail
          go_region
          go_wp2_with fail
          go_ret3
          subst hPZ
          obtain rfl : m = heard + 1 := by omega
          refine ⟨(Turn.ofBelow HB3.out.drew (One r)).put _ (show One r r from rfl), .inl ⟨heard + 1, d, A1, c1, g3, c3, HI.out, HANS.out, by omega, rfl, ?_, ⟨?_, HG3.out⟩, ?_, by omega⟩⟩
          · exact by_keep HY3.out (by simp) (fun a ha => (Below.heap_setCell w3.drew _ _ _ (by have := HFR.out a ha; have := HRL.out; show a.block ≠ r; omega)))
          · exact by_keep HO3.out (by simp) (fun a ha => (Below.heap_setCell w3.drew _ _ _ (by have := HG3.out a ha; have := HRL.out; show a.block ≠ r; omega)))
          · show (w3.setCell ⟨r, 0, none⟩ (.int .u64 ((heard : Int) + 1))).heap[r]? = _
            rw [heap_setCell_same w3 r 0 _ _ _ HR3.out.box]; simp
      · have hans2 : rAns heard m = false := by simpa using hans
        have HNA := Lib.hid hans2
        by_cases hm0 : m = 0
        · have t0 : ((m : Int) == 0) = true := by rw [beq_iff_eq]; omega
          clear hans hans2
          go_wp2_with fail
          go_region
          go_wp2_with fail
          subst hm0
          go_ret3
          exact ⟨Turn.ofBelow HB2.out.drew _, .inr (.inr ⟨fun n d hi => by rw [(hi.uniq HI.out).2.1]; exact HNA.out, rfl, HR2.out.drew⟩)⟩
        · have t0 : ((m : Int) == 0) = false := by rw [beq_eq_false_iff_ne]; omega
          by_cases hh : heard = 18446744073709551615
          · have t1 : decide (IntKind.u64.wrap ((heard : Int) + 1) < (m : Int)) = true := by
              rw [hh, show IntKind.u64.wrap (((18446744073709551615 : Nat) : Int) + 1) = 0 from by decide]
              exact decide_eq_true (by omega)
            clear hans hans2 hh
            go_wp2_with fail
            go_region
            go_wp2_with fail
            generalize w1.alloc (.cells #[.bool false, .int .u64 (m : Int), .slice A1 d.length c1] 48) = w2 at *
            go_ret3
            exact ⟨Turn.ofBelow HB2.out.drew _, .inr (.inr ⟨fun n d hi => by rw [(hi.uniq HI.out).2.1]; exact HNA.out, rfl, HR2.out.drew⟩)⟩
          · have hgt : heard + 1 < m := by
              unfold rAns at hans2
              rw [decide_eq_true hm0, Nat.mod_eq_of_lt (by omega), Bool.true_and, decide_eq_false_iff_not] at hans2
              omega
            have t1 : decide ((heard : Int) + 1 < (m : Int)) = true := decide_eq_true (by omega)
            clear hans hans2
            go_wp2_with fail
            go_region
            go_wp2_with fail
            generalize w1.alloc (.cells #[.bool false, .int .u64 (m : Int), .slice A1 d.length c1] 48) = w2 at *
            go_ret3
            exact ⟨Turn.ofBelow HB2.out.drew _, .inr (.inr ⟨fun n d hi => by rw [(hi.uniq HI.out).2.1]; exact HNA.out, rfl, HR2.out.drew⟩)⟩
    · go_wp2_with fail
      go_region
      go_wp2_with fail
      generalize w1.alloc (.cells #[.bool true, .int .u64 (m : Int), .slice A1 d.length c1] 48) = w2 at *
      go_ret3
      exact ⟨Turn.ofBelow HB2.out.drew _, .inr (.inr ⟨fun n d hi => absurd (hi.uniq HI.out).1 (by decide), rfl, HR2.out.drew⟩)⟩
  · have HN := Lib.hid hno
    have k1 := box3 w1 (.bool false) (.int .u64 0) (.slice none 0 0)
    have k2 := Lib.hid (box3_below w1 (.bool false) (.int .u64 0) (.slice none 0 0))
    have HR2 := Lib.hid (HR1.out.later k2.out)
    obtain ⟨r0, r1⟩ := HR2.out.cells
    obtain ⟨d0, d1, d2⟩ := pkt_cells k1
    have HB2 := Lib.hid (HB1.out.trans (k2.out.mono HB1.out.size))
    clear hno k1
    go_wp2_with fail
    go_region
    go_wp2_with fail
    generalize w1.alloc (.cells #[.bool false, .int .u64 0, .slice none 0 0] 48) = w2 at *
    go_ret3
    exact ⟨Turn.ofBelow HB2.out.drew _, .inr (.inr ⟨fun n d hi => absurd hi (HN.out _ _ _), rfl, HR2.out.drew⟩)⟩
end Ln
end Go.Proofs.YtobpinelhjpfgaaDoor
