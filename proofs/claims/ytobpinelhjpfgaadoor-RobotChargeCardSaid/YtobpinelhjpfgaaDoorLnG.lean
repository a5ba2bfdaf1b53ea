/-
  Layer 14: the receiver.
-/
import Derived.Test.YtobpinelhjpfgaaDoorLnF
import Derived.Deep.RegionHeld3
set_option linter.unusedVariables false
set_option maxRecDepth 100000
namespace Go.Proofs.YtobpinelhjpfgaaDoor
namespace Ln
open Go.RowKit Bp Ck
/-- A receiver lies in block r. -/
structure RAt (w : World) (r heard : Nat) : Prop where
  box : w.heap[r]? = some (.cells #[.int .u64 (heard : Int)] 104 (0, 0))
  num : heard < 18446744073709551616
section
variable {w w' : World} {r heard : Nat}
theorem RAt.same (h : RAt w r heard) (hk : w'.heap[r]? = w.heap[r]?) : RAt w' r heard := ⟨hk.trans h.box, h.num⟩
theorem RAt.lt (h : RAt w r heard) : r < w.heap.size := lt_of_heap h.box
theorem RAt.later (h : RAt w r heard) (hb : Below w.heap.size w w') : RAt w' r heard := h.same (hb.block r h.lt)
theorem RAt.cells (h : RAt w r heard) : w.cell? ⟨r, 0, none⟩ = some (.int .u64 (heard : Int)) ∧ w.frozen? ⟨r, 0, none⟩ = false :=
  ⟨by rw [cell_of_row _ r 0 _ _ _ h.box]; rfl, frozen_of_row _ r 0 _ _ h.box⟩
end
theorem newReceiver_any (n : Int) (w : World) : Calls Tryd.prog 31 #[.int .u64 n] w fun e w' => e = .returned (.pointer (some ⟨w.heap.size, 0, none⟩)) ∧ w' = w.alloc (.cells #[.int .u64 n] 104) := by
  go_enter Tryd.func31, Tryd.ntmps31
  go_wp2
  go_ret
  exact ⟨rfl, rfl⟩
theorem rat_new (w : World) (n : Nat) (hn : n < 18446744073709551616) : RAt (w.alloc (.cells #[.int .u64 (n : Int)] 104)) w.heap.size n := ⟨heap_alloc_new w _, hn⟩
theorem heard_any {w : World} {r heard : Nat} (h : RAt w r heard) : Calls Tryd.prog 37 #[.pointer (some ⟨r, 0, none⟩)] w fun e w' => e = .returned (.int .u64 (heard : Int)) ∧ w = w' := by
  obtain ⟨c0, f0⟩ := h.cells
  clear h
  go_enter Tryd.func37, Tryd.ntmps37
  go_wp2
  go_ret
  exact ⟨rfl, rfl⟩
/-- Is something sent back for that number? -/
def rAns (heard n : Nat) : Bool := decide (n ≠ 0) && decide (n ≤ (heard + 1) % 18446744073709551616)
theorem answers_any {w : World} {r heard n : Nat} (h : RAt w r heard) (hn : n < 18446744073709551616) : Calls Tryd.prog 71 #[.pointer (some ⟨r, 0, none⟩), .int .u64 (n : Int)] w fun e w' => e = .returned (.bool (rAns heard n)) ∧ w = w' := by
  obtain ⟨c0, f0⟩ := h.cells
  have hnum := h.num
  clear h
  by_cases h0 : n = 0
  · subst h0
    have e : rAns heard 0 = false := by simp [rAns]
    rw [e]
    go_enter Tryd.func71, Tryd.ntmps71
    go_wp2
    go_ret
    exact ⟨rfl, rfl⟩
  · have hne : ((n : Int) != 0) = true := by rw [bne_iff_ne]; omega
    by_cases h1 : heard = 18446744073709551615
    · have e : rAns heard n = false := by
        unfold rAns
        rw [decide_eq_true h0, decide_eq_false (by rw [h1]; omega)]; rfl
      rw [e]
      subst h1
      have hd : decide ((n : Int) ≤ 0) = false := decide_eq_false (by omega)
      clear h0 e
      go_enter Tryd.func71, Tryd.ntmps71
      go_wp2
      go_ret
      refine ⟨?_, rfl⟩
      rw [show IntKind.u64.wrap 18446744073709551616 = 0 from by decide]
      show Ending.returned (.bool (decide ((n : Int) ≤ 0))) = _
      rw [hd]
    · have hlt : heard + 1 < 18446744073709551616 := by omega
      have e : rAns heard n = decide (n ≤ heard + 1) := by
        unfold rAns
        rw [decide_eq_true h0, Nat.mod_eq_of_lt hlt]; rfl
      rw [e]
      by_cases h2 : n ≤ heard + 1
      · have hd : decide ((n : Int) ≤ (heard : Int) + 1) = true := decide_eq_true (by omega)
        have e2 : decide (n ≤ heard + 1) = true := decide_eq_true h2
        rw [e2]
        clear h0 e h1 e2 h2
        go_enter Tryd.func71, Tryd.ntmps71
        go_wp2
        go_ret
        first | exact ⟨rfl, rfl⟩ | exact ⟨by simp_all, rfl⟩
      · have hd : decide ((n : Int) ≤ (heard : Int) + 1) = false := decide_eq_false (by omega)
        have e2 : decide (n ≤ heard + 1) = false := decide_eq_false h2
        rw [e2]
        clear h0 e h1 e2 h2
        go_enter Tryd.func71, Tryd.ntmps71
        go_wp2
        go_ret
        first | exact ⟨rfl, rfl⟩ | exact ⟨by simp_all, rfl⟩
/-- What the receiver's Hear comes to. -/
def RHTold (r heard : Nat) (bs : List Nat) (w : World) (e : Ending) (w' : World) : Prop := Turn (One r) (One r) w w' ∧
  ((∃ n d A c A2 c2, Is bs false n d ∧ rAns heard n = true ∧ heard < n ∧ e = .returned (.tuple #[.slice A d.length c, .bool true, .slice A2 (play true n []).length c2]) ∧ (By w'.heap.size w' A d.length c d ∧ ∀ a, A = some a → w.heap.size ≤ a.block) ∧ (By w'.heap.size w' A2 (play true n []).length c2 (play true n []) ∧ ∀ a, A2 = some a → w.heap.size ≤ a.block) ∧ RAt w' r n) ∨
   (∃ n d A2 c2, Is bs false n d ∧ rAns heard n = true ∧ n ≤ heard ∧ e = .returned (.tuple #[.slice none 0 0, .bool false, .slice A2 (play true n []).length c2]) ∧ (By w'.heap.size w' A2 (play true n []).length c2 (play true n []) ∧ ∀ a, A2 = some a → w.heap.size ≤ a.block) ∧ RAt w' r heard) ∨
   ((∀ n d, Is bs false n d → rAns heard n = false) ∧ e = .returned (.tuple #[.slice none 0 0, .bool false, .slice none 0 0]) ∧ RAt w' r heard))
theorem box3 (w : World) (x y z : Value) : (w.alloc (.cells #[x, y, z] 48)).heap[w.heap.size]? = some (.cells #[x, y, z] 48 (0, 0)) := heap_alloc_new w _
theorem box3_below (w : World) (x y z : Value) : Below w.heap.size w (w.alloc (.cells #[x, y, z] 48)) := (Below.refl _ _).alloc (Nat.le_refl _) _
set_option maxHeartbeats 4000000 in
theorem rhear_any {w : World} {r heard B : Nat} {A : Option Addr} {n c : Nat} {bs : List Nat} (h : RAt w r heard) (hd : By B w A n c bs) (hB : B ≤ w.heap.size) :
    Calls Tryd.prog 38 #[.pointer (some ⟨r, 0, none⟩), .slice A n c] w (RHTold r heard bs w) := by
  have HT := Lib.hid (take_any hd hB)
  have HR := Lib.hid h
  have hrn := h.num
  have HRL := Lib.hid h.lt
  clear h hd
  go_enter Tryd.func38, Tryd.ntmps38
  go_wp2_with fail
  refine HT.out.mono ?_
  rintro e w1 ⟨hb1, hcase⟩
  have HB1 := Lib.hid hb1
  have HR1 := Lib.hid (HR.out.later hb1)
  clear hb1
  rcases hcase with ⟨h, m, d, A1, c1, his, rfl, hy, hfr⟩ | ⟨hno, rfl⟩
  · have HI := Lib.hid his
    have HY := Lib.hid hy
    have HFR := Lib.hid hfr
    have hm := his.1.num
    have k1 := box3 w1 (.bool h) (.int .u64 (m : Int)) (.slice A1 d.length c1)
    have k2 := Lib.hid (box3_below w1 (.bool h) (.int .u64 (m : Int)) (.slice A1 d.length c1))
    clear his hy hfr
    cases h
    · have k3 := (Below.cell k2.out (p := ⟨r, 0, none⟩) (HR1.out.lt)).trans HR1.out.cells.1
      have HR2 := Lib.hid (HR1.out.later k2.out)
      have HA := Lib.hid (answers_any (n := m) HR2.out (by omega))
      have HH := Lib.hid (layHeard_any (w := (w1.alloc (.cells #[.bool false, .int .u64 (m : Int), .slice A1 d.length c1] 48))) hm)
      obtain ⟨d0, d1, d2⟩ := pkt_cells k1
      have K1 := Lib.hid k1
      clear k1 HT HR
      go_wp2_with fail
      generalize w1.alloc (.cells #[.bool false, .int .u64 (m : Int), .slice A1 d.length c1] 48) = w2 at *
      refine HA.out.mono ?_
      rintro e w3 ⟨rfl, rfl⟩
      by_cases hans : rAns heard m = true
      · rw [hans]
        have HANS := Lib.hid hans
        clear hans k3 HA
        go_wp2_with fail
        refine HH.out.mono ?_
        rintro e w3 ⟨g3, c3, rfl, ho3, hb3⟩
        have hk : w3.heap[w1.heap.size]? = some (.cells #[.bool false, .int .u64 (m : Int), .slice A1 d.length c1] 48 (0, 0)) := (hb3.block _ (lt_of_heap K1.out)).trans K1.out
        obtain ⟨e0, e1, e2⟩ := pkt_cells hk
        have hr3 := HR2.out.later hb3
        obtain ⟨r0, r1⟩ := hr3.cells
        have HR3 := Lib.hid hr3
        have HY3 := Lib.hid ((((HY.out.below k2.out).mono k2.out.size).below hb3).mono hb3.size)
        have hok : Ok true m [] := ⟨hm, by simp, fun _ => rfl, by simp⟩
        have HO3 := Lib.hid (By.own ho3 hok.play_byte)
        have HB3 := Lib.hid (HB1.out.trans ((k2.out.trans (hb3.mono k2.out.size)).mono HB1.out.size))
        have HG3 := Lib.hid (Nat.le_trans (Nat.le_trans HB1.out.size k2.out.size) (row_kind ho3 g3 rfl).2.1)
        clear hk hr3 ho3 hb3 d0 d1 d2 hok HR2 HH HY
        by_cases hle : m ≤ heard
        · have hd : decide ((m : Int) ≤ (heard : Int)) = true := decide_eq_true (by omega)
          go_wp2_with fail
          go_region
          go_wp2_with fail
          go_ret3
          exact ⟨Turn.ofBelow HB3.out.drew _, .inr (.inl ⟨m, d, some ⟨g3, 0, none⟩, c3, HI.out, HANS.out, hle, rfl, ⟨HO3.out.drew, fun a ha => by cases ha; exact HG3.out⟩, HR3.out.same rfl⟩)⟩
        · have hd : decide ((m : Int) ≤ (heard : Int)) = false := decide_eq_false (by omega)
          go_wp2_with fail
          go_region
          go_wp2_with fail
          go_ret3
          refine ⟨(Turn.ofBelow HB3.out.drew (One r)).put _ (show One r r from rfl), .inl ⟨m, d, A1, c1, some ⟨g3, 0, none⟩, c3, HI.out, HANS.out, by omega, rfl, ⟨?_, HFR.out⟩, ⟨?_, fun a ha => by cases ha; exact HG3.out⟩, ?_, by omega⟩⟩
          · refine by_keep HY3.out (by simp) (fun a ha => (Below.heap_setCell w3.drew _ _ _ (by have := HFR.out a ha; have := HRL.out; show a.block ≠ r; omega)))
          · refine by_keep HO3.out (by simp) (fun a ha => (Below.heap_setCell w3.drew _ _ _ (by cases ha; have := HG3.out; have := HRL.out; show g3 ≠ r; omega)))
          · show (w3.setCell ⟨r, 0, none⟩ (.int .u64 (m : Int))).heap[r]? = _
            rw [heap_setCell_same w3 r 0 _ _ _ HR3.out.box]; simp
      · have hans2 : rAns heard m = false := by simpa using hans
        rw [hans2]
        clear hans
        go_wp2_with fail
        go_ret3
        exact ⟨Turn.ofBelow (HB1.out.trans (k2.out.mono HB1.out.size)) _, .inr (.inr ⟨fun n d hi => by rw [(hi.uniq HI.out).2.1]; exact hans2, rfl, HR2.out⟩)⟩
    · go_wp2_with fail
      generalize w1.alloc (.cells #[.bool true, .int .u64 (m : Int), .slice A1 d.length c1] 48) = w2 at *
      go_ret3
      exact ⟨Turn.ofBelow (HB1.out.trans (k2.out.mono HB1.out.size)) _, .inr (.inr ⟨fun n d hi => by have := hi.uniq HI.out; exact absurd this.1 (by decide), rfl, HR1.out.later k2.out⟩)⟩
  · have HN := Lib.hid hno
    have k1 := box3 w1 (.bool false) (.int .u64 0) (.slice none 0 0)
    have k2 := Lib.hid (box3_below w1 (.bool false) (.int .u64 0) (.slice none 0 0))
    clear hno
    go_wp2_with fail
    generalize w1.alloc (.cells #[.bool false, .int .u64 0, .slice none 0 0] 48) = w2 at *
    go_ret3
    exact ⟨Turn.ofBelow (HB1.out.trans (k2.out.mono HB1.out.size)) _, .inr (.inr ⟨fun n d hi => absurd hi (HN.out _ _ _), rfl, HR1.out.later k2.out⟩)⟩
/-- Bytes in blocks that a call doesn't write. -/
theorem by_turn {w w' : World} {A : Option Addr} {n c : Nat} {zs : List Nat} {F F' : Nat → Prop} (h : By w.heap.size w A n c zs) (ht : Turn F F' w w') (hf : ∀ a, A = some a → ¬ F a.block) : By w'.heap.size w' A n c zs :=
  ⟨h.len, h.le, h.max, h.nil, h.byte, fun hn => by
    obtain ⟨g, off, hA, hg, hc⟩ := h.cell hn
    have hk := ht.block g hg (hf _ hA)
    exact ⟨g, off, hA, Nat.lt_of_lt_of_le hg ht.size, fun j hj => (World.cell?_of_block (a := ⟨g, off + j, none⟩) hk).trans (hc j hj)⟩⟩
theorem by_later {w w' : World} {A : Option Addr} {n c : Nat} {zs : List Nat} (h : By w.heap.size w A n c zs) (hb : Below w.heap.size w w') : By w'.heap.size w' A n c zs := (h.below hb).mono hb.size
/-- A sender where another block is written. -/
theorem SAt.turn {w w' : World} {s told r : Nat} {v : Value} {pk : List Nat} (h : SAt w s v told pk) (ht : Turn (One r) (One r) w w') (hr : ¬ SF s v r) : SAt w' s v told pk :=
  h.same fun k hk => ht.block k (h.lt k hk) (fun e => hr (by have : k = r := e; rwa [this] at hk))
theorem RAt.turn {w w' : World} {r heard s : Nat} (h : RAt w r heard) (ht : Turn (One s) (One s) w w') (hr : r ≠ s) : RAt w' r heard :=
  h.same (ht.block r h.lt hr)
theorem RAt.free {w : World} {r heard s told : Nat} {v : Value} {pk : List Nat} (h : RAt w r heard) (hs : SAt w s v told pk) : ¬ SF s v r := hs.apart h.box (by decide) (by decide)
theorem RAt.ne {w : World} {r heard s told : Nat} {v : Value} {pk : List Nat} (h : RAt w r heard) (hs : SAt w s v told pk) : r ≠ s := fun e => h.free hs (.inl e)
end Ln
end Go.Proofs.YtobpinelhjpfgaaDoor
