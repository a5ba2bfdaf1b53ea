/-
  Layer 6: the document's table: Is, Free.
-/
import Derived.Test.YtinkpeliinofoaaGreatDoorWnT
set_option linter.unusedVariables false
set_option maxRecDepth 100000
namespace Go.Proofs.YtinkpeliinofoaaGreatDoor.Wn
open Go.RowKit Go.Maps

set_option maxHeartbeats 2000000 in
theorem r6is_any (rb : Nat) (A : Option Addr) (c : Nat) (R : List R3) (x m : Int) (w : World) (h : RT w rb A c R) (hO : Ordw 0 (tkn R x)) :
    Calls Tryz.prog 48 #[.pointer (some ⟨rb, 0, none⟩), .int .i64 x, .int .i64 m] w fun e w' => e = .returned (.bool (isT (tkn R x) m)) ∧ Below w.heap.size w w' := by
  have HT := Lib.hid (r6taken_any rb A c R x w h)
  have hsm : (tkn R x).length ≤ 100000 := Nat.le_trans (tkn_len R x) h.few
  have HIS := Lib.hid (isT_in (m := m) hO)
  clear h hO
  generalize tkn R x = L at *
  go_enter Tryz.func48, Tryz.ntmps48
  go_wp2_with fail
  refine HT.out.mono ?_
  rintro e w1 ⟨A1, c1, rfl, ho, hb⟩
  have HO := Lib.hid ho.wt
  have HB := Lib.hid hb
  have hs := ho.wt.size
  have hs1 := hs.1
  have hs2 := hs.2
  clear ho hb hs
  go_wp2_with fail
  go_loopw [8] (fun iv wr => ∃ j : Nat, iv = .int .i64 (j : Int) ∧ j ≤ L.length ∧ Hid (inW m (L.take j) = false) ∧ Below w1.heap.size w1 wr) (fun iv _ => L.length - (intOf iv).toNat)
  case atStart => exact ⟨0, rfl, Nat.zero_le _, Lib.hid rfl, Below.refl _ _⟩
  case round =>
    rename World => wr
    obtain ⟨j, rfl, hj, HI, hb⟩ := hrel
    have HBR := Lib.hid hb
    clear hb
    by_cases hlj : j < L.length
    · obtain ⟨g, off, rfl, _, hc⟩ := (HO.out.later HBR.out).cell (by omega)
      obtain ⟨k1, k2⟩ := hc j hlj
      have HTS := Lib.hid (take_snoc L j hlj)
      have hjI : (j : Int) < (L.length : Int) := by omega
      have HMEM : Hid (L.getD j (0, 0) ∈ L) := Lib.hid (by
        rw [List.getD_eq_getElem?_getD, List.getElem?_eq_getElem hlj]
        exact List.getElem_mem hlj)
      clear hc
      generalize hp : L.getD j (0, 0) = p at *
      obtain ⟨px, py⟩ := p
      clear hp
      simp only at k1 k2
      by_cases h1 : px ≤ m
      · have d1 : decide (px ≤ m) = true := decide_eq_true h1
        by_cases h2 : m < py
        · have HR : Hid (isT L m = false) := Lib.hid (by
            have : inW m L = true := by
              unfold inW
              exact List.any_eq_true.2 ⟨(px, py), HMEM.out, by simp [h1, h2]⟩
            rw [HIS.out, this]; simp)
          have d2 : decide (m < py) = true := decide_eq_true h2
          go_wp2_with fail
          go_ret
          exact ⟨by rw [HR.out]; rfl, HB.out.trans (HBR.out.mono HB.out.size)⟩
        · have HR : Hid (inW m (L.take (j + 1)) = false) := Lib.hid (by
            have := HI.out
            unfold inW at this ⊢
            rw [HTS.out, List.any_append, this]
            simp [h2])
          have d2 : decide (m < py) = false := decide_eq_false h2
          go_wp2_with fail
          go_roundw
          case rel => exact ⟨j + 1, by go_num, by omega, HR, HBR.out⟩
          case measure => simp [intOf]; omega
      · have HR : Hid (inW m (L.take (j + 1)) = false) := Lib.hid (by
          have := HI.out
          unfold inW at this ⊢
          rw [HTS.out, List.any_append, this]
          simp [h1])
        have d1 : decide (px ≤ m) = false := decide_eq_false h1
        go_wp2_with fail
        go_roundw
        case rel => exact ⟨j + 1, by go_num, by omega, HR, HBR.out⟩
        case measure => simp [intOf]; omega
    · obtain rfl : j = L.length := by omega
      have HR : Hid (isT L m = (decide (0 ≤ m) && decide (m < 1048576))) := Lib.hid (by
        have := HI.out
        rw [List.take_length] at this
        rw [HIS.out, this]; simp)
      by_cases h0 : 0 ≤ m
      · have d0 : decide (0 ≤ m) = true := decide_eq_true h0
        go_wp2_with fail
        go_ret
        exact ⟨by rw [HR.out, d0, Bool.true_and]; rfl, HB.out.trans (HBR.out.mono HB.out.size)⟩
      · have d0 : decide (0 ≤ m) = false := decide_eq_false h0
        go_wp2_with fail
        go_ret
        exact ⟨by rw [HR.out, d0, Bool.false_and]; rfl, HB.out.trans (HBR.out.mono HB.out.size)⟩
theorem frees_end (L : List (Int × Int)) : frees L = gaps 0 L ++ if lastTo 0 L < 1048576 then [(lastTo 0 L, 1048576)] else [] := gaps_snoc (1048576, 0) L 0
end Go.Proofs.YtinkpeliinofoaaGreatDoor.Wn
