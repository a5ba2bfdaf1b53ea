/-
  The statement LinkTakes: its walk.
-/
import Derived.Test.YtjjaomnlkpdeeaaLnT
import Derived.Test.YtjjaomnlkpdeeaaLnArgs
set_option linter.unusedVariables false
set_option maxRecDepth 100000
namespace Go.Proofs.Ytjjaomnlkpdeeaa
namespace Ln
open Go.RowKit Bp Ck
set_option maxHeartbeats 4000000 in
theorem linkTakes_walk (A : Option Addr) (m c : Nat) (bs : List Nat) (w : World) (hb : By w.heap.size w A m c bs) (_ : True) :
    Calls Try.prog 4 #[.slice A m c] w fun e w' => e = .returned (.bool true) ∧ Below w.heap.size w w' := by
  have hle := hb.le
  have hmx := hb.max
  unfold maxLen at hmx
  have HB := Lib.hid hb
  have HS := Lib.hid (shown14_any w)
  clear hb
  go_enter Try.func4, Try.ntmps4
  go_wp2_with fail
  refine HS.out.mono ?_
  rintro e w1 ⟨rfl, hb1⟩
  have HB1 := Lib.hid (by_later HB.out hb1)
  have HW1 := Lib.hid hb1
  clear hb1 HB HS
  by_cases hbig : 2000 < m
  · have t1 : decide ((2000 : Int) < (m : Int)) = true := decide_eq_true (by omega)
    go_wp2_with fail
    go_ret
    exact ⟨rfl, HW1.out⟩
  · have t1 : decide ((2000 : Int) < (m : Int)) = false := decide_eq_false (by omega)
    clear hbig
    go_wp2_with fail
    refine (take_any HB1.out (Nat.le_refl _)).mono ?_
    rintro e w2 ⟨hb2, hcase⟩
    have HW2 := Lib.hid (HW1.out.trans (hb2.mono HW1.out.size))
    have HB2 := Lib.hid (by_later HB1.out hb2)
    clear hb2 HW1 HB1
    rcases hcase with ⟨h2, n2, q2, A4, c4, his, rfl, hy, _⟩ | ⟨hno, rfl⟩
    · have HIS := Lib.hid his
      have hbx := box3_below w2 (.bool h2) (.int .u64 (n2 : Int)) (.slice A4 q2.length c4)
      have HY3 := Lib.hid (by_later hy hbx)
      have HB3 := Lib.hid (by_later HB2.out hbx)
      have HW3 := Lib.hid (HW2.out.trans (hbx.mono HW2.out.size))
      have K3 := Lib.hid (box3 w2 (.bool h2) (.int .u64 (n2 : Int)) (.slice A4 q2.length c4))
      clear his hy hbx HW2 HB2
      go_wp2_with fail
      generalize hw3 : w2.alloc (.cells #[.bool h2, .int .u64 (n2 : Int), .slice A4 q2.length c4] 25) = w3 at *
      clear hw3
      refine (rtake_any HB3.out (Nat.le_refl _)).mono ?_
      rintro e w4 ⟨hb4, hcase⟩
      have HW4 := Lib.hid (HW3.out.trans (hb4.mono HW3.out.size))
      have HY4 := Lib.hid (by_later HY3.out hb4)
      have K4 : Hid (w4.heap[w2.heap.size]? = _) := Lib.hid ((hb4.block _ (lt_of_heap K3.out)).trans K3.out)
      clear hb4 HW3 HB3 HY3 K3
      rcases hcase with ⟨h5, n5, q5, A5, c5, his, rfl, hy, _⟩ | ⟨hno, rfl⟩
      rotate_left
      · exact absurd HIS.out (hno _ _ _)
      obtain ⟨rfl, rfl, rfl⟩ := his.uniq HIS.out
      have hbx := box3_below w4 (.bool h5) (.int .u64 (n5 : Int)) (.slice A5 q5.length c5)
      have HY5 := Lib.hid (by_later hy hbx)
      have HZ5 := Lib.hid (by_later HY4.out hbx)
      have HW5 := Lib.hid (HW4.out.trans (hbx.mono HW4.out.size))
      have K5 := Lib.hid (box3 w4 (.bool h5) (.int .u64 (n5 : Int)) (.slice A5 q5.length c5))
      have hk5 : (w4.alloc (.cells #[.bool h5, .int .u64 (n5 : Int), .slice A5 q5.length c5] 25)).heap[w2.heap.size]? = _ := (hbx.block _ (lt_of_heap K4.out)).trans K4.out
      obtain ⟨e0, e1, e2⟩ := pkt_cells hk5
      clear his hy hbx HW4 HY4 hk5 K4
      go_wp2_with fail
      generalize hw5 : w4.alloc (.cells #[.bool h5, .int .u64 (n5 : Int), .slice A5 q5.length c5] 25) = w5 at *
      refine (same_yes (w := w5) (h := h5) (n := (n5 : Int)) HZ5.out HY5.out (Nat.le_refl _)).mono ?_
      rintro e w6 ⟨rfl, hb6⟩
      have HW6 := Lib.hid (HW5.out.trans (hb6.mono HW5.out.size))
      clear hb6 hw5
      go_wp2_with fail
      go_ret
      exact ⟨rfl, HW6.out⟩
    · have HNO := Lib.hid hno
      have hbx := box3_below w2 (.bool false) (.int .u64 0) (.slice none 0 0)
      have HB3 := Lib.hid (by_later HB2.out hbx)
      have HW3 := Lib.hid (HW2.out.trans (hbx.mono HW2.out.size))
      have K3 := Lib.hid (box3 w2 (.bool false) (.int .u64 0) (.slice none 0 0))
      clear hno hbx HW2 HB2
      go_wp2_with fail
      generalize hw3 : w2.alloc (.cells #[.bool false, .int .u64 0, .slice none 0 0] 25) = w3 at *
      clear hw3
      refine (rtake_any HB3.out (Nat.le_refl _)).mono ?_
      rintro e w4 ⟨hb4, hcase⟩
      have HW4 := Lib.hid (HW3.out.trans (hb4.mono HW3.out.size))
      have K4 : Hid (w4.heap[w2.heap.size]? = _) := Lib.hid ((hb4.block _ (lt_of_heap K3.out)).trans K3.out)
      clear hb4 HW3 HB3 K3
      rcases hcase with ⟨h5, n5, q5, A5, c5, his, _⟩ | ⟨hno, rfl⟩
      · exact absurd his (HNO.out _ _ _)
      have hbx := box3_below w4 (.bool false) (.int .u64 0) (.slice none 0 0)
      have HW5 := Lib.hid (HW4.out.trans (hbx.mono HW4.out.size))
      have K5 := Lib.hid (box3 w4 (.bool false) (.int .u64 0) (.slice none 0 0))
      have hk5 : (w4.alloc (.cells #[.bool false, .int .u64 0, .slice none 0 0] 25)).heap[w2.heap.size]? = _ := (hbx.block _ (lt_of_heap K4.out)).trans K4.out
      obtain ⟨e0, e1, e2⟩ := pkt_cells hk5
      clear hbx HW4 hk5 K4 hno
      go_wp2_with fail
      generalize hw5 : w4.alloc (.cells #[.bool false, .int .u64 0, .slice none 0 0] 25) = w5 at *
      refine (same_yes (w := w5) (h := false) (n := 0) (By.none_ 0 w5) (By.none_ 0 w5) (Nat.zero_le _)).mono ?_
      rintro e w6 ⟨rfl, hb6⟩
      have HW6 := Lib.hid (HW5.out.trans (hb6.mono HW5.out.size))
      clear hb6 hw5
      go_wp2_with fail
      go_ret
      exact ⟨rfl, HW6.out⟩
end Ln
end Go.Proofs.Ytjjaomnlkpdeeaa
