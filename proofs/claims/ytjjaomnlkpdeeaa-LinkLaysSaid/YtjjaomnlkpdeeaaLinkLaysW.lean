/-
  The statement LinkLays: its walk.
-/
import Derived.Test.YtjjaomnlkpdeeaaLnR
set_option linter.unusedVariables false
set_option maxRecDepth 100000
namespace Go.Proofs.Ytjjaomnlkpdeeaa
namespace Ln
open Go.RowKit Bp Ck
set_option maxHeartbeats 4000000 in
theorem linkLays_walk (h : Bool) (n : Nat) (A : Option Addr) (m c : Nat) (d : List Nat) (w : World) (hn : n < 18446744073709551616) (hd : By w.heap.size w A m c d) :
    Calls Try.prog 3 #[.agg #[.bool h, .int .u64 (n : Int), .slice A m c]] w fun e w' => e = .returned (.bool true) ∧ Below w.heap.size w w' := by
  have hle := hd.le
  have hmx := hd.max
  unfold maxLen at hmx
  have k1 := box3 w (.bool h) (.int .u64 (n : Int)) (.slice A m c)
  have k2 := box3_below w (.bool h) (.int .u64 (n : Int)) (.slice A m c)
  have HD := Lib.hid (by_later hd k2)
  have K1 := Lib.hid k1
  have K2 := Lib.hid k2
  have HS := Lib.hid (shown14_any (w.alloc (.cells #[.bool h, .int .u64 (n : Int), .slice A m c] 25)))
  have hzb := lyZ_byte (h := h) hn hd.byte
  have HZB := Lib.hid hzb
  clear hd k1 k2 hzb
  go_enter Try.func3, Try.ntmps3
  go_wp2_with fail
  refine HS.out.mono ?_
  rintro e w1 ⟨rfl, hb1⟩
  have hk : w1.heap[w.heap.size]? = some (.cells #[.bool h, .int .u64 (n : Int), .slice A m c] 25 (0, 0)) := (hb1.block _ (lt_of_heap K1.out)).trans K1.out
  obtain ⟨e0, e1, e2⟩ := pkt_cells hk
  have HK := Lib.hid hk
  have HD1 := Lib.hid (by_later HD.out hb1)
  have HW1 := Lib.hid (K2.out.trans (hb1.mono K2.out.size))
  clear hk hb1 HD K1 K2 HS
  generalize w.alloc (.cells #[.bool h, .int .u64 (n : Int), .slice A m c] 25) = w0 at *
  by_cases hbig : 2000 < m
  · have t1 : decide ((2000 : Int) < (m : Int)) = true := decide_eq_true (by omega)
    go_wp2_with fail
    go_ret
    exact ⟨rfl, HW1.out⟩
  · have t1 : decide ((2000 : Int) < (m : Int)) = false := decide_eq_false (by omega)
    clear hbig
    go_wp2_with fail
    refine (lay_any hn HD1.out (Nat.le_refl _)).mono ?_
    rintro e w2 ⟨A3, c3, rfl, ho2, hb2⟩
    have HK2 : Hid (w2.heap[w.heap.size]? = _) := Lib.hid ((hb2.block _ (lt_of_heap HK.out)).trans HK.out)
    obtain ⟨d0, d1, d2⟩ := pkt_cells HK2.out
    have HD2 := Lib.hid (by_later HD1.out hb2)
    have HW2 := Lib.hid (HW1.out.trans (hb2.mono HW1.out.size))
    have HY2 := Lib.hid (By.own ho2 HZB.out)
    clear ho2 hb2 HD1 HW1 HK e0 e1 e2
    go_wp2_with fail
    refine (rlay_any hn HD2.out (Nat.le_refl _)).mono ?_
    rintro e w3 ⟨A4, c4, rfl, ho3, hb3⟩
    have kc1 := (by_later HY2.out hb3).conv
    have kc2 := (By.own ho3 HZB.out).conv
    have HW3 := Lib.hid (HW2.out.trans (hb3.mono HW2.out.size))
    clear ho3 hb3 HD2 HW2 HK2 HY2 d0 d1 d2
    go_wp2_with fail
    go_ret
    first | exact ⟨rfl, HW3.out⟩ | exact ⟨by simp, HW3.out⟩
end Ln
end Go.Proofs.Ytjjaomnlkpdeeaa
