/-
  The statement LinkBack: its walk.
-/
import Derived.Test.YtjjaomnlkpdeeaaLnArgs
set_option linter.unusedVariables false
set_option maxRecDepth 100000
namespace Go.Proofs.Ytjjaomnlkpdeeaa
namespace Ln
open Go.RowKit Bp Ck
theorem nil_no : ∀ h n d, ¬ Is [] h n d := fun h n d hi => by have := hi.pk.1; simp [isFrm] at this
set_option maxHeartbeats 4000000 in
theorem linkBack_walk (h : Bool) (n : Nat) (A : Option Addr) (m c : Nat) (d : List Nat) (A2 : Option Addr) (m2 c2 : Nat) (bs : List Nat) (w : World) (hn : n < 18446744073709551616) (hd : By w.heap.size w A m c d) (hb : By w.heap.size w A2 m2 c2 bs) (_ : True) :
    Calls Try.prog 5 #[.agg #[.bool h, .int .u64 (n : Int), .slice A m c], .slice A2 m2 c2] w fun e w' => e = .returned (.bool true) ∧ Below w.heap.size w w' := by
  have hle := hd.le
  have hmx := hd.max
  have hle2 := hb.le
  have hmx2 := hb.max
  unfold maxLen at hmx hmx2
  have k1 := box3 w (.bool h) (.int .u64 (n : Int)) (.slice A m c)
  have k2 := box3_below w (.bool h) (.int .u64 (n : Int)) (.slice A m c)
  have HD := Lib.hid (by_later hd k2)
  have HB := Lib.hid (by_later hb k2)
  have K1 := Lib.hid k1
  have K2 := Lib.hid k2
  have HS := Lib.hid (shown14_any (w.alloc (.cells #[.bool h, .int .u64 (n : Int), .slice A m c] 25)))
  obtain ⟨d0, d1, d2⟩ := pkt_cells k1
  clear hd hb k1 k2
  go_enter Try.func5, Try.ntmps5
  go_wp2_with fail
  refine HS.out.mono ?_
  rintro e w1 ⟨rfl, hb1⟩
  have hk : w1.heap[w.heap.size]? = some (.cells #[.bool h, .int .u64 (n : Int), .slice A m c] 25 (0, 0)) := (hb1.block _ (lt_of_heap K1.out)).trans K1.out
  obtain ⟨e0, e1, e2⟩ := pkt_cells hk
  have HK := Lib.hid hk
  have HD1 := Lib.hid (by_later HD.out hb1)
  have HB1 := Lib.hid (by_later HB.out hb1)
  have HW1 := Lib.hid (K2.out.trans (hb1.mono K2.out.size))
  clear hk hb1 d0 d1 d2 HD HB K1 K2 HS
  generalize w.alloc (.cells #[.bool h, .int .u64 (n : Int), .slice A m c] 25) = w0 at *
  by_cases hbig : 2000 < m ∨ 2000 < m2
  · rcases hbig with hbig | hbig
    · have t1 : decide ((2000 : Int) < (m : Int)) = true := decide_eq_true (by omega)
      go_wp2_with fail
      go_ret
      exact ⟨rfl, HW1.out⟩
    · have t1 : decide ((2000 : Int) < (m2 : Int)) = true := decide_eq_true (by omega)
      by_cases hbig2 : 2000 < m
      · have t2 : decide ((2000 : Int) < (m : Int)) = true := decide_eq_true (by omega)
        go_wp2_with fail
        go_ret
        exact ⟨rfl, HW1.out⟩
      · have t2 : decide ((2000 : Int) < (m : Int)) = false := decide_eq_false (by omega)
        go_wp2_with fail
        go_ret
        exact ⟨rfl, HW1.out⟩
  · have t1 : decide ((2000 : Int) < (m : Int)) = false := decide_eq_false (by omega)
    have t2 : decide ((2000 : Int) < (m2 : Int)) = false := decide_eq_false (by omega)
    clear hbig
    go_wp2_with fail
    have hl3 : lyE h n d.length = 0 ∨ lyE h n d.length = 4 ∨ lyE h n d.length = 140 := by
      unfold lyE
      split
      · exact .inr (.inl rfl)
      · split
        · exact .inr (.inr rfl)
        · exact .inl rfl
    have hz0 : lyE h n d.length ≠ 0 → lyZ h n d = [] := fun x => by unfold lyZ; rw [if_neg x]
    refine (lay_any hn HD1.out (Nat.le_refl _)).mono ?_
    rintro e w2 ⟨A3, c3, rfl, ho2, hb2⟩
    rcases hl3 with he | he | he
    · have hok := ly_ok hn HD1.out.byte he
      rw [(ok_ly hok).2] at ho2 ⊢
      rw [he]
      clear he hz0
      have HOK := Lib.hid hok
      have HX := Lib.hid (take_any (By.own ho2 hok.play_byte) (Nat.le_refl _))
      have HW2 := Lib.hid (HW1.out.trans (hb2.mono HW1.out.size))
      have HB2 := Lib.hid (by_later HB1.out hb2)
      have HD2 := Lib.hid (by_later HD1.out hb2)
      have HK2 : Hid (w2.heap[w.heap.size]? = _) := Lib.hid ((hb2.block _ (lt_of_heap HK.out)).trans HK.out)
      clear ho2 hb2 HD1 HB1 HW1 HK e0 e1 e2 hok
      go_wp2_with fail
      refine HX.out.mono ?_
      rintro e w3 ⟨hb3, hcase⟩
      rcases hcase with ⟨h2, n2, q2, A4, c4, his, rfl, hy, _⟩ | ⟨hno, _⟩
      rotate_left
      · exact absurd (is_play HOK.out) (hno _ _ _)
      obtain ⟨rfl, rfl, rfl⟩ := his.uniq (is_play HOK.out)
      obtain rfl : m = q2.length := HD2.out.len.symm
      have hbx := box3_below w3 (.bool h2) (.int .u64 (n2 : Int)) (.slice A4 q2.length c4)
      have HY4 := Lib.hid (by_later hy hbx)
      have HD4 := Lib.hid (by_later (by_later HD2.out hb3) hbx)
      have HW4 := Lib.hid ((HW2.out.trans (hb3.mono HW2.out.size)).trans (hbx.mono (Nat.le_trans HW2.out.size hb3.size)))
      have HB4 := Lib.hid (by_later (by_later HB2.out hb3) hbx)
      have hk3 : w3.heap[w.heap.size]? = _ := (hb3.block _ (lt_of_heap HK2.out)).trans HK2.out
      have hk4 : (w3.alloc (.cells #[.bool h2, .int .u64 (n2 : Int), .slice A4 q2.length c4] 25)).heap[w.heap.size]? = _ := (hbx.block _ (lt_of_heap hk3)).trans hk3
      have K4 := Lib.hid (box3 w3 (.bool h2) (.int .u64 (n2 : Int)) (.slice A4 q2.length c4))
      obtain ⟨e0, e1, e2⟩ := pkt_cells hk4
      have HK4 := Lib.hid hk4
      clear hb3 HX HW2 HB2 HD2 HK2 hy hbx hk3 hk4 his
      go_wp2_with fail
      have HE4 := Lib.hid (same_yes (h := h2) (n := (n2 : Int)) HD4.out HY4.out (Nat.le_refl _))
      generalize w3.alloc (.cells #[.bool h2, .int .u64 (n2 : Int), .slice A4 q2.length c4] 25) = w4 at *
      refine HE4.out.mono ?_
      rintro e w5 ⟨rfl, hb5⟩
      have HW5 := Lib.hid (HW4.out.trans (hb5.mono HW4.out.size))
      have HB5 := Lib.hid (by_later HB4.out hb5)
      clear hb5 HE4 HW4 HB4 HY4 HD4 e0 e1 e2
      go_wp2_with fail
      refine (take_any HB5.out (Nat.le_refl _)).mono ?_
      rintro e w6 ⟨hb6, hcase⟩
      have HW6 := Lib.hid (HW5.out.trans (hb6.mono HW5.out.size))
      have HB6 := Lib.hid (by_later HB5.out hb6)
      clear hb6 HB5 HW5
      rcases hcase with ⟨h2, n2, q2, A4, c4, his, rfl, hy, _⟩ | ⟨hno, rfl⟩
      · obtain ⟨hok2, rfl⟩ := his
        have HY := Lib.hid (by_later hy (box3_below w6 (.bool h2) (.int .u64 (n2 : Int)) (.slice A4 q2.length c4)))
        have HB7 := Lib.hid (by_later HB6.out (box3_below w6 (.bool h2) (.int .u64 (n2 : Int)) (.slice A4 q2.length c4)))
        have HW7 := Lib.hid (HW6.out.trans ((box3_below w6 (.bool h2) (.int .u64 (n2 : Int)) (.slice A4 q2.length c4)).mono HW6.out.size))
        have HOK2 := Lib.hid hok2
        clear hy HB6 HW6 hok2
        go_wp2_with fail
        generalize w6.alloc (.cells #[.bool h2, .int .u64 (n2 : Int), .slice A4 q2.length c4] 25) = w7 at *
        refine (lay_ok HOK2.out HY.out (Nat.le_refl _)).mono ?_
        rintro e w8 ⟨g8, c8, rfl, ho8, hb8⟩
        have kc1 := (By.own ho8 HOK2.out.play_byte).conv
        have kc2 := (by_later HB7.out hb8).conv
        have HW8 := Lib.hid (HW7.out.trans (hb8.mono HW7.out.size))
        clear ho8 hb8 HY HB7 HW7
        go_wp2_with fail
        go_ret
        exact ⟨rfl, HW8.out⟩
      · have HY : Hid (By (w6.alloc (.cells #[.bool false, .int .u64 0, .slice none 0 0] 25)).heap.size (w6.alloc (.cells #[.bool false, .int .u64 0, .slice none 0 0] 25)) none 0 0 []) := Lib.hid (By.none_ _ _)
        have HW7 := Lib.hid (HW6.out.trans ((box3_below w6 (.bool false) (.int .u64 0) (.slice none 0 0)).mono HW6.out.size))
        have k7 := box3 w6 (.bool false) (.int .u64 0) (.slice none 0 0)
        have K7 := Lib.hid k7
        have hok0 : Ok false 0 [] := ⟨by decide, by simp, fun _ => rfl, by simp⟩
        have HOK0 := Lib.hid hok0
        clear hno HW6 k7 hok0
        go_wp2_with fail
        generalize hw7 : w6.alloc (.cells #[.bool false, .int .u64 0, .slice none 0 0] 25) = w7 at *
        refine (lay_ok (n := 0) HOK0.out HY.out (Nat.le_refl _)).mono ?_
        rintro e w8 ⟨g8, c8, rfl, ho8, hb8⟩
        have hk8 := (hb8.block _ (lt_of_heap K7.out)).trans K7.out
        obtain ⟨y0, y1, y2⟩ := pkt_cells hk8
        have HW8 := Lib.hid (HW7.out.trans (hb8.mono HW7.out.size))
        have HE8 := Lib.hid (same_yes (w := w8) (h := false) (n := 0) (By.none_ 0 w8) (By.none_ 0 w8) (Nat.zero_le _))
        clear ho8 hb8 HY HW7 hk8 K7 HOK0 hw7
        go_wp2_with fail
        refine HE8.out.mono ?_
        rintro e w9 ⟨rfl, hb9⟩
        have HW9 := Lib.hid (HW8.out.trans (hb9.mono HW8.out.size))
        clear hb9 HE8 y0 y1 y2
        go_wp2_with fail
        go_ret
        exact ⟨rfl, HW9.out⟩
    · rw [hz0 (by rw [he]; decide)] at ho2 ⊢
      rw [he]
      clear he hz0
      have HX := Lib.hid (take_any (By.own ho2 (by simp)) (Nat.le_refl _))
      have HW2 := Lib.hid (HW1.out.trans (hb2.mono HW1.out.size))
      have HB2 := Lib.hid (by_later HB1.out hb2)
      clear ho2 hb2 HD1 HB1 HW1 HK e0 e1 e2
      go_wp2_with fail
      refine HX.out.mono ?_
      rintro e w3 ⟨hb3, hcase⟩
      rcases hcase with ⟨h2, n2, q2, A4, c4, his, _⟩ | ⟨hno, rfl⟩
      · exact absurd his (nil_no _ _ _)
      have HW5 := Lib.hid ((HW2.out.trans (hb3.mono HW2.out.size)).trans ((box3_below w3 (.bool false) (.int .u64 0) (.slice none 0 0)).mono (Nat.le_trans HW2.out.size hb3.size)))
      have HB5 := Lib.hid (by_later (by_later HB2.out hb3) (box3_below w3 (.bool false) (.int .u64 0) (.slice none 0 0)))
      clear hb3 HX HW2 HB2 hno
      go_wp2_with fail
      generalize w3.alloc (.cells #[.bool false, .int .u64 0, .slice none 0 0] 25) = w5 at *
      refine (take_any HB5.out (Nat.le_refl _)).mono ?_
      rintro e w6 ⟨hb6, hcase⟩
      have HW6 := Lib.hid (HW5.out.trans (hb6.mono HW5.out.size))
      have HB6 := Lib.hid (by_later HB5.out hb6)
      clear hb6 HB5 HW5
      rcases hcase with ⟨h2, n2, q2, A4, c4, his, rfl, hy, _⟩ | ⟨hno, rfl⟩
      · obtain ⟨hok2, rfl⟩ := his
        have HY := Lib.hid (by_later hy (box3_below w6 (.bool h2) (.int .u64 (n2 : Int)) (.slice A4 q2.length c4)))
        have HB7 := Lib.hid (by_later HB6.out (box3_below w6 (.bool h2) (.int .u64 (n2 : Int)) (.slice A4 q2.length c4)))
        have HW7 := Lib.hid (HW6.out.trans ((box3_below w6 (.bool h2) (.int .u64 (n2 : Int)) (.slice A4 q2.length c4)).mono HW6.out.size))
        have HOK2 := Lib.hid hok2
        clear hy HB6 HW6 hok2
        go_wp2_with fail
        generalize w6.alloc (.cells #[.bool h2, .int .u64 (n2 : Int), .slice A4 q2.length c4] 25) = w7 at *
        refine (lay_ok HOK2.out HY.out (Nat.le_refl _)).mono ?_
        rintro e w8 ⟨g8, c8, rfl, ho8, hb8⟩
        have kc1 := (By.own ho8 HOK2.out.play_byte).conv
        have kc2 := (by_later HB7.out hb8).conv
        have HW8 := Lib.hid (HW7.out.trans (hb8.mono HW7.out.size))
        clear ho8 hb8 HY HB7 HW7
        go_wp2_with fail
        go_ret
        exact ⟨rfl, HW8.out⟩
      · have HY : Hid (By (w6.alloc (.cells #[.bool false, .int .u64 0, .slice none 0 0] 25)).heap.size (w6.alloc (.cells #[.bool false, .int .u64 0, .slice none 0 0] 25)) none 0 0 []) := Lib.hid (By.none_ _ _)
        have HW7 := Lib.hid (HW6.out.trans ((box3_below w6 (.bool false) (.int .u64 0) (.slice none 0 0)).mono HW6.out.size))
        have k7 := box3 w6 (.bool false) (.int .u64 0) (.slice none 0 0)
        have K7 := Lib.hid k7
        have hok0 : Ok false 0 [] := ⟨by decide, by simp, fun _ => rfl, by simp⟩
        have HOK0 := Lib.hid hok0
        clear hno HW6 k7 hok0
        go_wp2_with fail
        generalize hw7 : w6.alloc (.cells #[.bool false, .int .u64 0, .slice none 0 0] 25) = w7 at *
        refine (lay_ok (n := 0) HOK0.out HY.out (Nat.le_refl _)).mono ?_
        rintro e w8 ⟨g8, c8, rfl, ho8, hb8⟩
        have hk8 := (hb8.block _ (lt_of_heap K7.out)).trans K7.out
        obtain ⟨y0, y1, y2⟩ := pkt_cells hk8
        have HW8 := Lib.hid (HW7.out.trans (hb8.mono HW7.out.size))
        have HE8 := Lib.hid (same_yes (w := w8) (h := false) (n := 0) (By.none_ 0 w8) (By.none_ 0 w8) (Nat.zero_le _))
        clear ho8 hb8 HY HW7 hk8 K7 HOK0 hw7
        go_wp2_with fail
        refine HE8.out.mono ?_
        rintro e w9 ⟨rfl, hb9⟩
        have HW9 := Lib.hid (HW8.out.trans (hb9.mono HW8.out.size))
        clear hb9 HE8 y0 y1 y2
        go_wp2_with fail
        go_ret
        exact ⟨rfl, HW9.out⟩
    · rw [hz0 (by rw [he]; decide)] at ho2 ⊢
      rw [he]
      clear he hz0
      have HX := Lib.hid (take_any (By.own ho2 (by simp)) (Nat.le_refl _))
      have HW2 := Lib.hid (HW1.out.trans (hb2.mono HW1.out.size))
      have HB2 := Lib.hid (by_later HB1.out hb2)
      clear ho2 hb2 HD1 HB1 HW1 HK e0 e1 e2
      go_wp2_with fail
      refine HX.out.mono ?_
      rintro e w3 ⟨hb3, hcase⟩
      rcases hcase with ⟨h2, n2, q2, A4, c4, his, _⟩ | ⟨hno, rfl⟩
      · exact absurd his (nil_no _ _ _)
      have HW5 := Lib.hid ((HW2.out.trans (hb3.mono HW2.out.size)).trans ((box3_below w3 (.bool false) (.int .u64 0) (.slice none 0 0)).mono (Nat.le_trans HW2.out.size hb3.size)))
      have HB5 := Lib.hid (by_later (by_later HB2.out hb3) (box3_below w3 (.bool false) (.int .u64 0) (.slice none 0 0)))
      clear hb3 HX HW2 HB2 hno
      go_wp2_with fail
      generalize w3.alloc (.cells #[.bool false, .int .u64 0, .slice none 0 0] 25) = w5 at *
      refine (take_any HB5.out (Nat.le_refl _)).mono ?_
      rintro e w6 ⟨hb6, hcase⟩
      have HW6 := Lib.hid (HW5.out.trans (hb6.mono HW5.out.size))
      have HB6 := Lib.hid (by_later HB5.out hb6)
      clear hb6 HB5 HW5
      rcases hcase with ⟨h2, n2, q2, A4, c4, his, rfl, hy, _⟩ | ⟨hno, rfl⟩
      · obtain ⟨hok2, rfl⟩ := his
        have HY := Lib.hid (by_later hy (box3_below w6 (.bool h2) (.int .u64 (n2 : Int)) (.slice A4 q2.length c4)))
        have HB7 := Lib.hid (by_later HB6.out (box3_below w6 (.bool h2) (.int .u64 (n2 : Int)) (.slice A4 q2.length c4)))
        have HW7 := Lib.hid (HW6.out.trans ((box3_below w6 (.bool h2) (.int .u64 (n2 : Int)) (.slice A4 q2.length c4)).mono HW6.out.size))
        have HOK2 := Lib.hid hok2
        clear hy HB6 HW6 hok2
        go_wp2_with fail
        generalize w6.alloc (.cells #[.bool h2, .int .u64 (n2 : Int), .slice A4 q2.length c4] 25) = w7 at *
        refine (lay_ok HOK2.out HY.out (Nat.le_refl _)).mono ?_
        rintro e w8 ⟨g8, c8, rfl, ho8, hb8⟩
        have kc1 := (By.own ho8 HOK2.out.play_byte).conv
        have kc2 := (by_later HB7.out hb8).conv
        have HW8 := Lib.hid (HW7.out.trans (hb8.mono HW7.out.size))
        clear ho8 hb8 HY HB7 HW7
        go_wp2_with fail
        go_ret
        exact ⟨rfl, HW8.out⟩
      · have HY : Hid (By (w6.alloc (.cells #[.bool false, .int .u64 0, .slice none 0 0] 25)).heap.size (w6.alloc (.cells #[.bool false, .int .u64 0, .slice none 0 0] 25)) none 0 0 []) := Lib.hid (By.none_ _ _)
        have HW7 := Lib.hid (HW6.out.trans ((box3_below w6 (.bool false) (.int .u64 0) (.slice none 0 0)).mono HW6.out.size))
        have k7 := box3 w6 (.bool false) (.int .u64 0) (.slice none 0 0)
        have K7 := Lib.hid k7
        have hok0 : Ok false 0 [] := ⟨by decide, by simp, fun _ => rfl, by simp⟩
        have HOK0 := Lib.hid hok0
        clear hno HW6 k7 hok0
        go_wp2_with fail
        generalize hw7 : w6.alloc (.cells #[.bool false, .int .u64 0, .slice none 0 0] 25) = w7 at *
        refine (lay_ok (n := 0) HOK0.out HY.out (Nat.le_refl _)).mono ?_
        rintro e w8 ⟨g8, c8, rfl, ho8, hb8⟩
        have hk8 := (hb8.block _ (lt_of_heap K7.out)).trans K7.out
        obtain ⟨y0, y1, y2⟩ := pkt_cells hk8
        have HW8 := Lib.hid (HW7.out.trans (hb8.mono HW7.out.size))
        have HE8 := Lib.hid (same_yes (w := w8) (h := false) (n := 0) (By.none_ 0 w8) (By.none_ 0 w8) (Nat.zero_le _))
        clear ho8 hb8 HY HW7 hk8 K7 HOK0 hw7
        go_wp2_with fail
        refine HE8.out.mono ?_
        rintro e w9 ⟨rfl, hb9⟩
        have HW9 := Lib.hid (HW8.out.trans (hb9.mono HW8.out.size))
        clear hb9 HE8 y0 y1 y2
        go_wp2_with fail
        go_ret
        exact ⟨rfl, HW9.out⟩
end Ln
end Go.Proofs.Ytjjaomnlkpdeeaa
