/-
  TripRight: the walk.
-/
import Derived.Test.YtokjnmgbgflgnaaGreatDoorTrL
import Derived.Test.YtokjnmgbgflgnaaGreatDoorTrArgs
set_option linter.unusedVariables false
set_option maxRecDepth 100000
namespace Go.Proofs.YtokjnmgbgflgnaaGreatDoor
namespace Tr
open Go.RowKit Fl Pt
open Bk (Gt)

set_option maxHeartbeats 16000000 in
theorem tripRight_walk (W H : Int) (s : ByteArray) (hs : s.size ≤ maxLen) (r pod a b : Int) (A : Option Addr) (n cap : Nat) (f : Nat → Int) (w : World) (h : Il w.heap.size w A n cap f) (_ : ∀ j, j < n → IW (f j)) :
    Calls Tryz.prog 6 #[caseV W H s r pod a b A n cap] w fun e w' => e = .returned (.bool true) ∧ Below w.heap.size w w' := by
  have HI := Lib.hid h
  have HSM := Lib.hid (fun wx => small10_any W H s hs r pod a b A n cap ⟨h.le, by have := h.max; unfold maxLen at this; omega⟩ wx)
  have HMK := Lib.hid (fun wx (hb : Below w.heap.size w wx) => make_any W H s hs r pod a b A n cap f wx (args_il h hb))
  have HDK := Lib.hid (fun wx => dock_any W H s hs r wx)
  have HFI := Lib.hid (fun c t wx (hb : Below w.heap.size w wx) => find_any W H s hs c t A n cap f wx (args_il h hb))
  have HRT := Lib.hid (fun x A n cap L wx (h : Al wx.heap.size wx A n cap L) => right_any W H s hs r x A n cap L wx h)
  have HCB := Lib.hid (Cb.new w W H s r pod a b A n cap)
  have HBB := Lib.hid ((Below.refl w.heap.size w).alloc (Nat.le_refl _) (.cells #[.int .i64 W, .int .i64 H, .string s, .int .i64 r, .int .i64 pod, .int .i64 a, .int .i64 b, .slice A n cap] 26))
  clear h
  unfold caseV at HSM ⊢
  go_enter Tryz.func6, Tryz.ntmps6
  go_wp2_with fail
  refine (shown10_any _).mono ?_
  rintro e w1 ⟨rfl, hb1⟩
  obtain ⟨D, hD⟩ : ∃ D, D = w.heap.size := ⟨_, rfl⟩
  have HLD : Hid (w.heap.size ≤ D) := Lib.hid (by omega)
  have HC1 : Hid (Cb D W H s r pod a b A n cap w1) := Lib.hid (by rw [hD]; exact HCB.out.later hb1)
  have HB1 := Lib.hid (HBB.out.trans (hb1.mono HBB.out.size))
  rw [← hD]
  clear hb1 hD HCB HBB
  have c0 := HC1.out.c0
  have c1 := HC1.out.c1
  have c2 := HC1.out.c2
  have c3 := HC1.out.c3
  have c4 := HC1.out.c4
  have c5 := HC1.out.c5
  have c6 := HC1.out.c6
  have c7 := HC1.out.c7
  go_wp2_with fail
  refine (HSM.out _).mono ?_
  rintro e w2 ⟨rfl, hb2⟩
  have HC2 := Lib.hid (HC1.out.later hb2)
  have HB2 := Lib.hid (HB1.out.trans (hb2.mono HB1.out.size))
  clear hb2 c0 c1 c2 c3 c4 c5 c6 c7
  cases hsm : (decide (s.size ≤ 60) && decide (n ≤ 30)) with
  | false =>
    go_wp2_with fail
    go_ret
    exact ⟨rfl, HB2.out⟩
  | true =>
    have c0 := HC2.out.c0
    have c1 := HC2.out.c1
    have c2 := HC2.out.c2
    have c3 := HC2.out.c3
    have c4 := HC2.out.c4
    have c5 := HC2.out.c5
    have c6 := HC2.out.c6
    have c7 := HC2.out.c7
    clear hsm
    go_wp2_with fail
    refine (HMK.out _ HB2.out).mono ?_
    rintro e w3 ⟨A3, n3, k3, L, er, rfl, hmi, hl3, hje, hal, hb3⟩
    have HC3 := Lib.hid (HC2.out.later hb3)
    have HB3 := Lib.hid (HB2.out.trans (hb3.mono HB2.out.size))
    have HA3 := Lib.hid hal
    have HL3 := Lib.hid hl3
    have hn3 := hal.len
    obtain ⟨hk3, hk3b⟩ := hal.size
    clear hal hb3 hl3 hje c0 c1 c2 c3 c4 c5 c6 c7 HMK HSM
    rcases hmi with ⟨_, rfl, rfl⟩ | ⟨hmay, d, x, y, z, hd, p1, p2, p3, rfl, rfl⟩ | ⟨_, _, _, _, rfl, rfl⟩
    · obtain rfl : n3 = 0 := by rw [← hn3]; rfl
      go_wp2_with fail
      go_ret
      exact ⟨by first | rfl | simp, HB3.out⟩
    · have HMAY := Lib.hid hmay
      have HFD := Lib.hid hd
      have HP1 := Lib.hid p1
      have HP2 := Lib.hid p2
      have HP3 := Lib.hid p3
      have HN3 : Hid (n3 = x.length + y.length + z.length + 2) := Lib.hid (by rw [← hn3]; exact tripL_length _ _ _ _ _ _)
      have hn3' : n3 ≤ 770 := by rw [← hn3]; exact HL3.out
      clear hmay hd p1 p2 p3 hn3
      have c0 := HC3.out.c0
      have c1 := HC3.out.c1
      have c2 := HC3.out.c2
      have c3 := HC3.out.c3
      go_wp2_with fail
      refine (HDK.out _).mono ?_
      rintro e w4 ⟨d', q, rfl, h1, _, hb4⟩
      obtain ⟨hfd, rfl⟩ := h1 HMAY.out.1
      obtain rfl := hfd.one HFD.out
      have HC4 := Lib.hid (HC3.out.later hb4)
      have HB4 := Lib.hid (HB3.out.trans (hb4.mono HB3.out.size))
      have HA4 := Lib.hid (HA3.out.later hb4)
      clear h1 hb4 hfd c0 c1 c2 c3 HDK
      have c0 := HC4.out.c0
      have c1 := HC4.out.c1
      have c2 := HC4.out.c2
      have c5 := HC4.out.c5
      have c7 := HC4.out.c7
      go_wp2_with fail
      refine (HFI.out _ _ _ HB4.out).mono ?_
      rintro e w5 ⟨A5, n5, k5, P5, e5, rfl, hn5, hp5, hil5, hb5, hw5⟩
      obtain ⟨rfl, rfl⟩ := hw5.uniq HP1.out
      have HC5 := Lib.hid (HC4.out.later hb5)
      have HB5 := Lib.hid (HB4.out.trans (hb5.mono HB4.out.size))
      have HA5 := Lib.hid (HA4.out.later hb5)
      have HN5 := Lib.hid hn5
      have hn5' : n5 ≤ 256 := by rw [hn5]; exact hp5.1
      have hk5 := hil5.le
      have hk5b : k5 ≤ 9223372036854775807 := by have := hil5.max; unfold maxLen at this; omega
      clear hn5 hp5 hil5 hb5 hw5 c0 c1 c2 c5 c7
      have c0 := HC5.out.c0
      have c1 := HC5.out.c1
      have c2 := HC5.out.c2
      have c5 := HC5.out.c5
      have c6 := HC5.out.c6
      have c7 := HC5.out.c7
      go_wp2_with fail
      refine (HFI.out _ _ _ HB5.out).mono ?_
      rintro e w6 ⟨A6, n6, k6, P6, e6, rfl, hn6, hp6, hil6, hb6, hw6⟩
      obtain ⟨rfl, rfl⟩ := hw6.uniq HP2.out
      have HC6 := Lib.hid (HC5.out.later hb6)
      have HB6 := Lib.hid (HB5.out.trans (hb6.mono HB5.out.size))
      have HA6 := Lib.hid (HA5.out.later hb6)
      have HN6 := Lib.hid hn6
      have hn6' : n6 ≤ 256 := by rw [hn6]; exact hp6.1
      have hk6 := hil6.le
      have hk6b : k6 ≤ 9223372036854775807 := by have := hil6.max; unfold maxLen at this; omega
      clear hn6 hp6 hil6 hb6 hw6 c0 c1 c2 c5 c6 c7
      have c0 := HC6.out.c0
      have c1 := HC6.out.c1
      have c2 := HC6.out.c2
      have c6 := HC6.out.c6
      have c7 := HC6.out.c7
      go_wp2_with fail
      refine (HFI.out _ _ _ HB6.out).mono ?_
      rintro e w7 ⟨A7, n7, k7, P7, e7, rfl, hn7, hp7, hil7, hb7, hw7⟩
      obtain ⟨rfl, rfl⟩ := hw7.uniq HP3.out
      have HC7 := Lib.hid (HC6.out.later hb7)
      have HB7 := Lib.hid (HB6.out.trans (hb7.mono HB6.out.size))
      have HA7 := Lib.hid (HA6.out.later hb7)
      have HN7 := Lib.hid hn7
      have hn7' : n7 ≤ 256 := by rw [hn7]; exact hp7.1
      have hk7 := hil7.le
      have hk7b : k7 ≤ 9223372036854775807 := by have := hil7.max; unfold maxLen at this; omega
      clear hn7 hp7 hil7 hb7 hw7 c0 c1 c2 c6 c7 HFI HC1 HC2 HC3 HC4 HC5 HC6 HA3 HA4 HA5 HA6 HB1 HB2 HB3 HB4 HB5 HB6
      have HN3' : Hid (n3 = n5 + n6 + n7 + 2) := Lib.hid (by rw [HN3.out, HN5.out, HN6.out, HN7.out])
      go_wp2_with fail
      go_loopw [14, 15, 99] (fun lv dv iv wr => ∃ i : Nat, i ≤ n3 ∧ lv = .int .i64 (if n5 < i then 1 else 0) ∧ dv = .int .i64 (if n5 + n6 + 1 < i then 1 else 0) ∧ iv = .int .i64 (i : Int) ∧ Hid (Cb D W H s r pod a b A n cap wr) ∧ Hid (Below w7.heap.size w7 wr)) (fun _ _ iv _ => n3 - (intOf iv).toNat)
      case atStart => exact ⟨0, Nat.zero_le _, by simp, by simp, rfl, HC7, Lib.hid (Below.refl _ _)⟩
      case round =>
        rename World => wr
        obtain ⟨i, hi, rfl, rfl, rfl, HC, HB⟩ := hrel
        by_cases hlt : i < n3
        · obtain ⟨g, off, rfl, hg, k0, k1, k2⟩ := (HA7.out.later HB.out).cell hlt
          have HCS := Lib.hid (tripL_get P5 P6 P7 a b pod i (by rw [← HN3.out]; exact hlt))
          have hiI : (i : Int) < (n3 : Int) := by omega
          have c4 := HC.out.c4
          have c5 := HC.out.c5
          have c6 := HC.out.c6
          have hDlt := HC.out.lt
          generalize (tripL P5 P6 P7 a b pod).getD i (0, 0, 0) = ac at *
          obtain ⟨k, c, p⟩ := ac
          have k0' : wr.cell? ⟨g, off + i * 3, none⟩ = some (.int .u8 (k : Int)) := k0
          have k1' : wr.cell? ⟨g, off + i * 3 + 1, none⟩ = some (.int .i64 c) := k1
          have k2' : wr.cell? ⟨g, off + i * 3 + 2, none⟩ = some (.int .i64 p) := k2
          clear k0 k1 k2
          have hal := (Below.refl wr.heap.size wr).alloc (Nat.le_refl _) (.cells #[.int .u8 (k : Int), .int .i64 c, .int .i64 p] 44)
          have HBA := Lib.hid (HB.out.trans (hal.mono HB.out.size))
          have HCA := Lib.hid (HC.out.later hal)
          have m4 := HCA.out.c4
          have m5 := HCA.out.c5
          have m6 := HCA.out.c6
          have HIX : Hid ((k = 1 ∧ i ≠ n5 ∧ i ≠ n5 + n6 + 1) ∨ (k = 2 ∧ c = a ∧ p = pod ∧ i = n5) ∨ (k = 3 ∧ c = b ∧ p = pod ∧ i = n5 + n6 + 1)) := Lib.hid (by
            have e5 := HN5.out
            have e6 := HN6.out
            rcases HCS.out with ⟨q, e⟩ | ⟨q, e⟩ | ⟨j, q, q2, e⟩ | ⟨q, e⟩ | ⟨j, q, q2, e⟩ <;> injection e with e1 e2 <;> injection e2 with e2 e3
            · exact .inl ⟨e1, by omega, by omega⟩
            · exact .inr (.inl ⟨e1, e2, e3, by omega⟩)
            · exact .inl ⟨e1, by omega, by omega⟩
            · exact .inr (.inr ⟨e1, e2, e3, by omega⟩)
            · exact .inl ⟨e1, by omega, by omega⟩)
          clear hal HCS
          generalize hkk : (k : Int) = kk at *
          rcases HIX.out with ⟨rfl, i1, i2⟩ | ⟨rfl, rfl, rfl, rfl⟩ | ⟨rfl, rfl, rfl, rfl⟩
          · obtain rfl : kk = 1 := by rw [← hkk]; rfl
            clear hkk HIX
            go_wp2_with fail
            go_roundw
            case rel => exact ⟨i + 1, by omega, by congr 1; split <;> split <;> omega, by congr 1; split <;> split <;> omega, by go_num, HCA, HBA⟩
            case measure => simp [intOf]; omega
          · obtain rfl : kk = 2 := by rw [← hkk]; rfl
            have e1 : (if i < i then (1 : Int) else 0) = 0 := if_neg (by omega)
            have e2 : (if i + n6 + 1 < i then (1 : Int) else 0) = 0 := if_neg (by omega)
            rw [e1, e2]
            clear hkk HIX e1 e2
            go_wp2_with fail
            go_roundw
            case rel => exact ⟨i + 1, by omega, by rw [if_pos (by omega)], by rw [if_neg (by omega)], by go_num, HCA, HBA⟩
            case measure => simp [intOf]; omega
          · obtain rfl : kk = 3 := by rw [← hkk]; rfl
            have e1 : (if n5 < n5 + n6 + 1 then (1 : Int) else 0) = 1 := if_pos (by omega)
            have e2 : (if n5 + n6 + 1 < n5 + n6 + 1 then (1 : Int) else 0) = 0 := if_neg (by omega)
            rw [e1, e2]
            clear hkk HIX e1 e2
            go_wp2_with fail
            go_roundw
            case rel => exact ⟨n5 + n6 + 1 + 1, by omega, by rw [if_pos (by omega)], by rw [if_pos (by omega)], by go_num, HCA, HBA⟩
            case measure => simp [intOf]; omega
        · obtain rfl : i = n3 := by omega
          have e1 : (if n5 < i then (1 : Int) else 0) = 1 := if_pos (by have := HN3'.out; omega)
          have e2 : (if n5 + n6 + 1 < i then (1 : Int) else 0) = 1 := if_pos (by have := HN3'.out; omega)
          rw [e1, e2]
          have c0 := HC.out.c0
          have c1 := HC.out.c1
          have c2 := HC.out.c2
          have c3 := HC.out.c3
          have HAL := Lib.hid (HA7.out.later HB.out)
          have HYES := Lib.hid (trip_right HMAY.out HFD.out HP1.out HP2.out HP3.out HL3.out)
          have HBW := Lib.hid (HB7.out.trans (HB.out.mono HB7.out.size))
          clear e1 e2 HA7 HB HC7 HL3
          go_wp2_with fail
          refine (HRT.out _ _ _ _ _ _ HAL.out).mono ?_
          rintro e w8 ⟨q, rfl, hq, hb8⟩
          obtain rfl : q = true := hq.2 HYES.out
          have HB8 := Lib.hid (HBW.out.trans (hb8.mono HBW.out.size))
          have HA8 := Lib.hid (HAL.out.later hb8)
          clear hq hb8 c0 c1 c2 c3
          have hcost := cost_any _ _ _ _ w8 HA8.out
          rw [tripL_cost, ← HN5.out, ← HN6.out, ← HN7.out] at hcost
          have HCO := Lib.hid hcost
          clear hcost
          go_wp2_with fail
          refine HCO.out.mono ?_
          rintro e w9 ⟨rfl, hb9⟩
          have HB9 := Lib.hid (HB8.out.trans (hb9.mono HB8.out.size))
          have HA9 := Lib.hid (HA8.out.later hb9)
          clear hb9
          have hcost := cost_any _ _ _ _ w9 HA9.out
          rw [tripL_cost, ← HN5.out, ← HN6.out, ← HN7.out] at hcost
          have HCO := Lib.hid hcost
          have q1 : (((n5 + n6 + n7 : Nat) : Int) == (n5 : Int) + (n6 : Int) + (n7 : Int)) = true := by rw [beq_iff_eq]; omega
          have q2 : i ≤ n5 + n6 + n7 + 2 := by have := HN3'.out; omega
          have q3 : n5 + n6 + n7 + 2 ≤ i := by have := HN3'.out; omega
          clear hcost
          go_wp2_with fail
          refine HCO.out.mono ?_
          rintro e w10 ⟨rfl, hb10⟩
          have HB10 := Lib.hid (HB9.out.trans (hb10.mono HB9.out.size))
          clear hb10
          go_wp2_with fail
          go_ret
          exact ⟨by first | rfl | simp, HB10.out⟩
    · obtain rfl : n3 = 0 := by rw [← hn3]; rfl
      go_wp2_with fail
      go_ret
      exact ⟨by first | rfl | simp, HB3.out⟩
end Tr
end Go.Proofs.YtokjnmgbgflgnaaGreatDoor
