/-
  The document's answers for layer 3: Right.
-/
import Derived.Test.YtaioiobimenkfaaDoorFlR2
import Derived.Test.YtaioiobimenkfaaDoorFlF
import Derived.Test.YtaioiobimenkfaaDoorFlPlain
set_option linter.unusedVariables false
set_option maxRecDepth 100000
namespace Go.Proofs.YtaioiobimenkfaaDoor
open Go.RowKit Fl

theorem rdock_is (c : Nat) (b : Bool) (w : World) (h : isD c = b) : Calls Tryd.prog 64 #[.int .u8 (c : Int)] w fun e w' => e = .returned (.bool b) ∧ w = w' :=
  (rdock_any c w).mono fun e w' ⟨h1, h2⟩ => ⟨by rw [h1, h], h2⟩
theorem rlane_w (c : Nat) (b : Bool) (w : World) (h : isL c = b) : Calls Tryd.prog 65 #[.int .u8 (c : Int)] w fun e w' => e = .returned (.bool b) ∧ w = w' :=
  (rlane_any c w).mono fun e w' ⟨h1, h2⟩ => ⟨by rw [h1, h], h2⟩

set_option maxHeartbeats 1000000 in
theorem rright_sides (W H : Int) (s : ByteArray) (hs : s.size ≤ maxLen) (w : World) (hn : ¬ ∃ a b : Nat, W = a ∧ H = b ∧ Sides a b s) :
    Calls Tryd.prog 44 #[.agg #[.int .i64 W, .int .i64 H, .string s]] w (Told (Right W H s) w) := by
  unfold maxLen at hs
  have HA := Lib.hid ((Below.refl w.heap.size w).alloc (Nat.le_refl _) (.cells #[.int .i64 W, .int .i64 H, .string s] 23))
  have HN : Hid (¬ Right W H s) := Lib.hid (fun ⟨a, b, e1, e2, h, _⟩ => hn ⟨a, b, e1, e2, h⟩)
  by_cases h0 : W < 1
  · have d0 : decide (W < 1) = true := by simpa using h0
    clear hn
    go_enter Tryd.func44, Tryd.ntmps44
    go_wp2_with fail
    go_ret
    exact ⟨false, rfl, iff_of_false (by decide) HN.out, HA.out⟩
  have d0 : decide (W < 1) = false := by simpa using h0
  by_cases h1 : 16 < W
  · have d1 : decide (16 < W) = true := by simpa using h1
    clear hn
    go_enter Tryd.func44, Tryd.ntmps44
    go_wp2_with fail
    go_ret
    exact ⟨false, rfl, iff_of_false (by decide) HN.out, HA.out⟩
  have d1 : decide (16 < W) = false := by simpa using h1
  by_cases h2 : H < 1
  · have d2 : decide (H < 1) = true := by simpa using h2
    clear hn
    go_enter Tryd.func44, Tryd.ntmps44
    go_wp2_with fail
    go_ret
    exact ⟨false, rfl, iff_of_false (by decide) HN.out, HA.out⟩
  have d2 : decide (H < 1) = false := by simpa using h2
  by_cases h3 : 16 < H
  · have d3 : decide (16 < H) = true := by simpa using h3
    clear hn
    go_enter Tryd.func44, Tryd.ntmps44
    go_wp2_with fail
    go_ret
    exact ⟨false, rfl, iff_of_false (by decide) HN.out, HA.out⟩
  have d3 : decide (16 < H) = false := by simpa using h3
  obtain ⟨a, rfl⟩ := Int.eq_ofNat_of_zero_le (by omega : 0 ≤ W)
  obtain ⟨b, rfl⟩ := Int.eq_ofNat_of_zero_le (by omega : 0 ≤ H)
  have hm := le_mul16 (W := a) (H := b) (by omega) (by omega)
  have p1 : (a : Int) * (b : Int) ≤ 256 := by rw [← Int.natCast_mul]; omega
  have p0 : 0 ≤ (a : Int) * (b : Int) := by rw [← Int.natCast_mul]; omega
  by_cases hz : s.size = a * b
  · exact absurd ⟨a, b, rfl, rfl, by omega, by omega, by omega, by omega, hz⟩ hn
  · have hq : ((s.size : Int) != (a : Int) * (b : Int)) = true := by rw [bne_iff_ne, ← Int.natCast_mul]; omega
    clear hz hn hm
    go_enter Tryd.func44, Tryd.ntmps44
    go_wp2_with fail
    go_ret
    exact ⟨false, rfl, iff_of_false (by decide) HN.out, HA.out⟩

set_option maxRecDepth 100000 in
set_option maxHeartbeats 8000000 in
theorem rright_in (W H : Nat) (s : ByteArray) (w : World) (hS : Sides W H s) :
    Calls Tryd.prog 44 #[.agg #[.int .i64 (W : Int), .int .i64 (H : Int), .string s]] w (Told (Right (W : Int) (H : Int) s) w) := by
  have h256 := hS.le
  have HR : Hid (Right (W : Int) (H : Int) s ↔ RightN W H (at_ s)) := Lib.hid (by rw [right_nat]; exact ⟨fun h => h.2, fun h => ⟨hS, h⟩⟩)
  have HS := Lib.hid hS
  have HSZ := Lib.hid hS.sz
  have d0 : decide ((W : Int) < 1) = false := by have := hS.w1; simp; omega
  have d1 : decide (16 < (W : Int)) = false := by have := hS.w2; simp; omega
  have d2 : decide ((H : Int) < 1) = false := by have := hS.h1; simp; omega
  have d3 : decide (16 < (H : Int)) = false := by have := hS.h2; simp; omega
  have hm := le_mul16 hS.w2 hS.h2
  have p1 : (W : Int) * (H : Int) ≤ 256 := by rw [← Int.natCast_mul]; omega
  have p0 : 0 ≤ (W : Int) * (H : Int) := by rw [← Int.natCast_mul]; omega
  have hq : ((s.size : Int) != (W : Int) * (H : Int)) = false := by rw [bne_eq_false_iff_eq, hS.sz, Int.natCast_mul]
  clear hS hm
  go_enter Tryd.func44, Tryd.ntmps44
  go_wp2_with fail
  clear d0 d1 d2 d3 p0 p1 hq
  go_loopw [4, 5, 6] (fun dv fv iv wr => ∃ k : Nat, k ≤ s.size ∧ iv = .int .i64 (k : Int) ∧ dv = .int .i64 ((pick isD (at_ s) k).length : Int) ∧ fv = .int .i64 (fstL (at_ s) k) ∧ Box w W H s wr ∧ Tally (w.heap.size + 1) (cn (at_ s) (pick isD (at_ s) k)) wr ∧ ∀ j, j < k → okc (at_ s j) = true)
    (fun _ _ iv _ => s.size - (intOf iv).toNat)
  case atStart =>
    refine ⟨0, Nat.zero_le _, rfl, rfl, rfl, (Box.start w W H s 23).later ((Below.refl _ _).alloc (by simp) _), ?_, fun j hj => by omega⟩
    have := Tally.made (w.alloc (.cells #[.int .i64 (W : Int), .int .i64 (H : Int), .string s] 23)) 93 #[.int .i64 0, .int .i64 0, .int .i64 0, .int .i64 0, .int .i64 0, .int .i64 0, .int .i64 0, .int .i64 0] (fun r hr => by
      have hr8 : r = 0 ∨ r = 1 ∨ r = 2 ∨ r = 3 ∨ r = 4 ∨ r = 5 ∨ r = 6 ∨ r = 7 := by omega
      rcases hr8 with rfl | rfl | rfl | rfl | rfl | rfl | rfl | rfl <;> rfl)
    have h0 : cn (at_ s) (pick isD (at_ s) 0) = fun _ => 0 := rfl
    rw [h0]
    simpa using this
  case round =>
    rename World => wr
    obtain ⟨k, hk, rfl, rfl, rfl, hB, hT, hJ⟩ := hrel
    have HB := Lib.hid hB
    have HT := Lib.hid hT
    have HJ := Lib.hid hJ
    have k2 := hB.c2
    have hz := hB.lt
    have hpd := pick_le isD (at_ s) k
    have hfb := fstL_bd (at_ s) k
    clear hB hT hJ
    by_cases hlt : k < s.size
    · have HZ := Lib.hid (at_get s k hlt)
      have HPD := Lib.hid (pick_succ isD (at_ s) k)
      cases hd : isD s[k].toNat with
      | true =>
        have hl := not_both hd
        have HOK : Hid (okc (at_ s k) = true) := Lib.hid (by rw [← HZ.out]; exact okc_of _ (.inr (.inr hd)))
        obtain ⟨r, hr, hzr⟩ := isD_of hd
        have hq : ((s[k].toNat : Int) - 48) = (r : Int) := by rw [hzr]; omega
        have hlo : 48 ≤ s[k].toNat := by omega
        have hhi : s[k].toNat < 56 := by omega
        have HZR : Hid (at_ s k = 48 + r) := Lib.hid (by rw [← HZ.out]; exact hzr)
        have HPN : Hid (pick isD (at_ s) (k + 1) = pick isD (at_ s) k ++ [k]) := Lib.hid (by rw [HPD.out, if_pos (by rw [← HZ.out]; exact hd)])
        have HFN : Hid (fstL (at_ s) (k + 1) = fstL (at_ s) k) := Lib.hid (fstL_no (by rw [← HZ.out]; exact hl))
        clear hzr
        have ct := (HT.out.2 r hr).1
        have ft := (HT.out.2 r hr).2
        have hcb : cn (at_ s) (pick isD (at_ s) k) r ≤ 256 := by
          have := List.length_filter_le (fun i => at_ s i == 48 + r) (pick isD (at_ s) k)
          unfold cn
          omega
        have HT2 := Lib.hid (HT.out.up (g := cn (at_ s) (pick isD (at_ s) (k + 1))) r hr (by rw [HPN.out, cn_snoc, if_pos HZR.out]) (fun q hq => by rw [HPN.out, cn_snoc, if_neg (by rw [HZR.out]; omega)]) _ rfl)
        have HB2 := Lib.hid (HB.out.later ((Below.refl (w.heap.size + 1) wr).setCell (p := ⟨w.heap.size + 1, r, none⟩) (Nat.le_refl _) (.int .i64 ((cn (at_ s) (pick isD (at_ s) k) r : Int) + 1))))
        generalize cn (at_ s) (pick isD (at_ s) k) r = x at *
        have e2 := HB2.out.c2
        have HLN : Hid ((((pick isD (at_ s) (k + 1)).length : Nat) : Int) = ((pick isD (at_ s) k).length : Int) + 1) := Lib.hid (by rw [HPN.out, List.length_append]; rfl)
        go_wp2_with (first | (go_at_call 64; refine (rdock_is _ true _ hd).mono ?_; rintro e w' ⟨rfl, rfl⟩) | (go_at_call 65; refine (rlane_w _ false _ hl).mono ?_; rintro e w' ⟨rfl, rfl⟩))
        go_roundw
        case rel => exact ⟨k + 1, by omega, by go_num, by rw [HLN.out], by rw [HFN.out], HB2.out, HT2.out, fun j hj => by rcases Nat.lt_succ_iff_lt_or_eq.1 hj with h | h; exact HJ.out j h; rw [h]; exact HOK.out⟩
        case measure => simp [intOf]; omega
      | false =>
        have HPN : Hid (pick isD (at_ s) (k + 1) = pick isD (at_ s) k) := Lib.hid (by rw [HPD.out, if_neg (by rw [← HZ.out, hd]; decide), List.append_nil])
        cases hl : isL s[k].toNat with
        | true =>
          have HOK : Hid (okc (at_ s k) = true) := Lib.hid (by rw [← HZ.out]; exact okc_of _ (.inr (.inl hl)))
          by_cases hf : fstL (at_ s) k < 0
          · have HFN : Hid (fstL (at_ s) (k + 1) = k) := Lib.hid (fstL_new (by rw [← HZ.out]; exact hl) hf)
            have df : decide (fstL (at_ s) k < 0) = true := by simpa using hf
            generalize fstL (at_ s) k = f0 at *
            clear hf
            go_wp2_with (first | (go_at_call 64; refine (rdock_is _ false _ hd).mono ?_; rintro e w' ⟨rfl, rfl⟩) | (go_at_call 65; refine (rlane_w _ true _ hl).mono ?_; rintro e w' ⟨rfl, rfl⟩))
            go_roundw
            case rel => exact ⟨k + 1, by omega, by go_num, by rw [HPN.out], by rw [HFN.out], HB.out, by rw [HPN.out]; exact HT.out, fun j hj => by rcases Nat.lt_succ_iff_lt_or_eq.1 hj with h | h; exact HJ.out j h; rw [h]; exact HOK.out⟩
            case measure => simp [intOf]; omega
          · have HFN : Hid (fstL (at_ s) (k + 1) = fstL (at_ s) k) := Lib.hid (fstL_old hf)
            have df : decide (fstL (at_ s) k < 0) = false := by simpa using hf
            generalize fstL (at_ s) k = f0 at *
            clear hf
            go_wp2_with (first | (go_at_call 64; refine (rdock_is _ false _ hd).mono ?_; rintro e w' ⟨rfl, rfl⟩) | (go_at_call 65; refine (rlane_w _ true _ hl).mono ?_; rintro e w' ⟨rfl, rfl⟩))
            go_roundw
            case rel => exact ⟨k + 1, by omega, by go_num, by rw [HPN.out], by rw [HFN.out], HB.out, by rw [HPN.out]; exact HT.out, fun j hj => by rcases Nat.lt_succ_iff_lt_or_eq.1 hj with h | h; exact HJ.out j h; rw [h]; exact HOK.out⟩
            case measure => simp [intOf]; omega
        | false =>
          have HFN : Hid (fstL (at_ s) (k + 1) = fstL (at_ s) k) := Lib.hid (fstL_no (by rw [← HZ.out]; exact hl))
          by_cases h35 : s[k].toNat = 35
          · have hb : ((s[k].toNat : Int) != 35) = false := by rw [bne_eq_false_iff_eq]; omega
            have HOK : Hid (okc (at_ s k) = true) := Lib.hid (by rw [← HZ.out]; exact okc_of _ (.inl h35))
            clear h35
            go_wp2_with (first | (go_at_call 64; refine (rdock_is _ false _ hd).mono ?_; rintro e w' ⟨rfl, rfl⟩) | (go_at_call 65; refine (rlane_w _ false _ hl).mono ?_; rintro e w' ⟨rfl, rfl⟩))
            go_roundw
            case rel => exact ⟨k + 1, by omega, by go_num, by rw [HPN.out], by rw [HFN.out], HB.out, by rw [HPN.out]; exact HT.out, fun j hj => by rcases Nat.lt_succ_iff_lt_or_eq.1 hj with h | h; exact HJ.out j h; rw [h]; exact HOK.out⟩
            case measure => simp [intOf]; omega
          · have hb : ((s[k].toNat : Int) != 35) = true := by rw [bne_iff_ne]; omega
            have HNO : Hid (¬ RightN W H (at_ s)) := Lib.hid (fun h => by
              have h1 := h.bytes k (by rw [← HSZ.out]; exact hlt)
              rw [okc_not (at_ s k) (by rw [← HZ.out]; exact h35) (by rw [← HZ.out]; exact hl) (by rw [← HZ.out]; exact hd)] at h1
              cases h1)
            clear h35
            go_wp2_with (first | (go_at_call 64; refine (rdock_is _ false _ hd).mono ?_; rintro e w' ⟨rfl, rfl⟩) | (go_at_call 65; refine (rlane_w _ false _ hl).mono ?_; rintro e w' ⟨rfl, rfl⟩))
            go_ret
            exact ⟨false, rfl, iff_of_false (by decide) (by rw [HR.out]; exact HNO.out), HB.out.below⟩
    · obtain rfl : k = s.size := by omega
      have HD : Hid (pick isD (at_ s) s.size = docks W H (at_ s)) := Lib.hid (by rw [HSZ.out]; rfl)
      have HTL : Hid (Tally (w.heap.size + 1) (cn (at_ s) (docks W H (at_ s))) wr) := Lib.hid (by rw [← HD.out]; exact HT.out)
      have HOKS : Hid (∀ i, i < W * H → okc (at_ s i) = true) := Lib.hid (by rw [← HSZ.out]; exact HJ.out)
      clear HT HJ
      obtain ⟨n, hn⟩ : ∃ n, n = (pick isD (at_ s) s.size).length := ⟨_, rfl⟩
      rw [← hn] at hpd ⊢
      have HN : Hid (n = (docks W H (at_ s)).length) := Lib.hid (by rw [hn, HD.out])
      clear hn
      by_cases hn1 : n < 1
      · have HNO : Hid (¬ RightN W H (at_ s)) := Lib.hid (fun h => by have := h.docks.one; have := HN.out; omega)
        have dn1 : decide (n < 1) = true := by simpa using hn1
        have dn1' : decide ((n : Int) < 1) = true := by simp; omega
        generalize fstL (at_ s) s.size = f0 at *
        go_wp2_with fail
        go_ret
        exact ⟨false, rfl, iff_of_false (by decide) (by rw [HR.out]; exact HNO.out), HB.out.below⟩
      · have dn1' : decide ((n : Int) < 1) = false := by simp; omega
        by_cases hn8 : 8 < n
        · have HNO : Hid (¬ RightN W H (at_ s)) := Lib.hid (fun h => by have := h.docks.few; have := HN.out; omega)
          have dn8' : decide (8 < (n : Int)) = true := by simp; omega
          generalize fstL (at_ s) s.size = f0 at *
          go_wp2_with fail
          go_ret
          exact ⟨false, rfl, iff_of_false (by decide) (by rw [HR.out]; exact HNO.out), HB.out.below⟩
        · have dn8' : decide (8 < (n : Int)) = false := by simp; omega
          by_cases hf : fstL (at_ s) s.size < 0
          · have HNO : Hid (¬ RightN W H (at_ s)) := Lib.hid (fun h => fstL_none (by rw [← HSZ.out]; exact hf) h.lanes)
            have df : decide (fstL (at_ s) s.size < 0) = true := by simpa using hf
            generalize fstL (at_ s) s.size = f0 at *
            clear hf
            go_wp2_with fail
            go_ret
            exact ⟨false, rfl, iff_of_false (by decide) (by rw [HR.out]; exact HNO.out), HB.out.below⟩
          · obtain ⟨a, r, hpr, hfa⟩ := fstL_some hf
            rw [hfa]
            have df : decide ((a : Int) < 0) = false := by simp
            have hal := mem_pick.1 (by rw [hpr]; simp : a ∈ pick isL (at_ s) s.size)
            have has := hal.1
            have HPR : Hid (pick isL (at_ s) (W * H) = a :: r) := Lib.hid (by rw [← HSZ.out]; exact hpr)
            clear hpr hfa hal hf hfb
            have hn3 : n ≤ 8 := by omega
            go_wp2_with fail
            go_loop [8] (fun iv => ∃ q : Nat, q ≤ n ∧ iv = .int .i64 (q : Int) ∧ ∀ j, j < q → cn (at_ s) (docks W H (at_ s)) j = 1) (fun iv => n - (intOf iv).toNat)
            case atStart => exact ⟨0, Nat.zero_le _, rfl, fun j hj => by omega⟩
            case round =>
              obtain ⟨q, hq, rfl, hj⟩ := hrel
              have HQ := Lib.hid hj
              clear hj
              by_cases hlt2 : q < n
              · have ct := (HTL.out.2 q (by omega)).1
                have HNO := Lib.hid (docks_not (W := W) (H := H) (z := at_ s) (r := q) (by rw [← HN.out]; omega))
                by_cases h1 : cn (at_ s) (docks W H (at_ s)) q = 1
                · rw [h1] at ct
                  have H1 := Lib.hid h1
                  clear h1
                  go_wp2_with fail
                  go_round
                  case rel => exact ⟨q + 1, by omega, by go_num, fun j hj => by rcases Nat.lt_succ_iff_lt_or_eq.1 hj with h | h; exact HQ.out j h; rw [h]; exact H1.out⟩
                  case measure => simp [intOf]; omega
                · have HN1 := Lib.hid (HNO.out h1)
                  generalize cn (at_ s) (docks W H (at_ s)) q = x at *
                  have hb : ((x : Int) != 1) = true := by rw [bne_iff_ne]; omega
                  clear h1
                  go_wp2_with fail
                  go_ret
                  exact ⟨false, rfl, iff_of_false (by decide) (by rw [HR.out]; exact fun h => HN1.out h.docks), HB.out.below⟩
              · obtain rfl : q = n := by omega
                have HON : Hid (∀ r, r < min (docks W H (at_ s)).length 8 → cn (at_ s) (docks W H (at_ s)) r = 1) := Lib.hid (fun r hr => HQ.out r (by have := HN.out; omega))
                have k0 := HB.out.c0
                have k1 := HB.out.c1
                go_wp2_with fail
                refine (reached_any W H a s _ HS.out has).mono ?_
                rintro e w2 ⟨g, B, rfl, hA, hb2, hBR⟩
                have HB2 := Lib.hid (HB.out.after hb2)
                have HA := Lib.hid hA
                have HBR := Lib.hid hBR
                clear hA hb2 hBR k0 k1 k2 HTL HB
                go_wp2_with fail
                go_loopw [10] (fun iv wr => ∃ i : Nat, i ≤ s.size ∧ iv = .int .i64 (i : Int) ∧ Box w W H s wr ∧ Arr g s.size B wr ∧ ∀ j, j < i → (isL (at_ s j) = true → B j = true) ∧ (isD (at_ s j) = true → ByLane W H (at_ s) j)) (fun iv _ => s.size - (intOf iv).toNat)
                case atStart => exact ⟨0, Nat.zero_le _, rfl, HB2.out, HA.out, fun j hj => by omega⟩
                case round =>
                  rename World => wi
                  obtain ⟨i, hi, rfl, hB3, hA3, hJ3⟩ := hrel
                  have HB3 := Lib.hid hB3
                  have HA3 := Lib.hid hA3
                  have HJ3 := Lib.hid hJ3
                  have k0 := hB3.c0
                  have k1 := hB3.c1
                  have k2 := hB3.c2
                  have hz3 := hB3.lt
                  clear hB3 hA3 hJ3
                  by_cases hlt3 : i < s.size
                  · have HZ := Lib.hid (at_get s i hlt3)
                    have HIN := Lib.hid (show i < W * H by rw [← HSZ.out]; exact hlt3)
                    have HBI := Lib.hid (HBR.out i hlt3)
                    have ci := (HA3.out.2 i hlt3).1
                    generalize hbi : B i = bi at *
                    have HBE2 := Lib.hid hbi
                    clear hbi
                    by_cases hbad : isL s[i].toNat = true ∧ bi = false
                    · have hl := hbad.1
                      obtain rfl := hbad.2
                      have HNO : Hid (¬ RightN W H (at_ s)) := Lib.hid (fun h => by
                        obtain ⟨a', r', hp', hj'⟩ := h.lanes
                        have hpr := HPR.out
                        rw [hp'] at hpr
                        injection hpr with e1 e2
                        subst e1 e2
                        have := HBI.out.2 (hj' i (by rw [← hp']; exact mem_pick.2 ⟨HIN.out, by rw [← HZ.out]; exact hl⟩))
                        cases this)
                      clear hbad
                      go_wp2_with (go_at_call 65; refine (rlane_w _ true _ hl).mono ?_; rintro e w' ⟨rfl, rfl⟩)
                      go_ret
                      exact ⟨false, rfl, iff_of_false (by decide) (by rw [HR.out]; exact HNO.out), HB3.out.below⟩
                    · have HL3 : Hid (isL (at_ s i) = true → bi = true) := Lib.hid (fun h => by
                        rw [← HZ.out] at h
                        cases bi
                        · exact absurd ⟨h, rfl⟩ hbad
                        · rfl)
                      have HBE := Lib.hid (fun wx => rbeside_any W H i s wx HS.out.w1 HS.out.w2 HS.out.h1 HS.out.h2 HIN.out)
                      have HSL := Lib.hid (side_len W H i)
                      go_upto_region 28 with (fail)
                      go_cut [123] (fun t wc => t = .bool false ∧ wc = wi)
                      case first =>
                        cases hl : isL s[i].toNat with
                        | false =>
                          go_wp2_with (go_at_call 65; refine (rlane_w _ false _ hl).mono ?_; rintro e w' ⟨rfl, rfl⟩)
                          go_meet
                          exact ⟨rfl, rfl⟩
                        | true =>
                          obtain rfl : bi = true := HL3.out (by rw [← HZ.out]; exact hl)
                          go_wp2_with (go_at_call 65; refine (rlane_w _ true _ hl).mono ?_; rintro e w' ⟨rfl, rfl⟩)
                          go_meet
                          exact ⟨rfl, rfl⟩
                      case rest =>
                        obtain ⟨rfl, rfl⟩ := hcut
                        clear ci hbad
                        go_wp2_with fail
                        refine (HBE.out _).mono ?_
                        rintro e w4 ⟨A4, n4, c4, rfl, hn4, ho4, hb4⟩
                        have HB4 := Lib.hid (HB3.out.after hb4)
                        have HA4 := Lib.hid (HA3.out.later hb4)
                        have HO4 := Lib.hid ho4
                        have HN4 := Lib.hid hn4
                        have hn44 : n4 ≤ 4 := by rw [hn4]; exact HSL.out
                        have hin4 : Hid (∀ b, b ∈ side W H i → b < s.size) := Lib.hid (fun b hb => by rw [HSZ.out]; exact side_lt HS.out.w1 HIN.out hb)
                        clear k0 k1 k2 hn4 ho4 hb4 HBE
                        go_wp2_with fail
                        go_loopw [12, 13] (fun tv kv wr => ∃ k : Nat, k ≤ n4 ∧ kv = .int .i64 (k : Int) ∧ tv = .bool (anyL (at_ s) ((side W H i).take k)) ∧ Box w W H s wr ∧ Arr g s.size B wr ∧ Own wr wc.heap.size (.slice A4 n4 c4) (side W H i)) (fun _ kv _ => n4 - (intOf kv).toNat)
                        case atStart => exact ⟨0, Nat.zero_le _, rfl, rfl, HB4.out, HA4.out, HO4.out⟩
                        case round =>
                          rename World => wk
                          obtain ⟨k, hk, rfl, rfl, hB5, hA5, hO5⟩ := hrel
                          have HB5 := Lib.hid hB5
                          have HA5 := Lib.hid hA5
                          have HO5 := Lib.hid hO5
                          have q2 := hB5.c2
                          have hz5 := hB5.lt
                          clear hB5 hA5 hO5
                          by_cases hlt5 : k < n4
                          · have hkL : k < (side W H i).length := by rw [← HN4.out]; exact hlt5
                            obtain ⟨g5, rfl, hg5, hc5⟩ := HO5.out.at k hkL
                            have hys := hin4.out _ (getD_mem hkL)
                            have HTK : Hid ((side W H i).take (k + 1) = (side W H i).take k ++ [(side W H i).getD k 0]) := Lib.hid (by rw [List.take_succ_eq_append_getElem hkL, List.getD, List.getElem?_eq_getElem hkL]; rfl)
                            generalize (side W H i).getD k 0 = y at *
                            have HAN := Lib.hid (anyL_snoc (at_ s) ((side W H i).take k) y)
                            have HZY := Lib.hid (at_get s y hys)
                            clear hkL
                            cases han : anyL (at_ s) ((side W H i).take k) with
                            | true =>
                              have HT6 : Hid (anyL (at_ s) ((side W H i).take (k + 1)) = true) := Lib.hid (by rw [HTK.out, HAN.out, han]; rfl)
                              clear han
                              go_wp2_with fail
                              go_big_quiet (fail)
                              go_wp2_with fail
                              go_roundw
                              case rel => exact ⟨k + 1, by omega, by go_num, by rw [HT6.out], HB5.out.later (below_drewN _ _ _), HA5.out.later (below_drewN _ _ _), HO5.out.later (below_drewN _ _ _)⟩
                              case measure => simp [intOf]; omega
                            | false =>
                              cases hl : isL s[y].toNat with
                              | true =>
                                have HT6 : Hid (anyL (at_ s) ((side W H i).take (k + 1)) = true) := Lib.hid (by rw [HTK.out, HAN.out, han, ← HZY.out, hl]; rfl)
                                clear han
                                go_wp2_with fail
                                go_big_quiet ((go_at_call 65; exact Calls.quiet_of_same (rlane_is _ true _ hl)))
                                go_wp2_with fail
                                go_roundw
                                case rel => exact ⟨k + 1, by omega, by go_num, by rw [HT6.out], HB5.out.later (below_drewN _ _ _), HA5.out.later (below_drewN _ _ _), HO5.out.later (below_drewN _ _ _)⟩
                                case measure => simp [intOf]; omega
                              | false =>
                                have HT6 : Hid (anyL (at_ s) ((side W H i).take (k + 1)) = false) := Lib.hid (by rw [HTK.out, HAN.out, han, ← HZY.out, hl]; rfl)
                                clear han
                                go_wp2_with fail
                                go_big_quiet ((go_at_call 65; exact Calls.quiet_of_same (rlane_is _ false _ hl)))
                                go_wp2_with fail
                                go_roundw
                                case rel => exact ⟨k + 1, by omega, by go_num, by rw [HT6.out], HB5.out.later (below_drewN _ _ _), HA5.out.later (below_drewN _ _ _), HO5.out.later (below_drewN _ _ _)⟩
                                case measure => simp [intOf]; omega
                          · obtain rfl : k = n4 := by omega
                            have HTF : Hid (anyL (at_ s) ((side W H i).take k) = true ↔ ByLane W H (at_ s) i) := Lib.hid (by rw [List.take_of_length_le (by rw [← HN4.out]; exact Nat.le_refl _)]; exact anyL_iff W H (at_ s) i)
                            generalize anyL (at_ s) ((side W H i).take k) = an at *
                            cases hd : isD s[i].toNat with
                            | false =>
                              go_wp2_with (go_at_call 64; refine (rdock_is _ false _ hd).mono ?_; rintro e w' ⟨rfl, rfl⟩)
                              go_roundw
                              case rel => exact ⟨i + 1, by omega, by go_num, HB5.out, HA5.out, fun j hj => by
                                rcases Nat.lt_succ_iff_lt_or_eq.1 hj with h | h
                                · exact HJ3.out j h
                                · subst h
                                  exact ⟨fun h => by rw [HBE2.out]; exact HL3.out h, fun h => by rw [← HZ.out, hd] at h; cases h⟩⟩
                              case measure => simp [intOf]; omega
                            | true =>
                              cases an
                              · have HNO : Hid (¬ RightN W H (at_ s)) := Lib.hid (fun h => by
                                  have := HTF.out.2 (h.docks.near i (mem_pick.2 ⟨HIN.out, by rw [← HZ.out]; exact hd⟩))
                                  cases this)
                                go_wp2_with (go_at_call 64; refine (rdock_is _ true _ hd).mono ?_; rintro e w' ⟨rfl, rfl⟩)
                                go_ret
                                exact ⟨false, rfl, iff_of_false (by decide) (by rw [HR.out]; exact HNO.out), HB5.out.below⟩
                              · go_wp2_with (go_at_call 64; refine (rdock_is _ true _ hd).mono ?_; rintro e w' ⟨rfl, rfl⟩)
                                go_roundw
                                case rel => exact ⟨i + 1, by omega, by go_num, HB5.out, HA5.out, fun j hj => by
                                  rcases Nat.lt_succ_iff_lt_or_eq.1 hj with h | h
                                  · exact HJ3.out j h
                                  · subst h
                                    exact ⟨fun h => by rw [HBE2.out]; exact HL3.out h, fun _ => HTF.out.1 (by trivial)⟩⟩
                                case measure => simp [intOf]; omega
                  · obtain rfl : i = s.size := by omega
                    have HYS : Hid (RightN W H (at_ s)) := Lib.hid ⟨HOKS.out, (docks_all HON.out (fun d hd => (HJ3.out d (by rw [HSZ.out]; exact (docks_isD hd).1)).2 (docks_isD hd).2)).2 (by have := HN.out; omega), ⟨a, r, HPR.out, fun l hl => by
                      have h2 := mem_pick.1 (by rw [HPR.out]; exact hl : l ∈ pick isL (at_ s) (W * H))
                      have h3 : l < s.size := by rw [HSZ.out]; exact h2.1
                      exact (HBR.out l h3).1 ((HJ3.out l h3).1 h2.2)⟩⟩
                    go_wp2_with fail
                    go_ret
                    exact ⟨true, rfl, iff_of_true rfl (by rw [HR.out]; exact HYS.out), HB3.out.below⟩

theorem rright_any (W H : Int) (s : ByteArray) (hs : s.size ≤ maxLen) (w : World) :
    Calls Tryd.prog 44 #[.agg #[.int .i64 W, .int .i64 H, .string s]] w (Told (Right W H s) w) := by
  by_cases h : ∃ a b : Nat, W = a ∧ H = b ∧ Sides a b s
  · obtain ⟨a, b, rfl, rfl, hS⟩ := h
    exact rright_in a b s w hS
  · exact rright_sides W H s hs w h

end Go.Proofs.YtaioiobimenkfaaDoor
