/-
  The document's answers for layer 3: Robots, Lanes, Dock, Zone.
-/
import Derived.Test.YtcbhjopmafhanaaDoorFlR3
import Derived.Test.YtcbhjopmafhanaaDoorFlT
set_option linter.unusedVariables false
namespace Go.Proofs.YtcbhjopmafhanaaDoor
open Go.RowKit Fl

set_option maxHeartbeats 2000000 in
theorem rrobots_any (W H : Int) (s : ByteArray) (hs : s.size ≤ maxLen) (w : World) :
    Calls Tryd.prog 22 #[.agg #[.int .i64 W, .int .i64 H, .string s]] w (NumTold (Right W H s) (pick isD (at_ s) s.size).length 0 w) := by
  have hs' := hs
  unfold maxLen at hs'
  go_enter Tryd.func22, Tryd.ntmps22
  go_wp2_with fail
  go_loopw [3, 4] (fun nv iv wr => ∃ k : Nat, k ≤ s.size ∧ iv = .int .i64 (k : Int) ∧ nv = .int .i64 ((pick isD (at_ s) k).length : Int) ∧ Box w W H s wr ∧ (0 < k → Right W H s)) (fun _ iv _ => s.size - (intOf iv).toNat)
  case atStart => exact ⟨0, Nat.zero_le _, rfl, rfl, Box.start w W H s 24, fun h => by omega⟩
  case round =>
    rename World => wr
    obtain ⟨k, hk, rfl, rfl, hB, hR⟩ := hrel
    have HB := Lib.hid hB
    have HR := Lib.hid hR
    have k0 := hB.c0
    have k1 := hB.c1
    have k2 := hB.c2
    have hpd := pick_le isD (at_ s) k
    clear hB hR
    by_cases hlt : k < s.size
    · go_wp2_with fail
      refine (rright_any W H s hs _).mono ?_
      rintro e w2 ⟨b, rfl, hb, hbw⟩
      have HB2 := Lib.hid (HB.out.after hbw)
      have HRb := Lib.hid hb
      have q2 := HB2.out.c2
      clear hb hbw k0 k1 k2
      cases b
      · have HN : Hid (¬ Right W H s) := Lib.hid (fun h => by have := HRb.out.2 h; cases this)
        have HK : Hid (k = 0) := Lib.hid (by
          rcases Nat.eq_zero_or_pos k with h | h
          · exact h
          · exact absurd (HR.out h) HN.out)
        have HP : Hid ((pick isD (at_ s) k).length = 0) := Lib.hid (by rw [HK.out]; rfl)
        go_wp2_with fail
        go_ret
        exact ⟨_, rfl, fun h => absurd h HN.out, fun _ => HP.out, HB2.out.below⟩
      · have HY : Hid (Right W H s) := Lib.hid (HRb.out.1 (by trivial))
        have HPD := Lib.hid (pick_succ isD (at_ s) k)
        have HZ := Lib.hid (at_get s k hlt)
        cases hd : isD s[k].toNat with
        | true =>
          have HL : Hid ((((pick isD (at_ s) (k + 1)).length : Nat) : Int) = ((pick isD (at_ s) k).length : Int) + 1) := Lib.hid (by rw [HPD.out, if_pos (by rw [← HZ.out]; exact hd), List.length_append]; rfl)
          go_wp2_with (go_at_call 37; refine (rdock_is _ true _ hd).mono ?_; rintro e w' ⟨rfl, rfl⟩)
          go_roundw
          case rel => exact ⟨k + 1, by omega, by go_num, by rw [HL.out], HB2.out, fun _ => HY.out⟩
          case measure => simp [intOf]; omega
        | false =>
          have HL : Hid ((((pick isD (at_ s) (k + 1)).length : Nat) : Int) = ((pick isD (at_ s) k).length : Int)) := Lib.hid (by rw [HPD.out, if_neg (by rw [← HZ.out, hd]; decide), List.append_nil])
          go_wp2_with (go_at_call 37; refine (rdock_is _ false _ hd).mono ?_; rintro e w' ⟨rfl, rfl⟩)
          go_roundw
          case rel => exact ⟨k + 1, by omega, by go_num, by rw [HL.out], HB2.out, fun _ => HY.out⟩
          case measure => simp [intOf]; omega
    · obtain rfl : k = s.size := by omega
      have HP : Hid (¬ Right W H s → (pick isD (at_ s) s.size).length = 0) := Lib.hid (fun h => by
        rcases Nat.eq_zero_or_pos s.size with e | e
        · rw [e]; rfl
        · exact absurd (HR.out e) h)
      go_wp2_with fail
      go_ret
      exact ⟨_, rfl, fun _ => rfl, HP.out, HB.out.below⟩

set_option maxHeartbeats 2000000 in
theorem rlanes_any (W H : Int) (s : ByteArray) (hs : s.size ≤ maxLen) (w : World) :
    Calls Tryd.prog 27 #[.agg #[.int .i64 W, .int .i64 H, .string s]] w (IntsIf (Right W H s) (pick isL (at_ s) s.size) w) := by
  have hs' := hs
  unfold maxLen at hs'
  go_enter Tryd.func27, Tryd.ntmps27
  go_wp2_with fail
  go_loopw [3, 4] (fun v iv wr => ∃ k : Nat, k ≤ s.size ∧ iv = .int .i64 (k : Int) ∧ Part w W H s (pick isL (at_ s) k) v wr ∧ (0 < k → Right W H s)) (fun _ iv _ => s.size - (intOf iv).toNat)
  case atStart => exact ⟨0, Nat.zero_le _, rfl, ⟨_, _, _, rfl, rfl, Own.nil _ _, Box.start w W H s 24⟩, fun h => by omega⟩
  case round =>
    rename World => wr
    obtain ⟨k, hk, rfl, ⟨a, n, c, rfl, hn, ho, hB⟩, hR⟩ := hrel
    have HB := Lib.hid hB
    have HR := Lib.hid hR
    have HO := Lib.hid ho
    have HN := Lib.hid hn
    have k0 := hB.c0
    have k1 := hB.c1
    have k2 := hB.c2
    have hpd := pick_le isL (at_ s) k
    clear hB hR ho hn
    generalize hpq : pick isL (at_ s) k = l at *
    have HPQ := Lib.hid hpq
    clear hpq
    by_cases hlt : k < s.size
    · go_wp2_with fail
      refine (rright_any W H s hs _).mono ?_
      rintro e w2 ⟨b, rfl, hb, hbw⟩
      have HB2 := Lib.hid (HB.out.after hbw)
      have HO2 := Lib.hid (HO.out.later hbw)
      have HRb := Lib.hid hb
      have q2 := HB2.out.c2
      have hz := HB2.out.lt
      clear hb hbw k0 k1 k2
      cases b
      · have HNo : Hid (¬ Right W H s) := Lib.hid (fun h => by have := HRb.out.2 h; cases this)
        have HK : Hid (l = []) := Lib.hid (by
          rcases Nat.eq_zero_or_pos k with h | h
          · rw [← HPQ.out, h]; rfl
          · exact absurd (HR.out h) HNo.out)
        go_wp2_with fail
        go_ret
        exact ⟨a, n, c, l, rfl, HN.out, fun h => absurd h HNo.out, fun _ => HK.out, HO2.out.lower (Nat.le_succ _), HB2.out.below⟩
      · have HY : Hid (Right W H s) := Lib.hid (HRb.out.1 (by trivial))
        have h256 := rightLe HY.out
        have HPD := Lib.hid (pick_succ isL (at_ s) k)
        rw [HPQ.out] at HPD
        have HZ := Lib.hid (at_get s k hlt)
        cases hd : isL s[k].toNat with
        | true =>
          have HL : Hid (pick isL (at_ s) (k + 1) = l ++ [k]) := Lib.hid (by rw [HPD.out, if_pos (by rw [← HZ.out]; exact hd)])
          go_wp2_with (first | (go_at_call 38; refine (rlane_w _ true _ hd).mono ?_; rintro e w' ⟨rfl, rfl⟩) | (at_builtin; refine app_int rfl _ _ rfl (w.heap.size + 1) _ l rfl k _ rfl _ rfl HO2.out rfl (by omega) hz ?_; intro A' c' n' w3 hn3 ho3 hb3 hg3; have HN3 := Lib.hid hn3; clear hn3))
          go_roundw
          case rel => exact ⟨k + 1, by omega, by go_num, by rw [HL.out]; exact Part.add HB2.out HN3.out ho3 hb3, fun _ => HY.out⟩
          case measure => simp [intOf]; omega
        | false =>
          have HL : Hid (pick isL (at_ s) (k + 1) = l) := Lib.hid (by rw [HPD.out, if_neg (by rw [← HZ.out, hd]; decide), List.append_nil])
          go_wp2_with (go_at_call 38; refine (rlane_w _ false _ hd).mono ?_; rintro e w' ⟨rfl, rfl⟩)
          go_roundw
          case rel => exact ⟨k + 1, by omega, by go_num, by rw [HL.out]; exact ⟨_, _, _, rfl, HN.out, HO2.out, HB2.out⟩, fun _ => HY.out⟩
          case measure => simp [intOf]; omega
    · obtain rfl : k = s.size := by omega
      have HP : Hid (¬ Right W H s → l = []) := Lib.hid (fun h => by
        rcases Nat.eq_zero_or_pos s.size with e | e
        · rw [← HPQ.out, e]; rfl
        · exact absurd (HR.out e) h)
      go_wp2_with fail
      go_ret
      exact ⟨a, n, c, l, rfl, HN.out, fun _ => HPQ.out.symm, HP.out, HO.out.lower (Nat.le_succ _), HB.out.below⟩

theorem cn_high {z : Nat → Nat} {W H : Nat} (h : DocksOk W H z) (q : Nat) (hq : q < 8) (hn : (docks W H z).length ≤ q) : cn z (docks W H z) q = 0 := by
  have hs := cn_sum z (docks W H z) (fun x hx => (docks_isD hx).2)
  have e : ∀ r, r < (docks W H z).length → cn z (docks W H z) r = 1 := fun r hr => by rw [cn_docks W H z r (by have := h.few; omega)]; exact h.once r hr
  have h8 : q = 0 ∨ q = 1 ∨ q = 2 ∨ q = 3 ∨ q = 4 ∨ q = 5 ∨ q = 6 ∨ q = 7 := by omega
  have hl : ∀ m, m = (docks W H z).length → m = 0 ∨ m = 1 ∨ m = 2 ∨ m = 3 ∨ m = 4 ∨ m = 5 ∨ m = 6 ∨ m = 7 := fun m hm => by omega
  have e0 := e 0
  have e1 := e 1
  have e2 := e 2
  have e3 := e 3
  have e4 := e 4
  have e5 := e 5
  have e6 := e 6
  have e7 := e 7
  clear e
  generalize (docks W H z).length = m at *
  rcases hl m rfl with rfl | rfl | rfl | rfl | rfl | rfl | rfl | rfl <;> rcases h8 with rfl | rfl | rfl | rfl | rfl | rfl | rfl | rfl <;> omega
/-- A dock's number is a robot's. -/
theorem dock_robot {W H : Int} {s : ByteArray} (h : Right W H s) {d r : Nat} (hd : d < s.size) (hz : at_ s d = 48 + r) (hr : r < 8) : r < (pick isD (at_ s) s.size).length := by
  obtain ⟨a, b, rfl, rfl, hS, hR⟩ := rightNat h
  rw [hS.sz] at hd ⊢
  show r < (docks a b (at_ s)).length
  rcases Nat.lt_or_ge r (docks a b (at_ s)).length with k | k
  · exact k
  · exfalso
    have h0 := cn_high hR.docks r hr k
    unfold cn at h0
    have hm : d ∈ (docks a b (at_ s)).filter fun i => at_ s i == 48 + r := List.mem_filter.2 ⟨mem_pick.2 ⟨hd, by rw [hz]; exact isD_mk hr⟩, by simpa using hz⟩
    rw [List.eq_nil_of_length_eq_zero h0] at hm
    cases hm

set_option maxHeartbeats 2000000 in
theorem rdock_of_any (W H : Int) (s : ByteArray) (hs : s.size ≤ maxLen) (r : Int) (w : World) :
    Calls Tryd.prog 18 #[.agg #[.int .i64 W, .int .i64 H, .string s], .int .i64 r] w (DockTold W H s r w) := by
  have hs' := hs
  unfold maxLen at hs'
  go_enter Tryd.func18, Tryd.ntmps18
  go_wp2_with fail
  go_loopw [6] (fun iv wr => ∃ k : Nat, k ≤ s.size ∧ iv = .int .i64 (k : Int) ∧ Box w W H s wr ∧ (0 < k → Right W H s) ∧ ∀ j, j < k → IsRobot W H s r → (at_ s j : Int) ≠ 48 + r) (fun iv _ => s.size - (intOf iv).toNat)
  case atStart => exact ⟨0, Nat.zero_le _, rfl, Box.start w W H s 24, fun h => by omega, fun j hj => by omega⟩
  case round =>
    rename World => wr
    obtain ⟨k, hk, rfl, hB, hR, hJ⟩ := hrel
    have HB := Lib.hid hB
    have HR := Lib.hid hR
    have HJ := Lib.hid hJ
    have k0 := hB.c0
    have k1 := hB.c1
    have k2 := hB.c2
    clear hB hR hJ
    by_cases hlt : k < s.size
    · go_wp2_with fail
      refine (rright_any W H s hs _).mono ?_
      rintro e w2 ⟨b, rfl, hb, hbw⟩
      have HB2 := Lib.hid (HB.out.after hbw)
      have HRb := Lib.hid hb
      have q2 := HB2.out.c2
      clear hb hbw k0 k1 k2
      cases b
      · have HN : Hid (¬ Right W H s) := Lib.hid (fun h => by have := HRb.out.2 h; cases this)
        go_wp2_with fail
        go_ret2
        exact ⟨0, false, rfl, fun h => absurd h.1 HN.out, fun _ => ⟨rfl, rfl⟩, HB2.out.below⟩
      · have HY : Hid (Right W H s) := Lib.hid (HRb.out.1 (by trivial))
        have HZ := Lib.hid (at_get s k hlt)
        cases hd : isD s[k].toNat with
        | true =>
          obtain ⟨q, hq8, hzq⟩ := isD_of hd
          have hq : ((s[k].toNat : Int) - 48) = (q : Int) := by rw [hzq]; omega
          have hlo : 48 ≤ s[k].toNat := by omega
          have hhi : s[k].toNat < 56 := by omega
          have HZQ : Hid (at_ s k = 48 + q) := Lib.hid (by rw [← HZ.out]; exact hzq)
          clear hzq
          by_cases he : (q : Int) = r
          · subst he
            have HI : Hid (IsRobot W H s ((q : Nat) : Int)) := Lib.hid ⟨HY.out, by omega, by have := dock_robot HY.out hlt HZQ.out hq8; omega⟩
            have HF : Hid (IsFirst s (48 + ((q : Nat) : Int).toNat) k) := Lib.hid ⟨hlt, by rw [HZQ.out]; rfl, fun j hj e => HJ.out j hj HI.out (by rw [e]; omega)⟩
            have hb : ((q : Int) == (q : Int)) = true := by simp
            go_wp2_with (go_at_call 37; refine (rdock_is _ true _ hd).mono ?_; rintro e w' ⟨rfl, rfl⟩)
            go_ret2
            exact ⟨k, true, rfl, fun _ => ⟨HF.out, rfl⟩, fun h => absurd HI.out h, HB2.out.below⟩
          · have hb : ((q : Int) == r) = false := by rw [beq_eq_false_iff_ne]; exact he
            have HJ2 : Hid (∀ j, j < k + 1 → IsRobot W H s r → (at_ s j : Int) ≠ 48 + r) := Lib.hid (fun j hj hi e => by
              rcases Nat.lt_succ_iff_lt_or_eq.1 hj with h | h
              · exact HJ.out j h hi e
              · subst h; rw [HZQ.out] at e; apply he; omega)
            clear he
            go_wp2_with (go_at_call 37; refine (rdock_is _ true _ hd).mono ?_; rintro e w' ⟨rfl, rfl⟩)
            go_roundw
            case rel => exact ⟨k + 1, by omega, by go_num, HB2.out, fun _ => HY.out, HJ2.out⟩
            case measure => simp [intOf]; omega
        | false =>
          have HJ2 : Hid (∀ j, j < k + 1 → IsRobot W H s r → (at_ s j : Int) ≠ 48 + r) := Lib.hid (fun j hj hi e => by
            rcases Nat.lt_succ_iff_lt_or_eq.1 hj with h | h
            · exact HJ.out j h hi e
            · subst h
              obtain ⟨h1, h2, h3⟩ := hi
              have h8 := (right_first h1 r.toNat (by omega)).1
              rw [HZ.out, show at_ s j = 48 + r.toNat by omega, isD_mk h8] at hd
              cases hd)
          go_wp2_with (go_at_call 37; refine (rdock_is _ false _ hd).mono ?_; rintro e w' ⟨rfl, rfl⟩)
          go_roundw
          case rel => exact ⟨k + 1, by omega, by go_num, HB2.out, fun _ => HY.out, HJ2.out⟩
          case measure => simp [intOf]; omega
    · obtain rfl : k = s.size := by omega
      have HN : Hid (¬ IsRobot W H s r) := Lib.hid (fun h => by
        obtain ⟨h1, d, h2, h3, _⟩ := right_first h.1 r.toNat (by have := h.2.1; have := h.2.2; omega)
        exact HJ.out d h2 h (by rw [h3]; have := h.2.1; omega))
      go_wp2_with fail
      go_ret2
      exact ⟨0, false, rfl, fun h => absurd h HN.out, fun _ => ⟨rfl, rfl⟩, HB.out.below⟩

set_option maxHeartbeats 2000000 in
theorem rzone_any (W H : Int) (s : ByteArray) (hs : s.size ≤ maxLen) (c : Int) (w : World) :
    Calls Tryd.prog 20 #[.agg #[.int .i64 W, .int .i64 H, .string s], .int .i64 c] w (PairTold (OnLane W H s c) (bAt s c - 97) w) := by
  have hs' := hs
  unfold maxLen at hs'
  by_cases h0 : 0 ≤ c ∧ c < s.size
  · obtain ⟨k, rfl⟩ := Int.eq_ofNat_of_zero_le h0.1
    have hk : k < s.size := by omega
    have d0 : decide ((k : Int) < 0) = false := by simp
    have HBA : Hid (bAt s (k : Int) = at_ s k) := Lib.hid (by unfold bAt; rw [if_pos (by omega), Int.toNat_natCast])
    have HZ := Lib.hid (at_get s k hk)
    clear h0
    go_enter Tryd.func20, Tryd.ntmps20
    go_wp2_with fail
    refine (rright_any W H s hs _).mono ?_
    rintro e w1 ⟨b, rfl, hb, hbw⟩
    have HB := Lib.hid ((Box.start w W H s 24).after hbw)
    have HR := Lib.hid hb
    have e2 := HB.out.c2
    clear hb hbw
    cases b
    · go_wp2_with fail
      go_ret2
      exact ⟨0, false, rfl, (fun h => by have := HR.out.2 h.1; cases this), fun _ => ⟨rfl, rfl⟩, HB.out.below⟩
    · have HRR : Hid (Right W H s) := Lib.hid (HR.out.1 (by trivial))
      cases hl : isL s[k].toNat with
      | false =>
        go_wp2_with (go_at_call 38; refine (rlane_w _ false _ hl).mono ?_; rintro e w' ⟨rfl, rfl⟩)
        go_ret2
        exact ⟨0, false, rfl, (fun h => by have h2 := h.2; rw [HBA.out, ← HZ.out, hl] at h2; cases h2), fun _ => ⟨rfl, rfl⟩, HB.out.below⟩
      | true =>
        have hlo : 97 ≤ s[k].toNat := by have h2 := hl; unfold isL at h2; simp only [Bool.and_eq_true, decide_eq_true_eq] at h2; exact h2.1
        have hhi : s[k].toNat < 123 := by have h2 := hl; unfold isL at h2; simp only [Bool.and_eq_true, decide_eq_true_eq] at h2; exact h2.2
        have HOL : Hid (OnLane W H s (k : Int)) := Lib.hid ⟨HRR.out, by rw [HBA.out, ← HZ.out]; exact hl⟩
        go_wp2_with (go_at_call 38; refine (rlane_w _ true _ hl).mono ?_; rintro e w' ⟨rfl, rfl⟩)
        go_ret2
        exact ⟨at_ s k - 97, true, ret_two (by rw [← HZ.out]; omega) rfl, fun _ => ⟨by rw [HBA.out], rfl⟩, fun h => absurd HOL.out h, HB.out.below⟩
  · have HN : Hid (¬ OnLane W H s c) := Lib.hid (fun h => by
      have h2 := h.2
      unfold bAt at h2
      rw [if_neg h0] at h2
      cases h2)
    by_cases h1 : c < 0
    · have d0 : decide (c < 0) = true := by simpa using h1
      clear h0
      go_enter Tryd.func20, Tryd.ntmps20
      go_wp2_with fail
      go_ret2
      exact ⟨0, false, rfl, fun h => absurd h HN.out, fun _ => ⟨rfl, rfl⟩, (Below.refl _ _).alloc (Nat.le_refl _) _⟩
    · have d0 : decide (c < 0) = false := by simpa using h1
      have d1 : decide ((s.size : Int) ≤ c) = true := by simp; omega
      clear h0
      go_enter Tryd.func20, Tryd.ntmps20
      go_wp2_with fail
      go_ret2
      exact ⟨0, false, rfl, fun h => absurd h HN.out, fun _ => ⟨rfl, rfl⟩, (Below.refl _ _).alloc (Nat.le_refl _) _⟩

end Go.Proofs.YtcbhjopmafhanaaDoor
