/-
  The cells whose bytes are so; the byte at a cell; whether a lane is beside a cell.
-/
import Derived.Test.YtokjnmgbgflgnaaGreatDoorFlB
set_option linter.unusedVariables false
set_option maxRecDepth 100000
namespace Go.Proofs.YtokjnmgbgflgnaaGreatDoor
open Go.RowKit Fl

set_option maxHeartbeats 1000000 in
theorem cellsLane_any (W H : Int) (s : ByteArray) (hs : s.size ≤ 256) (w : World) :
    Calls Tryz.prog 59 #[.agg #[.int .i64 W, .int .i64 H, .string s], .func (.func 48) #[] #[]] w (Ints (pick isL (at_ s) s.size) w) := by
  go_enter Tryz.func59, Tryz.ntmps59
  go_wp2
  go_loopw [5, 10] (fun v i wr => ∃ k : Nat, k ≤ s.size ∧ i = .int .i64 (k : Int) ∧ Part w W H s (pick isL (at_ s) k) v wr) (fun _ i _ => s.size - (intOf i).toNat)
  case atStart => exact ⟨0, Nat.zero_le _, rfl, _, _, _, rfl, rfl, Own.nil _ _, Box.start w W H s 23⟩
  case round =>
    obtain ⟨k, hk, rfl, a, n, cap, rfl, hn, ho, hB⟩ := hrel
    have hpl := pick_le isL (at_ s) k
    have HP := Lib.hid (pick_succ isL (at_ s) k)
    have kk := hB.c2
    have hsz := hB.lt
    have HO := Lib.hid ho
    have HB := Lib.hid hB
    have HN := Lib.hid hn
    clear ho hB hn
    generalize hq : pick isL (at_ s) k = l at *
    have HQ := Lib.hid hq
    clear hq
    by_cases hlt : k < s.size
    · have HZ := Lib.hid (at_get s k hlt)
      cases h1 : isL s[k].toNat with
      | true =>
        have HT : Hid (pick isL (at_ s) (k + 1) = l ++ [k]) := Lib.hid (by rw [HP.out, if_pos (by rw [← HZ.out]; exact h1)])
        go_wp2_with (first | (go_at_call 48; refine (isLane_any _ _).mono ?_; rintro e w' ⟨rfl, rfl⟩) | (at_builtin; refine app_int rfl _ _ rfl (w.heap.size + 1) _ l rfl k _ rfl _ rfl HO.out rfl (by omega) (by omega) ?_; intro A' c' n' w2 hn2 ho2 hb2 hg2; have HN2 := Lib.hid hn2; clear hn2))
        go_roundw
        case rel => exact ⟨k + 1, by omega, by go_num, by rw [HT.out]; exact Part.add HB.out HN2.out ho2 hb2⟩
        case measure => simp [intOf]; omega
      | false =>
        have HT : Hid (pick isL (at_ s) (k + 1) = l) := Lib.hid (by rw [HP.out, if_neg (by rw [← HZ.out, h1]; decide), List.append_nil])
        go_wp2_with (go_at_call 48; refine (isLane_any _ _).mono ?_; rintro e w' ⟨rfl, rfl⟩)
        go_roundw
        case rel => exact ⟨k + 1, by omega, by go_num, by rw [HT.out]; exact ⟨_, _, _, rfl, HN.out, HO.out, HB.out⟩⟩
        case measure => simp [intOf]; omega
    · obtain rfl : k = s.size := by omega
      go_wp2
      go_ret
      exact ⟨_, _, _, rfl, by rw [HQ.out]; exact HN.out, by rw [HQ.out]; exact HO.out.lower (Nat.le_succ _), HB.out.below⟩

set_option maxHeartbeats 1000000 in
theorem cellsDock_any (W H : Int) (s : ByteArray) (hs : s.size ≤ 256) (w : World) :
    Calls Tryz.prog 59 #[.agg #[.int .i64 W, .int .i64 H, .string s], .func (.func 70) #[] #[]] w (Ints (pick isD (at_ s) s.size) w) := by
  go_enter Tryz.func59, Tryz.ntmps59
  go_wp2
  go_loopw [5, 10] (fun v i wr => ∃ k : Nat, k ≤ s.size ∧ i = .int .i64 (k : Int) ∧ Part w W H s (pick isD (at_ s) k) v wr) (fun _ i _ => s.size - (intOf i).toNat)
  case atStart => exact ⟨0, Nat.zero_le _, rfl, _, _, _, rfl, rfl, Own.nil _ _, Box.start w W H s 23⟩
  case round =>
    obtain ⟨k, hk, rfl, a, n, cap, rfl, hn, ho, hB⟩ := hrel
    have hpl := pick_le isD (at_ s) k
    have HP := Lib.hid (pick_succ isD (at_ s) k)
    have kk := hB.c2
    have hsz := hB.lt
    have HO := Lib.hid ho
    have HB := Lib.hid hB
    have HN := Lib.hid hn
    clear ho hB hn
    generalize hq : pick isD (at_ s) k = l at *
    have HQ := Lib.hid hq
    clear hq
    by_cases hlt : k < s.size
    · have HZ := Lib.hid (at_get s k hlt)
      cases h1 : isD s[k].toNat with
      | true =>
        have HT : Hid (pick isD (at_ s) (k + 1) = l ++ [k]) := Lib.hid (by rw [HP.out, if_pos (by rw [← HZ.out]; exact h1)])
        go_wp2_with (first | (go_at_call 70; refine (isDock_any _ _).mono ?_; rintro e w' ⟨rfl, rfl⟩) | (at_builtin; refine app_int rfl _ _ rfl (w.heap.size + 1) _ l rfl k _ rfl _ rfl HO.out rfl (by omega) (by omega) ?_; intro A' c' n' w2 hn2 ho2 hb2 hg2; have HN2 := Lib.hid hn2; clear hn2))
        go_roundw
        case rel => exact ⟨k + 1, by omega, by go_num, by rw [HT.out]; exact Part.add HB.out HN2.out ho2 hb2⟩
        case measure => simp [intOf]; omega
      | false =>
        have HT : Hid (pick isD (at_ s) (k + 1) = l) := Lib.hid (by rw [HP.out, if_neg (by rw [← HZ.out, h1]; decide), List.append_nil])
        go_wp2_with (go_at_call 70; refine (isDock_any _ _).mono ?_; rintro e w' ⟨rfl, rfl⟩)
        go_roundw
        case rel => exact ⟨k + 1, by omega, by go_num, by rw [HT.out]; exact ⟨_, _, _, rfl, HN.out, HO.out, HB.out⟩⟩
        case measure => simp [intOf]; omega
    · obtain rfl : k = s.size := by omega
      go_wp2
      go_ret
      exact ⟨_, _, _, rfl, by rw [HQ.out]; exact HN.out, by rw [HQ.out]; exact HO.out.lower (Nat.le_succ _), HB.out.below⟩

/-- The byte at a cell, or a wall's. -/
def bAt (s : ByteArray) (c : Int) : Nat := if 0 ≤ c ∧ c < s.size then at_ s c.toNat else 35
/-- A byte is told. -/
def ByteTold (n : Nat) (w : World) (e : Ending) (w' : World) : Prop := e = .returned (.int .u8 (n : Int)) ∧ Below w.heap.size w w'
theorem byteAt_any (W H : Int) (s : ByteArray) (hs : s.size ≤ 256) (c : Int) (w : World) :
    Calls Tryz.prog 46 #[.agg #[.int .i64 W, .int .i64 H, .string s], .int .i64 c] w (ByteTold (bAt s c) w) := by
  by_cases h0 : c < 0
  · have d0 : decide (c < 0) = true := by simpa using h0
    have HH : Hid (bAt s c = 35) := Lib.hid (by unfold bAt; rw [if_neg (by omega)])
    go_enter Tryz.func46, Tryz.ntmps46
    go_wp2
    go_ret
    exact ⟨ret_int (by rw [HH.out]; rfl), (Below.refl _ _).alloc (Nat.le_refl _) _⟩
  · obtain ⟨k, rfl⟩ := Int.eq_ofNat_of_zero_le (by omega : 0 ≤ c)
    have d0 : decide ((k : Int) < 0) = false := by simp
    by_cases h1 : k < s.size
    · have HH : Hid (((bAt s (k : Int) : Nat) : Int) = s[k].toNat) := Lib.hid (by unfold bAt; rw [if_pos (by omega), Int.toNat_natCast, ← at_get s k h1])
      go_enter Tryz.func46, Tryz.ntmps46
      go_wp2
      go_ret
      exact ⟨ret_int HH.out.symm, (Below.refl _ _).alloc (Nat.le_refl _) _⟩
    · have HH : Hid (bAt s (k : Int) = 35) := Lib.hid (by unfold bAt; rw [if_neg (by omega)])
      go_enter Tryz.func46, Tryz.ntmps46
      go_wp2
      go_ret
      exact ⟨ret_int (by rw [HH.out]; rfl), (Below.refl _ _).alloc (Nat.le_refl _) _⟩

set_option maxHeartbeats 1000000 in
theorem besideLane_any (W H c : Nat) (s : ByteArray) (w : World) (hS : Sides W H s) (hc : c < W * H) :
    Calls Tryz.prog 96 #[.agg #[.int .i64 (W : Int), .int .i64 (H : Int), .string s], .int .i64 (c : Int)] w (Told (ByLane W H (at_ s) c) w) := by
  have h256 := hS.le
  have hin : ∀ b, b ∈ side W H c → b < s.size := fun b hb => by rw [hS.sz]; exact side_lt hS.w1 hc hb
  have HS := Lib.hid hS
  have HC := Lib.hid hc
  have HI := Lib.hid hin
  have HL := Lib.hid (side_len W H c)
  clear hS hc hin
  go_enter Tryz.func96, Tryz.ntmps96
  go_wp2_with fail
  refine (beside_any W H c s _ HS.out.w1 HS.out.w2 HS.out.h1 HS.out.h2 HC.out).mono ?_
  rintro e w1 ⟨a, n, cap, rfl, hn, ho, hb⟩
  have HB := Lib.hid ((Box.start w (W : Int) (H : Int) s 23).after hb)
  have kk := HB.out.c2
  have hn4 : n ≤ 4 := by rw [hn]; exact HL.out
  have HO := Lib.hid ho
  have HN := Lib.hid hn
  clear ho hn hb
  go_wp2
  go_loop [11] (fun i => ∃ k : Nat, k ≤ n ∧ i = .int .i64 (k : Int) ∧ ∀ j, j < k → isL (at_ s ((side W H c).getD j 0)) = false) (fun i => n - (intOf i).toNat)
  case atStart => exact ⟨0, Nat.zero_le _, rfl, fun j hj => by omega⟩
  case round =>
    obtain ⟨k, hk, rfl, hj⟩ := hrel
    have HJ := Lib.hid hj
    clear hj
    by_cases hlt : k < n
    · have hlt' : k < (side W H c).length := by rw [← HN.out]; exact hlt
      obtain ⟨g, rfl, hg, hcell⟩ := HO.out.at k hlt'
      have hmem : (side W H c).getD k 0 ∈ side W H c := by rw [List.getD, List.getElem?_eq_getElem hlt']; exact List.getElem_mem hlt'
      have hin := HI.out _ hmem
      have HM := Lib.hid hmem
      obtain ⟨b, hbq⟩ : ∃ b, b = (side W H c).getD k 0 := ⟨_, rfl⟩
      rw [← hbq] at hcell hin
      have HQ := Lib.hid hbq
      clear hbq hmem hlt'
      have HZ := Lib.hid (at_get s b hin)
      cases h1 : isL s[b].toNat with
      | true =>
        go_wp2_with (go_at_call 48; refine (isLane_any _ _).mono ?_; rintro e w' ⟨rfl, rfl⟩)
        go_ret
        exact ⟨true, rfl, iff_of_true rfl ⟨b, by rw [HQ.out]; exact HM.out, by rw [← HZ.out]; exact h1⟩, HB.out.below⟩
      | false =>
        have HO2 : Hid (isL (at_ s ((side W H c).getD k 0)) = false) := Lib.hid (by rw [← HQ.out, ← HZ.out]; exact h1)
        go_wp2_with (go_at_call 48; refine (isLane_any _ _).mono ?_; rintro e w' ⟨rfl, rfl⟩)
        go_round
        case rel => exact ⟨k + 1, by omega, by go_num, fun j hj => by rcases Nat.lt_succ_iff_lt_or_eq.1 hj with h | h; exact HJ.out j h; rw [h]; exact HO2.out⟩
        case measure => simp [intOf]; omega
    · go_wp2
      go_ret
      refine ⟨false, rfl, iff_of_false (by decide) ?_, HB.out.below⟩
      rintro ⟨b, hb1, hb2⟩
      obtain ⟨j, hj, rfl⟩ := List.mem_iff_getElem.1 hb1
      have := HJ.out j (by have := HN.out; omega)
      rw [List.getD, List.getElem?_eq_getElem hj] at this
      rw [show (some ((side W H c)[j])).getD 0 = (side W H c)[j] from rfl, hb2] at this
      cases this

end Go.Proofs.YtokjnmgbgflgnaaGreatDoor
