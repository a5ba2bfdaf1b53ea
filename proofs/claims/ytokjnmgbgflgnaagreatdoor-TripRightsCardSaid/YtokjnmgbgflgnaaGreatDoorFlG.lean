/-
  What is told of a floor: Robots, Zone, Near, Lanes.
-/
import Derived.Test.YtokjnmgbgflgnaaGreatDoorFlF
set_option linter.unusedVariables false
set_option maxRecDepth 100000
namespace Go.Proofs.YtokjnmgbgflgnaaGreatDoor
open Go.RowKit Fl

theorem ret_two {a b : Int} {c d : Bool} (h : a = b) (k : c = d) : Ending.returned (.tuple #[.int .i64 a, .bool c]) = .returned (.tuple #[.int .i64 b, .bool d]) := by rw [h, k]
/-- A number is told: that of a floor that is right, or another one. -/
def NumTold (P : Prop) (a b : Nat) (w : World) (e : Ending) (w' : World) : Prop := ∃ n : Nat, e = .returned (.int .i64 (n : Int)) ∧ (P → n = a) ∧ (¬ P → n = b) ∧ Below w.heap.size w w'
/-- A number and a truth are told. -/
def PairTold (P : Prop) (a : Nat) (w : World) (e : Ending) (w' : World) : Prop := ∃ (n : Nat) (b : Bool), e = .returned (.tuple #[.int .i64 (n : Int), .bool b]) ∧ (P → n = a ∧ b = true) ∧ (¬ P → n = 0 ∧ b = false) ∧ Below w.heap.size w w'
/-- A list is told: that of a floor that is right, or none. -/
def IntsIf (P : Prop) (l : List Nat) (w : World) (e : Ending) (w' : World) : Prop := ∃ a n cap xs, e = .returned (.slice a n cap) ∧ n = xs.length ∧ (P → xs = l) ∧ (¬ P → xs = []) ∧ Own w' w.heap.size (.slice a n cap) xs ∧ Below w.heap.size w w'

/-- A right floor's sides, as numbers. -/
theorem rightNat {W H : Int} {s : ByteArray} (h : Right W H s) : ∃ a b : Nat, W = a ∧ H = b ∧ Sides a b s ∧ RightN a b (at_ s) := h
theorem rightLe {W H : Int} {s : ByteArray} (h : Right W H s) : s.size ≤ 256 := by obtain ⟨a, b, _, _, h1, _⟩ := h; exact h1.le

set_option maxHeartbeats 1000000 in
theorem robots_any (W H : Int) (s : ByteArray) (hs : s.size ≤ maxLen) (w : World) :
    Calls Tryz.prog 44 #[.agg #[.int .i64 W, .int .i64 H, .string s]] w (NumTold (Right W H s) (pick isD (at_ s) s.size).length 0 w) := by
  go_enter Tryz.func44, Tryz.ntmps44
  go_wp2_with fail
  refine (right_any W H s hs _).mono ?_
  rintro e w1 ⟨b, rfl, hb, hbw⟩
  have HB := Lib.hid ((Box.start w W H s 23).after hbw)
  have HR := Lib.hid hb
  have e0 := HB.out.c0
  have e1 := HB.out.c1
  have e2 := HB.out.c2
  clear hb hbw
  cases b
  · go_wp2_with fail
    go_ret
    exact ⟨0, rfl, (fun h => by have := HR.out.2 h; cases this), fun _ => rfl, HB.out.below⟩
  · have HRR := Lib.hid (HR.out.1 (by trivial))
    have HC := Lib.hid (cellsDock_any W H s (rightLe HRR.out) w1)
    go_wp2_with fail
    refine HC.out.mono ?_
    rintro e w2 ⟨a, n, cap, rfl, hn, ho, hb2⟩
    have HN := Lib.hid hn
    have HB2 := Lib.hid (HB.out.after hb2)
    clear hn ho hb2 e0 e1 e2
    go_wp2_with fail
    go_ret
    exact ⟨n, rfl, fun _ => HN.out, fun h => absurd HRR.out h, HB2.out.below⟩

set_option maxHeartbeats 1000000 in
theorem lanes_any (W H : Int) (s : ByteArray) (hs : s.size ≤ maxLen) (w : World) :
    Calls Tryz.prog 35 #[.agg #[.int .i64 W, .int .i64 H, .string s]] w (IntsIf (Right W H s) (pick isL (at_ s) s.size) w) := by
  go_enter Tryz.func35, Tryz.ntmps35
  go_wp2_with fail
  refine (right_any W H s hs _).mono ?_
  rintro e w1 ⟨b, rfl, hb, hbw⟩
  have HB := Lib.hid ((Box.start w W H s 23).after hbw)
  have HR := Lib.hid hb
  have e0 := HB.out.c0
  have e1 := HB.out.c1
  have e2 := HB.out.c2
  clear hb hbw
  cases b
  · go_wp2_with fail
    go_ret
    exact ⟨none, 0, 0, [], rfl, rfl, (fun h => by have := HR.out.2 h; cases this), fun _ => rfl, Own.nil _ _, HB.out.below⟩
  · have HRR := Lib.hid (HR.out.1 (by trivial))
    have HC := Lib.hid (cellsLane_any W H s (rightLe HRR.out) w1)
    go_wp2_with fail
    refine HC.out.mono ?_
    rintro e w2 ⟨a, n, cap, rfl, hn, ho, hb2⟩
    have HN := Lib.hid hn
    have HO := Lib.hid (ho.lower (Nat.le_trans (Nat.le_succ _) HB.out.lt))
    have HB2 := Lib.hid (HB.out.after hb2)
    clear hn ho hb2 e0 e1 e2
    go_wp2_with fail
    go_ret
    exact ⟨a, n, cap, _, rfl, HN.out, fun _ => rfl, fun h => absurd HRR.out h, HO.out, HB2.out.below⟩

/-- A lane's place among a floor's cells. -/
def OnLane (W H : Int) (s : ByteArray) (c : Int) : Prop := Right W H s ∧ isL (bAt s c) = true
theorem bAt_in {s : ByteArray} {c : Int} (h : bAt s c ≠ 35) : ∃ k : Nat, c = k ∧ k < s.size ∧ bAt s c = at_ s k := by
  unfold bAt at h ⊢
  split at h
  · rename_i k
    obtain ⟨j, rfl⟩ := Int.eq_ofNat_of_zero_le k.1
    exact ⟨j, rfl, by omega, by rw [if_pos k, Int.toNat_natCast]⟩
  · exact absurd rfl h

set_option maxHeartbeats 1000000 in
theorem zone_any (W H : Int) (s : ByteArray) (hs : s.size ≤ maxLen) (c : Int) (w : World) :
    Calls Tryz.prog 24 #[.agg #[.int .i64 W, .int .i64 H, .string s], .int .i64 c] w (PairTold (OnLane W H s c) (bAt s c - 97) w) := by
  go_enter Tryz.func24, Tryz.ntmps24
  go_wp2_with fail
  refine (right_any W H s hs _).mono ?_
  rintro e w1 ⟨b, rfl, hb, hbw⟩
  have HB := Lib.hid ((Box.start w W H s 23).after hbw)
  have HR := Lib.hid hb
  have e0 := HB.out.c0
  have e1 := HB.out.c1
  have e2 := HB.out.c2
  clear hb hbw
  cases b
  · go_wp2_with fail
    go_ret2
    exact ⟨0, false, rfl, (fun h => by have := HR.out.2 h.1; cases this), fun _ => ⟨rfl, rfl⟩, HB.out.below⟩
  · have HRR := Lib.hid (HR.out.1 (by trivial))
    have HC := Lib.hid (byteAt_any W H s (rightLe HRR.out) c w1)
    go_wp2_with fail
    refine HC.out.mono ?_
    rintro e w2 ⟨rfl, hb2⟩
    have HB2 := Lib.hid (HB.out.after hb2)
    have k2 := HB2.out.c2
    clear hb2 e0 e1 e2
    cases hl : isL (bAt s c) with
    | false =>
      go_wp2_with (go_at_call 48; refine (isLane_any _ _).mono ?_; rintro e w' ⟨rfl, rfl⟩)
      go_ret2
      exact ⟨0, false, rfl, (fun h => by have := h.2; rw [hl] at this; cases this), fun _ => ⟨rfl, rfl⟩, HB2.out.below⟩
    | true =>
      obtain ⟨k, rfl, hk, hbk⟩ := bAt_in (s := s) (c := c) (by intro e; rw [e] at hl; cases hl)
      rw [hbk] at hl ⊢
      have HL := Lib.hid hl
      have hl2 : isL s[k].toNat = true := by rw [at_get s k hk]; exact hl
      have hlo : 97 ≤ s[k].toNat := by unfold isL at hl2; simp only [Bool.and_eq_true, decide_eq_true_eq] at hl2; exact hl2.1
      have hhi : s[k].toNat < 123 := by unfold isL at hl2; simp only [Bool.and_eq_true, decide_eq_true_eq] at hl2; exact hl2.2
      have HZ := Lib.hid (at_get s k hk)
      have HBK := Lib.hid hbk
      clear hl2 hbk
      go_wp2_with (go_at_call 48; refine (isLane_any _ _).mono ?_; rintro e w' ⟨rfl, rfl⟩)
      go_ret2
      refine ⟨at_ s k - 97, true, ret_two (by rw [← HZ.out]; omega) rfl, fun _ => ⟨by rw [HBK.out], rfl⟩, fun h => absurd ⟨HRR.out, by rw [HBK.out]; exact HL.out⟩ h, HB2.out.below⟩

/-- A cell that is no wall. -/
def OnFloor (W H : Int) (s : ByteArray) (c : Int) : Prop := Right W H s ∧ bAt s c ≠ 35
/-- What is near to a cell. -/
def nearL (W H : Nat) (z : Nat → Nat) (c : Nat) : List Nat := (side W H c).filter fun b => z b != 35
def nears (W H : Int) (s : ByteArray) (c : Int) : List Nat := nearL W.toNat H.toNat (at_ s) c.toNat
theorem nearL_take (W H : Nat) (z : Nat → Nat) (c k : Nat) (h : k < (side W H c).length) : ((side W H c).take (k + 1)).filter (fun b => z b != 35) = ((side W H c).take k).filter (fun b => z b != 35) ++ if z ((side W H c).getD k 0) = 35 then [] else [(side W H c).getD k 0] := by
  rw [List.take_succ_eq_append_getElem h, List.filter_append, List.getD, List.getElem?_eq_getElem h]
  by_cases e : z ((side W H c)[k]) = 35 <;> simp [e]

set_option maxHeartbeats 2000000 in
theorem near_any (W H : Int) (s : ByteArray) (hs : s.size ≤ maxLen) (c : Int) (w : World) :
    Calls Tryz.prog 23 #[.agg #[.int .i64 W, .int .i64 H, .string s], .int .i64 c] w (IntsIf (OnFloor W H s c) (nears W H s c) w) := by
  go_enter Tryz.func23, Tryz.ntmps23
  go_wp2_with fail
  refine (right_any W H s hs _).mono ?_
  rintro e w1 ⟨b, rfl, hb, hbw⟩
  have HB := Lib.hid ((Box.start w W H s 23).after hbw)
  have HR := Lib.hid hb
  have e0 := HB.out.c0
  have e1 := HB.out.c1
  have e2 := HB.out.c2
  clear hb hbw
  cases b
  · go_wp2_with fail
    go_ret
    exact ⟨none, 0, 0, [], rfl, rfl, (fun h => by have := HR.out.2 h.1; cases this), fun _ => rfl, Own.nil _ _, HB.out.below⟩
  · have HRR := Lib.hid (HR.out.1 (by trivial))
    have h256 := (rightLe HRR.out)
    have HC := Lib.hid (byteAt_any W H s h256 c w1)
    go_wp2_with fail
    refine HC.out.mono ?_
    rintro e w2 ⟨rfl, hb2⟩
    have HB2 := Lib.hid (HB.out.after hb2)
    have k0 := HB2.out.c0
    have k1 := HB2.out.c1
    have k2 := HB2.out.c2
    clear hb2 e0 e1 e2
    by_cases h35 : bAt s c = 35
    · have HN : Hid (¬ OnFloor W H s c) := Lib.hid (fun h => h.2 h35)
      rw [h35]
      go_wp2_with fail
      go_ret
      exact ⟨none, 0, 0, [], rfl, rfl, fun h => absurd h HN.out, fun _ => rfl, Own.nil _ _, HB2.out.below⟩
    · have hb : (((bAt s c : Nat) : Int) == 35) = false := by rw [beq_eq_false_iff_ne]; omega
      have HY : Hid (OnFloor W H s c) := Lib.hid ⟨HRR.out, h35⟩
      obtain ⟨k, rfl, hk, hbk⟩ := bAt_in h35
      obtain ⟨W', H', rfl, rfl, hS, hRN⟩ := rightNat HRR.out
      have HS := Lib.hid hS
      have hkc : k < W' * H' := by rw [← hS.sz]; exact hk
      have HIN : Hid (∀ b, b ∈ side W' H' k → b < s.size) := Lib.hid (fun b hb => by rw [HS.out.sz]; exact side_lt HS.out.w1 hkc hb)
      have HBE := Lib.hid (fun wx => beside_any W' H' k s wx HS.out.w1 HS.out.w2 HS.out.h1 HS.out.h2 hkc)
      have HNE : Hid (nears (W' : Int) (H' : Int) s (k : Int) = (side W' H' k).filter fun b => at_ s b != 35) := Lib.hid rfl
      have HSL := Lib.hid (side_len W' H' k)
      have HNT := Lib.hid (fun j => nearL_take W' H' (at_ s) k j)
      generalize bAt s (k : Int) = y at *
      clear hS hRN hkc hbk h35
      go_wp2_with fail
      refine (HBE.out _).mono ?_
      rintro e w3 ⟨a, n, cap, rfl, hn, ho, hb3⟩
      have HB3 := Lib.hid (HB2.out.after hb3)
      have HO := Lib.hid ho
      have HN := Lib.hid hn
      have hn4 : n ≤ 4 := by rw [hn]; exact HSL.out
      clear k0 k1 k2 ho hn hb3 HB2 HB hb
      generalize side W' H' k = L at *
      go_wp2_with fail
      go_loopw [5, 21] (fun v iv wr => ∃ j : Nat, j ≤ n ∧ iv = .int .i64 (j : Int) ∧ Part w W' H' s ((L.take j).filter fun b => at_ s b != 35) v wr ∧ Own wr w2.heap.size (.slice a n cap) L ∧ (v.ownBlock = none ∨ v.ownBlock ≠ (Value.slice a n cap).ownBlock)) (fun _ iv _ => n - (intOf iv).toNat)
      case atStart => exact ⟨0, Nat.zero_le _, rfl, ⟨_, _, _, rfl, rfl, Own.nil _ _, HB3.out⟩, HO.out, .inl rfl⟩
      case round =>
        rename World => wr
        obtain ⟨j, hj, rfl, ⟨a4, n4, c4, rfl, hn4', ho4, hB4⟩, hO4, hAp⟩ := hrel
        have HO4 := Lib.hid ho4
        have HB4 := Lib.hid hB4
        have HOL := Lib.hid hO4
        have HAp := Lib.hid hAp
        have HN4 := Lib.hid hn4'
        have kk := hB4.c2
        have hz := hB4.lt
        clear ho4 hB4 hO4 hAp hn4'
        by_cases hlt : j < n
        · have hjL : j < L.length := by rw [← HN.out]; exact hlt
          obtain ⟨g, rfl, hg, hc⟩ := HOL.out.at j hjL
          have hin := HIN.out _ (getD_mem hjL)
          have HT := Lib.hid (HNT.out j hjL)
          have hfl : ((L.take j).filter fun b => at_ s b != 35).length ≤ 4 := by
            have := List.length_filter_le (fun b => at_ s b != 35) (L.take j)
            rw [List.length_take] at this
            omega
          generalize L.getD j 0 = d at *
          have HZ := Lib.hid (at_get s d hin)
          clear hjL
          by_cases h35 : s[d].toNat = 35
          · have hb : ((s[d].toNat : Int) != 35) = false := by rw [bne_eq_false_iff_eq]; omega
            have HTE : Hid ((L.take (j + 1)).filter (fun b => at_ s b != 35) = (L.take j).filter (fun b => at_ s b != 35)) := Lib.hid (by rw [HT.out, if_pos (by rw [← HZ.out]; exact h35), List.append_nil])
            clear h35
            go_wp2_with fail
            go_roundw
            case rel => exact ⟨j + 1, by omega, by go_num, by rw [HTE.out]; exact ⟨_, _, _, rfl, HN4.out, HO4.out, HB4.out⟩, HOL.out, HAp.out⟩
            case measure => simp [intOf]; omega
          · have hb : ((s[d].toNat : Int) != 35) = true := by rw [bne_iff_ne]; omega
            have HTE : Hid ((L.take (j + 1)).filter (fun b => at_ s b != 35) = (L.take j).filter (fun b => at_ s b != 35) ++ [d]) := Lib.hid (by rw [HT.out, if_neg (by rw [← HZ.out]; exact h35)])
            clear h35
            go_wp2_with (at_builtin; refine app_int2 rfl _ _ rfl (w.heap.size + 1) (.slice a4 n4 c4) ((L.take j).filter fun b => at_ s b != 35) rfl d _ rfl _ rfl HO4.out rfl (by omega) hz ?_; intro A6 c6 n6 w6 hn6 ho6 hb6 hg6 hat6; have HN6 := Lib.hid hn6; clear hn6)
            go_roundw
            case rel =>
              refine ⟨j + 1, by omega, by go_num, by rw [HTE.out]; exact Part.add HB4.out HN6.out ho6 hb6, ?_, ?_⟩
              · exact World.ownsRow.kept HOL.out hg6 (by rcases HAp.out with h | h; exact Or.inr (by rw [h]; intro e; cases e); exact Or.inr (fun e => h e.symm))
              · rcases hat6 with h | h
                · rw [h]; exact HAp.out
                · rw [h]
                  refine Or.inr (fun e => ?_)
                  have := HOL.out.lt _ e.symm
                  omega
            case measure => simp [intOf]; omega
        · obtain rfl : j = n := by omega
          have HTF : Hid (L.take j = L) := Lib.hid (List.take_of_length_le (by rw [← HN.out]; exact Nat.le_refl _))
          go_wp2_with fail
          go_ret
          exact ⟨a4, n4, c4, _, rfl, HN4.out, fun _ => by rw [HNE.out, HTF.out], fun h => absurd HY.out h, HO4.out.lower (Nat.le_succ _), HB4.out.below⟩

end Go.Proofs.YtokjnmgbgflgnaaGreatDoor
