/-
  The document's answers for layer 3: SameInts, Near, Text.
-/
import Derived.Test.YtaioiobimenkfaaDoorFlR4
set_option linter.unusedVariables false
set_option maxRecDepth 100000
namespace Go.Proofs.YtaioiobimenkfaaDoor
open Go.RowKit Fl

theorem eq_of_getD {xs ys : List Nat} (hl : xs.length = ys.length) (h : ∀ j, j < xs.length → xs.getD j 0 = ys.getD j 0) : xs = ys := by
  apply List.ext_getElem hl
  intro j h1 h2
  have := h j h1
  rw [List.getD, List.getD, List.getElem?_eq_getElem h1, List.getElem?_eq_getElem h2] at this
  exact this

set_option maxHeartbeats 2000000 in
theorem sameInts_any (a b : Option Addr) (n m c d B1 B2 : Nat) (xs ys : List Nat) (w : World) (hn : n = xs.length) (hm : m = ys.length) (hx : Own w B1 (.slice a n c) xs) (hy : Own w B2 (.slice b m d) ys)
    (hbx : ∀ x, x ∈ xs → x ≤ 1048576) (hby : ∀ y, y ∈ ys → y ≤ 1048576) (hl : n ≤ 1048576) (hl2 : m ≤ 1048576) :
    Calls Tryd.prog 11 #[.slice a n c, .slice b m d] w (Told (xs = ys) w) := by
  have HX := Lib.hid hx
  have HY := Lib.hid hy
  have HN := Lib.hid hn
  have HM := Lib.hid hm
  have HBX := Lib.hid hbx
  have HBY := Lib.hid hby
  clear hx hy hn hm hbx hby
  by_cases hnm : n = m
  · subst hnm
    go_enter Tryd.func11, Tryd.ntmps11
    go_wp2_with fail
    go_loopw [5] (fun iv wr => ∃ k : Nat, k ≤ n ∧ iv = .int .i64 (k : Int) ∧ Below w.heap.size w wr ∧ ∀ j, j < k → xs.getD j 0 = ys.getD j 0) (fun iv _ => n - (intOf iv).toNat)
    case atStart => exact ⟨0, Nat.zero_le _, rfl, Below.refl _ _, fun j hj => by omega⟩
    case round =>
      rename World => wr
      obtain ⟨k, hk, rfl, hB, hJ⟩ := hrel
      have HB := Lib.hid hB
      have HJ := Lib.hid hJ
      clear hB hJ
      by_cases hlt : k < n
      · have hkx : k < xs.length := by rw [← HN.out]; exact hlt
        have hky : k < ys.length := by rw [← HM.out]; exact hlt
        obtain ⟨g, rfl, hg, hc⟩ := (HX.out.later HB.out).at k hkx
        obtain ⟨g2, rfl, hg2, hc2⟩ := (HY.out.later HB.out).at k hky
        have b1 := HBX.out _ (getD_mem hkx)
        have b2 := HBY.out _ (getD_mem hky)
        obtain ⟨x, hxq⟩ : ∃ x, x = xs.getD k 0 := ⟨_, rfl⟩
        obtain ⟨y, hyq⟩ : ∃ y, y = ys.getD k 0 := ⟨_, rfl⟩
        rw [← hxq] at hc b1
        rw [← hyq] at hc2 b2
        have HXQ := Lib.hid hxq
        have HYQ := Lib.hid hyq
        clear hxq hyq hkx hky
        by_cases he : x = y
        · have hb : ((x : Int) != (y : Int)) = false := by rw [bne_eq_false_iff_eq]; omega
          have HE := Lib.hid he
          clear he
          go_wp2_with fail
          go_big_quiet (fail)
          go_wp2_with fail
          go_roundw
          case rel => exact ⟨k + 1, by omega, by go_num, HB.out.trans (below_drewN _ _ _), fun j hj => by
            rcases Nat.lt_succ_iff_lt_or_eq.1 hj with h | h
            · exact HJ.out j h
            · subst h; rw [← HXQ.out, ← HYQ.out]; exact HE.out⟩
          case measure => simp [intOf]; omega
        · have hb : ((x : Int) != (y : Int)) = true := by rw [bne_iff_ne]; omega
          have HE := Lib.hid he
          clear he
          go_wp2_with fail
          go_big_quiet (fail)
          go_wp2_with fail
          go_ret
          exact ⟨false, rfl, iff_of_false (by decide) (fun e => HE.out (by rw [HXQ.out, HYQ.out, e])), HB.out.trans (below_drewN _ _ _)⟩
      · obtain rfl : k = n := by omega
        go_wp2_with fail
        go_ret
        exact ⟨true, rfl, iff_of_true rfl (eq_of_getD (by rw [← HN.out, ← HM.out]) (fun j hj => HJ.out j (by rw [HN.out]; exact hj))), HB.out⟩
  · have hb : ((n : Int) != (m : Int)) = true := by rw [bne_iff_ne]; omega
    have HE := Lib.hid hnm
    clear hnm
    go_enter Tryd.func11, Tryd.ntmps11
    go_wp2_with fail
    go_ret
    exact ⟨false, rfl, iff_of_false (by decide) (fun e => HE.out (by rw [HN.out, HM.out, e])), Below.refl _ _⟩

set_option maxHeartbeats 4000000 in
theorem rnear_any (W H : Int) (s : ByteArray) (hs : s.size ≤ maxLen) (c : Int) (w : World) :
    Calls Tryd.prog 46 #[.agg #[.int .i64 W, .int .i64 H, .string s], .int .i64 c] w (IntsIf (OnFloor W H s c) (nears W H s c) w) := by
  have hs' := hs
  unfold maxLen at hs'
  by_cases h0 : 0 ≤ c ∧ c < s.size
  · obtain ⟨k, rfl⟩ := Int.eq_ofNat_of_zero_le h0.1
    have hk : k < s.size := by omega
    have d0 : decide ((k : Int) < 0) = false := by simp
    have HBA : Hid (bAt s (k : Int) = at_ s k) := Lib.hid (by unfold bAt; rw [if_pos (by omega), Int.toNat_natCast])
    have HZ := Lib.hid (at_get s k hk)
    clear h0
    go_enter Tryd.func46, Tryd.ntmps46
    go_wp2_with fail
    refine (rright_any W H s hs _).mono ?_
    rintro e w1 ⟨b, rfl, hb, hbw⟩
    have HB := Lib.hid ((Box.start w W H s 23).after hbw)
    have HR := Lib.hid hb
    have e0 := HB.out.c0
    have e1 := HB.out.c1
    have e2 := HB.out.c2
    clear hb hbw
    cases b
    · go_wp2_with fail
      go_ret
      exact ⟨none, 0, 0, [], rfl, rfl, (fun h => by have := HR.out.2 h.1; cases this), fun _ => rfl, Own.nil _ _, HB.out.below⟩
    · have HRR : Hid (Right W H s) := Lib.hid (HR.out.1 (by trivial))
      by_cases h35 : s[k].toNat = 35
      · have hb : ((s[k].toNat : Int) == 35) = true := by rw [beq_iff_eq]; omega
        have HNo : Hid (¬ OnFloor W H s (k : Int)) := Lib.hid (fun h => h.2 (by rw [HBA.out, ← HZ.out]; exact h35))
        clear h35
        go_wp2_with fail
        go_ret
        exact ⟨none, 0, 0, [], rfl, rfl, fun h => absurd h HNo.out, fun _ => rfl, Own.nil _ _, HB.out.below⟩
      · have hb : ((s[k].toNat : Int) == 35) = false := by rw [beq_eq_false_iff_ne]; omega
        have HY : Hid (OnFloor W H s (k : Int)) := Lib.hid ⟨HRR.out, by rw [HBA.out, ← HZ.out]; exact h35⟩
        obtain ⟨W', H', rfl, rfl, hS, hRN⟩ := rightNat HRR.out
        have HS := Lib.hid hS
        have hkc : k < W' * H' := by rw [← hS.sz]; exact hk
        have HIN : Hid (∀ b, b ∈ side W' H' k → b < s.size) := Lib.hid (fun b hb => by rw [HS.out.sz]; exact side_lt HS.out.w1 hkc hb)
        have HBE := Lib.hid (fun wx => rbeside_any W' H' k s wx HS.out.w1 HS.out.w2 HS.out.h1 HS.out.h2 hkc)
        have HNE : Hid (nears (W' : Int) (H' : Int) s (k : Int) = (side W' H' k).filter fun b => at_ s b != 35) := Lib.hid rfl
        have HSL := Lib.hid (side_len W' H' k)
        have HNT := Lib.hid (fun j => nearL_take W' H' (at_ s) k j)
        have h256 := hS.le
        clear hS hRN hkc h35
        go_wp2_with fail
        refine (HBE.out _).mono ?_
        rintro e w3 ⟨a, n, cap, rfl, hn, ho, hb3⟩
        have HB3 := Lib.hid (HB.out.after hb3)
        have HO := Lib.hid ho
        have HN := Lib.hid hn
        have hn4 : n ≤ 4 := by rw [hn]; exact HSL.out
        clear e0 e1 e2 ho hn hb3 hb
        generalize side W' H' k = L at *
        go_wp2_with fail
        go_loopw [5, 7] (fun v iv wr => ∃ j : Nat, j ≤ n ∧ iv = .int .i64 (j : Int) ∧ Part w W' H' s ((L.take j).filter fun b => at_ s b != 35) v wr ∧ Own wr w1.heap.size (.slice a n cap) L ∧ (v.ownBlock = none ∨ v.ownBlock ≠ (Value.slice a n cap).ownBlock)) (fun _ iv _ => n - (intOf iv).toNat)
        case atStart => exact ⟨0, Nat.zero_le _, rfl, ⟨_, _, _, rfl, rfl, Own.nil _ _, HB3.out⟩, HO.out, .inl rfl⟩
        case round =>
          rename World => wr
          obtain ⟨j, hj, rfl, ⟨a4, n4, c4, rfl, hn4', ho4, hB4⟩, hO4, hAp⟩ := hrel
          have HO4 := Lib.hid ho4
          have HB4 := Lib.hid hB4
          have HOL := Lib.hid hO4
          have HAp := Lib.hid hAp
          have HN4 := Lib.hid hn4'
          have kk := hB4.c2
          have hz := hB4.lt
          clear ho4 hB4 hO4 hAp hn4'
          by_cases hlt : j < n
          · have hjL : j < L.length := by rw [← HN.out]; exact hlt
            obtain ⟨g, rfl, hg, hc⟩ := HOL.out.at j hjL
            have hin := HIN.out _ (getD_mem hjL)
            have HT := Lib.hid (HNT.out j hjL)
            have hfl : ((L.take j).filter fun b => at_ s b != 35).length ≤ 4 := by
              have := List.length_filter_le (fun b => at_ s b != 35) (L.take j)
              rw [List.length_take] at this
              omega
            generalize L.getD j 0 = d at *
            have HZd := Lib.hid (at_get s d hin)
            clear hjL
            by_cases h35 : s[d].toNat = 35
            · have hb : ((s[d].toNat : Int) != 35) = false := by rw [bne_eq_false_iff_eq]; omega
              have HTE : Hid ((L.take (j + 1)).filter (fun b => at_ s b != 35) = (L.take j).filter (fun b => at_ s b != 35)) := Lib.hid (by rw [HT.out, if_pos (by rw [← HZd.out]; exact h35), List.append_nil])
              clear h35
              go_wp2_with fail
              go_big_quiet (fail)
              go_wp2_with fail
              go_roundw
              case rel => exact ⟨j + 1, by omega, by go_num, by rw [HTE.out]; exact ⟨_, _, _, rfl, HN4.out, HO4.out.later (below_drewN _ _ _), HB4.out.later (below_drewN _ _ _)⟩, HOL.out.later (below_drewN _ _ _), HAp.out⟩
              case measure => simp [intOf]; omega
            · have hb : ((s[d].toNat : Int) != 35) = true := by rw [bne_iff_ne]; omega
              have HTE : Hid ((L.take (j + 1)).filter (fun b => at_ s b != 35) = (L.take j).filter (fun b => at_ s b != 35) ++ [d]) := Lib.hid (by rw [HT.out, if_neg (by rw [← HZd.out]; exact h35)])
              clear h35
              go_wp2_with fail
              go_big_quiet (fail)
              have HO5 := Lib.hid (HO4.out.later (below_drewN wr.heap.size wr nq))
              have HOL5 := Lib.hid (HOL.out.later (below_drewN wr.heap.size wr nq))
              have HB5 := Lib.hid (HB4.out.later (below_drewN _ wr nq))
              go_wp2_with (at_builtin; go_must (refine app_int2 rfl _ _ rfl (w.heap.size + 1) (.slice a4 n4 c4) ((L.take j).filter fun b => at_ s b != 35) rfl d _ rfl (wr.drewN nq) rfl HO5.out rfl (by omega) hz ?_); intro A6 c6 n6 w6 hn6 ho6 hb6 hg6 hat6; have HN6 := Lib.hid hn6; clear hn6)
              go_roundw
              case rel =>
                refine ⟨j + 1, by omega, by go_num, by rw [HTE.out]; exact Part.add HB5.out HN6.out ho6 hb6, ?_, ?_⟩
                · exact World.ownsRow.kept HOL5.out hg6 (by rcases HAp.out with h | h; exact Or.inr (by rw [h]; intro e; cases e); exact Or.inr (fun e => h e.symm))
                · rcases hat6 with h | h
                  · rw [h]; exact HAp.out
                  · rw [h]
                    refine Or.inr (fun e => ?_)
                    have := HOL.out.lt _ e.symm
                    have h2 : (wr.drewN nq).heap.size = wr.heap.size := rfl
                    omega
              case measure => simp [intOf]; omega
          · obtain rfl : j = n := by omega
            have HTF : Hid (L.take j = L) := Lib.hid (List.take_of_length_le (by rw [← HN.out]; exact Nat.le_refl _))
            go_wp2_with fail
            go_ret
            exact ⟨a4, n4, c4, _, rfl, HN4.out, fun _ => by rw [HNE.out, HTF.out], fun h => absurd HY.out h, HO4.out.lower (Nat.le_succ _), HB4.out.below⟩
  · have HNo : Hid (¬ OnFloor W H s c) := Lib.hid (fun h => h.2 (by unfold bAt; rw [if_neg h0]))
    by_cases h1 : c < 0
    · have d0 : decide (c < 0) = true := by simpa using h1
      clear h0
      go_enter Tryd.func46, Tryd.ntmps46
      go_wp2_with fail
      go_ret
      exact ⟨none, 0, 0, [], rfl, rfl, fun h => absurd h HNo.out, fun _ => rfl, Own.nil _ _, (Below.refl _ _).alloc (Nat.le_refl _) _⟩
    · have d0 : decide (c < 0) = false := by simpa using h1
      have d1 : decide ((s.size : Int) ≤ c) = true := by simp; omega
      clear h0
      go_enter Tryd.func46, Tryd.ntmps46
      go_wp2_with fail
      go_ret
      exact ⟨none, 0, 0, [], rfl, rfl, fun h => absurd h HNo.out, fun _ => rfl, Own.nil _ _, (Below.refl _ _).alloc (Nat.le_refl _) _⟩

end Go.Proofs.YtaioiobimenkfaaDoor
