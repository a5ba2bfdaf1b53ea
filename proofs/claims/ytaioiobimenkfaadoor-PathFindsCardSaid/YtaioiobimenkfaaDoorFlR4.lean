/-
  The document's answers for layer 3: Robots, Lanes, Dock, Zone.
-/
import Derived.Test.YtaioiobimenkfaaDoorFlR3
import Derived.Test.YtaioiobimenkfaaDoorFlT
set_option linter.unusedVariables false
set_option maxRecDepth 100000
namespace Go.Proofs.YtaioiobimenkfaaDoor
open Go.RowKit Fl



theorem cn_high {z : Nat → Nat} {W H : Nat} (h : DocksOk W H z) (q : Nat) (hq : q < 8) (hn : (docks W H z).length ≤ q) : cn z (docks W H z) q = 0 := by
  have hs := cn_sum z (docks W H z) (fun x hx => (docks_isD hx).2)
  have e : ∀ r, r < (docks W H z).length → cn z (docks W H z) r = 1 := fun r hr => by rw [cn_docks W H z r (by have := h.few; omega)]; exact h.once r hr
  have h8 : q = 0 ∨ q = 1 ∨ q = 2 ∨ q = 3 ∨ q = 4 ∨ q = 5 ∨ q = 6 ∨ q = 7 := by omega
  have hl : ∀ m, m = (docks W H z).length → m = 0 ∨ m = 1 ∨ m = 2 ∨ m = 3 ∨ m = 4 ∨ m = 5 ∨ m = 6 ∨ m = 7 := fun m hm => by omega
  have e0 := e 0
  have e1 := e 1
  have e2 := e 2
  have e3 := e 3
  have e4 := e 4
  have e5 := e 5
  have e6 := e 6
  have e7 := e 7
  clear e
  generalize (docks W H z).length = m at *
  rcases hl m rfl with rfl | rfl | rfl | rfl | rfl | rfl | rfl | rfl <;> rcases h8 with rfl | rfl | rfl | rfl | rfl | rfl | rfl | rfl <;> omega
/-- A dock's number is a robot's. -/
theorem dock_robot {W H : Int} {s : ByteArray} (h : Right W H s) {d r : Nat} (hd : d < s.size) (hz : at_ s d = 48 + r) (hr : r < 8) : r < (pick isD (at_ s) s.size).length := by
  obtain ⟨a, b, rfl, rfl, hS, hR⟩ := rightNat h
  rw [hS.sz] at hd ⊢
  show r < (docks a b (at_ s)).length
  rcases Nat.lt_or_ge r (docks a b (at_ s)).length with k | k
  · exact k
  · exfalso
    have h0 := cn_high hR.docks r hr k
    unfold cn at h0
    have hm : d ∈ (docks a b (at_ s)).filter fun i => at_ s i == 48 + r := List.mem_filter.2 ⟨mem_pick.2 ⟨hd, by rw [hz]; exact isD_mk hr⟩, by simpa using hz⟩
    rw [List.eq_nil_of_length_eq_zero h0] at hm
    cases hm


set_option maxHeartbeats 2000000 in
theorem rzone_any (W H : Int) (s : ByteArray) (hs : s.size ≤ maxLen) (c : Int) (w : World) :
    Calls Tryd.prog 45 #[.agg #[.int .i64 W, .int .i64 H, .string s], .int .i64 c] w (PairTold (OnLane W H s c) (bAt s c - 97) w) := by
  have hs' := hs
  unfold maxLen at hs'
  by_cases h0 : 0 ≤ c ∧ c < s.size
  · obtain ⟨k, rfl⟩ := Int.eq_ofNat_of_zero_le h0.1
    have hk : k < s.size := by omega
    have d0 : decide ((k : Int) < 0) = false := by simp
    have HBA : Hid (bAt s (k : Int) = at_ s k) := Lib.hid (by unfold bAt; rw [if_pos (by omega), Int.toNat_natCast])
    have HZ := Lib.hid (at_get s k hk)
    clear h0
    go_enter Tryd.func45, Tryd.ntmps45
    go_wp2_with fail
    refine (rright_any W H s hs _).mono ?_
    rintro e w1 ⟨b, rfl, hb, hbw⟩
    have HB := Lib.hid ((Box.start w W H s 23).after hbw)
    have HR := Lib.hid hb
    have e2 := HB.out.c2
    clear hb hbw
    cases b
    · go_wp2_with fail
      go_ret2
      exact ⟨0, false, rfl, (fun h => by have := HR.out.2 h.1; cases this), fun _ => ⟨rfl, rfl⟩, HB.out.below⟩
    · have HRR : Hid (Right W H s) := Lib.hid (HR.out.1 (by trivial))
      cases hl : isL s[k].toNat with
      | false =>
        go_wp2_with (go_at_call 65; refine (rlane_w _ false _ hl).mono ?_; rintro e w' ⟨rfl, rfl⟩)
        go_ret2
        exact ⟨0, false, rfl, (fun h => by have h2 := h.2; rw [HBA.out, ← HZ.out, hl] at h2; cases h2), fun _ => ⟨rfl, rfl⟩, HB.out.below⟩
      | true =>
        have hlo : 97 ≤ s[k].toNat := by have h2 := hl; unfold isL at h2; simp only [Bool.and_eq_true, decide_eq_true_eq] at h2; exact h2.1
        have hhi : s[k].toNat < 123 := by have h2 := hl; unfold isL at h2; simp only [Bool.and_eq_true, decide_eq_true_eq] at h2; exact h2.2
        have HOL : Hid (OnLane W H s (k : Int)) := Lib.hid ⟨HRR.out, by rw [HBA.out, ← HZ.out]; exact hl⟩
        go_wp2_with (go_at_call 65; refine (rlane_w _ true _ hl).mono ?_; rintro e w' ⟨rfl, rfl⟩)
        go_ret2
        exact ⟨at_ s k - 97, true, ret_two (by rw [← HZ.out]; omega) rfl, fun _ => ⟨by rw [HBA.out], rfl⟩, fun h => absurd HOL.out h, HB.out.below⟩
  · have HN : Hid (¬ OnLane W H s c) := Lib.hid (fun h => by
      have h2 := h.2
      unfold bAt at h2
      rw [if_neg h0] at h2
      cases h2)
    by_cases h1 : c < 0
    · have d0 : decide (c < 0) = true := by simpa using h1
      clear h0
      go_enter Tryd.func45, Tryd.ntmps45
      go_wp2_with fail
      go_ret2
      exact ⟨0, false, rfl, fun h => absurd h HN.out, fun _ => ⟨rfl, rfl⟩, (Below.refl _ _).alloc (Nat.le_refl _) _⟩
    · have d0 : decide (c < 0) = false := by simpa using h1
      have d1 : decide ((s.size : Int) ≤ c) = true := by simp; omega
      clear h0
      go_enter Tryd.func45, Tryd.ntmps45
      go_wp2_with fail
      go_ret2
      exact ⟨0, false, rfl, fun h => absurd h HN.out, fun _ => ⟨rfl, rfl⟩, (Below.refl _ _).alloc (Nat.le_refl _) _⟩

end Go.Proofs.YtaioiobimenkfaaDoor
