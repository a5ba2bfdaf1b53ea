/-
  The document's answer for layer 1: a count's bits; bits as bytes.
-/
import Derived.Test.YtifcfoipeocmiaaBitsF1
set_option linter.unusedVariables false
namespace Go.Proofs.Ytifcfoipeocmiaa
open Go.RowKit Bp

/-- Appending to a list of its own: what there is behind it. -/
theorem shape_of {w : World} {B : Nat} {e : TypeId} {v : Value} {n : Nat} {xs : List Value} (h : w.ownsRow B e 1 v n xs) (hn : 0 < n) : ∃ g cap, v = .slice (some ⟨g, 0, none⟩) n cap := by
  rcases h.2 with ⟨_, x⟩ | ⟨g, cap, cur, x, _⟩
  · omega
  · exact ⟨g, cap, x⟩
theorem own_ge {w : World} {B : Nat} {e : TypeId} {v : Value} {n : Nat} {xs : List Value} (h : w.ownsRow B e 1 v n xs) : ∀ k, v.ownBlock = some k → B ≤ k := fun k hk => (h.lt k hk).1

set_option maxHeartbeats 2000000 in
theorem refCount_any (n : Nat) (hn : n + 1 < 18446744073709551616) (w : World) :
    Calls Try.prog 9 #[.int .u64 (n : Int)] w fun e w' => ∃ g cap, e = .returned (.slice (some ⟨g, 0, none⟩) (2 * kz n + 1) cap) ∧ w'.ownsRow w.heap.size 4 1 (.slice (some ⟨g, 0, none⟩) (2 * kz n + 1) cap) (2 * kz n + 1) (bb (countBits n)) ∧ Below w.heap.size w w' := by
  obtain ⟨i0, hi, hz0, hz1, hz2⟩ := info_parts Try.infoBool
  have hk63 := kz_63 n hn
  go_enter Try.func9, Try.ntmps9
  go_wp2
  go_loop [3, 4] (fun kk mm => ∃ j : Nat, j ≤ kz n ∧ 2 ^ j ≤ n + 1 ∧ kk = .int .i64 (j : Int) ∧ mm = .int .u64 (((n + 1) / 2 ^ j : Nat) : Int)) (fun kk _ => 64 - (intOf kk).toNat)
  case atStart => exact ⟨0, by omega, by simp, rfl, by simp⟩
  case round =>
    obtain ⟨j, hj, hp, rfl, rfl⟩ := hrel
    have hle' : (n + 1) / 2 ^ j ≤ n + 1 := Nat.div_le_self _ _
    have HN : Hid ((n + 1) / 2 ^ (j + 1) = (n + 1) / 2 ^ j / 2) := Lib.hid (by rw [Nat.pow_succ, Nat.div_div_eq_div_mul])
    by_cases h1 : 1 < (n + 1) / 2 ^ j
    · have hmm := half_more (n + 1) j h1
      have hj1 : j + 1 ≤ kz n := by
        rcases Nat.lt_or_ge (kz n) (j + 1) with z | z
        · have h2 := kz_lt n
          have h3 : (2 : Nat) ^ (kz n + 1) ≤ 2 ^ (j + 1) := Nat.pow_le_pow_right (by decide) z
          omega
        · exact z
      have HM := Lib.hid hmm
      clear hmm hp
      generalize (n + 1) / 2 ^ j = x at *
      go_wp2
      go_round
      case rel => exact ⟨j + 1, hj1, HM.out, by go_num, by rw [HN.out]; go_num⟩
      case measure => simp [intOf]; omega
    · have hjk := half_end n j hp (by omega)
      subst hjk
      clear hp HN hle'
      generalize (n + 1) / 2 ^ kz n = x at *
      go_wp2
      go_loopw [5, 6] (fun lv iv wr => ∃ i : Nat, i ≤ kz n ∧ iv = .int .i64 (i : Int) ∧ wr.ownsRow w.heap.size 4 1 lv i (bb (List.replicate i false)) ∧ Below w.heap.size w wr) (fun _ iv _ => kz n - (intOf iv).toNat)
      case atStart => exact ⟨0, Nat.zero_le _, rfl, World.ownsRow_nil _ _ _ _, Below.refl _ _⟩
      case round =>
        obtain ⟨i, hik, rfl, hO, hB⟩ := hrel
        have hsz := hB.size
        have HO := Lib.hid hO
        have HB := Lib.hid hB
        clear hO hB
        by_cases hlt : i < kz n
        · go_wp2_with (at_builtin; refine wpList_append_own_at _ rfl _ _ 26 rfl w.heap.size 4 i0 (.bool false) 1 1 Try.underlying26 hi hz0 hz1 hz2 rfl (by decide) _ _ _ rfl (HO.out.alloc _) ⟨wr.heap.size, 0, none⟩ 1 1 [.bool false] rfl rfl (cell_one_new _ _ _) (bb_one [false]) (by unfold maxLen; omega) (by omega) (by simp; omega) ?_; intro v' w1 hown' hgrow hne hat)
          have RB : Hid (Below w.heap.size w w1) := Lib.hid (Below.grown (HB.out.alloc hsz _) hgrow (by simp; omega) (own_ge HO.out))
          have RO : Hid (w1.ownsRow w.heap.size 4 1 v' (i + 1) (bb (List.replicate (i + 1) false))) := Lib.hid (by rw [List.replicate_succ', bb_app]; exact hown')
          obtain ⟨g', cap', hv'⟩ := shape_of RO.out (by omega)
          subst hv'
          clear hown' hgrow hne hat HO HB
          go_wp2
          go_roundw
          case rel => exact ⟨i + 1, by omega, by go_num, RO.out, RB.out⟩
          case measure => simp [intOf]; omega
        · obtain rfl : i = kz n := by omega
          clear hlt hik
          go_wp2_with fail
          refine (refBits_int (n + 1) (kz n + 1) ((n : Int) + 1) ((kz n : Int) + 1) (by omega) (by omega) wr (by omega) (by omega)).mono ?_
          rintro e w1 ⟨v2, rfl, hS2, hO2, hB2⟩
          obtain ⟨g2, cap2, hv2⟩ := shape_of hO2 (by omega)
          subst hv2
          have HO2 := Lib.hid hO2
          have HO1 : Hid (w1.ownsRow w.heap.size 4 1 _ (kz n) (bb (List.replicate (kz n) false))) := Lib.hid (ownsRow_same HO.out (fun k hk => hB2.block k (HO.out.lt k hk).2))
          have HB1 : Hid (Below w.heap.size w w1) := Lib.hid (HB.out.trans (hB2.mono hsz))
          have hsz1 := HB1.out.size
          clear hO2 hB2 hS2 HO HB
          go_wp2_with (at_builtin; refine wpList_append_own_at _ rfl _ _ 26 rfl w.heap.size 4 i0 (.bool false) 1 1 Try.underlying26 hi hz0 hz1 hz2 rfl (by decide) _ _ _ rfl HO1.out ⟨g2, 0, none⟩ (kz n + 1) cap2 (bb (bitsOf (n + 1) (kz n + 1))) rfl (by rw [bb_length, bitsOf_length]; omega) (HO2.out.cells (g := g2) rfl) (bb_one _) (by unfold maxLen; omega) (by omega) (by omega) ?_; intro v' w2 hown' hgrow hne hat)
          have RB : Hid (Below w.heap.size w w2) := Lib.hid (Below.grown HB1.out hgrow (by omega) (own_ge HO1.out))
          have RO : Hid (w2.ownsRow w.heap.size 4 1 v' (2 * kz n + 1) (bb (countBits n))) := Lib.hid (by
            unfold countBits
            rw [bb_app, show 2 * kz n + 1 = kz n + (kz n + 1) by omega]
            exact hown')
          obtain ⟨g', cap', hv'⟩ := shape_of RO.out (by omega)
          subst hv'
          clear hown' hgrow hne hat HO1 HB1 HO2
          go_wp2
          go_ret
          exact ⟨g', cap', rfl, RO.out, RB.out⟩

end Go.Proofs.Ytifcfoipeocmiaa
