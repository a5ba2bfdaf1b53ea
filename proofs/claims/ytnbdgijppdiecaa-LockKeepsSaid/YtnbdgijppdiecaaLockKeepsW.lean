/-
  LockKeeps: the walk.
-/
import Derived.Test.YtnbdgijppdiecaaLkF
set_option linter.unusedVariables false
set_option maxRecDepth 100000
namespace Go.Proofs.Ytnbdgijppdiecaa
namespace Lk
open Go.RowKit Bk

theorem zns_hold {T : List Ow} (hT : Tb T) {r r' z : Int} (h : r' ≠ r) : zns (hold9 T r' z).2 (r, true) 26 = zns T (r, true) 26 := by
  unfold hold9
  by_cases h1 : Rb r' ∧ Zo z
  · rw [if_neg (show ¬¬(Rb r' ∧ Zo z) from fun q => q h1)]
    by_cases h2 : (at9 T z).2 = true ∧ (at9 T z).1 ≠ r'
    · rw [if_pos h2]
    · rw [if_neg h2]
      unfold zns
      congr 1
      apply List.filter_congr
      intro k hk
      have hk : k < 26 := by simpa using hk
      show (List.getD (T.set z.toNat (r', true)) k (0, false) == (r, true)) = _
      have hz1 := h1.2.1
      have hz2 := h1.2.2
      rw [getD_set9 (by rw [hT.len]; omega)]
      split
      · rename_i e
        rw [Bool.eq_iff_iff]
        simp only [beq_iff_eq]
        constructor
        · intro q; exact absurd (congrArg Prod.fst q) h
        · intro q
          rw [e] at q
          have : at9 T z = (r, true) := by unfold at9; rw [if_pos h1.2]; exact q
          exact absurd ⟨by rw [this], by rw [this]; exact fun k => h k.symm⟩ h2
      · rfl
  · rw [if_pos h1]
theorem zns_rel {T : List Ow} (hT : Tb T) {r r' z : Int} (h : r' ≠ r) : zns (rel9 T r' z).2 (r, true) 26 = zns T (r, true) 26 := by
  unfold rel9
  by_cases h1 : Rb r' ∧ Zo z
  · rw [if_neg (show ¬¬(Rb r' ∧ Zo z) from fun q => q h1)]
    by_cases h2 : at9 T z = (r', true)
    · rw [if_pos h2]
      unfold zns
      congr 1
      apply List.filter_congr
      intro k hk
      have hk : k < 26 := by simpa using hk
      show (List.getD (T.set z.toNat (0, false)) k (0, false) == (r, true)) = _
      have hz1 := h1.2.1
      have hz2 := h1.2.2
      rw [getD_set9 (by rw [hT.len]; omega)]
      split
      · rename_i e
        rw [Bool.eq_iff_iff]
        simp only [beq_iff_eq]
        constructor
        · intro q; cases q
        · intro q
          rw [e] at q
          have : at9 T z = (r, true) := by unfold at9; rw [if_pos h1.2]; exact q
          rw [this] at h2
          exact absurd (congrArg Prod.fst h2).symm h
      · rfl
    · rw [if_neg h2]
  · rw [if_pos h1]
theorem zns_act {T : List Ow} (hT : Tb T) {r r' z : Int} (h : r' ≠ r) (q : Bool) : zns (act9 T q r' z).2 (r, true) 26 = zns T (r, true) 26 := by
  cases q
  · exact zns_hold hT h
  · exact zns_rel hT h
set_option maxHeartbeats 8000000 in
theorem lockKeeps_walk (A : Option Addr) (n cap : Nat) (f : Nat → Bool × Int × Int) (A' : Option Addr) (n' cap' : Nat) (f' : Nat → Bool × Int × Int) (rb : Nat) (hrb : rb ≤ 255) (w : World) (h : Acts9 w.heap.size w A n cap f) (_ : True) (h' : Acts9 w.heap.size w A' n' cap' f') (_ : True) :
    Calls Try.prog 6 #[.slice A n cap, .slice A' n' cap', .int .u8 (rb : Int)] w fun e w' => e = .returned (.bool true) ∧ Below w.heap.size w w' := by
  have HA := Lib.hid h
  have HA' := Lib.hid h'
  clear h h'
  go_enter Try.func6, Try.ntmps6
  go_wp2_with fail
  refine (shown9_any _).mono ?_
  rintro e w1 ⟨rfl, hb1⟩
  have HB1 := Lib.hid hb1
  have HN := Lib.hid (LkAt.new w1)
  have HAL := Lib.hid (hb1.trans ((Below.refl w1.heap.size w1).alloc (Nat.le_refl _) (.cells (ocl T0).toArray 51) |>.mono hb1.size))
  clear hb1
  go_wp2_with fail
  refine (new9_any _).mono ?_
  rintro e w2 ⟨rfl, hw2⟩
  rw [← hw2] at HN HAL
  clear hw2
  obtain ⟨g, hg⟩ : ∃ g, g = w1.heap.size := ⟨_, rfl⟩
  have HG : Hid (w.heap.size ≤ g) := Lib.hid (by rw [hg]; exact HB1.out.size)
  rw [← hg] at HN ⊢
  clear hg HB1
  go_wp2_with (go_at_call 9; refine (few9_any A n cap _ HA.out.le HA.out.max HA.out.nil).mono ?_; rintro e w2' ⟨rfl, m, hm, hm2, rfl⟩)
  have hcs : m ≤ cap := Nat.le_trans hm HA.out.le
  have hcs2 : cap ≤ 9223372036854775807 := by have := HA.out.max; unfold maxLen at this; omega
  go_loopw [22] (fun iv wr => ∃ j : Nat, iv = .int .i64 (j : Int) ∧ j ≤ m ∧ Hid (∃ T, LkAt wr g T) ∧ Hid (Below w.heap.size w wr)) (fun iv _ => m - (intOf iv).toNat)
  case atStart => exact ⟨0, rfl, Nat.zero_le _, Lib.hid ⟨_, HN.out⟩, HAL⟩
  case round =>
    rename World => wr
    obtain ⟨j, rfl, hj, HT, HB⟩ := hrel
    by_cases hlj : j < m
    · obtain ⟨T, hT⟩ := HT.out
      obtain ⟨ga, off, rfl, hga, hc⟩ := (HA.out.below HB.out).cell (by omega)
      obtain ⟨k0, k1, k2⟩ := hc j (by omega)
      have hjI : (j : Int) < (m : Int) := by omega
      have hga2 : ga < wr.heap.size := Nat.lt_of_lt_of_le hga HB.out.size
      generalize f j = fj at *
      obtain ⟨q, r, z⟩ := fj
      have k0 : wr.cell? ⟨ga, off + j * 3, none⟩ = some (.bool q) := k0
      have k1 : wr.cell? ⟨ga, off + j * 3 + 1, none⟩ = some (.int .i64 r) := k1
      have k2 : wr.cell? ⟨ga, off + j * 3 + 2, none⟩ = some (.int .i64 z) := k2
      have HAA := Lib.hid ((Below.refl wr.heap.size wr).alloc (Nat.le_refl _) (.cells #[.bool q, .int .i64 r, .int .i64 z] 32))
      have HTA := Lib.hid (hT.later HAA.out)
      have HBA := Lib.hid (HB.out.trans (HAA.out.mono HB.out.size))
      clear hc hT hga
      go_wp2_with fail
      refine (does9_any HTA.out q r z).mono ?_
      rintro e w4 ⟨rfl, h4, o4⟩
      have H4 : Hid (∃ T, LkAt w4 g T) := Lib.hid ⟨_, h4⟩
      have HB4 := Lib.hid (HBA.out.trans (o4.below HBA.out.size HG.out))
      clear h4 o4
      go_wp2_with fail
      go_roundw
      case rel => exact ⟨j + 1, by go_num, by omega, H4, HB4⟩
      case measure => simp [intOf]; omega
    · obtain rfl : j = m := by omega
      obtain ⟨T, hT⟩ := HT.out
      have HT := Lib.hid hT
      obtain ⟨k, hk⟩ : ∃ k : Nat, k = rb % 8 := ⟨_, rfl⟩
      have hk2 : (rb : Int) % 8 = (k : Int) := by omega
      have hk3 : k < 8 := by omega
      clear hT hk
      go_wp2_with fail
      refine (of9_any HT.out (k : Int)).mono ?_
      rintro e w5 ⟨A5, n5, c5, rfl, hn5, ho5, hb5⟩
      have HO5 := Lib.hid ho5
      have HN5 := Lib.hid hn5
      have HB5 := Lib.hid (HB.out.trans (hb5.mono HB.out.size))
      have HT5 := Lib.hid (HT.out.later hb5)
      clear hn5 ho5 hb5
      go_wp2_with (go_at_call 9; refine (few9_any A' n' cap' _ HA'.out.le HA'.out.max HA'.out.nil).mono ?_; rintro e w2' ⟨rfl, m', hm', hm2', rfl⟩)
      have hcs3 : m' ≤ cap' := Nat.le_trans hm' HA'.out.le
      have hcs4 : cap' ≤ 9223372036854775807 := by have := HA'.out.max; unfold maxLen at this; omega
      have HST : Hid (LkAt w5 g T ∧ zns T ((k : Int), true) 26 = zns T ((k : Int), true) 26 ∧ Below w5.heap.size w5 w5 ∧ Iw w5 w.heap.size (.slice A5 n5 c5) (zns T ((k : Int), true) 26)) := Lib.hid ⟨HT5.out, rfl, Below.refl _ _, own_lower HO5.out HB.out.size⟩
      go_loopw [39] (fun iv wz => ∃ i : Nat, iv = .int .i64 (i : Int) ∧ i ≤ m' ∧ Hid (∃ T', LkAt wz g T' ∧ zns T' ((k : Int), true) 26 = zns T ((k : Int), true) 26) ∧ Hid (Below w.heap.size w wz ∧ Iw wz w.heap.size (.slice A5 n5 c5) (zns T ((k : Int), true) 26))) (fun iv _ => m' - (intOf iv).toNat)
      case atStart => exact ⟨0, rfl, Nat.zero_le _, Lib.hid ⟨T, HT5.out, rfl⟩, Lib.hid ⟨HB5.out, own_lower HO5.out HB.out.size⟩⟩
      case round =>
        rename World => wz
        obtain ⟨i, rfl, hi, HTz, HBz⟩ := hrel
        obtain ⟨T', hT', hz'⟩ := HTz.out
        have HT' := Lib.hid hT'
        have HZ' := Lib.hid hz'
        clear hT' hz' HTz
        by_cases hli : i < m'
        · obtain ⟨ga, off, rfl, hga, hc⟩ := (HA'.out.below HBz.out.1).cell (by omega)
          obtain ⟨k0, k1, k2⟩ := hc i (by omega)
          have hiI : (i : Int) < (m' : Int) := by omega
          have hga2 : ga < wz.heap.size := Nat.lt_of_lt_of_le hga HBz.out.1.size
          generalize f' i = fj at *
          obtain ⟨q, r, z⟩ := fj
          have k0 : wz.cell? ⟨ga, off + i * 3, none⟩ = some (.bool q) := k0
          have k1 : wz.cell? ⟨ga, off + i * 3 + 1, none⟩ = some (.int .i64 r) := k1
          have k2 : wz.cell? ⟨ga, off + i * 3 + 2, none⟩ = some (.int .i64 z) := k2
          have HAA := Lib.hid ((Below.refl wz.heap.size wz).alloc (Nat.le_refl _) (.cells #[.bool q, .int .i64 r, .int .i64 z] 32))
          have HTA := Lib.hid (HT'.out.later HAA.out)
          have HBA := Lib.hid (And.intro (HBz.out.1.trans (HAA.out.mono HBz.out.1.size)) (HBz.out.2.later HAA.out))
          clear hc hga
          by_cases he : r = (k : Int)
          · have hd : (r != (k : Int)) = false := by rw [bne_eq_false_iff_eq]; exact he
            clear he
            go_wp2_with fail
            go_roundw
            case rel => exact ⟨i + 1, by go_num, by omega, Lib.hid ⟨T', HTA.out, HZ'.out⟩, HBA⟩
            case measure => simp [intOf]; omega
          · have hd : (r != (k : Int)) = true := by rw [bne_iff_ne]; exact he
            have HZA := Lib.hid ((zns_act HT'.out.tb (z := z) he q).trans HZ'.out)
            have HTB := Lib.hid HTA.out
            clear he
            go_wp2_with fail
            refine (does9_any HTB.out q r z).mono ?_
            rintro e w6 ⟨rfl, h6, o6⟩
            have H6 : Hid (∃ T', LkAt w6 g T' ∧ zns T' ((k : Int), true) 26 = zns T ((k : Int), true) 26) := Lib.hid ⟨_, h6, HZA.out⟩
            have HB6 := Lib.hid (And.intro (HBA.out.1.trans (o6.below HBA.out.1.size HG.out)) (HBA.out.2.only HTB.out o6))
            clear h6 o6
            go_wp2_with fail
            go_roundw
            case rel => exact ⟨i + 1, by go_num, by omega, H6, HB6⟩
            case measure => simp [intOf]; omega
        · obtain rfl : i = m' := by omega
          go_wp2_with fail
          refine (of9_any HT'.out (k : Int)).mono ?_
          rw [HZ'.out]
          rintro e w7 ⟨A7, n7, c7, rfl, hn7, ho7, hb7⟩
          have HO7 := Lib.hid ho7.lt
          have HX7 := Lib.hid ((HBz.out.2.later hb7).lt)
          have HB7 := Lib.hid (HBz.out.1.trans (hb7.mono HBz.out.1.size))
          have HNN : Hid (n7 = n5 ∧ n7 ≤ 26) := Lib.hid ⟨by rw [hn7, HN5.out], by rw [hn7]; exact zns_len _ _ _⟩
          obtain rfl := HNN.out.1
          clear hn7 ho7 hb7
          go_wp2_with fail
          refine (same9_yes A7 A5 n7 c7 c5 _ _ HO7.out.2 HX7.out.2 (by have := HNN.out.2; omega)).mono ?_
          rintro e w8 ⟨rfl, hb8⟩
          have HB8 := Lib.hid (HB7.out.trans (hb8.mono HB7.out.size))
          clear hb8
          go_wp2_with fail
          go_ret
          exact ⟨rfl, HB8.out⟩
end Lk
end Go.Proofs.Ytnbdgijppdiecaa
