/-
  The document's answers for layer 3: beside.
-/
import Derived.Test.YtaioiobimenkfaaDoorFlB
import Derived.Test.YtaioiobimenkfaaDoorFlPlain
set_option linter.unusedVariables false
set_option maxRecDepth 100000
namespace Go.Proofs.YtaioiobimenkfaaDoor
open Go.RowKit Fl

set_option maxHeartbeats 4000000 in
theorem rbeside_any (W H c : Nat) (s : ByteArray) (w : World) (hW : 1 ≤ W) (hW2 : W ≤ 16) (hH : 1 ≤ H) (hH2 : H ≤ 16) (hc : c < W * H) :
    Calls Tryd.prog 67 #[.agg #[.int .i64 (W : Int), .int .i64 (H : Int), .string s], .int .i64 (c : Int)] w (Ints (side W H c) w) := by
  have hm := le_mul16 hW2 hH2
  have hc2 : c < 256 := by omega
  have HC := Lib.hid hc
  clear hc hm
  obtain ⟨x, hx⟩ : ∃ x, x = c % W := ⟨_, rfl⟩
  obtain ⟨y, hy⟩ : ∃ y, y = c / W := ⟨_, rfl⟩
  have hxm : (c : Int) % (W : Int) = (x : Int) := by rw [hx]; rfl
  have hyq : (c : Int) / (W : Int) = (y : Int) := by rw [hy]; rfl
  have hyb : y < 256 := by rw [hy]; exact Nat.lt_of_le_of_lt (Nat.div_le_self _ _) hc2
  have hxb : x < 256 := by rw [hx]; exact Nat.lt_of_le_of_lt (Nat.mod_le _ _) hc2
  have hle : 0 < y → W ≤ c := fun h => le_div_mul (by rw [← hy]; exact h)
  have hle2 : 0 < x → 1 ≤ c := fun h => by rw [hx] at h; rcases Nat.eq_zero_or_pos c with h0 | h0; (subst h0; simp at h); exact h0
  have hyw : wrap64 ((y : Nat) : Int) = (y : Int) := by unfold wrap64; omega
  have U := Lib.hid (show up W c = if 0 < y then [c - W] else [] by unfold up; rw [hy])
  have R := Lib.hid (show rt W c = if x + 1 < W then [c + 1] else [] by unfold rt; rw [hx])
  have D := Lib.hid (show dn W H c = if y + 1 < H then [c + W] else [] by unfold dn; rw [hy])
  have L := Lib.hid (show lf W c = if 0 < x then [c - 1] else [] by unfold lf; rw [hx])
  clear hx hy
  have HLE := Lib.hid hle
  have HLE2 := Lib.hid hle2
  clear hle hle2
  go_enter Tryd.func67, Tryd.ntmps67
  go_upto_if 17 with (fail)
  rw [hxm]
  have HO : Hid (Own (w.alloc (.cells #[.int .i64 (W : Int), .int .i64 (H : Int), .string s] 23)) (w.heap.size + 1) (.slice none 0 0) []) := Lib.hid (Own.nil _ _)
  have HB : Hid (Box w W H s (w.alloc (.cells #[.int .i64 (W : Int), .int .i64 (H : Int), .string s] 23))) := Lib.hid (Box.start w W H s 23)
  generalize hw1 : w.alloc (.cells #[.int .i64 (W : Int), .int .i64 (H : Int), .string s] 23) = w1 at *
  have HW1 := Lib.hid hw1
  clear hxm hyq hyw hw1
  go_cut [5] (Part w W H s (up W c))
  case first =>
    have k0 := HB.out.c0
    by_cases h : 0 < y
    · have hle := HLE.out h
      have hsz := HB.out.lt
      go_wp2_with (at_builtin; refine app_int rfl _ _ rfl (w.heap.size + 1) _ [] rfl (c - W) _ (by omega) _ rfl HO.out rfl (by simp) (by omega) ?_; intro A' c' n' w2 hn2 ho2 hb2 hg2; have HN2 := Lib.hid hn2; clear hn2)
      go_meet
      rw [U.out, if_pos h]
      exact Part.add HB.out HN2.out ho2 hb2
    · go_wp2
      go_meet
      rw [U.out, if_neg h]
      exact ⟨_, _, _, rfl, rfl, HO.out, HB.out⟩
  case rest =>
    obtain ⟨a, n, cap, rfl, hn, ho, hB⟩ := hcut
    have hsl := side_len W H c
    rw [side] at hsl
    simp only [List.length_append] at hsl
    have hl : (up W c).length ≤ 1048576 := by omega
    have kkc0 := hB.c0
    have hsz := hB.lt
    have HO := Lib.hid ho
    have HB := Lib.hid hB
    have HN := Lib.hid hn
    clear hsl ho hB hn
    go_upto_if 29 with (fail)
    go_cut [5] (Part w W H s (up W c ++ rt W c))
    case first =>
      by_cases h : x + 1 < W
      · have hle := hW
        go_wp2_with (at_builtin; refine app_int rfl _ _ rfl (w.heap.size + 1) _ (up W c) rfl (c + 1) _ (by omega) _ rfl HO.out rfl hl (by omega) ?_; intro A' c' n' w2 hn2 ho2 hb2 hg2; have HN2 := Lib.hid hn2; clear hn2)
        go_meet
        rw [R.out, if_pos h]
        exact Part.add HB.out HN2.out ho2 hb2
      · go_wp2
        go_meet
        rw [R.out, if_neg h, List.append_nil]
        exact ⟨_, _, _, rfl, HN.out, HO.out, HB.out⟩
    case rest =>
      obtain ⟨a, n, cap, rfl, hn, ho, hB⟩ := hcut
      have hsl := side_len W H c
      rw [side] at hsl
      simp only [List.length_append] at hsl
      have hl : (up W c ++ rt W c).length ≤ 1048576 := by simp only [List.length_append]; omega
      have kkc0 := hB.c0
      have kkc1 := hB.c1
      have hsz := hB.lt
      have HO := Lib.hid ho
      have HB := Lib.hid hB
      have HN := Lib.hid hn
      clear hsl ho hB hn
      go_upto_if 39 with (fail)
      go_cut [5] (Part w W H s (up W c ++ rt W c ++ dn W H c))
      case first =>
        by_cases h : y + 1 < H
        · have hle := hW
          go_wp2_with (at_builtin; refine app_int rfl _ _ rfl (w.heap.size + 1) _ (up W c ++ rt W c) rfl (c + W) _ (by omega) _ rfl HO.out rfl hl (by omega) ?_; intro A' c' n' w2 hn2 ho2 hb2 hg2; have HN2 := Lib.hid hn2; clear hn2)
          go_meet
          rw [D.out, if_pos h]
          exact Part.add HB.out HN2.out ho2 hb2
        · go_wp2
          go_meet
          rw [D.out, if_neg h, List.append_nil]
          exact ⟨_, _, _, rfl, HN.out, HO.out, HB.out⟩
      case rest =>
        obtain ⟨a, n, cap, rfl, hn, ho, hB⟩ := hcut
        have hsl := side_len W H c
        rw [side] at hsl
        simp only [List.length_append] at hsl
        have hl : (up W c ++ rt W c ++ dn W H c).length ≤ 1048576 := by simp only [List.length_append]; omega
        have hsz := hB.lt
        have HO := Lib.hid ho
        have HB := Lib.hid hB
        have HN := Lib.hid hn
        clear hsl ho hB hn
        go_upto_if 48 with (fail)
        go_cut [5] (Part w W H s (up W c ++ rt W c ++ dn W H c ++ lf W c))
        case first =>
          by_cases h : 0 < x
          · have hle := HLE2.out h
            go_wp2_with (at_builtin; refine app_int rfl _ _ rfl (w.heap.size + 1) _ (up W c ++ rt W c ++ dn W H c) rfl (c - 1) _ (by omega) _ rfl HO.out rfl hl (by omega) ?_; intro A' c' n' w2 hn2 ho2 hb2 hg2; have HN2 := Lib.hid hn2; clear hn2)
            go_meet
            rw [L.out, if_pos h]
            exact Part.add HB.out HN2.out ho2 hb2
          · go_wp2
            go_meet
            rw [L.out, if_neg h, List.append_nil]
            exact ⟨_, _, _, rfl, HN.out, HO.out, HB.out⟩
        case rest =>
          obtain ⟨a, n, cap, rfl, hn, ho, hB⟩ := hcut
          have HO := Lib.hid ho
          have HB := Lib.hid hB
          have HN := Lib.hid hn
          clear ho hB hn
          go_wp2
          go_ret
          exact ⟨_, _, _, rfl, HN.out, HO.out.lower (Nat.le_succ _), HB.out.below⟩

end Go.Proofs.YtaioiobimenkfaaDoor
