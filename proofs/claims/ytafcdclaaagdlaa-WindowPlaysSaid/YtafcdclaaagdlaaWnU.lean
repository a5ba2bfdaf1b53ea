/-
  Layer 6: the document's table: Is, Free.
-/
import Derived.Test.YtafcdclaaagdlaaWnT
set_option linter.unusedVariables false
set_option maxRecDepth 100000
namespace Go.Proofs.Ytafcdclaaagdlaa.Wn
open Go.RowKit Go.Maps

set_option maxHeartbeats 2000000 in
theorem r6is_any (rb : Nat) (A : Option Addr) (c : Nat) (R : List R3) (x m : Int) (w : World) (h : RT w rb A c R) (hO : Ordw 0 (tkn R x)) :
    Calls Try.prog 17 #[.pointer (some ⟨rb, 0, none⟩), .int .i64 x, .int .i64 m] w fun e w' => e = .returned (.bool (isT (tkn R x) m)) ∧ Below w.heap.size w w' := by
  have HT := Lib.hid (r6taken_any rb A c R x w h)
  have hsm : (tkn R x).length ≤ 100000 := Nat.le_trans (tkn_len R x) h.few
  have HIS := Lib.hid (isT_in (m := m) hO)
  clear h hO
  generalize tkn R x = L at *
  go_enter Try.func17, Try.ntmps17
  go_wp2_with fail
  refine HT.out.mono ?_
  rintro e w1 ⟨A1, c1, rfl, ho, hb⟩
  have HO := Lib.hid ho.wt
  have HB := Lib.hid hb
  have hs := ho.wt.size
  have hs1 := hs.1
  have hs2 := hs.2
  clear ho hb hs
  go_wp2_with fail
  go_loopw [8] (fun iv wr => ∃ j : Nat, iv = .int .i64 (j : Int) ∧ j ≤ L.length ∧ Hid (inW m (L.take j) = false) ∧ Below w1.heap.size w1 wr) (fun iv _ => L.length - (intOf iv).toNat)
  case atStart => exact ⟨0, rfl, Nat.zero_le _, Lib.hid rfl, Below.refl _ _⟩
  case round =>
    rename World => wr
    obtain ⟨j, rfl, hj, HI, hb⟩ := hrel
    have HBR := Lib.hid hb
    clear hb
    by_cases hlj : j < L.length
    · obtain ⟨g, off, rfl, _, hc⟩ := (HO.out.later HBR.out).cell (by omega)
      obtain ⟨k1, k2⟩ := hc j hlj
      have HTS := Lib.hid (take_snoc L j hlj)
      have hjI : (j : Int) < (L.length : Int) := by omega
      have HMEM : Hid (L.getD j (0, 0) ∈ L) := Lib.hid (by
        rw [List.getD_eq_getElem?_getD, List.getElem?_eq_getElem hlj]
        exact List.getElem_mem hlj)
      clear hc
      generalize hp : L.getD j (0, 0) = p at *
      obtain ⟨px, py⟩ := p
      clear hp
      simp only at k1 k2
      by_cases h1 : px ≤ m
      · have d1 : decide (px ≤ m) = true := decide_eq_true h1
        by_cases h2 : m < py
        · have HR : Hid (isT L m = false) := Lib.hid (by
            have : inW m L = true := by
              unfold inW
              exact List.any_eq_true.2 ⟨(px, py), HMEM.out, by simp [h1, h2]⟩
            rw [HIS.out, this]; simp)
          have d2 : decide (m < py) = true := decide_eq_true h2
          go_wp2_with fail
          go_ret
          exact ⟨by rw [HR.out]; rfl, HB.out.trans (HBR.out.mono HB.out.size)⟩
        · have HR : Hid (inW m (L.take (j + 1)) = false) := Lib.hid (by
            have := HI.out
            unfold inW at this ⊢
            rw [HTS.out, List.any_append, this]
            simp [h2])
          have d2 : decide (m < py) = false := decide_eq_false h2
          go_wp2_with fail
          go_roundw
          case rel => exact ⟨j + 1, by go_num, by omega, HR, HBR.out⟩
          case measure => simp [intOf]; omega
      · have HR : Hid (inW m (L.take (j + 1)) = false) := Lib.hid (by
          have := HI.out
          unfold inW at this ⊢
          rw [HTS.out, List.any_append, this]
          simp [h1])
        have d1 : decide (px ≤ m) = false := decide_eq_false h1
        go_wp2_with fail
        go_roundw
        case rel => exact ⟨j + 1, by go_num, by omega, HR, HBR.out⟩
        case measure => simp [intOf]; omega
    · obtain rfl : j = L.length := by omega
      have HR : Hid (isT L m = (decide (0 ≤ m) && decide (m < 1048576))) := Lib.hid (by
        have := HI.out
        rw [List.take_length] at this
        rw [HIS.out, this]; simp)
      by_cases h0 : 0 ≤ m
      · have d0 : decide (0 ≤ m) = true := decide_eq_true h0
        go_wp2_with fail
        go_ret
        exact ⟨by rw [HR.out, d0, Bool.true_and]; rfl, HB.out.trans (HBR.out.mono HB.out.size)⟩
      · have d0 : decide (0 ≤ m) = false := decide_eq_false h0
        go_wp2_with fail
        go_ret
        exact ⟨by rw [HR.out, d0, Bool.false_and]; rfl, HB.out.trans (HBR.out.mono HB.out.size)⟩
theorem frees_end (L : List (Int × Int)) : frees L = gaps 0 L ++ if lastTo 0 L < 1048576 then [(lastTo 0 L, 1048576)] else [] := gaps_snoc (1048576, 0) L 0
set_option maxHeartbeats 2000000 in
theorem r6free_any (rb : Nat) (A : Option Addr) (c : Nat) (R : List R3) (x : Int) (w : World) (h : RT w rb A c R) :
    Calls Try.prog 15 #[.pointer (some ⟨rb, 0, none⟩), .int .i64 x] w fun e w' => ∃ A' c', e = .returned (.slice A' (frees (tkn R x)).length c') ∧ Wow w' w.heap.size (.slice A' (frees (tkn R x)).length c') (frees (tkn R x)) ∧ Below w.heap.size w w' := by
  have HT := Lib.hid (r6taken_any rb A c R x w h)
  have hsm : (tkn R x).length ≤ 100000 := Nat.le_trans (tkn_len R x) h.few
  clear h
  generalize tkn R x = L at *
  have HFE := Lib.hid (frees_end L)
  generalize frees L = FL at *
  go_enter Try.func15, Try.ntmps15
  go_wp2_with fail
  refine HT.out.mono ?_
  rintro e w1 ⟨A1, c1, rfl, ho, hb⟩
  have HO := Lib.hid ho.wt
  have HB := Lib.hid hb
  have hs := ho.wt.size
  have hs1 := hs.1
  have hs2 := hs.2
  clear ho hb hs
  go_wp2_with fail
  go_loopw [5, 7, 8] (fun ov fv iv wr => ∃ (j : Nat) (f : Int) (O : List (Int × Int)) (A' : Option Addr) (c' : Nat), ov = .slice A' O.length c' ∧ fv = .int .i64 f ∧ iv = .int .i64 (j : Int) ∧ j ≤ L.length ∧ Hid (f = lastTo 0 (L.take j) ∧ O = gaps 0 (L.take j)) ∧ Wow wr w1.heap.size (.slice A' O.length c') O ∧ Below w1.heap.size w1 wr) (fun _ _ iv _ => L.length - (intOf iv).toNat)
  case atStart => exact ⟨0, 0, [], none, 0, rfl, rfl, rfl, Nat.zero_le _, Lib.hid ⟨rfl, rfl⟩, Wow.nil _ _, Below.refl _ _⟩
  case round =>
    rename World => wr
    obtain ⟨j, f, O, A', c', rfl, rfl, rfl, hj, HI, ho, hb⟩ := hrel
    have HOO := Lib.hid ho
    have HBR := Lib.hid hb
    have hOl : O.length ≤ 100000 := by
      have := gaps_len (L.take j) 0
      rw [HI.out.2]
      rw [List.length_take] at this
      omega
    have hOs := ho.wt.size
    have hO1 := hOs.1
    have hO2 := hOs.2
    clear ho hb hOs
    by_cases hlj : j < L.length
    · obtain ⟨g, off, rfl, hg, hc⟩ := (HO.out.below HBR.out).cell (by omega)
      have hg2 : g < wr.heap.size := Nat.lt_of_lt_of_le hg HBR.out.size
      obtain ⟨k1, k2⟩ := hc j hlj
      have HTS := Lib.hid (take_snoc L j hlj)
      have hjI : (j : Int) < (L.length : Int) := by omega
      clear hc
      generalize hp : L.getD j (0, 0) = p at *
      obtain ⟨px, py⟩ := p
      clear hp
      simp only at k1 k2
      have HLT : Hid (py = lastTo 0 (L.take (j + 1))) := Lib.hid (by rw [HTS.out, lastTo_snoc])
      by_cases hf : f < px
      · have df : decide (f < px) = true := decide_eq_true hf
        have HN : Hid (O ++ [(f, px)] = gaps 0 (L.take (j + 1))) := Lib.hid (by rw [HTS.out, gaps_snoc, ← HI.out.1, ← HI.out.2, if_pos hf])
        have HA5 := Lib.hid ((Below.refl wr.heap.size wr).alloc (Nat.le_refl _) (.cells #[.int .i64 f, .int .i64 px] 32))
        have HW5 := Lib.hid (Wt.one wr f px)
        have HS5 : Hid (w1.heap.size ≤ (wr.alloc (.cells #[.int .i64 f, .int .i64 px] 32)).heap.size) := Lib.hid (Nat.le_trans HBR.out.size HA5.out.size)
        clear hf
        go_wp2_with (at_builtin; refine app_wins rfl _ _ rfl w1.heap.size _ O rfl (HOO.out.later HA5.out) (some ⟨wr.heap.size, 0, none⟩) 1 1 [(f, px)] rfl HW5.out (by omega) HS5.out ?_; intro A6 c6 w6 ho6 hb6 _ _; have HO6 := Lib.hid ho6; have HB6 := Lib.hid ((HBR.out.trans (HA5.out.mono HBR.out.size)).trans hb6); have k6 := (hb6.cell (p := ⟨g, off + j * 2 + 1, none⟩) hg).trans ((HA5.out.cell (p := ⟨g, off + j * 2 + 1, none⟩) hg2).trans k2); clear ho6 hb6)
        go_roundw
        case rel => exact ⟨j + 1, py, O ++ [(f, px)], A6, c6, by simp, rfl, by go_num, by omega, Lib.hid ⟨HLT.out, HN.out⟩, HO6.out, HB6.out⟩
        case measure => simp [intOf]; omega
      · have df : decide (f < px) = false := decide_eq_false hf
        have HN : Hid (O = gaps 0 (L.take (j + 1))) := Lib.hid (by rw [HTS.out, gaps_snoc, ← HI.out.1, ← HI.out.2, if_neg hf, List.append_nil])
        clear hf
        go_wp2_with fail
        go_roundw
        case rel => exact ⟨j + 1, py, O, A', c', rfl, rfl, by go_num, by omega, Lib.hid ⟨HLT.out, HN.out⟩, HOO.out, HBR.out⟩
        case measure => simp [intOf]; omega
    · obtain rfl : j = L.length := by omega
      have HII : Hid (f = lastTo 0 L ∧ O = gaps 0 L) := Lib.hid (by have := HI.out; rw [List.take_length] at this; exact this)
      by_cases hf : f < 1048576
      · have df : decide (f < 1048576) = true := decide_eq_true hf
        have HN : Hid (O ++ [(f, 1048576)] = FL) := Lib.hid (by rw [HFE.out, ← HII.out.1, ← HII.out.2, if_pos hf])
        have HA5 := Lib.hid ((Below.refl wr.heap.size wr).alloc (Nat.le_refl _) (.cells #[.int .i64 f, .int .i64 1048576] 32))
        have HW5 := Lib.hid (Wt.one wr f 1048576)
        have HS5 : Hid (w1.heap.size ≤ (wr.alloc (.cells #[.int .i64 f, .int .i64 1048576] 32)).heap.size) := Lib.hid (Nat.le_trans HBR.out.size HA5.out.size)
        clear hf
        go_wp2_with (at_builtin; refine app_wins rfl _ _ rfl w1.heap.size _ O rfl (HOO.out.later HA5.out) (some ⟨wr.heap.size, 0, none⟩) 1 1 [(f, 1048576)] rfl HW5.out (by omega) HS5.out ?_; intro A6 c6 w6 ho6 hb6 _ _; have HO6 := Lib.hid ho6; have HB6 := Lib.hid ((HBR.out.trans (HA5.out.mono HBR.out.size)).trans hb6); clear ho6 hb6)
        go_ret
        rw [← HN.out]
        exact ⟨A6, c6, by simp, HO6.out.lower HB.out.size, HB.out.trans (HB6.out.mono HB.out.size)⟩
      · have df : decide (f < 1048576) = false := decide_eq_false hf
        have HN : Hid (O = FL) := Lib.hid (by rw [HFE.out, ← HII.out.1, ← HII.out.2, if_neg hf, List.append_nil])
        clear hf
        go_wp2_with fail
        go_ret
        rw [← HN.out]
        exact ⟨A', c', rfl, HOO.out.lower HB.out.size, HB.out.trans (HBR.out.mono HB.out.size)⟩
end Go.Proofs.Ytafcdclaaagdlaa.Wn
