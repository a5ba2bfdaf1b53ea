/-
  The document's answers for layer 3: is a row wrong?
-/
import Derived.Test.YtlecichbenpiiaaDoorFlI
import Derived.Test.YtlecichbenpiiaaDoorFlR7
import Derived.Test.YtlecichbenpiiaaDoorFlBk
set_option linter.unusedVariables false
namespace Go.Proofs.YtlecichbenpiiaaDoor
open Go.RowKit Fl

theorem okc_cases (c : Nat) : okc c = ((c == 35) || isL c || isD c) := rfl

set_option maxHeartbeats 8000000 in
theorem rwrong_any (A : Option Addr) (n cap : Nat) (P : List ByteArray) (i : Nat) (hi : i < P.length) (hn : n = P.length) (hl : P.length ≤ 3000) (hz : ∀ j, j < P.length → (P.getD j ⟨#[]⟩).size ≤ 3000)
    (w : World) (base : Nat) (ho : OwnS w base (.slice A n cap) P) :
    Calls Tryd.prog 32 #[.slice A n cap, .int .i64 (i : Int)] w fun e w' => e = .returned (.bool (bad (listsOf P) i)) ∧ Below w.heap.size w w' := by
  have HBF := Lib.hid (fun h => bad_of (P := P) (j := i) h)
  have HBT := Lib.hid (fun h h2 => bad_not (P := P) (j := i) h h2)
  have hp := hz i hi
  have hp0 := hz 0 (by omega)
  have HO := Lib.hid ho
  obtain ⟨g, rfl, hg, hgl, ci⟩ := ho.at i hi
  obtain ⟨g2, e, _, _, c0⟩ := ho.at 0 (by omega)
  obtain rfl : g = g2 := by simpa using e
  have i1 : (i : Int) < (n : Int) := by omega
  have i2 : i < n := by omega
  have i3 : 0 < n := by omega
  have hn2 : n ≤ 3000 := by omega
  have HN := Lib.hid hn
  clear hn hz ho e hi hl
  generalize P.getD i ⟨#[]⟩ = p at *
  generalize P.getD 0 ⟨#[]⟩ = p0 at *
  by_cases h16 : 16 ≤ i
  · have hr : bad (listsOf P) i = true := HBF.out (.inl h16)
    rw [hr]
    have d16 : decide (16 ≤ (i : Int)) = true := by simp; omega
    go_enter Tryd.func32, Tryd.ntmps32
    go_wp2_with fail
    go_big_quiet (fail)
    go_wp2_with fail
    go_ret
    exact ⟨rfl, below_drewN _ _ _⟩
  · have d16 : decide (16 ≤ (i : Int)) = false := by simp; omega
    by_cases he : p = ⟨#[]⟩
    · have hr : bad (listsOf P) i = true := HBF.out (.inr (by rw [he]; rfl))
      rw [hr]
      subst he
      go_enter Tryd.func32, Tryd.ntmps32
      go_wp2_with fail
      go_big_quiet (fail)
      go_wp2_with fail
      go_ret
      exact ⟨rfl, below_drewN _ _ _⟩
    · have tE : p.toList.isEmpty = false := by
        rw [Lib.toList_data]
        cases h : p.data.toList with
        | nil => exfalso; apply he; apply ByteArray.ext; apply Array.ext'; rw [h]
        | cons _ _ => rfl
      have hp1 : 1 ≤ p.size := by
        rcases Nat.eq_zero_or_pos p.size with h | h
        · exact absurd (ByteArray.ext (Array.eq_empty_of_size_eq_zero (show p.data.size = 0 from h))) he
        · exact h
      have HE := Lib.hid he
      clear he
      by_cases hq : 16 < p.size
      · have hr : bad (listsOf P) i = true := HBF.out (.inr (by unfold rowOk; rw [size_list, decide_eq_false (show ¬ p.size ≤ 16 by omega)]; simp))
        rw [hr]
        have dq : decide (16 < (p.size : Int)) = true := by simp; omega
        go_enter Tryd.func32, Tryd.ntmps32
        go_wp2_with fail
        go_big_quiet (fail)
        go_wp2_with fail
        go_ret
        exact ⟨rfl, below_drewN _ _ _⟩
      · have dq : decide (16 < (p.size : Int)) = false := by simp; omega
        by_cases hs : p.size = p0.size
        · have ds : ((p.size : Int) != (p0.size : Int)) = false := by rw [bne_eq_false_iff_eq]; omega
          have HRK : Hid (rowOk p0.size p.data.toList = p.data.toList.all fun c => okc c.toNat) := Lib.hid (by unfold rowOk; rw [size_list, decide_eq_true hp1, decide_eq_true (show p.size ≤ 16 by omega), decide_eq_true hs]; rfl)
          have HALL := Lib.hid (fun (h : ∀ j, j < p.size → okc (at_ p j) = true) => HBT.out (show i < 16 by omega) (by rw [HRK.out, List.all_eq_true]; exact data_okc rfl h))
          have HONE := Lib.hid (fun (j : Nat) (hj : j < p.size) (h : okc (at_ p j) = false) => HBF.out (.inr (by
            rw [HRK.out, Bool.eq_false_iff]
            intro k
            rw [List.all_eq_true] at k
            have hj' : j < p.data.toList.length := by rw [size_list]; exact hj
            have := k _ (List.getElem_mem hj')
            unfold at_ at h
            rw [List.getD, List.getElem?_eq_getElem hj'] at h
            simp only [Option.getD_some] at h
            rw [this] at h
            cases h)))
          clear hs
          go_enter Tryd.func32, Tryd.ntmps32
          go_wp2_with fail
          go_big_quiet (fail)
          go_wp2_with fail
          go_loopw [5] (fun iv wr => ∃ k : Nat, k ≤ p.size ∧ iv = .int .i64 (k : Int) ∧ Below w.heap.size w wr ∧ ∀ j, j < k → okc (at_ p j) = true) (fun iv _ => p.size - (intOf iv).toNat)
          case atStart => exact ⟨0, Nat.zero_le _, rfl, below_drewN _ _ _, fun j hj => by omega⟩
          case round =>
            rename World => wr
            obtain ⟨k, hk, rfl, hB, hJ⟩ := hrel
            have HB := Lib.hid hB
            have HJ := Lib.hid hJ
            have ci2 := (hB.cell (p := ⟨g, i, none⟩) hgl).trans ci
            clear hB hJ
            by_cases hlt : k < p.size
            · have HZ := Lib.hid (at_get p k hlt)
              have HONK := Lib.hid (HONE.out k hlt)
              have HOK := Lib.hid (okc_cases (at_ p k))
              have hzz := HZ.out
              have hgt : p[k].toNat ≤ 255 := by have := p[k].toNat_lt; omega
              have step : ∀ b, okc p[k].toNat = b → okc (at_ p k) = b := fun b h => by rw [← hzz]; exact h
              clear hzz
              by_cases hd : isD p[k].toNat = true
              · have HR : Hid (okc (at_ p k) = true) := Lib.hid (step _ (by unfold okc; rw [hd]; simp))
                clear step
                have D := Lib.hid (rdock_is p[k].toNat true wr hd)
                clear hd
                go_wp2_with (go_at_call 37; refine D.out.mono ?_; rintro e w' ⟨rfl, rfl⟩)
                go_roundw
                case rel => exact ⟨k + 1, by omega, by go_num, HB.out, fun j hj => by rcases Nat.lt_succ_iff_lt_or_eq.1 hj with h | h; exact HJ.out j h; rw [h]; exact HR.out⟩
                case measure => simp [intOf]; omega
              · have D := Lib.hid (rdock_is p[k].toNat false wr (by simpa using hd))
                by_cases hln : isL p[k].toNat = true
                · have HR : Hid (okc (at_ p k) = true) := Lib.hid (step _ (by unfold okc; rw [hln]; simp))
                  have L := Lib.hid (rlane_w p[k].toNat true wr hln)
                  clear step hd hln
                  go_wp2_with (first
                    | (go_at_call 37; refine D.out.mono ?_; rintro e w' ⟨rfl, rfl⟩)
                    | (go_at_call 38; refine L.out.mono ?_; rintro e w' ⟨rfl, rfl⟩))
                  go_roundw
                  case rel => exact ⟨k + 1, by omega, by go_num, HB.out, fun j hj => by rcases Nat.lt_succ_iff_lt_or_eq.1 hj with h | h; exact HJ.out j h; rw [h]; exact HR.out⟩
                  case measure => simp [intOf]; omega
                · have L := Lib.hid (rlane_w p[k].toNat false wr (by simpa using hln))
                  by_cases h35 : p[k].toNat = 35
                  · have HR : Hid (okc (at_ p k) = true) := Lib.hid (step _ (by unfold okc; rw [h35]; rfl))
                    have hb : ((p[k].toNat : Int) != 35) = false := by rw [bne_eq_false_iff_eq]; omega
                    clear step hd hln h35
                    go_wp2_with (first
                      | (go_at_call 37; refine D.out.mono ?_; rintro e w' ⟨rfl, rfl⟩)
                      | (go_at_call 38; refine L.out.mono ?_; rintro e w' ⟨rfl, rfl⟩))
                    go_roundw
                    case rel => exact ⟨k + 1, by omega, by go_num, HB.out, fun j hj => by rcases Nat.lt_succ_iff_lt_or_eq.1 hj with h | h; exact HJ.out j h; rw [h]; exact HR.out⟩
                    case measure => simp [intOf]; omega
                  · have HR : Hid (bad (listsOf P) i = true) := Lib.hid (HONK.out (step _ (by unfold okc; rw [Bool.eq_false_iff.2 hd, Bool.eq_false_iff.2 hln]; simpa using h35)))
                    have hb : ((p[k].toNat : Int) != 35) = true := by rw [bne_iff_ne]; omega
                    clear step hd hln h35
                    go_wp2_with (first
                      | (go_at_call 37; refine D.out.mono ?_; rintro e w' ⟨rfl, rfl⟩)
                      | (go_at_call 38; refine L.out.mono ?_; rintro e w' ⟨rfl, rfl⟩))
                    go_ret
                    exact ⟨ret_bool HR.out.symm, HB.out⟩
            · obtain rfl : k = p.size := by omega
              have HR : Hid (bad (listsOf P) i = false) := Lib.hid (HALL.out HJ.out)
              go_wp2_with fail
              go_ret
              exact ⟨ret_bool HR.out.symm, HB.out⟩
        · have hr : bad (listsOf P) i = true := HBF.out (.inr (by unfold rowOk; rw [size_list, decide_eq_false hs]; simp))
          rw [hr]
          have ds : ((p.size : Int) != (p0.size : Int)) = true := by rw [bne_iff_ne]; omega
          clear hs
          go_enter Tryd.func32, Tryd.ntmps32
          go_wp2_with fail
          go_big_quiet (fail)
          go_wp2_with fail
          go_ret
          exact ⟨rfl, below_drewN _ _ _⟩

end Go.Proofs.YtlecichbenpiiaaDoor
