/-
  The document's answers for layer 2: Scan, Same.
-/
import Derived.Test.YtnamnikelgcepaaCkThr
set_option linter.unusedVariables false
set_option maxRecDepth 100000
namespace Go.Proofs.Ytnamnikelgcepaa
open Go.RowKit Bp Ck

theorem drawn_below {w w' : World} (h : Drawn w w') : Below w.heap.size w w' := by
  obtain ⟨q, rfl⟩ := h
  exact ⟨rfl, rfl, rfl, Nat.le_refl _, fun _ _ => rfl⟩
theorem Drawn.drew {w w' : World} (h : Drawn w w') : Drawn w w'.drew := by
  obtain ⟨q, rfl⟩ := h
  exact ⟨q + 1, rfl⟩
set_option maxHeartbeats 1000000 in
theorem refSame_quiet {B : Nat} {w : World} {A A2 : Option Addr} {n cap cap2 : Nat} {ls : List (List Nat)} (h1 : Bss B w A n cap ls) (h2 : Bss B w A2 n cap2 ls) (hB : B ≤ w.heap.size) :
    Calls Try.prog 15 #[.slice A n cap, .slice A2 n cap2] w fun e w' => e = .returned (.bool true) ∧ ∃ q, w' = w.drewN q := by
  have hle := h1.le
  have hmx := h1.max
  have hle2 := h2.le
  have hmx2 := h2.max
  unfold maxLen at hmx hmx2
  have H1 := Lib.hid h1
  have H2 := Lib.hid h2
  clear h1 h2
  have hnn : ((n : Int) != (n : Int)) = false := by simp
  go_enter Try.func15, Try.ntmps15
  go_wp2
  go_loopw [5] (fun i wr => ∃ k : Nat, k ≤ n ∧ i = .int .i64 (k : Int) ∧ Drawn w wr) (fun i _ => n - (intOf i).toNat)
  case atStart => exact ⟨0, Nat.zero_le _, rfl, 0, rfl⟩
  case round =>
    obtain ⟨k, hk, rfl, hdr⟩ := hrel
    have HB := Lib.hid hdr
    have hb := drawn_below hdr
    clear hdr
    by_cases hlt : k < n
    · have b1 := H1.out.below (hb.mono hB)
      have b2 := H2.out.below (hb.mono hB)
      obtain ⟨g, off, hA, hg, hc⟩ := b1.cell (by omega)
      obtain ⟨g2, off2, hA2, hg2, hc2⟩ := b2.cell (by omega)
      obtain ⟨A3, n3, c3, d3, y3⟩ := hc k hlt
      obtain ⟨A4, n4, c4, d4, y4⟩ := hc2 k hlt
      subst hA hA2
      have v3 := y3.conv
      have v4 := y4.conv
      have v3' := y3.drew.conv
      have v4' := y4.drew.conv
      generalize strOf (ls.getD k []) = s at *
      clear hc hc2 b1 b2 y3 y4 hb
      go_wp2
      go_region
      all_goals go_wp2
      go_roundw
      case rel => exact ⟨k + 1, by omega, by go_num, HB.out.drew⟩
      case measure => simp [intOf]; omega
    · obtain rfl : k = n := by omega
      clear hb
      go_wp2
      go_ret
      exact ⟨rfl, HB.out⟩

theorem refSame_eq {B : Nat} {w : World} {A A2 : Option Addr} {n cap cap2 : Nat} {ls : List (List Nat)} (h1 : Bss B w A n cap ls) (h2 : Bss B w A2 n cap2 ls) (hB : B ≤ w.heap.size) :
    Calls Try.prog 15 #[.slice A n cap, .slice A2 n cap2] w fun e w' => e = .returned (.bool true) ∧ Below w.heap.size w w' := by
  refine (refSame_quiet h1 h2 hB).mono ?_
  rintro e w' ⟨rfl, hq⟩
  exact ⟨rfl, drawn_below hq⟩

theorem noFrm_short (r : List Nat) (h : r.length < 4) : isFrm (ahd r) = false := by
  unfold ahd
  rw [if_pos h]
  decide
theorem noFrm_cut (r : List Nat) (h : r.length < 256 * r.getD 0 0 + r.getD 1 0 + 4) : isFrm (ahd r) = false := by
  by_cases h4 : r.length < 4
  · exact noFrm_short r h4
  · unfold ahd
    rw [if_neg h4, List.take_of_length_le (by omega)]
    unfold isFrm
    rw [beq_eq_false_iff_ne.2 (by omega : r.length ≠ 256 * r.getD 0 0 + r.getD 1 0 + 4)]
    simp

set_option maxHeartbeats 4000000 in
theorem refScan_any {B : Nat} {w : World} {A : Option Addr} {n cap : Nat} {zs : List Nat} (h : By B w A n cap zs) (hB : B ≤ w.heap.size) (hn : n ≤ 1048576) :
    Calls Try.prog 34 #[.slice A n cap] w fun e w' => ScanTold w zs e w' := by
  have hle := h.le
  have hmx := h.max
  unfold maxLen at hmx
  have HL := Lib.hid h.len
  have HH := Lib.hid h
  clear h
  go_enter Try.func34, Try.ntmps34
  go_wp2
  go_loopw [4, 5] (fun v i wr => ∃ fs : List (List Nat), i = .int .i64 (fs.flatten.length : Int) ∧ fs.flatten.length ≤ n ∧ fs.length ≤ fs.flatten.length ∧ (∀ f ∈ fs, isFrm f = true) ∧ zs.take fs.flatten.length = fs.flatten ∧ Lst w.heap.size wr v (fs.map inn) ∧ Below w.heap.size w wr) (fun _ i _ => n - (intOf i).toNat)
  case atStart => exact ⟨[], rfl, Nat.zero_le _, Nat.le_refl _, by simp, by simp, Lst.none_ _ _, Below.refl _ _⟩
  case round =>
    obtain ⟨fs, rfl, h1, h2, h3, h4, h5, h6⟩ := hrel
    obtain ⟨vA, vc, hv, hbss⟩ := h5.bss
    rw [List.length_map] at hv hbss
    subst hv
    obtain ⟨at_, hat⟩ : ∃ k, k = fs.flatten.length := ⟨_, rfl⟩
    rw [← hat] at h1 h2 h4 ⊢
    have HAt := Lib.hid hat
    have H3 := Lib.hid h3
    have H4 := Lib.hid h4
    have H5 := Lib.hid h5
    have H6 := Lib.hid h6
    have HS := Lib.hid hbss
    have hsz := h6.size
    obtain ⟨r, hr⟩ : ∃ r, r = zs.drop at_ := ⟨_, rfl⟩
    have HRr : Hid (zs = fs.flatten ++ r) := Lib.hid (by rw [hr, ← H4.out, List.take_append_drop])
    have hrl : r.length = n - at_ := by rw [hr, List.length_drop, HL.out]
    clear hat h3 h4 h5 h6 hbss
    by_cases hc4 : at_ + 4 ≤ n
    · obtain ⟨g, off, hA, hg, hcell⟩ := (HH.out.below (H6.out.mono hB)).cell (by omega)
      have e0 := hcell at_ (by omega)
      have e1 := hcell (at_ + 1) (by omega)
      have G0 : Hid (zs.getD at_ 0 = r.getD 0 0) := Lib.hid (by rw [hr]; simp [List.getD])
      have G1 : Hid (zs.getD (at_ + 1) 0 = r.getD 1 0) := Lib.hid (by rw [hr]; simp [List.getD])
      have b0 := getD_byte zs at_ HH.out.byte
      have b1 := getD_byte zs (at_ + 1) HH.out.byte
      rw [G0.out] at e0 b0
      rw [G1.out] at e1 b1
      obtain ⟨N, hN⟩ : ∃ N, N = 256 * r.getD 0 0 + r.getD 1 0 + 4 := ⟨_, rfl⟩
      have HN := Lib.hid hN
      have hNN : 4 ≤ N := by omega
      subst hA
      have HC : n - at_ < N → isFrm (ahd r) = false := fun hh => noFrm_cut r (by rw [hrl, ← hN]; exact hh)
      have HAE : N ≤ n - at_ → r.take N = ahd r := fun hh => by unfold ahd; rw [if_neg (by omega), ← hN]
      have HC' := Lib.hid HC
      have HAE' := Lib.hid HAE
      clear HC HAE
      generalize r.getD 0 0 = x0 at *
      generalize r.getD 1 0 = x1 at *
      have hx : (256 * (x0 : Int) + (x1 : Int) + 4) = (N : Int) := by omega
      have HX := Lib.hid hx
      clear hx hN hcell G0 G1
      go_wp2
      go_region
      rw [HX.out]
      have HBd := Lib.hid H6.out.drew
      have H5d := Lib.hid (H5.out.later (Below.refl _ wr).drew)
      by_cases hbig : n - at_ < N
      · have HF : Hid (isFrm (ahd r) = false) := Lib.hid (HC'.out hbig)
        have hbi : (n : Int) - (at_ : Int) < (N : Int) := by omega
        clear HH
        go_wp2
        go_ret2
        refine ⟨fs, vA, vc, by rw [← HAt.out]; rfl, ⟨H3.out, r, HRr.out, HF.out⟩, ?_, HBd.out⟩
        exact HS.out.drew
      · have hs : ∀ wx, (Instr.slice 22 (.slice (some ⟨g, off, none⟩) n cap) (some (.int .i64 (at_ : Int))) (some (.int .i64 ((at_ : Int) + (N : Int)))) none).run Try.prog wx = .ok (.slice (cutA (some ⟨g, off, none⟩) at_ cap) N (cap - at_)) wx := fun wx => by
          have := slice_lh (some ⟨g, off, none⟩) n cap at_ (at_ + N) wx (by omega) (by omega)
          rw [show ((at_ + N : Nat) : Int) = (at_ : Int) + (N : Int) by omega, show at_ + N - at_ = N by omega] at this
          exact this
        have hbi : ¬ (n : Int) - (at_ : Int) < (N : Int) := by omega
        have HR : Hid (By B wr.drew (cutA (some ⟨g, off, none⟩) at_ cap) N (cap - at_) (ahd r)) := Lib.hid (by
          have h0 := ((HH.out.cut at_ (at_ + N) cap (by omega) (by omega) (by omega) (Nat.le_refl _)).below (HBd.out.mono hB))
          rw [show at_ + N - at_ = N by omega, ← hr] at h0
          rw [HAE'.out (by omega)] at h0
          exact h0)
        have hal : (ahd r).length = N := HR.out.len
        have HAL := Lib.hid hal
        clear hal
        clear hr
        by_cases hf : isFrm (ahd r) = true
        · obtain ⟨q1, q2⟩ := isFrm_len hf
          rw [HAL.out] at q1 q2
          have HI := Lib.hid (HR.out.inner q1)
          go_wp2_with fail
          refine (refOpen_yes HR.out (by have := HBd.out.size; omega) hf).mono ?_
          rintro e w2 ⟨rfl, hb2⟩
          have HB2 := Lib.hid (HBd.out.trans (hb2.mono HBd.out.size))
          have hsz2 := HB2.out.size
          have HY2 : Hid (By w2.heap.size w2 _ _ _ (inn (ahd r))) := Lib.hid ((HI.out.below (hb2.mono (Nat.le_trans hB HBd.out.size))).mono (Nat.le_trans hB hsz2))
          have HLst2 := Lib.hid (H5d.out.later hb2)
          have HAP : Hid (Apart (.slice vA fs.length vc) (cutA (cutA (some ⟨g, off, none⟩) at_ cap) 2 (cap - at_)) (N - 4)) := Lib.hid (fun hp x hx e => by
            obtain ⟨g', off', hx', hg', _⟩ := HI.out.cell hp
            rw [hx] at hx'
            simp only [Option.some.injEq] at hx'
            subst hx'
            obtain ⟨cs, ho, _⟩ := H5d.out.row
            have := (ho.lt _ e).1
            simp only at this
            omega)
          have HF := Lib.hid hf
          clear hb2 hf HI H5d HBd
          go_wp2_with (at_builtin; refine app_one rfl _ _ rfl w.heap.size _ (fs.map inn) rfl _ _ _ (inn (ahd r)) w2 rfl HLst2.out rfl HY2.out HAP.out (by rw [List.length_map]; omega) hsz2 ?_)
          intro A3 c3 w3 hl3 hb3
          have HL3 := Lib.hid hl3
          have HB3 := Lib.hid (HB2.out.trans hb3)
          clear hl3 hb3 HLst2 HY2 HAP HB2
          go_wp2
          go_roundw
          case rel =>
            have e1 : (fs ++ [ahd r]).flatten.length = at_ + N := by rw [sum_snoc, ← HAt.out, HAL.out]
            refine ⟨fs ++ [ahd r], by rw [e1]; go_num, by omega, by rw [e1, List.length_append, List.length_singleton]; omega, ?_, ?_, ?_, HB3.out⟩
            · intro f hf
              rcases List.mem_append.1 hf with x | x
              · exact H3.out f x
              · rw [List.mem_singleton.1 x]; exact HF.out
            · rw [e1, HAt.out, HRr.out, List.flatten_append, List.take_length_add_append, ← HAL.out, ahd_pre]
              simp
            · rw [List.map_append]
              exact HL3.out
          case measure => simp [intOf]; omega
        · have hf' : isFrm (ahd r) = false := by simpa using hf
          go_wp2_with fail
          refine (refOpen_none HR.out (by have := HBd.out.size; omega) hf').mono ?_
          rintro e w2 ⟨rfl, hb2⟩
          have HB2 := Lib.hid (HBd.out.trans (hb2.mono HBd.out.size))
          have HS2 := Lib.hid ((H5d.out.later hb2).bss)
          have HF := Lib.hid hf'
          clear hb2 hf hf'
          go_wp2
          go_ret2
          refine ⟨fs, vA, vc, by rw [← HAt.out]; rfl, ⟨H3.out, r, HRr.out, HF.out⟩, ?_, HB2.out⟩
          obtain ⟨a, c, e1, e2⟩ := HS2.out
          rw [List.length_map] at e1 e2
          simp only [Value.slice.injEq, true_and] at e1
          obtain ⟨rfl, rfl⟩ := e1
          exact e2
    · have HF : Hid (isFrm (ahd r) = false) := Lib.hid (noFrm_short r (by omega))
      have hc4' : ¬ (at_ : Int) + 4 ≤ (n : Int) := by omega
      clear HH
      go_wp2
      go_ret2
      exact ⟨fs, vA, vc, by rw [← HAt.out]; rfl, ⟨H3.out, r, HRr.out, HF.out⟩, HS.out, H6.out⟩

end Go.Proofs.Ytnamnikelgcepaa
