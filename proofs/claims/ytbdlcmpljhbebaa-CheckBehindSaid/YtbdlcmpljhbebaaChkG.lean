/-
  Frames, one behind the other: Scan.
-/
import Derived.Test.YtbdlcmpljhbebaaChkF
set_option linter.unusedVariables false
namespace Go.Proofs.Ytbdlcmpljhbebaa
open Go.RowKit Bp Ck

/-- The frames fs stand at the beginning of b, and behind them stands none. -/
structure Scn (b : List Nat) (fs : List (List Nat)) : Prop where
  each : ∀ f ∈ fs, isFrm f = true
  rest : ∃ r, b = fs.flatten ++ r ∧ isFrm (ahd r) = false

/-- What Scan tells. -/
def ScanTold (w : World) (zs : List Nat) (e : Ending) (w' : World) : Prop :=
  ∃ fs A' c', e = .returned (.tuple #[.slice A' fs.length c', .int .i64 (fs.flatten.length : Int)]) ∧ Scn zs fs ∧ Bss w'.heap.size w' A' fs.length c' (fs.map inn) ∧ Below w.heap.size w w'
theorem ahd_pre (b : List Nat) : b.take (ahd b).length = ahd b := by
  unfold ahd
  split
  · simp
  · rw [List.length_take]
    rcases Nat.le_total (256 * b.getD 0 0 + b.getD 1 0 + 4) b.length with h | h
    · rw [Nat.min_eq_left h]
    · rw [Nat.min_eq_right h, List.take_length, List.take_of_length_le h]
theorem sum_snoc (fs : List (List Nat)) (f : List Nat) : (fs ++ [f]).flatten.length = fs.flatten.length + f.length := by simp

set_option maxHeartbeats 1000000 in
theorem scan_any {B : Nat} {w : World} {A : Option Addr} {n cap : Nat} {zs : List Nat} (h : By B w A n cap zs) (hB : B ≤ w.heap.size) (hn : n ≤ 1048576) :
    Calls Try.prog 30 #[.slice A n cap] w fun e w' => ScanTold w zs e w' := by
  have hle := h.le
  have hmx := h.max
  unfold maxLen at hmx
  have HL := Lib.hid h.len
  have HH := Lib.hid h
  clear h
  go_enter Try.func30, Try.ntmps30
  go_wp2
  go_loopw [4, 5] (fun v i wr => ∃ fs : List (List Nat), i = .int .i64 (fs.flatten.length : Int) ∧ fs.flatten.length ≤ n ∧ fs.length ≤ fs.flatten.length ∧ (∀ f ∈ fs, isFrm f = true) ∧ zs.take fs.flatten.length = fs.flatten ∧ Lst w.heap.size wr v (fs.map inn) ∧ Below w.heap.size w wr) (fun _ i _ => n - (intOf i).toNat)
  case atStart => exact ⟨[], rfl, Nat.zero_le _, Nat.le_refl _, by simp, by simp, Lst.none_ _ _, Below.refl _ _⟩
  case round =>
    obtain ⟨fs, rfl, h1, h2, h3, h4, h5, h6⟩ := hrel
    obtain ⟨vA, vc, hv, hbss⟩ := h5.bss
    rw [List.length_map] at hv hbss
    subst hv
    obtain ⟨at_, hat⟩ : ∃ k, k = fs.flatten.length := ⟨_, rfl⟩
    rw [← hat] at h1 h2 h4 ⊢
    have HAt := Lib.hid hat
    have H3 := Lib.hid h3
    have H4 := Lib.hid h4
    have H5 := Lib.hid h5
    have H6 := Lib.hid h6
    have HS := Lib.hid hbss
    have hsz := h6.size
    have hs := fun wx => slice_l A n cap at_ wx h1
    have HR := Lib.hid ((HH.out.cut at_ n cap h1 (Nat.le_refl _) hle (Nat.le_refl _)).below (h6.mono hB))
    have HD : Hid ((zs.drop at_).take (n - at_) = zs.drop at_) := Lib.hid (List.take_of_length_le (by rw [List.length_drop, HL.out]; exact Nat.le_refl _))
    rw [HD.out] at HR
    clear hat h3 h4 h5 h6 hbss
    obtain ⟨r, hr⟩ : ∃ r, r = zs.drop at_ := ⟨_, rfl⟩
    rw [← hr] at HR
    have HRr : Hid (zs = fs.flatten ++ r) := Lib.hid (by rw [hr, ← H4.out, List.take_append_drop])
    have hrl : r.length = n - at_ := by rw [hr, List.length_drop, HL.out]
    have hal := ahd_len r
    clear hr HD
    go_wp2_with fail
    refine (ahead_any HR.out).mono ?_
    rintro e w1 ⟨A1, rfl, hy1, hb1⟩
    have HY1 := Lib.hid (hy1.below (hb1.mono (Nat.le_trans hB hsz)))
    have HB1 := Lib.hid (H6.out.trans (hb1.mono hsz))
    have HLst1 := Lib.hid (H5.out.later hb1)
    have hsz1 := Nat.le_trans hsz hb1.size
    have hsz1' := hb1.size
    clear hy1 hb1 HR hs
    by_cases hf : isFrm (ahd r) = true
    · obtain ⟨q1, q2⟩ := isFrm_len hf
      go_wp2_with fail
      refine (open_yes HY1.out (by omega) hf).mono ?_
      rintro e w2 ⟨A2, rfl, hy2, hap, hb2⟩
      have HY2 := Lib.hid hy2
      have HLst2 := Lib.hid (HLst1.out.later hb2)
      have HB2 := Lib.hid (HB1.out.trans (hb2.mono hsz1))
      have hsz2 := Nat.le_trans hsz1 hb2.size
      have HAP : Hid (Apart (.slice vA fs.length vc) A2 ((ahd r).length - 4)) := Lib.hid (fun _ x hx e => by
        have e1 := hap x hx
        obtain ⟨cs, ho, _⟩ := HLst1.out.row
        have := (ho.lt _ e).2
        omega)
      have HF := Lib.hid hf
      clear hy2 hap hb2 HLst1 hf HB1 HY1
      go_wp2_with (at_builtin; refine app_one rfl _ _ rfl w.heap.size _ (fs.map inn) rfl A2 _ _ (inn (ahd r)) w2 rfl HLst2.out rfl HY2.out HAP.out (by rw [List.length_map]; omega) hsz2 ?_)
      intro A3 c3 w3 hl3 hb3
      have HL3 := Lib.hid hl3
      have HB3 := Lib.hid (HB2.out.trans hb3)
      clear hl3 hb3 HLst2 HY2 HAP HB2
      go_wp2
      go_roundw
      case rel =>
        have e1 : (fs ++ [ahd r]).flatten.length = at_ + (ahd r).length := by rw [sum_snoc, ← HAt.out]
        refine ⟨fs ++ [ahd r], by rw [e1]; go_num, by omega, by rw [e1, List.length_append, List.length_singleton]; omega, ?_, ?_, ?_, HB3.out⟩
        · intro f hf
          rcases List.mem_append.1 hf with x | x
          · exact H3.out f x
          · rw [List.mem_singleton.1 x]; exact HF.out
        · rw [e1, HAt.out, HRr.out, List.flatten_append, List.take_length_add_append, ahd_pre]
          simp
        · rw [List.map_append]
          exact HL3.out
      case measure => simp [intOf]; omega
    · have hf' : isFrm (ahd r) = false := by simpa using hf
      go_wp2_with fail
      refine (open_no HY1.out (by omega) hf').mono ?_
      rintro e w2 ⟨rfl, hb2⟩
      have HB2 := Lib.hid (HB1.out.trans (hb2.mono hsz1))
      have HS2 := Lib.hid ((HLst1.out.later hb2).bss)
      have HF := Lib.hid hf'
      clear hb2 hf hf'
      go_wp2
      go_ret2
      refine ⟨fs, vA, vc, by rw [← HAt.out]; rfl, ⟨H3.out, r, HRr.out, HF.out⟩, ?_, HB2.out⟩
      obtain ⟨a, c, e1, e2⟩ := HS2.out
      rw [List.length_map] at e1 e2
      simp only [Value.slice.injEq, true_and] at e1
      obtain ⟨rfl, rfl⟩ := e1
      exact e2

end Go.Proofs.Ytbdlcmpljhbebaa
