/-
  Frames: isFrame, Open.
-/
import Derived.Test.YtbdlcmpljhbebaaChkD
set_option linter.unusedVariables false
namespace Go.Proofs.Ytbdlcmpljhbebaa
open Go.RowKit Bp Ck

/-- Are the bytes a frame? -/
def isFrm (f : List Nat) : Bool := decide (4 ≤ f.length) && decide (f.length ≤ 1004) && (f.length == 256 * f.getD 0 0 + f.getD 1 0 + 4) && (crc (f.take (f.length - 2)) == 256 * f.getD (f.length - 2) 0 + f.getD (f.length - 1) 0)
/-- What a frame has. -/
def inn (f : List Nat) : List Nat := (f.drop 2).take (f.length - 4)

theorem isFrame_short {B : Nat} {w : World} {A : Option Addr} {n cap : Nat} {zs : List Nat} (h : By B w A n cap zs) (hn : n < 4) :
    Calls Try.prog 47 #[.slice A n cap] w fun e w' => e = .returned (.bool false) ∧ w = w' := by
  have hle := h.le
  clear h
  go_enter Try.func47, Try.ntmps47
  go_wp2
  go_ret
  exact ⟨rfl, rfl⟩
theorem isFrame_long {B : Nat} {w : World} {A : Option Addr} {n cap : Nat} {zs : List Nat} (h : By B w A n cap zs) (hn : 1004 < n) :
    Calls Try.prog 47 #[.slice A n cap] w fun e w' => e = .returned (.bool false) ∧ w = w' := by
  have hle := h.le
  have hmx := h.max
  unfold maxLen at hmx
  clear h
  have h4 : ¬ n < 4 := by omega
  go_enter Try.func47, Try.ntmps47
  go_wp2
  go_ret
  exact ⟨rfl, rfl⟩
theorem isFrame_other {B : Nat} {w : World} {A : Option Addr} {n cap : Nat} {zs : List Nat} (h : By B w A n cap zs) (h4 : 4 ≤ n) (hn : n ≤ 1004) (hne : n ≠ 256 * zs.getD 0 0 + zs.getD 1 0 + 4) :
    Calls Try.prog 47 #[.slice A n cap] w fun e w' => e = .returned (.bool false) ∧ Below w.heap.size w w' := by
  have HF := Lib.hid (frameLen_any h (by omega))
  clear h
  generalize 256 * zs.getD 0 0 + zs.getD 1 0 + 4 = m at *
  have hb : ((n : Int) != (m : Int)) = true := by rw [bne_iff_ne]; omega
  go_enter Try.func47, Try.ntmps47
  go_wp2_with fail
  refine HF.out.mono ?_
  rintro e w1 ⟨rfl, hB⟩
  have HB := Lib.hid hB
  clear hB
  go_wp2
  go_ret
  exact ⟨rfl, HB.out⟩

theorem ret_bool {a b : Bool} (h : a = b) : Ending.returned (.bool a) = .returned (.bool b) := by rw [h]
theorem beq_nat (a b : Nat) : ((a : Int) == (b : Int)) = (a == b) := by
  by_cases h : a = b
  · subst h; simp
  · rw [beq_eq_false_iff_ne.2 h, beq_eq_false_iff_ne.2 (by omega)]
theorem drop_two (zs : List Nat) (h : 2 ≤ zs.length) : (zs.drop (zs.length - 2)).take (zs.length - (zs.length - 2)) = [zs.getD (zs.length - 2) 0, zs.getD (zs.length - 1) 0] := by
  apply List.ext_getElem?
  intro i
  rw [List.getElem?_take]
  have e : zs.length - (zs.length - 2) = 2 := by omega
  rw [e]
  match i with
  | 0 => simp [List.getD, List.getElem?_eq_getElem (show zs.length - 2 < zs.length by omega)]
  | 1 => simp [List.getD, List.getElem?_eq_getElem (show zs.length - 2 + 1 < zs.length by omega), show zs.length - 1 = zs.length - 2 + 1 by omega]
  | k + 2 => rw [if_neg (by omega)]; simp

set_option maxHeartbeats 1000000 in
theorem isFrame_sum {B : Nat} {w : World} {A : Option Addr} {n cap : Nat} {zs : List Nat} (h : By B w A n cap zs) (hB : B ≤ w.heap.size) (h4 : 4 ≤ n) (hn : n ≤ 1004) (heq : n = 256 * zs.getD 0 0 + zs.getD 1 0 + 4) :
    Calls Try.prog 47 #[.slice A n cap] w fun e w' => e = .returned (.bool (crc (zs.take (n - 2)) == 256 * zs.getD (n - 2) 0 + zs.getD (n - 1) 0)) ∧ Below w.heap.size w w' := by
  have hl := h.len
  have hle := h.le
  have hmx := h.max
  unfold maxLen at hmx
  have HF := Lib.hid (frameLen_any h (by omega))
  rw [← heq] at HF
  have HE := Lib.hid heq
  have hS : ∀ W, Below w.heap.size w W → Calls Try.prog 23 #[.slice A (n - 2) cap] W fun e w' => e = .returned (.int .u16 ((crc (zs.take (n - 2)) : Nat) : Int)) ∧ W = w' := fun W hW =>
    sum_any ((h.take (n - 2) (by omega)).below (hW.mono hB))
  have hT : ∀ W, Below w.heap.size w W → Calls Try.prog 58 #[.slice (cutA A (n - 2) cap) 2 (cap - (n - 2))] W fun e w' => e = .returned (.int .u16 ((256 * zs.getD (n - 2) 0 + zs.getD (n - 1) 0 : Nat) : Int)) ∧ Below W.heap.size W w' := fun W hW => by
    have hc := (h.cut (n - 2) n cap (by omega) (by omega) (by omega) (by omega)).below (hW.mono hB)
    have hd := drop_two zs (by omega)
    rw [hl] at hd
    rw [hd, show n - (n - 2) = 2 by omega] at hc
    exact take16_any hc
  have HS := Lib.hid hS
  have HT := Lib.hid hT
  have s1 : ∀ wx, (Instr.slice 22 (.slice A n cap) none (some (.int .i64 ((n : Int) - 2))) none).run Try.prog wx = .ok (.slice A (n - 2) cap) wx := fun wx => by
    have := slice_h A n cap (n - 2) wx (by omega)
    rw [show ((n - 2 : Nat) : Int) = (n : Int) - 2 by omega] at this
    exact this
  have s2 : ∀ wx, (Instr.slice 22 (.slice A n cap) (some (.int .i64 ((n : Int) - 2))) none none).run Try.prog wx = .ok (.slice (cutA A (n - 2) cap) 2 (cap - (n - 2))) wx := fun wx => by
    have := slice_l A n cap (n - 2) wx (by omega)
    rw [show ((n - 2 : Nat) : Int) = (n : Int) - 2 by omega, show n - (n - 2) = 2 by omega] at this
    exact this
  clear hS hT heq h
  have hb : ((n : Int) != (n : Int)) = false := by simp
  generalize crc (zs.take (n - 2)) = c at *
  generalize 256 * zs.getD (n - 2) 0 + zs.getD (n - 1) 0 = m at *
  have HL := Lib.hid hl
  clear hl
  go_enter Try.func47, Try.ntmps47
  go_wp2_with fail
  refine HF.out.mono ?_
  rintro e w1 ⟨rfl, hB1⟩
  have HB1 := Lib.hid hB1
  clear hB1
  go_wp2
  first | (go_region_with (first | (go_at_call 58; refine (HT.out _ (by exact HB1.out.drew)).mono ?_; rintro e w8 ⟨rfl, hB8⟩; have HB8 := Lib.hid (HB1.out.drew.trans (hB8.mono (by exact HB1.out.size))); clear hB8) | (go_at_call 23; refine (HS.out _ (by exact HB8.out)).mono ?_; rintro e w9 ⟨rfl, rfl⟩) | (go_at_call 23; refine (HS.out _ (by exact HB1.out.drew)).mono ?_; rintro e w9 ⟨rfl, rfl⟩))) | fail
  all_goals (go_wp2; go_ret; exact ⟨ret_bool (beq_nat c m), HB8.out⟩)

theorem isFrame_any {B : Nat} {w : World} {A : Option Addr} {n cap : Nat} {zs : List Nat} (h : By B w A n cap zs) (hB : B ≤ w.heap.size) :
    Calls Try.prog 47 #[.slice A n cap] w fun e w' => e = .returned (.bool (isFrm zs)) ∧ Below w.heap.size w w' := by
  have hl := h.len
  by_cases h4 : n < 4
  · refine (isFrame_short h h4).mono ?_
    rintro e w' ⟨rfl, rfl⟩
    exact ⟨ret_bool (by unfold isFrm; rw [decide_eq_false (by omega : ¬ 4 ≤ zs.length)]; rfl), Below.refl _ _⟩
  by_cases h5 : 1004 < n
  · refine (isFrame_long h h5).mono ?_
    rintro e w' ⟨rfl, rfl⟩
    exact ⟨ret_bool (by unfold isFrm; rw [decide_eq_false (by omega : ¬ zs.length ≤ 1004)]; simp), Below.refl _ _⟩
  by_cases h6 : n = 256 * zs.getD 0 0 + zs.getD 1 0 + 4
  · refine (isFrame_sum h hB (by omega) (by omega) h6).mono ?_
    rintro e w' ⟨rfl, hb⟩
    refine ⟨ret_bool ?_, hb⟩
    unfold isFrm
    rw [decide_eq_true (by omega : 4 ≤ zs.length), decide_eq_true (by omega : zs.length ≤ 1004), hl, beq_iff_eq.2 h6]
    rfl
  · refine (isFrame_other h (by omega) (by omega) h6).mono ?_
    rintro e w' ⟨rfl, hb⟩
    refine ⟨ret_bool ?_, hb⟩
    unfold isFrm
    rw [hl, beq_eq_false_iff_ne.2 h6]
    simp

theorem isFrm_len {f : List Nat} (h : isFrm f = true) : 4 ≤ f.length ∧ f.length ≤ 1004 := by
  unfold isFrm at h
  simp only [Bool.and_eq_true, decide_eq_true_eq] at h
  exact h.1.1

theorem open_no {B : Nat} {w : World} {A : Option Addr} {n cap : Nat} {zs : List Nat} (h : By B w A n cap zs) (hB : B ≤ w.heap.size) (hf : isFrm zs = false) :
    Calls Try.prog 28 #[.slice A n cap] w fun e w' => e = .returned (.tuple #[.slice none 0 0, .bool false]) ∧ Below w.heap.size w w' := by
  have hi := isFrame_any h hB
  rw [hf] at hi
  have HI := Lib.hid hi
  clear hi hf h
  go_enter Try.func28, Try.ntmps28
  go_wp2_with fail
  refine HI.out.mono ?_
  rintro e w1 ⟨rfl, hb⟩
  have HB := Lib.hid hb
  clear hb
  go_wp2
  go_ret2
  exact ⟨rfl, HB.out⟩

-- What is opened lies in new memory, with no room behind it.
set_option maxHeartbeats 1000000 in
theorem open_yes {B : Nat} {w : World} {A : Option Addr} {n cap : Nat} {zs : List Nat} (h : By B w A n cap zs) (hB : B ≤ w.heap.size) (hf : isFrm zs = true) :
    Calls Try.prog 28 #[.slice A n cap] w fun e w' => ∃ A', e = .returned (.tuple #[.slice A' (n - 4) (n - 4), .bool true]) ∧ By w'.heap.size w' A' (n - 4) (n - 4) (inn zs) ∧ (∀ x, A' = some x → w.heap.size ≤ x.block) ∧ Below w.heap.size w w' := by
  have hl := h.len
  obtain ⟨f1, f2⟩ := isFrm_len hf
  have hi := isFrame_any h hB
  rw [hf] at hi
  have HI := Lib.hid hi
  have HH := Lib.hid h
  have HBy := Lib.hid h.byte
  have HL := Lib.hid hl
  have hn4 : 4 ≤ n := by omega
  have hn5 : n ≤ 1004 := by omega
  clear hi hf h hl f1 f2
  go_enter Try.func28, Try.ntmps28
  go_wp2_with fail
  refine HI.out.mono ?_
  rintro e w1 ⟨rfl, hb⟩
  have HB := Lib.hid hb
  have HH1 := Lib.hid (HH.out.below (hb.mono hB))
  clear hb HI HH
  go_wp2_with fail
  refine (bclone_any HH1.out (by omega) (by omega)).mono ?_
  rintro e w2 ⟨g, c, rfl, ho, hb⟩
  have hy := By.own ho HBy.out
  have hc := hy.le
  have HY := Lib.hid hy
  have hgf : w.heap.size ≤ g := Nat.le_trans HB.out.size (ho.lt g rfl).1
  have HB2 := Lib.hid (HB.out.trans (hb.mono HB.out.size))
  clear ho hb hy HH1 HB
  go_wp2_with fail
  refine (cut_any _ n c 2 (n - 2) _ _ _ (by omega) (by omega) rfl (by omega)).mono ?_
  rintro e w3 ⟨rfl, rfl⟩
  rw [show n - 2 - 2 = n - 4 by omega]
  have HC : Hid (By w2.heap.size w2 (cutA (some ⟨g, 0, none⟩) 2 (n - 2)) (n - 4) (n - 4) (inn zs)) := Lib.hid (by
    have := HY.out.cut 2 (n - 2) (n - 2) (by omega) (by omega) (by omega) (by omega)
    rw [show n - 2 - 2 = n - 4 by omega] at this
    unfold inn
    rw [HL.out]
    exact this)
  go_wp2
  go_ret2
  refine ⟨_, rfl, HC.out, fun x hx => ?_, HB2.out⟩
  unfold cutA at hx
  split at hx
  · simp only [Option.some.injEq] at hx
    subst hx; exact hgf
  · simp only [Option.map_some, Option.some.injEq, plain_add] at hx
    subst hx; exact hgf

end Go.Proofs.Ytbdlcmpljhbebaa
