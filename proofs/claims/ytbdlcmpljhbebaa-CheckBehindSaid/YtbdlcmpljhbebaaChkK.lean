/-
  The document's answers for layer 2: Open, Scan, Same.
-/
import Derived.Test.YtbdlcmpljhbebaaChkJ
set_option linter.unusedVariables false
namespace Go.Proofs.Ytbdlcmpljhbebaa
open Go.RowKit Bp Ck

theorem refOpen_short {B : Nat} {w : World} {A : Option Addr} {n cap : Nat} {zs : List Nat} (h : By B w A n cap zs) (hn : n < 4) :
    Calls Try.prog 29 #[.slice A n cap] w fun e w' => e = .returned (.tuple #[.slice none 0 0, .bool false]) ∧ w = w' := by
  clear h
  go_enter Try.func29, Try.ntmps29
  go_wp2
  go_ret2
  exact ⟨rfl, rfl⟩

theorem refOpen_cut {n cap : Nat} (A : Option Addr) (h4 : 4 ≤ n) (hle : n ≤ cap) :
    ∀ wx, (Instr.slice 22 (.slice A n cap) (some (.int .i64 2)) (some (.int .i64 ((n : Int) - 2))) none).run Try.prog wx = .ok (.slice (cutA A 2 cap) (n - 4) (cap - 2)) wx := fun wx => by
  have := slice_lh A n cap 2 (n - 2) wx (by omega) (by omega)
  rw [show ((n - 2 : Nat) : Int) = (n : Int) - 2 by omega, show n - 2 - 2 = n - 4 by omega] at this
  exact this
theorem By.inner {B : Nat} {w : World} {A : Option Addr} {n cap : Nat} {zs : List Nat} (h : By B w A n cap zs) (h4 : 4 ≤ n) : By B w (cutA A 2 cap) (n - 4) (cap - 2) (inn zs) := by
  have := h.cut 2 (n - 2) cap (by omega) (by omega) (by have := h.le; omega) (Nat.le_refl _)
  rw [show n - 2 - 2 = n - 4 by omega] at this
  unfold inn
  rw [h.len]
  exact this

theorem refOpen_long {B : Nat} {w : World} {A : Option Addr} {n cap : Nat} {zs : List Nat} (h : By B w A n cap zs) (hn : 1004 < n) :
    Calls Try.prog 29 #[.slice A n cap] w fun e w' => e = .returned (.tuple #[.slice none 0 0, .bool false]) ∧ w = w' := by
  have hle := h.le
  have hmx := h.max
  unfold maxLen at hmx
  have hs := refOpen_cut A (by omega : 4 ≤ n) hle
  have HF := Lib.hid (refFrame_long (h.inner (by omega)) (by omega))
  clear h
  have h4 : ¬ n < 4 := by omega
  go_enter Try.func29, Try.ntmps29
  go_wp2_with fail
  refine HF.out.mono ?_
  rintro e w1 ⟨rfl, rfl⟩
  go_wp2
  go_ret2
  exact ⟨rfl, rfl⟩

set_option maxHeartbeats 1000000 in
theorem refOpen_no {B : Nat} {w : World} {A : Option Addr} {n cap : Nat} {zs : List Nat} (h : By B w A n cap zs) (hB : B ≤ w.heap.size) (h4 : 4 ≤ n) (hn : n ≤ 1004) (hf : isFrm zs = false) :
    Calls Try.prog 29 #[.slice A n cap] w fun e w' => e = .returned (.tuple #[.slice none 0 0, .bool false]) ∧ Below w.heap.size w w' := by
  have hle := h.le
  have hmx := h.max
  have hl := h.len
  unfold maxLen at hmx
  have hs := refOpen_cut A h4 hle
  have HF := Lib.hid (refFrame_ok (h.inner h4) hB (by omega))
  have hil : (inn zs).length = n - 4 := by rw [inn_len zs (by omega), hl]
  have t1 := strOf_ne (frm (inn zs)) zs (frm_byte _ (h.inner h4).byte (by omega)) h.byte (fun e2 => by
    have := (isFrm_ref zs h.byte (by omega)).2 ⟨by omega, e2⟩
    rw [hf] at this
    cases this)
  have HH := Lib.hid h
  have HBy := Lib.hid (frm_byte _ (h.inner h4).byte (by omega : (inn zs).length < 65536))
  clear h hf hil hl
  go_enter Try.func29, Try.ntmps29
  go_wp2_with fail
  refine HF.out.mono ?_
  rintro e w1 ⟨g, c, rfl, ho, hb⟩
  have cv1 := (By.own ho HBy.out).conv
  have cv2 := (HH.out.below (hb.mono hB)).conv
  have HB := Lib.hid hb
  clear ho hb
  rw [show n - 4 + 4 = n by omega] at cv1 ⊢
  generalize strOf (frm (inn zs)) = s1 at *
  generalize strOf zs = s2 at *
  go_wp2
  go_ret2
  exact ⟨rfl, HB.out⟩

set_option maxHeartbeats 1000000 in
theorem refOpen_yes {B : Nat} {w : World} {A : Option Addr} {n cap : Nat} {zs : List Nat} (h : By B w A n cap zs) (hB : B ≤ w.heap.size) (hf : isFrm zs = true) :
    Calls Try.prog 29 #[.slice A n cap] w fun e w' => e = .returned (.tuple #[.slice (cutA A 2 cap) (n - 4) (cap - 2), .bool true]) ∧ Below w.heap.size w w' := by
  have hle := h.le
  have hmx := h.max
  have hl := h.len
  obtain ⟨f1, f2⟩ := isFrm_len hf
  unfold maxLen at hmx
  have h4 : 4 ≤ n := by omega
  have hn : n ≤ 1004 := by omega
  have hs := refOpen_cut A h4 hle
  have hF := refFrame_ok (h.inner h4) hB (by omega)
  rw [frm_inn zs h.byte hf, show n - 4 + 4 = n by omega] at hF
  have HF := Lib.hid hF
  have HH := Lib.hid h
  clear h hf hl f1 f2 hF
  go_enter Try.func29, Try.ntmps29
  go_wp2_with fail
  refine HF.out.mono ?_
  rintro e w1 ⟨g, c, rfl, ho, hb⟩
  have cv1 := (By.own ho HH.out.byte).conv
  have cv2 := (HH.out.below (hb.mono hB)).conv
  have HB := Lib.hid hb
  clear ho hb
  generalize strOf zs = s2 at *
  go_wp2
  go_ret2
  exact ⟨rfl, HB.out⟩
theorem refOpen_none {B : Nat} {w : World} {A : Option Addr} {n cap : Nat} {zs : List Nat} (h : By B w A n cap zs) (hB : B ≤ w.heap.size) (hf : isFrm zs = false) :
    Calls Try.prog 29 #[.slice A n cap] w fun e w' => e = .returned (.tuple #[.slice none 0 0, .bool false]) ∧ Below w.heap.size w w' := by
  by_cases h4 : n < 4
  · refine (refOpen_short h h4).mono ?_
    rintro e w' ⟨rfl, rfl⟩
    exact ⟨rfl, Below.refl _ _⟩
  by_cases h5 : 1004 < n
  · refine (refOpen_long h h5).mono ?_
    rintro e w' ⟨rfl, rfl⟩
    exact ⟨rfl, Below.refl _ _⟩
  exact refOpen_no h hB (by omega) (by omega) hf

end Go.Proofs.Ytbdlcmpljhbebaa
