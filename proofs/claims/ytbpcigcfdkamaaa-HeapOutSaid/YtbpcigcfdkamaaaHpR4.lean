/-
  The document's heap: items are sorted, and two lists are held against each other.
-/
import Derived.Test.YtbpcigcfdkamaaaHpR3
set_option linter.unusedVariables false
namespace Go.Proofs.Ytbpcigcfdkamaaa
open Go.RowKit E

theorem r4pop_any (rb : Nat) (A : Option Addr) (n cap : Nat) (l : List (Int × Int)) (w : World) (h : RAt w rb A n cap l) :
    Calls Try.prog 14 #[.pointer (some ⟨rb, 0, none⟩)] w fun e w' => e = .returned (It? l) ∧ ∃ A' n' cap', RAt w' rb A' n' cap' l.tail ∧ Turn (OnlyB rb) (OnlyB rb) w w' := by
  cases l with
  | nil =>
    obtain rfl : n = 0 := by have := h.len; simpa using this.symm
    refine (r4pop_none rb A cap w h).mono ?_
    rintro e w' ⟨rfl, hb⟩
    exact ⟨rfl, A, 0, cap, h.below hb, Turn.ofBelow hb _⟩
  | cons p l =>
    obtain ⟨m, rfl⟩ : ∃ m, n = m + 1 := ⟨l.length, by have := h.len; simpa using this.symm⟩
    refine (r4pop_some rb A m cap p l w h).mono ?_
    rintro e w' ⟨rfl, A', cap', h1, h2⟩
    exact ⟨rfl, A', m, cap', h1, h2⟩

theorem RAt.start (w : World) : RAt (w.alloc (.cells #[.slice none 0 0] 29)) w.heap.size none 0 0 [] :=
  ⟨heap_alloc_new w _, It.zero (fun _ => rfl) (by unfold maxLen; omega), rfl, fun a e => (by cases e), fun a e => (by cases e)⟩
theorem outs_zero (f : Nat → Int × Int) : outs f 0 = [] := rfl

/-- Items in order are told. -/
def RSortTold (f : Nat → Int × Int) (n : Nat) (w : World) (e : Ending) (w' : World) : Prop :=
  ∃ A cap, e = .returned (.slice A n cap) ∧ It w'.heap.size w' A n cap (fun i => (outs f n).getD i (0, 0)) ∧ Below w.heap.size w w'

set_option maxHeartbeats 1000000 in
theorem r4sort_any (A : Option Addr) (n cap : Nat) (f : Nat → Int × Int) (w : World) (h : It w.heap.size w A n cap f) (hn : n ≤ 100000) :
    Calls Try.prog 22 #[.slice A n cap] w (RSortTold f n w) := by
  have HI := Lib.hid h
  have hle := h.le
  have hmax := h.max
  unfold maxLen at hmax
  have HS := Lib.hid (RAt.start w)
  have HB := Lib.hid ((Below.refl w.heap.size w).alloc (Nat.le_refl _) (.cells #[.slice none 0 0] 29))
  clear h
  go_enter Try.func22, Try.ntmps22
  go_wp2
  obtain ⟨rb, hrb⟩ : ∃ rb, rb = w.heap.size := ⟨_, rfl⟩
  rw [← hrb] at HS ⊢
  have HRB := Lib.hid hrb
  clear hrb
  go_loopw [4] (fun iv wr => ∃ (k : Nat) (A' : Option Addr) (c' : Nat), k ≤ n ∧ iv = .int .i64 (k : Int) ∧ RAt wr rb A' k c' (outs f k) ∧ Below w.heap.size w wr) (fun iv _ => n - (intOf iv).toNat)
  case atStart => exact ⟨0, none, 0, Nat.zero_le _, rfl, HS.out, HB.out⟩
  case round =>
    obtain ⟨k, A', c', hk, rfl, hR, hB⟩ := hrel
    have hsz := hB.size
    have HR := Lib.hid hR
    have HBW := Lib.hid hB
    by_cases hlt : k < n
    · obtain ⟨g, off, rfl, hg, hc⟩ := (HI.out.below hB).cell (by omega)
      obtain ⟨d0, d1⟩ := hc k hlt
      have HN := Lib.hid (outs_next f k)
      have hfk : f k = ((f k).1, (f k).2) := rfl
      rw [hfk] at HN
      generalize (f k).1 = x at *
      generalize (f k).2 = y at *
      clear hc hR hB HS HB hfk
      go_wp2_with fail
      refine (r4push_any rb A' k c' (outs f k) x y wr HR.out (by omega)).mono ?_
      rintro e w4 ⟨rfl, A2, c2, h4, t4, _⟩
      rw [← HN.out] at h4
      have HR4 := Lib.hid h4
      have HB4 := Lib.hid (HBW.out.trans (t4.below _ hsz (fun q hq => by rw [show q = rb from hq, HRB.out]; exact Nat.le_refl _)))
      clear h4 t4 HR HBW HN d0 d1
      go_wp2
      go_roundw
      case rel => exact ⟨k + 1, A2, c2, by omega, by go_num, HR4.out, HB4.out⟩
      case measure => simp [intOf]; omega
    · obtain rfl : n = k := by omega
      have c0 : wr.cell? ⟨rb, 0, none⟩ = some (.slice A' n c') := by rw [cell_of_row wr rb 0 _ _ _ hR.box]; rfl
      clear hR hB HS HB
      go_wp2
      go_ret
      exact ⟨A', c', rfl, HR.out.items, HBW.out⟩

set_option maxHeartbeats 1000000 in
theorem r4same_any (A B : Option Addr) (n ca cb : Nat) (f g : Nat → Int × Int) (w : World) (hA : It w.heap.size w A n ca f) (hB : It w.heap.size w B n cb g) (hfg : ∀ i, i < n → f i = g i) (hn : n ≤ 100000) :
    Calls Try.prog 20 #[.slice A n ca, .slice B n cb] w fun e w' => e = .returned (.bool true) ∧ Below w.heap.size w w' := by
  have HA := Lib.hid hA
  have HB := Lib.hid hB
  have HF := Lib.hid hfg
  have h1 := hA.le
  have h2 := hA.max
  have h3 := hB.le
  have h4 := hB.max
  unfold maxLen at h2 h4
  have hnn : ((n : Int) != (n : Int)) = false := by simp
  clear hA hB hfg
  go_enter Try.func20, Try.ntmps20
  go_wp2
  go_loopw [5] (fun iv wr => ∃ k : Nat, k ≤ n ∧ iv = .int .i64 (k : Int) ∧ Below w.heap.size w wr) (fun iv _ => n - (intOf iv).toNat)
  case atStart => exact ⟨0, Nat.zero_le _, rfl, Below.refl _ _⟩
  case round =>
    obtain ⟨k, hk, rfl, hBw⟩ := hrel
    have HBW := Lib.hid hBw
    clear hBw
    by_cases hlt : k < n
    · obtain ⟨ga, oa, rfl, hga, hca⟩ := (HA.out.below HBW.out).cell (by omega)
      obtain ⟨gb, ob, rfl, hgb, hcb⟩ := (HB.out.below HBW.out).cell (by omega)
      obtain ⟨d0, d1⟩ := hca k hlt
      obtain ⟨e0, e1⟩ := hcb k hlt
      rw [← HF.out k hlt] at e0 e1
      generalize (f k).1 = x at *
      generalize (f k).2 = y at *
      have hkI : (k : Int) < (n : Int) := by omega
      clear hca hcb
      go_wp2
      go_quiet (fail)
      have HB2 := Lib.hid (HBW.out.trans (below_drewN _ _ nq))
      generalize wr.drewN nq = wq at HB2 ⊢
      clear d0 d1 e0 e1 HBW
      go_wp2
      go_roundw
      case rel => exact ⟨k + 1, by omega, by go_num, HB2.out⟩
      case measure => simp [intOf]; omega
    · obtain rfl : n = k := by omega
      go_wp2
      go_ret
      exact ⟨rfl, HBW.out⟩

end Go.Proofs.Ytbpcigcfdkamaaa
