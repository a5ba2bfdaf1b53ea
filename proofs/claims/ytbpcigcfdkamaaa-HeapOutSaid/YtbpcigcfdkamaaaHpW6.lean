/-
  The heap: the document's examples.
-/
import Derived.Test.YtbpcigcfdkamaaaHpW4
import Derived.Test.YtbpcigcfdkamaaaHpW5
set_option linter.unusedVariables false
set_option maxRecDepth 100000
namespace Go.Proofs.Ytbpcigcfdkamaaa
open Go.RowKit E

theorem HAt.more {w : World} {b : Nat} {v : Value} {M : List E} {n : Nat} (h : HAt w b v M n) (o : Obj) : HAt (w.alloc o) b v M n := h.below ((Below.refl _ w).alloc (Nat.le_refl _) o)

/-- A heap that was changed since W, and nothing else that lay there but the heap's blocks. -/
def Since (W : World) (b : Nat) (v0 : Value) (M : List E) (n : Nat) (w : World) : Prop := ∃ v, HAt w b v M n ∧ Turn (HF b v0) (HF b v) W w
theorem Since.start {W : World} {b : Nat} {v : Value} {M : List E} {n : Nat} (h : HAt W b v M n) : Since W b v M n W := ⟨v, h, Turn.refl _ _⟩
theorem Since.more {W w : World} {b : Nat} {v0 : Value} {M : List E} {n : Nat} (h : Since W b v0 M n w) (o : Obj) : Since W b v0 M n (w.alloc o) := by
  obtain ⟨v, h1, h2⟩ := h; exact ⟨v, h1.more o, h2.more o⟩
theorem Since.drew {W w : World} {b : Nat} {v0 : Value} {M : List E} {n : Nat} (h : Since W b v0 M n w) : Since W b v0 M n w.drew := by
  obtain ⟨v, h1, h2⟩ := h; exact ⟨v, ⟨h1.box, h1.row, h1.few⟩, h2.drew⟩
theorem Since.below {W w w' : World} {b : Nat} {v0 : Value} {M : List E} {n : Nat} (h : Since W b v0 M n w) (hb : Below w.heap.size w w') : Since W b v0 M n w' := by
  obtain ⟨v, h1, h2⟩ := h; exact ⟨v, h1.below hb, h2.trans (Turn.ofBelow hb _)⟩
/-- A block of the call's own, made since W, is written. -/
theorem Since.put {W w : World} {b : Nat} {v0 : Value} {M : List E} {n : Nat} (h : Since W b v0 M n w) {A o : Nat} (u : Value) (hA : W.heap.size ≤ A) (hne : ∀ v, HAt w b v M n → ¬ HF b v A) : Since W b v0 M n (w.setCell ⟨A, o, none⟩ u) := by
  obtain ⟨v, h1, h2⟩ := h
  refine ⟨v, h1.same fun k hk => Below.heap_setCell _ _ _ _ (fun e => hne v h1 (by have : k = A := e; rw [← this]; exact hk)), h2.os, h2.tape, h2.output, by simpa [World.setCell] using h2.size, fun k hk hn => ?_, h2.foot⟩
  rw [Below.heap_setCell _ _ _ _ (by show k ≠ A; omega)]; exact h2.block k hk hn
theorem Since.old {W w : World} {b : Nat} {v0 : Value} {M : List E} {n : Nat} (h : Since W b v0 M n w) (k : Nat) (hk : k < W.heap.size) (hn : ¬ HF b v0 k) : w.heap[k]? = W.heap[k]? := by
  obtain ⟨v, h1, h2⟩ := h; exact h2.block k hk hn
theorem Since.size {W w : World} {b : Nat} {v0 : Value} {M : List E} {n : Nat} (h : Since W b v0 M n w) : W.heap.size ≤ w.heap.size := by
  obtain ⟨v, h1, h2⟩ := h; exact h2.size
theorem Since.belowOf {W w : World} {b : Nat} {v0 : Value} {M : List E} {n : Nat} (h : Since W b v0 M n w) (B : Nat) (hB : B ≤ W.heap.size) (hb : ∀ k, HF b v0 k → B ≤ k) : Below B W w := by
  obtain ⟨v, h1, h2⟩ := h; exact h2.below B hB hb
theorem Since.trans {W w w' : World} {b : Nat} {v0 v : Value} {M M' : List E} {n n' : Nat} (h1 : HAt w b v M n) (h2 : Turn (HF b v0) (HF b v) W w) (h : Since w b v M' n' w') : Since W b v0 M' n' w' := by
  obtain ⟨v', h3, h4⟩ := h; exact ⟨v', h3, h2.trans h4⟩

theorem push_later (W : World) (b : Nat) (v0 : Value) (M : List E) (n : Nat) (x y : Int) (w w1 : World) (h : Since W b v0 M n w) (hb : Below w.heap.size w w1) (hn : n < 1000000) :
    Calls Try.prog 15 #[.pointer (some ⟨b, 0, none⟩), .agg #[.int .i64 x, .int .i64 y]] w1 fun e w' => e = .returned (.tuple #[]) ∧ Since W b v0 (ins ⟨x, y, n⟩ M) (n + 1) w' ∧ (∀ k, w.heap.size ≤ k → k < w1.heap.size → w'.heap[k]? = w1.heap[k]?) ∧ w1.heap.size ≤ w'.heap.size := by
  obtain ⟨v, h1, h2⟩ := h
  refine (push_any b v M n x y w1 (h1.below hb) hn).mono ?_
  rintro e w' ⟨rfl, v', h3, h4⟩
  exact ⟨rfl, ⟨v', h3, (h2.trans (Turn.ofBelow hb _)).trans h4⟩, fun k hk hk1 => h4.block k hk1 (fun e => by have := (h1.owned k e).2; omega), h4.size⟩
theorem pop_later (W : World) (b : Nat) (v0 : Value) (M : List E) (n : Nat) (w w1 : World) (h : Since W b v0 M n w) (hb : Below w.heap.size w w1) :
    Calls Try.prog 13 #[.pointer (some ⟨b, 0, none⟩)] w1 fun e w' => e = .returned (Item? M) ∧ Since W b v0 M.tail n w' ∧ (∀ k, w.heap.size ≤ k → k < w1.heap.size → w'.heap[k]? = w1.heap[k]?) ∧ w1.heap.size ≤ w'.heap.size := by
  obtain ⟨v, h1, h2⟩ := h
  refine (pop_any b v M n w1 (h1.below hb)).mono ?_
  rintro e w' ⟨rfl, v', h3, h4⟩
  exact ⟨rfl, ⟨v', h3, (h2.trans (Turn.ofBelow hb _)).trans h4⟩, fun k hk hk1 => h4.block k hk1 (fun e => by have := (h1.owned k e).2; omega), h4.size⟩
theorem len_since (W : World) (b : Nat) (v0 : Value) (M : List E) (n : Nat) (w : World) (h : Since W b v0 M n w) :
    Calls Try.prog 19 #[.pointer (some ⟨b, 0, none⟩)] w fun e w' => e = .returned (.int .i64 (M.length : Int)) ∧ w = w' := by
  obtain ⟨v, h1, h2⟩ := h; exact len_any b v M n w h1
theorem peek_since (W : World) (b : Nat) (v0 : Value) (M : List E) (n : Nat) (w : World) (h : Since W b v0 M n w) :
    Calls Try.prog 17 #[.pointer (some ⟨b, 0, none⟩)] w fun e w' => e = .returned (Item? M) ∧ Below w.heap.size w w' := by
  obtain ⟨v, h1, h2⟩ := h; exact peek_any b v M n w h1

/-- What the example's heap has when so many were pushed, and when so many were taken out. -/
def sM : Nat → List E
  | 0 => []
  | 1 => [⟨3, 0, 0⟩]
  | 2 => [⟨1, 1, 1⟩, ⟨3, 0, 0⟩]
  | 3 => [⟨1, 1, 1⟩, ⟨3, 0, 0⟩, ⟨3, 2, 2⟩]
  | _ => [⟨1, 1, 1⟩, ⟨2, 3, 3⟩, ⟨3, 0, 0⟩, ⟨3, 2, 2⟩]
def sD : Nat → List E
  | 0 => [⟨1, 1, 1⟩, ⟨2, 3, 3⟩, ⟨3, 0, 0⟩, ⟨3, 2, 2⟩]
  | 1 => [⟨2, 3, 3⟩, ⟨3, 0, 0⟩, ⟨3, 2, 2⟩]
  | 2 => [⟨3, 0, 0⟩, ⟨3, 2, 2⟩]
  | 3 => [⟨3, 2, 2⟩]
  | _ => []

set_option maxHeartbeats 1000000 in
theorem shown_any (w : World) : Calls Try.prog 10 #[] w fun e w' => e = .returned (.bool true) ∧ Below w.heap.size w w' := by
  go_enter Try.func10, Try.ntmps10
  go_wp2_with (go_at_call 11; refine (new_any _).mono ?_; rintro e w1 ⟨rfl, hH, hB, hlt⟩; have HH := Lib.hid hH; have HB := Lib.hid hB; clear hH hB)
  obtain ⟨b, hb⟩ : ∃ b, b = w.heap.size := ⟨_, rfl⟩
  rw [← hb] at HH hlt ⊢
  have HBB := Lib.hid hb
  clear hb
  obtain ⟨A1, hA1⟩ : ∃ A1, A1 = w1.heap.size := ⟨_, rfl⟩
  rw [← hA1] at hlt ⊢
  generalize hW1 : w1.alloc (.cells #[.int .i64 3, .int .i64 1, .int .i64 3, .int .i64 2] 3) = W1
  have h1a : W1.heap[A1]? = some (.cells #[.int .i64 3, .int .i64 1, .int .i64 3, .int .i64 2] 3 (0, 0)) := by rw [← hW1, hA1]; exact heap_alloc_new w1 _
  have HS1 : Hid (Since W1 b (.slice none 0 0) [] 0 W1) := Lib.hid (by rw [← hW1]; exact Since.start (HH.out.more _))
  have HB1 : Hid (Below w.heap.size w W1) := Lib.hid (by rw [← hW1]; exact HB.out.alloc HB.out.size _)
  have HN1 : Hid (¬ HF b (.slice none 0 0) A1) := Lib.hid (by intro h; rcases h with h | h; omega; cases h)
  have HA1 := Lib.hid h1a
  clear hW1 HH HB hA1 h1a
  go_loopw [13] (fun iv wr => ∃ k : Nat, k ≤ 4 ∧ iv = .int .i64 (k : Int) ∧ Since W1 b (.slice none 0 0) (sM k) k wr) (fun iv _ => 4 - (intOf iv).toNat)
  case atStart => exact ⟨0, by omega, rfl, HS1.out⟩
  case round =>
    obtain ⟨k, hk, rfl, hS⟩ := hrel
    have hrow := (hS.old A1 (lt_of_heap HA1.out) HN1.out).trans HA1.out
    have c0 : wr.cell? ⟨A1, 0, none⟩ = some (.int .i64 3) := by rw [cell_of_row wr A1 0 _ _ _ hrow]; rfl
    have c1 : wr.cell? ⟨A1, 1, none⟩ = some (.int .i64 1) := by rw [cell_of_row wr A1 1 _ _ _ hrow]; rfl
    have c2 : wr.cell? ⟨A1, 2, none⟩ = some (.int .i64 3) := by rw [cell_of_row wr A1 2 _ _ _ hrow]; rfl
    have c3 : wr.cell? ⟨A1, 3, none⟩ = some (.int .i64 2) := by rw [cell_of_row wr A1 3 _ _ _ hrow]; rfl
    have HS := Lib.hid hS
    clear hS hrow HS1
    rcases (by omega : k = 0 ∨ k = 1 ∨ k = 2 ∨ k = 3 ∨ k = 4) with rfl | rfl | rfl | rfl | rfl
    · go_wp2_with fail
      refine (push_later W1 b _ _ 0 3 0 wr wr HS.out (Below.refl _ _) (by omega)).mono ?_
      rintro e w4 ⟨rfl, hS4, _, _⟩
      have HS4 := Lib.hid hS4
      clear hS4 HS c0 c1 c2 c3
      go_wp2
      go_roundw
      case rel => exact ⟨1, by omega, rfl, HS4.out⟩
      case measure => simp [intOf]
    · go_wp2_with fail
      refine (push_later W1 b _ _ 1 1 1 wr wr HS.out (Below.refl _ _) (by omega)).mono ?_
      rintro e w4 ⟨rfl, hS4, _, _⟩
      have HS4 := Lib.hid hS4
      clear hS4 HS c0 c1 c2 c3
      go_wp2
      go_roundw
      case rel => exact ⟨2, by omega, rfl, HS4.out⟩
      case measure => simp [intOf]
    · go_wp2_with fail
      refine (push_later W1 b _ _ 2 3 2 wr wr HS.out (Below.refl _ _) (by omega)).mono ?_
      rintro e w4 ⟨rfl, hS4, _, _⟩
      have HS4 := Lib.hid hS4
      clear hS4 HS c0 c1 c2 c3
      go_wp2
      go_roundw
      case rel => exact ⟨3, by omega, rfl, HS4.out⟩
      case measure => simp [intOf]
    · go_wp2_with fail
      refine (push_later W1 b _ _ 3 2 3 wr wr HS.out (Below.refl _ _) (by omega)).mono ?_
      rintro e w4 ⟨rfl, hS4, _, _⟩
      have HS4 := Lib.hid hS4
      clear hS4 HS c0 c1 c2 c3
      go_wp2
      go_roundw
      case rel => exact ⟨4, by omega, rfl, HS4.out⟩
      case measure => simp [intOf]
    · clear c0 c1 c2 c3
      go_wp2
      obtain ⟨v, hv1, hv2⟩ := HS.out
      obtain ⟨A2, hA2⟩ : ∃ A2, A2 = wr.heap.size := ⟨_, rfl⟩
      have hbw := hv1.lt
      have HN2 : Hid (¬ HF b v A2) := Lib.hid (fun h => by have := (hv1.owned _ h).2; omega)
      have HBW : Hid (Below w.heap.size w wr) := Lib.hid (HB1.out.trans (hv2.below _ HB1.out.size (fun k hk => by rcases hk with h | h; (rw [h, HBB.out]; exact Nat.le_refl _); cases h)))
      have HBV : Hid (∀ k, HF b v k → w.heap.size ≤ k) := Lib.hid (fun k hk => by have := (hv1.owned k hk).1; rw [HBB.out] at this; exact this)
      rw [← hA2, show ((4 : Nat) : Int) = 4 from rfl]
      generalize hW2 : wr.alloc (.cells #[.int .i64 1, .int .i64 1, .int .i64 2, .int .i64 3, .int .i64 3, .int .i64 0, .int .i64 3, .int .i64 2] 32) = W2
      have h2a : W2.heap[A2]? = some (.cells #[.int .i64 1, .int .i64 1, .int .i64 2, .int .i64 3, .int .i64 3, .int .i64 0, .int .i64 3, .int .i64 2] 32 (0, 0)) := by rw [← hW2, hA2]; exact heap_alloc_new wr _
      have HS2 : Hid (Since W2 b v (sD 0) 4 W2) := Lib.hid (by rw [← hW2]; exact Since.start (hv1.more _))
      have HB2 : Hid (Below w.heap.size w W2) := Lib.hid (by rw [← hW2]; exact HBW.out.alloc HBW.out.size _)
      have HA2 := Lib.hid h2a
      have hbA2 : b < A2 := by omega
      clear hv1 hv2 hA2 hW2 h2a HS HBW HA1 HN1 HB1 hbw hlt
      go_loopw [30] (fun iv wr => ∃ k : Nat, k ≤ 4 ∧ iv = .int .i64 (k : Int) ∧ Since W2 b v (sD k) 4 wr) (fun iv _ => 4 - (intOf iv).toNat)
      case atStart => exact ⟨0, by omega, rfl, HS2.out⟩
      case round =>
        obtain ⟨k, hk, rfl, hS⟩ := hrel
        have hrow := (hS.old A2 (lt_of_heap HA2.out) HN2.out).trans HA2.out
        have c0 : wr.cell? ⟨A2, 0, none⟩ = some (.int .i64 1) := by rw [cell_of_row wr A2 0 _ _ _ hrow]; rfl
        have c1 : wr.cell? ⟨A2, 1, none⟩ = some (.int .i64 1) := by rw [cell_of_row wr A2 1 _ _ _ hrow]; rfl
        have c2 : wr.cell? ⟨A2, 2, none⟩ = some (.int .i64 2) := by rw [cell_of_row wr A2 2 _ _ _ hrow]; rfl
        have c3 : wr.cell? ⟨A2, 3, none⟩ = some (.int .i64 3) := by rw [cell_of_row wr A2 3 _ _ _ hrow]; rfl
        have c4 : wr.cell? ⟨A2, 4, none⟩ = some (.int .i64 3) := by rw [cell_of_row wr A2 4 _ _ _ hrow]; rfl
        have c5 : wr.cell? ⟨A2, 5, none⟩ = some (.int .i64 0) := by rw [cell_of_row wr A2 5 _ _ _ hrow]; rfl
        have c6 : wr.cell? ⟨A2, 6, none⟩ = some (.int .i64 3) := by rw [cell_of_row wr A2 6 _ _ _ hrow]; rfl
        have c7 : wr.cell? ⟨A2, 7, none⟩ = some (.int .i64 2) := by rw [cell_of_row wr A2 7 _ _ _ hrow]; rfl
        have HS := Lib.hid hS
        have hA2p := lt_of_heap hrow
        clear hS hrow HS2
        rcases (by omega : k = 0 ∨ k = 1 ∨ k = 2 ∨ k = 3 ∨ k = 4) with rfl | rfl | rfl | rfl | rfl
        · go_wp2_with fail
          refine (pop_later W2 b _ _ 4 wr _ HS.out ((Below.refl _ wr).alloc (Nat.le_refl _) _)).mono ?_
          rintro e w4 ⟨rfl, hS4, hk4, hz4⟩
          have q5 : w4.heap[wr.heap.size]? = some (.cells #[.int .i64 1, .int .i64 1] 32 (0, 0)) := by rw [hk4 _ (Nat.le_refl _) (by simp)]; exact heap_alloc_new wr _
          obtain ⟨d0, d1, _, _⟩ := two_read q5
          have hlt4 := lt_of_heap q5
          have HS4 := Lib.hid (hS4.more (.cells #[.int .i64 1, .int .i64 1] 32))
          simp only [sD, Item?]
          clear hS4 HS c0 c1 c2 c3 c4 c5 c6 c7 hk4 hz4 q5
          go_wp2
          go_roundw
          case rel => exact ⟨1, by omega, rfl, HS4.out⟩
          case measure => simp [intOf]
        · go_wp2_with fail
          refine (pop_later W2 b _ _ 4 wr _ HS.out ((Below.refl _ wr).alloc (Nat.le_refl _) _)).mono ?_
          rintro e w4 ⟨rfl, hS4, hk4, hz4⟩
          have q5 : w4.heap[wr.heap.size]? = some (.cells #[.int .i64 2, .int .i64 3] 32 (0, 0)) := by rw [hk4 _ (Nat.le_refl _) (by simp)]; exact heap_alloc_new wr _
          obtain ⟨d0, d1, _, _⟩ := two_read q5
          have hlt4 := lt_of_heap q5
          have HS4 := Lib.hid (hS4.more (.cells #[.int .i64 2, .int .i64 3] 32))
          simp only [sD, Item?]
          clear hS4 HS c0 c1 c2 c3 c4 c5 c6 c7 hk4 hz4 q5
          go_wp2
          go_roundw
          case rel => exact ⟨2, by omega, rfl, HS4.out⟩
          case measure => simp [intOf]
        · go_wp2_with fail
          refine (pop_later W2 b _ _ 4 wr _ HS.out ((Below.refl _ wr).alloc (Nat.le_refl _) _)).mono ?_
          rintro e w4 ⟨rfl, hS4, hk4, hz4⟩
          have q5 : w4.heap[wr.heap.size]? = some (.cells #[.int .i64 3, .int .i64 0] 32 (0, 0)) := by rw [hk4 _ (Nat.le_refl _) (by simp)]; exact heap_alloc_new wr _
          obtain ⟨d0, d1, _, _⟩ := two_read q5
          have hlt4 := lt_of_heap q5
          have HS4 := Lib.hid (hS4.more (.cells #[.int .i64 3, .int .i64 0] 32))
          simp only [sD, Item?]
          clear hS4 HS c0 c1 c2 c3 c4 c5 c6 c7 hk4 hz4 q5
          go_wp2
          go_roundw
          case rel => exact ⟨3, by omega, rfl, HS4.out⟩
          case measure => simp [intOf]
        · go_wp2_with fail
          refine (pop_later W2 b _ _ 4 wr _ HS.out ((Below.refl _ wr).alloc (Nat.le_refl _) _)).mono ?_
          rintro e w4 ⟨rfl, hS4, hk4, hz4⟩
          have q5 : w4.heap[wr.heap.size]? = some (.cells #[.int .i64 3, .int .i64 2] 32 (0, 0)) := by rw [hk4 _ (Nat.le_refl _) (by simp)]; exact heap_alloc_new wr _
          obtain ⟨d0, d1, _, _⟩ := two_read q5
          have hlt4 := lt_of_heap q5
          have HS4 := Lib.hid (hS4.more (.cells #[.int .i64 3, .int .i64 2] 32))
          simp only [sD, Item?]
          clear hS4 HS c0 c1 c2 c3 c4 c5 c6 c7 hk4 hz4 q5
          go_wp2
          go_roundw
          case rel => exact ⟨4, by omega, rfl, HS4.out⟩
          case measure => simp [intOf]
        · clear c0 c1 c2 c3 c4 c5 c6 c7
          go_wp2_with fail
          refine (len_since W2 b _ _ 4 wr HS.out).mono ?_
          rintro e w5 ⟨rfl, rfl⟩
          have HE : Hid (Below w.heap.size w wr) := Lib.hid (HB2.out.trans (HS.out.belowOf _ HB2.out.size HBV.out))
          simp only [sD, List.length_nil]
          clear HS
          go_wp2
          go_ret
          exact ⟨rfl, HE.out⟩

end Go.Proofs.Ytbpcigcfdkamaaa
