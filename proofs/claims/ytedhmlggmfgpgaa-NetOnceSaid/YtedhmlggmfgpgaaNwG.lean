/-
  Layer 13: a network on which so many are under way.
-/
import Derived.Test.YtedhmlggmfgpgaaNwF
set_option linter.unusedVariables false
set_option maxRecDepth 100000
namespace Go.Proofs.Ytedhmlggmfgpgaa
namespace Nw
open Go.RowKit Bk

/-- So many are under way; nothing older is written. -/
def St (w0 : World) (g j : Nat) (w : World) : Prop := w0.heap.size ≤ g ∧ ∃ v P L, NAt w g g v P L ∧ L.length = j ∧ Below w0.heap.size w0 w
section
variable {w0 w : World} {g j : Nat}
theorem St.later {w' : World} (h : St w0 g j w) (hb : Below w.heap.size w w') : St w0 g j w' := by
  obtain ⟨h1, v, P, L, h2, h3, h4⟩ := h
  exact ⟨h1, v, P, L, h2.later hb, h3, h4.trans (hb.mono h4.size)⟩
theorem St.below (h : St w0 g j w) : Below w0.heap.size w0 w := by obtain ⟨_, _, _, _, _, _, h⟩ := h; exact h
theorem St.send (h : St w0 g j w) (hj : j < 1024) (A : Option Addr) (n c : Nat) (s : ByteArray) (hy : Yb w.heap.size w A n c s) (hn : n ≤ 100000) :
    Calls Try.prog 11 #[.pointer (some ⟨g, 0, none⟩), .slice A n c] w fun e w' => e = .returned (.int .i64 0) ∧ St w0 g (j + 1) w' := by
  obtain ⟨h1, v, P, L, h2, rfl, h4⟩ := h
  refine (Send_any h2 (Nat.le_of_lt h2.lt) A n c s hy hn).mono ?_
  rintro e w' ⟨v', P', rfl, hn', ht⟩
  refine ⟨by unfold seE; rw [if_neg (by omega)], h1, v', P', _, hn', ?_, h2.belowT ht h4 (Nat.le_refl _) h1⟩
  unfold seL
  rw [if_neg (by omega)]
  simp
theorem St.full (h : St w0 g 1024 w) (A : Option Addr) (n c : Nat) (s : ByteArray) (hy : Yb w.heap.size w A n c s) (hn : n ≤ 100000) :
    Calls Try.prog 11 #[.pointer (some ⟨g, 0, none⟩), .slice A n c] w fun e w' => e = .returned (.int .i64 4) ∧ St w0 g 1024 w' := by
  obtain ⟨h1, v, P, L, h2, h3, h4⟩ := h
  refine (Send_any h2 (Nat.le_of_lt h2.lt) A n c s hy hn).mono ?_
  rintro e w' ⟨v', P', rfl, hn', ht⟩
  refine ⟨by unfold seE; rw [if_pos (by omega)], h1, v', P', _, hn', ?_, h2.belowT ht h4 (Nat.le_refl _) h1⟩
  unfold seL
  rw [if_pos (by omega)]
  exact h3
theorem St.len (h : St w0 g j w) : Calls Try.prog 18 #[.pointer (some ⟨g, 0, none⟩)] w fun e w' => e = .returned (.int .i64 (j : Int)) ∧ w = w' := by
  obtain ⟨h1, v, P, L, h2, rfl, h4⟩ := h
  exact Len_any h2
theorem ouA_len {α : Type} {L : List α} (h : 0 < L.length) : (ouA 0 L).length + 1 = L.length := by
  have : isA L.length 0 = true := decide_eq_true ⟨by omega, by omega⟩
  unfold ouA
  rw [this, if_pos rfl]
  exact ou_len (by simpa using h)
theorem St.lose (h : St w0 g (j + 1) w) : Calls Try.prog 17 #[.pointer (some ⟨g, 0, none⟩), .int .i64 0] w fun e w' => e = .returned (.bool true) ∧ St w0 g j w' := by
  obtain ⟨h1, v, P, L, h2, h3, h4⟩ := h
  refine (Lose_any h2 0 (by omega)).mono ?_
  rintro e w' ⟨v', P', rfl, hn', ht, _⟩
  have : isA L.length 0 = true := decide_eq_true ⟨by omega, by omega⟩
  exact ⟨by rw [this], h1, v', P', _, hn', by have := ouA_len (L := L) (by omega); omega, h2.belowT ht h4 (Nat.le_refl _) h1⟩
theorem St.take (h : St w0 g (j + 1) w) : Calls Try.prog 13 #[.pointer (some ⟨g, 0, none⟩), .int .i64 0] w fun e w' => (∃ A n c, e = .returned (.tuple #[.slice A n c, .bool true])) ∧ St w0 g j w' := by
  obtain ⟨h1, v, P, L, h2, h3, h4⟩ := h
  refine (Take_any h2 0 (by omega)).mono ?_
  rintro e w' ⟨A, c, v', P', rfl, _, hn', ht, _⟩
  have : isA L.length 0 = true := decide_eq_true ⟨by omega, by omega⟩
  exact ⟨⟨A, _, c, by rw [this]⟩, h1, v', P', _, hn', by have := ouA_len (L := L) (by omega); omega, h2.belowT ht h4 (Nat.le_refl _) h1⟩
end
theorem new_st (w0 w : World) (h : Below w0.heap.size w0 w) : Calls Try.prog 9 #[] w fun e w' => e = .returned (.pointer (some ⟨w.heap.size, 0, none⟩)) ∧ St w0 w.heap.size 0 w' := by
  refine (new_any w).mono ?_
  rintro e w' ⟨rfl, hn, hb⟩
  exact ⟨rfl, h.size, _, _, _, hn, rfl, h.trans (hb.mono h.size)⟩
end Nw
end Go.Proofs.Ytedhmlggmfgpgaa
