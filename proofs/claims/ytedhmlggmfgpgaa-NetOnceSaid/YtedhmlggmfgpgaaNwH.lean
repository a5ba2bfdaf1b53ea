/-
  Layer 13: a network on which so many at most are under way, behind any acts.
-/
import Derived.Test.YtedhmlggmfgpgaaNwS
import Derived.Test.YtedhmlggmfgpgaaNwG
set_option linter.unusedVariables false
set_option maxRecDepth 100000
namespace Go.Proofs.Ytedhmlggmfgpgaa
namespace Nw
open Go.RowKit Bk

/-- So many at most are under way; nothing older is written. -/
def Sm (w0 : World) (g j : Nat) (w : World) : Prop := w0.heap.size ≤ g ∧ ∃ v P L, NAt w g g v P L ∧ L.length ≤ j ∧ Below w0.heap.size w0 w
section
variable {w0 w : World} {g j : Nat}
theorem Sm.later {w' : World} (h : Sm w0 g j w) (hb : Below w.heap.size w w') : Sm w0 g j w' := by
  obtain ⟨h1, v, P, L, h2, h3, h4⟩ := h
  exact ⟨h1, v, P, L, h2.later hb, h3, h4.trans (hb.mono h4.size)⟩
theorem Sm.below (h : Sm w0 g j w) : Below w0.heap.size w0 w := by obtain ⟨_, _, _, _, _, _, h⟩ := h; exact h
theorem Sm.more (h : Sm w0 g j w) : Sm w0 g (j + 1) w := by
  obtain ⟨h1, v, P, L, h2, h3, h4⟩ := h
  exact ⟨h1, v, P, L, h2, by omega, h4⟩
theorem Sm.send (h : Sm w0 g j w) (A : Option Addr) (n c : Nat) (s : ByteArray) (hy : Yb w.heap.size w A n c s) (hn : n ≤ 100000) :
    Calls Try.prog 11 #[.pointer (some ⟨g, 0, none⟩), .slice A n c] w fun e w' => (∃ z, e = .returned (.int .i64 z)) ∧ Sm w0 g (j + 1) w' := by
  obtain ⟨h1, v, P, L, h2, h3, h4⟩ := h
  refine (Send_any h2 (Nat.le_of_lt h2.lt) A n c s hy hn).mono ?_
  rintro e w' ⟨v', P', rfl, hn', ht⟩
  refine ⟨⟨_, rfl⟩, h1, v', P', _, hn', ?_, h2.belowT ht h4 (Nat.le_refl _) h1⟩
  unfold seL
  split
  · omega
  · simp; omega
theorem ouA_le {α : Type} (i : Int) (L : List α) : (ouA i L).length ≤ L.length := by
  unfold ouA
  split
  · unfold ou; simp; omega
  · exact Nat.le_refl _
theorem Sm.lose (h : Sm w0 g j w) (i : Int) (h8 : i ≤ 9223372036854775807) : Calls Try.prog 17 #[.pointer (some ⟨g, 0, none⟩), .int .i64 i] w fun e w' => (∃ b, e = .returned (.bool b)) ∧ Sm w0 g (j + 1) w' := by
  obtain ⟨h1, v, P, L, h2, h3, h4⟩ := h
  refine (Lose_any h2 i h8).mono ?_
  rintro e w' ⟨v', P', rfl, hn', ht, _⟩
  exact ⟨⟨_, rfl⟩, h1, v', P', _, hn', by have := ouA_le i L; omega, h2.belowT ht h4 (Nat.le_refl _) h1⟩
theorem Sm.take (h : Sm w0 g j w) (i : Int) (h8 : i ≤ 9223372036854775807) : Calls Try.prog 13 #[.pointer (some ⟨g, 0, none⟩), .int .i64 i] w fun e w' => (∃ A n c b, e = .returned (.tuple #[.slice A n c, .bool b])) ∧ Sm w0 g (j + 1) w' := by
  obtain ⟨h1, v, P, L, h2, h3, h4⟩ := h
  refine (Take_any h2 i h8).mono ?_
  rintro e w' ⟨A, c, v', P', rfl, _, hn', ht, _⟩
  exact ⟨⟨A, _, c, _, rfl⟩, h1, v', P', _, hn', by have := ouA_le i L; omega, h2.belowT ht h4 (Nat.le_refl _) h1⟩
end
/-- Where a list of texts grows, the network is as it was; and the other way round. -/
theorem NAt.keepS {w w' : World} {base b2 g : Nat} {v u : Value} {P : List Value} {L S : List ByteArray} (h : NAt w base g v P L) (hs : Sw w b2 u S) (hg : w.grownBy w' u.ownBlock) : NAt w' base g v P L :=
  h.same fun k hk => hg.block k (h.blocks k hk).2 fun e => by
    obtain ⟨c, t, fz, hh, ht⟩ := h.kind k hk
    obtain ⟨_, _, c2, fz2, hh2⟩ := hs.kind k e.symm
    have := hh.symm.trans hh2
    injection this with this
    injection this with _ this _
    subst this
    revert ht
    decide
theorem Sw.keepN {w w' : World} {base b2 g : Nat} {v u : Value} {P : List Value} {L S : List ByteArray} {F' : Nat → Prop} (hs : Sw w b2 u S) (h : NAt w base g v P L) (ht : Turn (NF g v P) F' w w') : Sw w' b2 u S :=
  hs.same fun k hk => ht.block k (hs.kind k hk).1 fun e => by
    obtain ⟨c, t, fz, hh, ht⟩ := h.kind k e
    obtain ⟨_, _, c2, fz2, hh2⟩ := hs.kind k hk
    have := hh.symm.trans hh2
    injection this with this
    injection this with _ this _
    subst this
    revert ht
    decide
end Nw
end Go.Proofs.Ytedhmlggmfgpgaa
