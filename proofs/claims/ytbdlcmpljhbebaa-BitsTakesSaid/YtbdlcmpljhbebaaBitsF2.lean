/-
  The document's answer for layer 1: a count's bits; bits as bytes.
-/
import Derived.Test.YtbdlcmpljhbebaaBitsF1
set_option linter.unusedVariables false
namespace Go.Proofs.Ytbdlcmpljhbebaa
open Go.RowKit Bp

/-- Appending to a list of its own: what there is behind it. -/
theorem shape_of {w : World} {B : Nat} {e : TypeId} {v : Value} {n : Nat} {xs : List Value} (h : w.ownsRow B e 1 v n xs) (hn : 0 < n) : ∃ g cap, v = .slice (some ⟨g, 0, none⟩) n cap := by
  rcases h.2 with ⟨_, x⟩ | ⟨g, cap, cur, x, _⟩
  · omega
  · exact ⟨g, cap, x⟩
theorem own_ge {w : World} {B : Nat} {e : TypeId} {v : Value} {n : Nat} {xs : List Value} (h : w.ownsRow B e 1 v n xs) : ∀ k, v.ownBlock = some k → B ≤ k := fun k hk => (h.lt k hk).1

end Go.Proofs.Ytbdlcmpljhbebaa
