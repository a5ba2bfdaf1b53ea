/-
  Layer 5: the document's Is.
-/
import Derived.Test.YtokjnmgbgflgnaaGreatDoorPtSet
import Derived.Test.YtokjnmgbgflgnaaGreatDoorPtRa
import Derived.Test.YtokjnmgbgflgnaaGreatDoorPtIs
set_option linter.unusedVariables false
set_option maxRecDepth 100000
namespace Go.Proofs.YtokjnmgbgflgnaaGreatDoor
open Go.RowKit Fl Pt

theorem any_mI (xs : List Nat) (n : Nat) (x : Int) (h : n = xs.length) : mI (fun j => ((xs.getD j 0 : Nat) : Int)) n x = xs.any (fun y => ((y : Int) == x)) := by
  rw [← contains_nats xs n x h, Bool.eq_iff_iff, List.contains_iff_mem]
  unfold mI il
  rw [List.any_eq_true]
  simp
/-- A map lies boxed in a block. -/
structure MX (M : Nat) (AN AL AO : Option Addr) (n cN cL cO : Nat) (w : World) : Prop where
  c0 : w.cell? ⟨M, 0, none⟩ = some (.slice AN n cN)
  c1 : w.cell? ⟨M, 1, none⟩ = some (.slice AL n cL)
  c2 : w.cell? ⟨M, 2, none⟩ = some (.slice AO n cO)
  lt : M < w.heap.size
theorem MX.later {M : Nat} {AN AL AO : Option Addr} {n cN cL cO : Nat} {w w' : World} (h : MX M AN AL AO n cN cL cO w) (hb : Below w.heap.size w w') : MX M AN AL AO n cN cL cO w' :=
  ⟨(hb.cell (p := ⟨M, 0, none⟩) h.lt).trans h.c0, (hb.cell (p := ⟨M, 1, none⟩) h.lt).trans h.c1, (hb.cell (p := ⟨M, 2, none⟩) h.lt).trans h.c2, Nat.lt_of_lt_of_le h.lt hb.size⟩
theorem rin_is (B : Nat) (A : Option Addr) (n cap : Nat) {xs : List Nat} (x : Int) (w : World) (h : Il B w A n cap (fun j => ((xs.getD j 0 : Nat) : Int))) (hn : n = xs.length) {v : Bool} (hv : xs.any (fun y => ((y : Int) == x)) = v) :
    Calls Tryz.prog 80 #[.int .i64 x, .slice A n cap] w fun e w' => e = .returned (.bool v) ∧ w = w' :=
  (rin_any B A n cap _ x w h).mono fun e w' ⟨h1, h2⟩ => ⟨by rw [h1, any_mI _ _ _ hn, hv], h2⟩
end Go.Proofs.YtokjnmgbgflgnaaGreatDoor
