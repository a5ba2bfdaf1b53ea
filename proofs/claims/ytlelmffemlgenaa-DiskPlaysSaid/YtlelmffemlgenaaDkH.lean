/-
  Layer 15: a disk behind any acts; nothing older is written.
-/
import Derived.Test.YtlelmffemlgenaaDkF
import Derived.Test.YtlelmffemlgenaaDkG
set_option linter.unusedVariables false
set_option maxRecDepth 100000
namespace Go.Proofs.Ytlelmffemlgenaa
namespace Dk
open Go.RowKit Bk Nw

/-- A disk in block g, all its blocks from 'base' on; below that all is as it was in w0. -/
def Lo (w0 : World) (base g : Nat) (w : World) : Prop := ∃ v d, DAt w base g v d ∧ Below base w0 w
section
variable {w0 w w' : World} {base g : Nat}
theorem Lo.below (h : Lo w0 base g w) : Below base w0 w := by obtain ⟨_, _, _, h⟩ := h; exact h
theorem Lo.ge (h : Lo w0 base g w) : base ≤ w.heap.size := by obtain ⟨v, d, h, _⟩ := h; exact Nat.le_trans h.lo (Nat.le_of_lt h.lt)
theorem Lo.later (h : Lo w0 base g w) (hb : Below w.heap.size w w') : Lo w0 base g w' := by
  obtain ⟨v, d, h1, h2⟩ := h
  exact ⟨v, d, h1.later hb, h2.trans (hb.mono (Nat.le_trans h1.lo (Nat.le_of_lt h1.lt)))⟩
theorem Lo.does (h : Lo w0 base g w) (k : Nat) (A : Option Addr) (n c : Nat) (s : ByteArray) (x : Int) (hy : Yb w.heap.size w A n c s) (hx : IW x) :
    Calls Try.prog 16 #[.pointer (some ⟨g, 0, none⟩), .agg #[.int .u8 (k : Int), .slice A n c, .int .i64 x]] w fun e w' => (∃ z, e = .returned (.int .i64 z)) ∧ Lo w0 base g w' := by
  obtain ⟨v, d, h1, h2⟩ := h
  refine (does_any h1 k A n c s x hy hx).mono ?_
  rintro e w' ⟨v', rfl, hn, ht⟩
  exact ⟨⟨_, rfl⟩, v', _, hn, h2.trans (ht.below base (Nat.le_trans h1.lo (Nat.le_of_lt h1.lt)) (fun k hk => (h1.blocks k hk).1))⟩
end
/-- The act at a place, as the law loads it. -/
theorem act_at {w0 w : World} {A : Option Addr} {n cap : Nat} {f : Nat → A15} (h : Acts15 w0.heap.size w A n cap f) {j : Nat} (hj : j < n) : ∃ ga off A1 n1 c1, A = some ⟨ga, off, none⟩ ∧ ga < w0.heap.size ∧
    w.cell? ⟨ga, off + j * 3, none⟩ = some (.int .u8 ((f j).1 : Int)) ∧ w.cell? ⟨ga, off + j * 3 + 1, none⟩ = some (.slice A1 n1 c1) ∧ w.cell? ⟨ga, off + j * 3 + 2, none⟩ = some (.int .i64 (f j).2.2) ∧ Yb w0.heap.size w A1 n1 c1 (f j).2.1 ∧ (f j).1 ≤ 255 ∧ IW (f j).2.2 := by
  obtain ⟨ga, off, rfl, hga, hc⟩ := h.cell (by omega)
  obtain ⟨k0, ⟨A1, n1, c1, k1, hy⟩, k2⟩ := hc j hj
  exact ⟨ga, off, A1, n1, c1, rfl, hga, k0, k1, k2, hy, (h.fits j hj).1, (h.fits j hj).2⟩
theorem acts_raise {B B' : Nat} {w : World} {A : Option Addr} {n cap : Nat} {f : Nat → A15} (h : Acts15 B w A n cap f) (hb : B ≤ B') : Acts15 B' w A n cap f :=
  ⟨h.le, h.max, h.nil, fun hn => by
    obtain ⟨g, off, e, hg, hc⟩ := h.cell hn
    refine ⟨g, off, e, Nat.lt_of_lt_of_le hg hb, fun j hj => ?_⟩
    obtain ⟨c0, ⟨A1, n1, c1, k1, k2⟩, c2⟩ := hc j hj
    exact ⟨c0, ⟨A1, n1, c1, k1, k2.raise hb⟩, c2⟩, h.fits⟩
end Dk
end Go.Proofs.Ytlelmffemlgenaa
