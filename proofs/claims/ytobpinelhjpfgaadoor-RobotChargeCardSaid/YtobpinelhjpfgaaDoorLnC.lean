/-
  Layer 14: Take.
-/
import Derived.Test.YtobpinelhjpfgaaDoorLnB
set_option linter.unusedVariables false
set_option maxRecDepth 100000
namespace Go.Proofs.YtobpinelhjpfgaaDoor
namespace Ln
open Go.RowKit Bp Ck
theorem rb_get1 {B b : Nat} {w0 w : World} {zs : List Nat} (h : Rb w0 B w b zs 0 0) :
    Calls Tryd.prog 74 #[.pointer (some ⟨b, 0, none⟩), .int .i64 1] w fun e w' => ∃ (N p' : Nat) (f' : Int), e = .returned (.int .u64 (N : Int)) ∧ Rb w0 B w' b zs p' f' ∧ ((1 ≤ 8 * zs.length ∧ N = tk zs 0 1 ∧ p' = 1 ∧ f' = 0) ∨ (zs.length = 0 ∧ N = 0 ∧ p' = 0 ∧ f' ≠ 0)) := by
  obtain ⟨C, v, h1, h2, h3⟩ := h
  by_cases hs : 0 + 1 ≤ 8 * zs.length
  · refine (get_ok C b v zs 0 1 w h1 (by omega) hs).mono ?_
    rintro e w' ⟨rfl, ht⟩
    exact ⟨_, _, _, rfl, Rb.to h1 h2 h3 ht, .inl ⟨by omega, rfl, rfl, rfl⟩⟩
  · refine (get_short C b v zs 0 1 w h1 (by omega) (by omega)).mono ?_
    rintro e w' ⟨rfl, ht⟩
    exact ⟨0, _, _, rfl, Rb.to h1 h2 h3 ht, .inr ⟨by omega, rfl, rfl, by decide⟩⟩
/-- How a count is read: at its place, or a fault. -/
def Cq (zs : List Nat) (p : Nat) (f : Int) (N p' : Nat) (f' : Int) : Prop :=
  (f' ≠ 0 ∧ (f = 0 → ∀ q, Zs zs p q → q ≤ 63 → 8 * zs.length < p + (2 * q + 1))) ∨
  (f = 0 ∧ f' = 0 ∧ ∃ q, Zs zs p q ∧ q ≤ 63 ∧ p + (2 * q + 1) ≤ 8 * zs.length ∧ N = tk zs (p + q) (q + 1) - 1 ∧ p' = p + (2 * q + 1))
theorem rb_count1 {B b : Nat} {w0 w : World} {zs : List Nat} {p : Nat} {f : Int} (h : Rb w0 B w b zs p f) :
    Calls Tryd.prog 75 #[.pointer (some ⟨b, 0, none⟩)] w fun e w' => ∃ (N p' : Nat) (f' : Int), e = .returned (.int .u64 (N : Int)) ∧ Rb w0 B w' b zs p' f' ∧ Cq zs p f N p' f' := by
  obtain ⟨C, v, h1, h2, h3⟩ := h
  by_cases hf : f = 0
  · subst hf
    obtain ⟨n, hz⟩ := zs_exists zs p h1.at_le
    by_cases h64 : n = 64
    · subst h64
      refine (count_toolong C b v zs p w h1 hz).mono ?_
      rintro e w' ⟨rfl, ht⟩
      exact ⟨0, p, 4, rfl, Rb.to h1 h2 h3 ht, .inl ⟨by decide, fun _ q hq hq2 => by have := hz.unique hq; omega⟩⟩
    · have hn : n ≤ 63 := by have := hz.few; omega
      by_cases hs : p + (2 * n + 1) ≤ 8 * zs.length
      · refine (rcount_ok C b v zs p n w h1 hz hn hs).mono ?_
        rintro e w' ⟨rfl, ht⟩
        exact ⟨_, _, 0, rfl, Rb.to h1 h2 h3 ht, .inr ⟨rfl, rfl, n, hz, hn, hs, rfl, rfl⟩⟩
      · refine (count_short C b v zs p n w h1 hz hn (by omega)).mono ?_
        rintro e w' ⟨rfl, ht⟩
        exact ⟨0, p, 10, rfl, Rb.to h1 h2 h3 ht, .inl ⟨by decide, fun _ q hq hq2 => by have := hz.unique hq; omega⟩⟩
  · refine (count_fault C b v zs p f w h1 hf).mono ?_
    rintro e w' ⟨rfl, rfl⟩
    exact ⟨0, p, f, rfl, ⟨C, v, h1, h2, h3⟩, .inl ⟨hf, fun x => absurd x hf⟩⟩
/-- What End tells. -/
def Eq (zs : List Nat) (p : Nat) (f E : Int) : Prop := (f ≠ 0 → E ≠ 0) ∧ (f = 0 → (E = 0 ↔ (8 * zs.length < p + 8 ∧ ∀ k, p ≤ k → k < 8 * zs.length → rbit zs k = 0)))
theorem rd_end1 {C b : Nat} {v : Value} {w : World} {zs : List Nat} {p : Nat} {f : Int} (h1 : Rd C w b v zs p f) :
    Calls Tryd.prog 78 #[.pointer (some ⟨b, 0, none⟩)] w fun e w' => ∃ E : Int, e = .returned (.int .i64 E) ∧ RdTo C w b v zs p f w' ∧ Eq zs p f E := by
  by_cases hf : f = 0
  · subst hf
    by_cases ht : p + 8 ≤ 8 * zs.length
    · refine (end_tail C b v zs p w h1 ht).mono ?_
      rintro e w' ⟨rfl, hr⟩
      exact ⟨11, rfl, hr, fun x => absurd rfl x, fun _ => ⟨fun x => by omega, fun x => by omega⟩⟩
    · obtain ⟨n, hz⟩ := zs_exists zs p h1.at_le
      refine (end_bit C b v zs p n w h1 hz (by omega)).mono ?_
      rintro e w' ⟨rfl, hr⟩
      refine ⟨_, rfl, hr, fun x => absurd rfl x, fun _ => ?_⟩
      have hi := hz.inn
      by_cases hlt : p + n < 8 * zs.length
      · rw [if_pos hlt]
        refine ⟨fun x => by omega, fun x => ?_⟩
        have h1 := x.2 (p + n) (by omega) hlt
        rcases hz.stop with y | y | y <;> omega
      · rw [if_neg hlt]
        exact ⟨fun _ => ⟨by omega, fun k k1 k2 => by
          have := hz.zero (k - p) (by omega)
          rwa [show p + (k - p) = k by omega] at this⟩, fun _ => rfl⟩
  · refine (end_fault C b v zs p f w h1 hf).mono ?_
    rintro e w' ⟨rfl, rfl⟩
    exact ⟨f, rfl, ⟨h1, Turn.refl _ _⟩, fun x => x, fun x => absurd x hf⟩
/-- Behind the kind and the count. -/
def Hd (zs : List Nat) (h : Bool) (n p : Nat) (f : Int) : Prop :=
  (f = 0 ∧ ∃ q, 1 ≤ 8 * zs.length ∧ (tk zs 0 1 == 1) = h ∧ Zs zs 1 q ∧ q ≤ 63 ∧ 2 + 2 * q ≤ 8 * zs.length ∧ n = tk zs (1 + q) (q + 1) - 1 ∧ p = 2 + 2 * q) ∨ (f ≠ 0 ∧ ∀ h n d, ¬ Pk zs h n d)
theorem hd_of {zs : List Nat} {N p1 : Nat} {f1 : Int} {n p : Nat} {f : Int} (h1 : (1 ≤ 8 * zs.length ∧ N = tk zs 0 1 ∧ p1 = 1 ∧ f1 = 0) ∨ (zs.length = 0 ∧ N = 0 ∧ p1 = 0 ∧ f1 ≠ 0)) (h2 : Cq zs p1 f1 n p f) : Hd zs (N == 1) n p f := by
  rcases h1 with ⟨a1, rfl, rfl, rfl⟩ | ⟨a1, rfl, rfl, a4⟩
  · rcases h2 with ⟨b1, b2⟩ | ⟨_, rfl, q, c1, c2, c3, c4, c5⟩
    · refine .inr ⟨b1, fun h n d hp => ?_⟩
      obtain ⟨r, _⟩ := hp.read
      have := b2 rfl _ r.zero r.q63
      have := r.fits
      omega
    · exact .inl ⟨rfl, q, a1, rfl, c1, c2, by omega, c4, by omega⟩
  · rcases h2 with ⟨b1, b2⟩ | ⟨b1, _⟩
    · refine .inr ⟨b1, fun h n d hp => ?_⟩
      obtain ⟨r, _⟩ := hp.read
      have := r.one
      omega
    · exact absurd b1 a4
theorem hd_fin {zs : List Nat} {h : Bool} {n p : Nat} {f E : Int} {m : Nat} (hz : ∀ z ∈ zs, z ≤ 255) (hd : Hd zs h n p f) (hm : m = if h then 0 else (8 * zs.length - p) / 8) (he : Eq zs (pos f p m) f E) :
    (E = 0 → m ≤ 200 → Pk zs h n (gth zs f p m)) ∧ (E ≠ 0 ∨ 200 < m → ∀ h n d, ¬ Pk zs h n d) := by
  rcases hd with ⟨rfl, q, a1, a2, a3, a4, a5, a6, rfl⟩ | ⟨hf, hno⟩
  · have e1 : pos 0 (2 + 2 * q) m = 2 + 2 * q + 8 * m := if_pos rfl
    rw [e1] at he
    have he2 := he.2 rfl
    have hm3 : 2 + 2 * q + 8 * m ≤ 8 * zs.length := by rw [hm]; split <;> omega
    have hrd : 8 * zs.length < 2 + 2 * q + 8 * m + 8 → (∀ k, 2 + 2 * q + 8 * m ≤ k → k < 8 * zs.length → rbit zs k = 0) → Read zs h q n m := fun t1 t2 => ⟨a1, a2, a3, a4, a5, a6, t1, hm3, t2⟩
    refine ⟨fun hE hm2 => ?_, fun hE h' n' d' hp => ?_⟩
    · obtain ⟨t1, t2⟩ := he2.1 hE
      rw [gth_zero]
      exact (hrd t1 t2).pk hz hm2 (fun x => by rw [hm, if_pos x])
    · obtain ⟨r, _⟩ := hp.read
      have hq : q = kz n' := a3.unique r.zero
      have hh : h = h' := a2.symm.trans r.kind
      have r1 := r.tail
      have r2 := r.inn
      have hmm : m = d'.length := by
        rw [hm]
        split
        · rename_i x
          rw [hp.1.none_ (hh.symm.trans x)]; rfl
        · omega
      have hfew := hp.1.few
      rcases hE with x | x
      · refine x (he2.2 ⟨by omega, fun k k1 k2 => r.rest k (by omega) k2⟩)
      · omega
  · exact ⟨fun hE _ => absurd hE (he.1 hf), fun _ => hno⟩
theorem by_keep {B B' : Nat} {w w' : World} {A : Option Addr} {n cap : Nat} {zs : List Nat} (h : By B w A n cap zs) (hB : B ≤ B') (hk : ∀ a, A = some a → w'.heap[a.block]? = w.heap[a.block]?) : By B' w' A n cap zs :=
  ⟨h.len, h.le, h.max, h.nil, h.byte, fun hn => by
    obtain ⟨g, off, hA, hg, hc⟩ := h.cell hn
    exact ⟨g, off, hA, by omega, fun j hj => (World.cell?_of_block (a := ⟨g, off + j, none⟩) (show w'.heap[g]? = w.heap[g]? from hk ⟨g, off, none⟩ hA)).trans (hc j hj)⟩⟩
/-- In the middle of Take: the reader, and ahead of it the blocks of the answer and of the packet. -/
structure Tx (w w' : World) (R P b : Nat) (zs : List Nat) (p : Nat) (f : Int) (x y z : Value) : Prop where
  rd : Rb w' (P + 1) w' b zs p f
  below : Below w.heap.size w w'
  base : w.heap.size ≤ R ∧ R < P
  res : w'.heap[R]? = some (.cells #[.bool false, .int .u64 0, .slice none 0 0] 48 (0, 0))
  box : w'.heap[P]? = some (.cells #[x, y, z] 48 (0, 0))
section
variable {w w' w2 : World} {R P b : Nat} {zs : List Nat} {p p2 : Nat} {f f2 : Int} {x y z : Value}
theorem Tx.next (h : Tx w w' R P b zs p f x y z) (hr : Rb w' (P + 1) w2 b zs p2 f2) : Tx w w2 R P b zs p2 f2 x y z := by
  obtain ⟨C, v, h1, h2, h3⟩ := hr
  have hb := h.base
  exact ⟨⟨C, v, h1, h2, Below.refl _ _⟩, h.below.trans (h3.mono (by omega)), hb, (h3.block R (by omega)).trans h.res, (h3.block P (by omega)).trans h.box⟩
theorem Tx.cells (h : Tx w w' R P b zs p f x y z) : (w'.cell? ⟨P, 0, none⟩ = some x ∧ w'.cell? ⟨P, 1, none⟩ = some y ∧ w'.cell? ⟨P, 2, none⟩ = some z) ∧ (∀ j, w'.frozen? ⟨P, j, none⟩ = false) ∧ (∀ j, w'.frozen? ⟨R, j, none⟩ = false) ∧ w'.cell? ⟨R, 0, none⟩ = some (.bool false) ∧ w'.cell? ⟨R, 1, none⟩ = some (.int .u64 0) ∧ w'.cell? ⟨R, 2, none⟩ = some (.slice none 0 0) :=
  ⟨⟨by rw [cell_of_row _ P 0 _ _ _ h.box]; rfl, by rw [cell_of_row _ P 1 _ _ _ h.box]; rfl, by rw [cell_of_row _ P 2 _ _ _ h.box]; rfl⟩, fun j => frozen_of_row _ P j _ _ h.box, fun j => frozen_of_row _ R j _ _ h.res, by rw [cell_of_row _ R 0 _ _ _ h.res]; rfl, by rw [cell_of_row _ R 1 _ _ _ h.res]; rfl, by rw [cell_of_row _ R 2 _ _ _ h.res]; rfl⟩
theorem Tx.putAt (h : Tx w w' R P b zs p f x y z) (j : Nat) (u x2 y2 z2 : Value) (he : (#[x, y, z] : Array Value).set! j u = #[x2, y2, z2]) : Tx w (w'.setCell ⟨P, j, none⟩ u) R P b zs p f x2 y2 z2 := by
  obtain ⟨C, v, h1, h2, h3⟩ := h.rd
  have hb := h.base
  refine ⟨⟨C, v, h1.frame (fun k hk => Below.heap_setCell _ _ _ _ (by have := (h1.lt hk).1; show k ≠ P; omega)), h2, Below.refl _ _⟩, h.below.setCell (by show w.heap.size ≤ P; omega) _, hb, ?_, ?_⟩
  · rw [Below.heap_setCell _ _ _ _ (by show R ≠ P; omega)]; exact h.res
  · rw [heap_setCell_same w' P j _ _ _ h.box]
    first | rw [he] | (simp only [he]) | (rw [← he]; simp)
theorem Tx.drew (h : Tx w w' R P b zs p f x y z) : Tx w w'.drew R P b zs p f x y z := by
  obtain ⟨C, v, h1, h2, h3⟩ := h.rd
  exact ⟨⟨C, v, h1.drew, h2, Below.refl _ _⟩, h.below.drew, h.base, h.res, h.box⟩
end
end Ln
end Go.Proofs.YtobpinelhjpfgaaDoor
