/-
  Layer 14: a sender, a receiver, two networks between them, and what was told and heard: all in one memory.
-/
import Derived.Test.YtobpinelhjpfgaaDoorLnArgs
import Derived.Test.YtobpinelhjpfgaaDoorNwS
set_option linter.unusedVariables false
set_option maxRecDepth 100000
namespace Go.Proofs.YtobpinelhjpfgaaDoor
namespace Ln
open Go.RowKit Bp Ck
theorem strOf_nums (zs : List Nat) : strOfNums (zs.map fun n : Nat => (n : Int)) = strOf zs := rfl
theorem bc_u8s (zs : List Nat) : bc zs = Nw.u8s (zs.map fun n : Nat => (n : Int)) := by simp [bc, Nw.u8s]
/-- Bytes at a slice have a text; bytes with a text are some. -/
theorem by_yb {B : Nat} {w : World} {A : Option Addr} {n cap : Nat} {zs : List Nat} (h : By B w A n cap zs) : Nw.Yb B w A n cap (strOf zs) := by
  refine ⟨zs.map fun n : Nat => (n : Int), ⟨by rw [← bc_u8s, bc_length, h.len, Nat.mul_one], h.le, h.max, h.nil, fun hn => ?_⟩, rfl, fun z hz => ?_⟩
  · obtain ⟨g, off, hA, hg, hc⟩ := h.cell hn
    refine ⟨g, off, hA, hg, fun j hj => ?_⟩
    rw [Nat.mul_one] at hj
    rw [hc j hj, ← bc_u8s]
    have hl : j < zs.length := by rw [h.len]; exact hj
    simp [bc, List.getD, List.getElem?_eq_getElem hl]
  · obtain ⟨y, hy, rfl⟩ := List.mem_map.1 hz
    have := h.byte y hy
    omega
theorem yb_by {B : Nat} {w : World} {A : Option Addr} {n cap : Nat} {s : ByteArray} (h : Nw.Yb B w A n cap s) : ∃ zs : List Nat, By B w A n cap zs ∧ strOf zs = s := by
  obtain ⟨l, hg, hs, hr⟩ := h
  have e : (l.map Int.toNat).map (fun n : Nat => (n : Int)) = l := by
    rw [List.map_map]
    conv => rhs; rw [← List.map_id l]
    apply List.map_congr_left
    intro z hz
    have := hr z hz
    simp only [Function.comp_apply, id]
    omega
  refine ⟨l.map Int.toNat, ⟨by have := hg.len; rw [List.length_map]; simpa [Nw.u8s] using this, hg.le, hg.max, hg.nil, fun z hz => ?_, fun hn => ?_⟩, ?_⟩
  · obtain ⟨y, hy, rfl⟩ := List.mem_map.1 hz
    have := hr y hy
    omega
  · obtain ⟨g, off, hA, hgB, hc⟩ := hg.cell hn
    refine ⟨g, off, hA, hgB, fun j hj => ?_⟩
    have hl : j < l.length := by have := hg.len; simp [Nw.u8s] at this; omega
    rw [hc j (by omega), Nw.u8s_get hl]
    have hb := hr _ (List.getElem_mem hl)
    simp [List.getD, List.getElem?_eq_getElem hl]
    omega
  · unfold strOf
    rw [e]; exact hs
theorem strOf_inj {a b : List Nat} (ha : ∀ z ∈ a, z ≤ 255) (hb : ∀ z ∈ b, z ≤ 255) (h : strOf a = strOf b) : a = b := by
  by_cases e : a = b
  · exact e
  · have := strOf_ne a b ha hb e
    rw [h] at this
    simp at this
theorem kind_eq {w : World} {k : Nat} {c c' : Array Value} {t t' : TypeId} {fz fz' : Nat × Nat} (h : w.heap[k]? = some (.cells c t fz)) (h' : w.heap[k]? = some (.cells c' t' fz')) : t = t' := by
  have := h.symm.trans h'
  injection this with this
  injection this
/-- Where all lies. -/
structure Ad where
  s : Nat
  r : Nat
  g1 : Nat
  g2 : Nat
  b5 : Nat
  b7 : Nat
  b9 : Nat
/-- What is there. -/
structure Zu where
  v : Value
  told : Nat
  pk : List Nat
  heard : Nat
  v1 : Value
  P1 : List Value
  L1 : List ByteArray
  v2 : Value
  P2 : List Value
  L2 : List ByteArray
  vT : Value
  T : List ByteArray
  vH : Value
  H : List ByteArray
section
variable {w0 w w' : World} {a : Ad} {z : Zu}
theorem nf_kind {base g k : Nat} {v : Value} {P : List Value} {L : List ByteArray} {c : Array Value} {t : TypeId} {fz : Nat × Nat} (h : Nw.NAt w base g v P L) (hb : w.heap[k]? = some (.cells c t fz)) (h1 : t ≠ 111) (h2 : t ≠ 35) (h3 : t ≠ 5) : ¬ Nw.NF g v P k := by
  intro hk
  obtain ⟨c2, t2, fz2, hh, ht⟩ := h.kind k hk
  have := kind_eq hb hh
  subst this
  rcases ht with x | x | x
  · exact h1 x
  · exact h2 x
  · exact h3 x
theorem sw_kind {base : Nat} {v : Value} {S : List ByteArray} (h : Nw.Sw w base v S) : ∀ k, v.ownBlock = some k → ∃ c fz, w.heap[k]? = some (.cells c 9 fz) := fun k hk => (h.kind k hk).2.2
end
end Ln
end Go.Proofs.YtobpinelhjpfgaaDoor
