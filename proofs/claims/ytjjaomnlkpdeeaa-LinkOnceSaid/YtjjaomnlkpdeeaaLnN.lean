/-
  Layer 14: a sender, a receiver, two networks between them, and what was told and heard: all in one memory.
-/
import Derived.Test.YtjjaomnlkpdeeaaLnArgs
import Derived.Test.YtjjaomnlkpdeeaaNwS
set_option linter.unusedVariables false
set_option maxRecDepth 100000
namespace Go.Proofs.Ytjjaomnlkpdeeaa
namespace Ln
open Go.RowKit Bp Ck
theorem strOf_nums (zs : List Nat) : strOfNums (zs.map fun n : Nat => (n : Int)) = strOf zs := rfl
theorem bc_u8s (zs : List Nat) : bc zs = Nw.u8s (zs.map fun n : Nat => (n : Int)) := by simp [bc, Nw.u8s]
/-- Bytes at a slice have a text; bytes with a text are some. -/
theorem by_yb {B : Nat} {w : World} {A : Option Addr} {n cap : Nat} {zs : List Nat} (h : By B w A n cap zs) : Nw.Yb B w A n cap (strOf zs) := by
  refine ⟨zs.map fun n : Nat => (n : Int), ⟨by rw [← bc_u8s, bc_length, h.len, Nat.mul_one], h.le, h.max, h.nil, fun hn => ?_⟩, rfl, fun z hz => ?_⟩
  · obtain ⟨g, off, hA, hg, hc⟩ := h.cell hn
    refine ⟨g, off, hA, hg, fun j hj => ?_⟩
    rw [Nat.mul_one] at hj
    rw [hc j hj, ← bc_u8s]
    have hl : j < zs.length := by rw [h.len]; exact hj
    simp [bc, List.getD, List.getElem?_eq_getElem hl]
  · obtain ⟨y, hy, rfl⟩ := List.mem_map.1 hz
    have := h.byte y hy
    omega
theorem yb_by {B : Nat} {w : World} {A : Option Addr} {n cap : Nat} {s : ByteArray} (h : Nw.Yb B w A n cap s) : ∃ zs : List Nat, By B w A n cap zs ∧ strOf zs = s := by
  obtain ⟨l, hg, hs, hr⟩ := h
  have e : (l.map Int.toNat).map (fun n : Nat => (n : Int)) = l := by
    rw [List.map_map]
    conv => rhs; rw [← List.map_id l]
    apply List.map_congr_left
    intro z hz
    have := hr z hz
    simp only [Function.comp_apply, id]
    omega
  refine ⟨l.map Int.toNat, ⟨by have := hg.len; rw [List.length_map]; simpa [Nw.u8s] using this, hg.le, hg.max, hg.nil, fun z hz => ?_, fun hn => ?_⟩, ?_⟩
  · obtain ⟨y, hy, rfl⟩ := List.mem_map.1 hz
    have := hr y hy
    omega
  · obtain ⟨g, off, hA, hgB, hc⟩ := hg.cell hn
    refine ⟨g, off, hA, hgB, fun j hj => ?_⟩
    have hl : j < l.length := by have := hg.len; simp [Nw.u8s] at this; omega
    rw [hc j (by omega), Nw.u8s_get hl]
    have hb := hr _ (List.getElem_mem hl)
    simp [List.getD, List.getElem?_eq_getElem hl]
    omega
  · unfold strOf
    rw [e]; exact hs
theorem strOf_inj {a b : List Nat} (ha : ∀ z ∈ a, z ≤ 255) (hb : ∀ z ∈ b, z ≤ 255) (h : strOf a = strOf b) : a = b := by
  by_cases e : a = b
  · exact e
  · have := strOf_ne a b ha hb e
    rw [h] at this
    simp at this
theorem kind_eq {w : World} {k : Nat} {c c' : Array Value} {t t' : TypeId} {fz fz' : Nat × Nat} (h : w.heap[k]? = some (.cells c t fz)) (h' : w.heap[k]? = some (.cells c' t' fz')) : t = t' := by
  have := h.symm.trans h'
  injection this with this
  injection this
/-- Where all lies. -/
structure Ad where
  s : Nat
  r : Nat
  g1 : Nat
  g2 : Nat
  b5 : Nat
  b7 : Nat
  b9 : Nat
/-- What is there. -/
structure Zu where
  v : Value
  told : Nat
  pk : List Nat
  heard : Nat
  v1 : Value
  P1 : List Value
  L1 : List ByteArray
  v2 : Value
  P2 : List Value
  L2 : List ByteArray
  vT : Value
  T : List ByteArray
  vH : Value
  H : List ByteArray
structure On (w0 w : World) (a : Ad) (z : Zu) : Prop where
  sat : SAt w a.s z.v z.told z.pk
  rat : RAt w a.r z.heard
  n1 : Nw.NAt w w0.heap.size a.g1 z.v1 z.P1 z.L1
  n2 : Nw.NAt w w0.heap.size a.g2 z.v2 z.P2 z.L2
  st : Nw.Sw w w0.heap.size z.vT z.T
  sh : Nw.Sw w w0.heap.size z.vH z.H
  x5 : w.heap[a.b5]? = some (.cells #[.pointer (some ⟨a.r, 0, none⟩)] 39 (0, 0))
  x7 : w.heap[a.b7]? = some (.cells #[.pointer (some ⟨a.g2, 0, none⟩)] 59 (0, 0))
  x9 : w.heap[a.b9]? = some (.cells #[z.vH] 61 (0, 0))
  d12 : ∀ k, Nw.NF a.g1 z.v1 z.P1 k → ¬ Nw.NF a.g2 z.v2 z.P2 k
  dS1 : ∀ k, SF a.s z.v k → ¬ Nw.NF a.g1 z.v1 z.P1 k
  dS2 : ∀ k, SF a.s z.v k → ¬ Nw.NF a.g2 z.v2 z.P2 k
  dTH : ∀ k, z.vT.ownBlock = some k → z.vH.ownBlock ≠ some k
  lo : w0.heap.size ≤ a.s ∧ w0.heap.size ≤ a.r ∧ w0.heap.size ≤ a.b9
  below : Below w0.heap.size w0 w
section
variable {w0 w w' : World} {a : Ad} {z : Zu}
theorem On.later (h : On w0 w a z) (hb : Below w.heap.size w w') : On w0 w' a z :=
  ⟨h.sat.later hb, h.rat.later hb, h.n1.later hb, h.n2.later hb, h.st.later hb, h.sh.later hb, (hb.block _ (lt_of_heap h.x5)).trans h.x5, (hb.block _ (lt_of_heap h.x7)).trans h.x7, (hb.block _ (lt_of_heap h.x9)).trans h.x9, h.d12, h.dS1, h.dS2, h.dTH, h.lo, h.below.trans (hb.mono h.below.size)⟩
/-- Which blocks are not the sender's own, nor the receiver's. -/
theorem On.ne_s (h : On w0 w a z) : (a.r ≠ a.s) ∧ (∀ k, Nw.NF a.g1 z.v1 z.P1 k → k ≠ a.s) ∧ (∀ k, Nw.NF a.g2 z.v2 z.P2 k → k ≠ a.s) ∧ (∀ k, z.vT.ownBlock = some k → k ≠ a.s) ∧ (∀ k, z.vH.ownBlock = some k → k ≠ a.s) ∧ a.b5 ≠ a.s ∧ a.b7 ≠ a.s ∧ a.b9 ≠ a.s := by
  have b := h.sat.box
  refine ⟨h.rat.ne h.sat, fun k hk e => h.dS1 a.s (.inl rfl) (e ▸ hk), fun k hk e => h.dS2 a.s (.inl rfl) (e ▸ hk), fun k hk e => ?_, fun k hk e => ?_, fun e => ?_, fun e => ?_, fun e => ?_⟩
  · obtain ⟨_, _, c, fz, hh⟩ := h.st.kind k hk
    rw [e] at hh
    exact absurd (kind_eq hh b) (by decide)
  · obtain ⟨_, _, c, fz, hh⟩ := h.sh.kind k hk
    rw [e] at hh
    exact absurd (kind_eq hh b) (by decide)
  · have := h.x5
    rw [e] at this
    exact absurd (kind_eq this b) (by decide)
  · have := h.x7
    rw [e] at this
    exact absurd (kind_eq this b) (by decide)
  · have := h.x9
    rw [e] at this
    exact absurd (kind_eq this b) (by decide)
theorem nf_kind {base g k : Nat} {v : Value} {P : List Value} {L : List ByteArray} {c : Array Value} {t : TypeId} {fz : Nat × Nat} (h : Nw.NAt w base g v P L) (hb : w.heap[k]? = some (.cells c t fz)) (h1 : t ≠ 105) (h2 : t ≠ 23) (h3 : t ≠ 5) : ¬ Nw.NF g v P k := by
  intro hk
  obtain ⟨c2, t2, fz2, hh, ht⟩ := h.kind k hk
  have := kind_eq hb hh
  subst this
  rcases ht with x | x | x
  · exact h1 x
  · exact h2 x
  · exact h3 x
theorem On.ne_r (h : On w0 w a z) : (¬ SF a.s z.v a.r) ∧ (¬ Nw.NF a.g1 z.v1 z.P1 a.r) ∧ (¬ Nw.NF a.g2 z.v2 z.P2 a.r) ∧ z.vT.ownBlock ≠ some a.r ∧ z.vH.ownBlock ≠ some a.r ∧ a.b5 ≠ a.r ∧ a.b7 ≠ a.r ∧ a.b9 ≠ a.r := by
  have b := h.rat.box
  refine ⟨h.rat.free h.sat, nf_kind h.n1 b (by decide) (by decide) (by decide), nf_kind h.n2 b (by decide) (by decide) (by decide), fun e => ?_, fun e => ?_, fun e => ?_, fun e => ?_, fun e => ?_⟩
  · obtain ⟨_, _, c, fz, hh⟩ := h.st.kind _ e
    exact absurd (kind_eq hh b) (by decide)
  · obtain ⟨_, _, c, fz, hh⟩ := h.sh.kind _ e
    exact absurd (kind_eq hh b) (by decide)
  · have := h.x5
    rw [e] at this
    exact absurd (kind_eq this b) (by decide)
  · have := h.x7
    rw [e] at this
    exact absurd (kind_eq this b) (by decide)
  · have := h.x9
    rw [e] at this
    exact absurd (kind_eq this b) (by decide)
/-- Which blocks are none of the networks'. -/
theorem On.ne_n (h : On w0 w a z) : ∀ k, (Nw.NF a.g1 z.v1 z.P1 k ∨ Nw.NF a.g2 z.v2 z.P2 k) → ¬ SF a.s z.v k ∧ k ≠ a.r ∧ z.vT.ownBlock ≠ some k ∧ z.vH.ownBlock ≠ some k ∧ k ≠ a.b5 ∧ k ≠ a.b7 ∧ k ≠ a.b9 := by
  intro k hk
  have no : ∀ {c : Array Value} {t : TypeId} {fz : Nat × Nat}, w.heap[k]? = some (.cells c t fz) → t ≠ 105 → t ≠ 23 → t ≠ 5 → False := fun hb h1 h2 h3 => hk.elim (nf_kind h.n1 hb h1 h2 h3) (nf_kind h.n2 hb h1 h2 h3)
  refine ⟨fun e => hk.elim (h.dS1 k e) (h.dS2 k e), fun e => ?_, fun e => ?_, fun e => ?_, fun e => ?_, fun e => ?_, fun e => ?_⟩
  · subst e; exact no h.rat.box (by decide) (by decide) (by decide)
  · obtain ⟨_, _, c, fz, hh⟩ := h.st.kind _ e
    exact no hh (by decide) (by decide) (by decide)
  · obtain ⟨_, _, c, fz, hh⟩ := h.sh.kind _ e
    exact no hh (by decide) (by decide) (by decide)
  · subst e; exact no h.x5 (by decide) (by decide) (by decide)
  · subst e; exact no h.x7 (by decide) (by decide) (by decide)
  · subst e; exact no h.x9 (by decide) (by decide) (by decide)
/-- The sender acts. -/
theorem On.sender (h : On w0 w a z) {v' : Value} {told' : Nat} {pk' : List Nat} (hs : SAt w' a.s v' told' pk') (ht : Turn (One a.s) (One a.s) w w') (hf : ∀ k, v'.ownBlock = some k → z.v.ownBlock = some k ∨ w.heap.size ≤ k) : On w0 w' a { z with v := v', told := told', pk := pk' } := by
  obtain ⟨e1, e2, e3, e4, e5, e6, e7, e8⟩ := h.ne_s
  have bl : ∀ k, k < w.heap.size → k ≠ a.s → w'.heap[k]? = w.heap[k]? := fun k h1 h2 => ht.block k h1 h2
  have hsf : ∀ k, SF a.s v' k → SF a.s z.v k ∨ w.heap.size ≤ k := fun k hk => by
    rcases hk with e | e
    · exact .inl (.inl e)
    · exact (hf k e).imp .inr id
  exact ⟨hs, h.rat.same (bl _ h.rat.lt e1), h.n1.same (fun k hk => bl k (h.n1.blocks k hk).2 (e2 k hk)), h.n2.same (fun k hk => bl k (h.n2.blocks k hk).2 (e3 k hk)), h.st.same (fun k hk => bl k (h.st.kind k hk).1 (e4 k hk)), h.sh.same (fun k hk => bl k (h.sh.kind k hk).1 (e5 k hk)),
    (bl _ (lt_of_heap h.x5) e6).trans h.x5, (bl _ (lt_of_heap h.x7) e7).trans h.x7, (bl _ (lt_of_heap h.x9) e8).trans h.x9, h.d12,
    fun k hk hn => (hsf k hk).elim (fun x => h.dS1 k x hn) (fun x => by have := (h.n1.blocks k hn).2; omega), fun k hk hn => (hsf k hk).elim (fun x => h.dS2 k x hn) (fun x => by have := (h.n2.blocks k hn).2; omega), h.dTH, h.lo,
    h.below.trans (ht.below _ h.below.size (fun k hk => by have : k = a.s := hk; have := h.lo; omega))⟩
/-- The receiver acts. -/
theorem On.receiver (h : On w0 w a z) {n : Nat} (hr : RAt w' a.r n) (ht : Turn (One a.r) (One a.r) w w') : On w0 w' a { z with heard := n } := by
  obtain ⟨e1, e2, e3, e4, e5, e6, e7, e8⟩ := h.ne_r
  have bl : ∀ k, k < w.heap.size → k ≠ a.r → w'.heap[k]? = w.heap[k]? := fun k h1 h2 => ht.block k h1 h2
  exact ⟨h.sat.same (fun k hk => bl k (h.sat.lt k hk) (fun e => e1 (e ▸ hk))), hr, h.n1.same (fun k hk => bl k (h.n1.blocks k hk).2 (fun e => e2 (e ▸ hk))), h.n2.same (fun k hk => bl k (h.n2.blocks k hk).2 (fun e => e3 (e ▸ hk))), h.st.same (fun k hk => bl k (h.st.kind k hk).1 (fun e => e4 (e ▸ hk))), h.sh.same (fun k hk => bl k (h.sh.kind k hk).1 (fun e => e5 (e ▸ hk))),
    (bl _ (lt_of_heap h.x5) e6).trans h.x5, (bl _ (lt_of_heap h.x7) e7).trans h.x7, (bl _ (lt_of_heap h.x9) e8).trans h.x9, h.d12, h.dS1, h.dS2, h.dTH, h.lo,
    h.below.trans (ht.below _ h.below.size (fun k hk => by have : k = a.r := hk; have := h.lo; omega))⟩
/-- The first network acts. -/
theorem On.net1 (h : On w0 w a z) {v' : Value} {P' : List Value} {L' : List ByteArray} (hn : Nw.NAt w' w0.heap.size a.g1 v' P' L') (ht : Turn (Nw.NF a.g1 z.v1 z.P1) (Nw.NF a.g1 v' P') w w') : On w0 w' a { z with v1 := v', P1 := P', L1 := L' } := by
  have hx := h.ne_n
  have bl : ∀ k, k < w.heap.size → ¬ Nw.NF a.g1 z.v1 z.P1 k → w'.heap[k]? = w.heap[k]? := fun k h1 h2 => ht.block k h1 h2
  exact ⟨h.sat.same (fun k hk => bl k (h.sat.lt k hk) (fun e => h.dS1 k hk e)), h.rat.same (bl _ h.rat.lt (fun e => (hx _ (.inl e)).2.1 rfl)), hn, h.n2.same (fun k hk => bl k (h.n2.blocks k hk).2 (fun e => h.d12 k e hk)), h.st.same (fun k hk => bl k (h.st.kind k hk).1 (fun e => (hx k (.inl e)).2.2.1 hk)), h.sh.same (fun k hk => bl k (h.sh.kind k hk).1 (fun e => (hx k (.inl e)).2.2.2.1 hk)),
    (bl _ (lt_of_heap h.x5) (fun e => (hx _ (.inl e)).2.2.2.2.1 rfl)).trans h.x5, (bl _ (lt_of_heap h.x7) (fun e => (hx _ (.inl e)).2.2.2.2.2.1 rfl)).trans h.x7, (bl _ (lt_of_heap h.x9) (fun e => (hx _ (.inl e)).2.2.2.2.2.2 rfl)).trans h.x9,
    fun k hk h2 => (ht.foot k hk).elim (fun x => h.d12 k x h2) (fun x => by have := (h.n2.blocks k h2).2; omega), fun k hk h2 => (ht.foot k h2).elim (fun x => h.dS1 k hk x) (fun x => by have := h.sat.lt k hk; omega), h.dS2, h.dTH, h.lo,
    h.below.trans (ht.below _ h.below.size (fun k hk => (h.n1.blocks k hk).1))⟩
/-- The second network acts. -/
theorem On.net2 (h : On w0 w a z) {v' : Value} {P' : List Value} {L' : List ByteArray} (hn : Nw.NAt w' w0.heap.size a.g2 v' P' L') (ht : Turn (Nw.NF a.g2 z.v2 z.P2) (Nw.NF a.g2 v' P') w w') : On w0 w' a { z with v2 := v', P2 := P', L2 := L' } := by
  have hx := h.ne_n
  have bl : ∀ k, k < w.heap.size → ¬ Nw.NF a.g2 z.v2 z.P2 k → w'.heap[k]? = w.heap[k]? := fun k h1 h2 => ht.block k h1 h2
  exact ⟨h.sat.same (fun k hk => bl k (h.sat.lt k hk) (fun e => h.dS2 k hk e)), h.rat.same (bl _ h.rat.lt (fun e => (hx _ (.inr e)).2.1 rfl)), h.n1.same (fun k hk => bl k (h.n1.blocks k hk).2 (fun e => h.d12 k hk e)), hn, h.st.same (fun k hk => bl k (h.st.kind k hk).1 (fun e => (hx k (.inr e)).2.2.1 hk)), h.sh.same (fun k hk => bl k (h.sh.kind k hk).1 (fun e => (hx k (.inr e)).2.2.2.1 hk)),
    (bl _ (lt_of_heap h.x5) (fun e => (hx _ (.inr e)).2.2.2.2.1 rfl)).trans h.x5, (bl _ (lt_of_heap h.x7) (fun e => (hx _ (.inr e)).2.2.2.2.2.1 rfl)).trans h.x7, (bl _ (lt_of_heap h.x9) (fun e => (hx _ (.inr e)).2.2.2.2.2.2 rfl)).trans h.x9,
    fun k hk h2 => (ht.foot k h2).elim (fun x => h.d12 k hk x) (fun x => by have := (h.n1.blocks k hk).2; omega), h.dS1, fun k hk h2 => (ht.foot k h2).elim (fun x => h.dS2 k hk x) (fun x => by have := h.sat.lt k hk; omega), h.dTH, h.lo,
    h.below.trans (ht.below _ h.below.size (fun k hk => (h.n2.blocks k hk).1))⟩
/-- A row of texts grows: all else is as it was. -/
theorem On.strs (h : On w0 w a z) {row : Option Nat} (hg : w.grownBy w' row) (hr : ∀ k, row = some k → ∃ c fz, w.heap[k]? = some (.cells c 9 fz)) :
    SAt w' a.s z.v z.told z.pk ∧ RAt w' a.r z.heard ∧ Nw.NAt w' w0.heap.size a.g1 z.v1 z.P1 z.L1 ∧ Nw.NAt w' w0.heap.size a.g2 z.v2 z.P2 z.L2 ∧ w'.heap[a.b5]? = w.heap[a.b5]? ∧ w'.heap[a.b7]? = w.heap[a.b7]? ∧ w'.heap[a.b9]? = w.heap[a.b9]? := by
  have bl : ∀ k, k < w.heap.size → (∀ c fz, w.heap[k]? ≠ some (.cells c 9 fz)) → w'.heap[k]? = w.heap[k]? := fun k h1 h2 => hg.block k h1 (fun e => by
    obtain ⟨c, fz, hh⟩ := hr k e.symm
    exact h2 c fz hh)
  have no : ∀ {k : Nat} {c : Array Value} {t : TypeId} {fz : Nat × Nat}, w.heap[k]? = some (.cells c t fz) → t ≠ 9 → ∀ c' fz', w.heap[k]? ≠ some (.cells c' 9 fz') := fun hb hne c' fz' e => hne (kind_eq hb e)
  refine ⟨h.sat.same (fun k hk => ?_), h.rat.same (bl _ h.rat.lt (no h.rat.box (by decide))), h.n1.same (fun k hk => ?_), h.n2.same (fun k hk => ?_), bl _ (lt_of_heap h.x5) (no h.x5 (by decide)), bl _ (lt_of_heap h.x7) (no h.x7 (by decide)), bl _ (lt_of_heap h.x9) (no h.x9 (by decide))⟩
  · obtain ⟨c, t, fz, hh, ht⟩ := h.sat.kind k hk
    exact bl k (h.sat.lt k hk) (no hh (by rcases ht with rfl | rfl <;> decide))
  · obtain ⟨c, t, fz, hh, ht⟩ := h.n1.kind k hk
    exact bl k (h.n1.blocks k hk).2 (no hh (by rcases ht with rfl | rfl | rfl <;> decide))
  · obtain ⟨c, t, fz, hh, ht⟩ := h.n2.kind k hk
    exact bl k (h.n2.blocks k hk).2 (no hh (by rcases ht with rfl | rfl | rfl <;> decide))
theorem sw_kind {base : Nat} {v : Value} {S : List ByteArray} (h : Nw.Sw w base v S) : ∀ k, v.ownBlock = some k → ∃ c fz, w.heap[k]? = some (.cells c 9 fz) := fun k hk => (h.kind k hk).2.2
/-- A thing more was told. -/
theorem On.tells (h : On w0 w a z) {vT' : Value} {T' : List ByteArray} (ho : Nw.Sw w' w0.heap.size vT' T') (hb : Below w0.heap.size w w') (hg : w.grownBy w' z.vT.ownBlock) (hx : vT'.ownBlock = z.vT.ownBlock ∨ vT'.ownBlock = some w.heap.size) : On w0 w' a { z with vT := vT', T := T' } := by
  obtain ⟨s1, s2, s3, s4, s5, s6, s7⟩ := h.strs hg (sw_kind h.st)
  have hh : ∀ k, z.vH.ownBlock = some k → w'.heap[k]? = w.heap[k]? := fun k hk => hg.block k (h.sh.kind k hk).1 (fun e => h.dTH k e.symm hk)
  refine ⟨s1, s2, s3, s4, ho, h.sh.same hh, s5.trans h.x5, s6.trans h.x7, s7.trans h.x9, h.d12, h.dS1, h.dS2, fun k hk => ?_, h.lo, h.below.trans hb⟩
  rcases hx with e | e
  · exact h.dTH k (e ▸ hk)
  · intro e2
    rw [e] at hk
    injection hk with hk
    subst hk
    have := (h.sh.kind _ e2).1
    omega
/-- A thing more was heard, and is stored. -/
theorem On.hears (h : On w0 w a z) {vH' : Value} {H' : List ByteArray} (ho : Nw.Sw w' w0.heap.size vH' H') (hb : Below w0.heap.size w w') (hg : w.grownBy w' z.vH.ownBlock) (hx : vH'.ownBlock = z.vH.ownBlock ∨ vH'.ownBlock = some w.heap.size) : On w0 (w'.setCell ⟨a.b9, 0, none⟩ vH') a { z with vH := vH', H := H' } := by
  obtain ⟨s1, s2, s3, s4, s5, s6, s7⟩ := h.strs hg (sw_kind h.sh)
  have x9 := s7.trans h.x9
  have bl : ∀ k, k ≠ a.b9 → (w'.setCell ⟨a.b9, 0, none⟩ vH').heap[k]? = w'.heap[k]? := fun k hk => Below.heap_setCell _ _ _ _ hk
  have no : ∀ {k : Nat} {c : Array Value} {t : TypeId} {fz : Nat × Nat}, w'.heap[k]? = some (.cells c t fz) → t ≠ 61 → k ≠ a.b9 := fun hb hne e => by
    subst e; exact hne (kind_eq hb x9)
  have hT : Nw.Sw w' w0.heap.size z.vT z.T := h.st.same (fun k hk => hg.block k (h.st.kind k hk).1 (fun e => h.dTH k hk e.symm))
  refine ⟨s1.same (fun k hk => ?_), s2.same (bl _ (no s2.box (by decide))), s3.same (fun k hk => ?_), s4.same (fun k hk => ?_), hT.same (fun k hk => ?_), ho.same (fun k hk => ?_), (bl _ (no (s5.trans h.x5) (by decide))).trans (s5.trans h.x5), (bl _ (no (s6.trans h.x7) (by decide))).trans (s6.trans h.x7), ?_, h.d12, h.dS1, h.dS2, fun k hk => ?_, h.lo, (h.below.trans hb).setCell (p := ⟨a.b9, 0, none⟩) h.lo.2.2 _⟩
  · obtain ⟨c, t, fz, hh, ht⟩ := s1.kind k hk
    exact bl k (no hh (by rcases ht with rfl | rfl <;> decide))
  · obtain ⟨c, t, fz, hh, ht⟩ := s3.kind k hk
    exact bl k (no hh (by rcases ht with rfl | rfl | rfl <;> decide))
  · obtain ⟨c, t, fz, hh, ht⟩ := s4.kind k hk
    exact bl k (no hh (by rcases ht with rfl | rfl | rfl <;> decide))
  · obtain ⟨_, _, c, fz, hh⟩ := hT.kind k hk
    exact bl k (no hh (by decide))
  · obtain ⟨_, _, c, fz, hh⟩ := ho.kind k hk
    exact bl k (no hh (by decide))
  · rw [heap_setCell_same w' a.b9 0 _ _ _ x9]; rfl
  · rcases hx with e | e
    · intro e2; exact h.dTH k hk (e ▸ e2)
    · intro e2
      rw [e] at e2
      injection e2 with e2
      subst e2
      have := (h.st.kind _ hk).1
      omega
end
end Ln
end Go.Proofs.Ytjjaomnlkpdeeaa
