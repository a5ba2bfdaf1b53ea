/-
  Both readers side by side: the same answers.
-/
import Derived.Test.YtbdlcmpljhbebaaBitsV4
import Derived.Test.YtbdlcmpljhbebaaChkD
set_option linter.unusedVariables false
namespace Go.Proofs.Ytbdlcmpljhbebaa
open Go.RowKit Bp

/-- A reader in block rb at (p, f) beside the document's in block vb at (q, g), over the bytes zs; from block T on all is as in X; below w0's blocks all is as in w0. -/
def Bo (w0 : World) (C T : Nat) (X w : World) (rb vb : Nat) (zs : List Nat) (p : Nat) (f : Int) (q : Nat) (g : Int) : Prop :=
  ∃ v lv, Rd C w rb v zs p f ∧ Rv C w vb lv zs q g ∧ (∀ k, RF rb v k → ¬ RF vb lv k) ∧ (∀ k, RF rb v k → k < T) ∧ (∀ k, RF vb lv k → k < T) ∧ w0.heap.size ≤ C ∧ Below w0.heap.size w0 w ∧
    X.heap.size ≤ w.heap.size ∧ ∀ k, T ≤ k → k < X.heap.size → w.heap[k]? = X.heap[k]?
section
variable {w0 : World} {C T : Nat} {X w w' : World} {rb vb : Nat} {zs : List Nat} {p : Nat} {f : Int} {q : Nat} {g : Int}
theorem Bo.here (h : Bo w0 C T X w rb vb zs p f q g) : Bo w0 C T w w rb vb zs p f q g := by
  obtain ⟨v, lv, h1, h2, h3, h4, h5, h6, h7, _, _⟩ := h
  exact ⟨v, lv, h1, h2, h3, h4, h5, h6, h7, Nat.le_refl _, fun _ _ _ => rfl⟩
theorem Bo.size (h : Bo w0 C T X w rb vb zs p f q g) : w0.heap.size ≤ w.heap.size := by
  obtain ⟨v, lv, h1, h2, h3, h4, h5, h6, h7, _, _⟩ := h
  exact h7.size
theorem Bo.below (h : Bo w0 C T X w rb vb zs p f q g) : Below w0.heap.size w0 w := by
  obtain ⟨v, lv, h1, h2, h3, h4, h5, h6, h7, _, _⟩ := h
  exact h7
theorem Bo.keep (h : Bo w0 C T X w rb vb zs p f q g) (hb : ∀ k, C ≤ k → k < w.heap.size → w'.heap[k]? = w.heap[k]?) (hB : Below w0.heap.size w w') (hTX : ∀ k, T ≤ k → k < X.heap.size → w'.heap[k]? = w.heap[k]?) : Bo w0 C T X w' rb vb zs p f q g := by
  obtain ⟨v, lv, h1, h2, h3, h4, h5, h6, h7, h8, h9⟩ := h
  exact ⟨v, lv, h1.frame (fun k hk => hb k (h1.lt hk).1 (h1.lt hk).2), h2.frame (fun k hk => hb k (h2.lt hk).1 (h2.lt hk).2), h3, h4, h5, h6, h7.trans hB, Nat.le_trans h8 hB.size, fun k a b => (hTX k a b).trans (h9 k a b)⟩
theorem Bo.drew (h : Bo w0 C T X w rb vb zs p f q g) : Bo w0 C T X w.drew rb vb zs p f q g := h.keep (fun _ _ _ => rfl) (Below.refl _ _).drew (fun _ _ _ => rfl)
theorem Bo.alloc (h : Bo w0 C T w w rb vb zs p f q g) (o : Obj) : Bo w0 C T (w.alloc o) (w.alloc o) rb vb zs p f q g := by
  have hs := h.size
  have := h.keep (w' := w.alloc o) (fun k _ hk => Below.heap_alloc _ _ _ hk) ((Below.refl _ _).alloc hs _) (fun k _ hk => Below.heap_alloc _ _ _ hk)
  exact this.here
theorem Bo.cell (h : Bo w0 C T X w rb vb zs p f q g) {b : Nat} (h1 : T ≤ b) (h2 : b < X.heap.size) (j : Nat) : w.cell? ⟨b, j, none⟩ = X.cell? ⟨b, j, none⟩ := by
  obtain ⟨v, lv, _, _, _, _, _, _, _, _, h9⟩ := h
  exact World.cell?_of_block (a := ⟨b, j, none⟩) (h9 b h1 h2)
theorem Bo.code {v lv : Value} (h1 : Rd C w rb v zs p f) (h2 : Rv C w vb lv zs q g) (h3 : ∀ k, RF rb v k → ¬ RF vb lv k) (h4 : ∀ k, RF rb v k → k < T) (h5 : ∀ k, RF vb lv k → k < T) (h6 : w0.heap.size ≤ C) (h7 : Below w0.heap.size w0 w) (h8 : X.heap.size ≤ w.heap.size) (h9 : ∀ k, T ≤ k → k < X.heap.size → w.heap[k]? = X.heap[k]?)
    {p' : Nat} {f' : Int} (ht : RdTo C w rb v zs p' f' w') : Bo w0 C T X w' rb vb zs p' f' q g :=
  ⟨v, lv, ht.1, h2.frame (fun k hk => ht.2.block k (h2.lt hk).2 (fun x => h3 k x hk)), h3, h4, h5, h6, h7.trans (ht.2.below _ h7.size (fun k hk => Nat.le_trans h6 (h1.lt hk).1)), Nat.le_trans h8 ht.2.size,
    fun k a b => (ht.2.block k (by omega) (fun x => by have := h4 k x; omega)).trans (h9 k a b)⟩
theorem Bo.doc {v lv : Value} (h1 : Rd C w rb v zs p f) (h2 : Rv C w vb lv zs q g) (h3 : ∀ k, RF rb v k → ¬ RF vb lv k) (h4 : ∀ k, RF rb v k → k < T) (h5 : ∀ k, RF vb lv k → k < T) (h6 : w0.heap.size ≤ C) (h7 : Below w0.heap.size w0 w) (h8 : X.heap.size ≤ w.heap.size) (h9 : ∀ k, T ≤ k → k < X.heap.size → w.heap[k]? = X.heap[k]?)
    {q' : Nat} {g' : Int} (ht : RvTo C w vb lv zs q' g' w') : Bo w0 C T X w' rb vb zs p f q' g' :=
  ⟨v, lv, h1.frame (fun k hk => ht.2.block k (h1.lt hk).2 (fun x => h3 k hk x)), ht.1, h3, h4, h5, h6, h7.trans (ht.2.below _ h7.size (fun k hk => Nat.le_trans h6 (h2.lt hk).1)), Nat.le_trans h8 ht.2.size,
    fun k a b => (ht.2.block k (by omega) (fun x => by have := h5 k x; omega)).trans (h9 k a b)⟩
end
theorem RdTo.refl {C : Nat} {w : World} {rb : Nat} {v : Value} {zs : List Nat} {p : Nat} {f : Int} (h : Rd C w rb v zs p f) : RdTo C w rb v zs p f w := ⟨h, Turn.refl _ _⟩

/-- What a call of both readers comes to. -/
structure Pair (fr fv : Nat) (ar : Nat → Array Value) (av : Nat → Array Value) (zs : List Nat) (p : Nat) (f : Int) (y : Value) (p' : Nat) (f' : Int) : Prop where
  code : ∀ (w0 : World) (C T : Nat) (X w : World) (rb vb q : Nat) (g : Int), Bo w0 C T X w rb vb zs p f q g → Calls Try.prog fr (ar rb) w fun e w' => e = .returned y ∧ Bo w0 C T X w' rb vb zs p' f' q g
  doc : ∀ (w0 : World) (C T : Nat) (X w : World) (rb vb q : Nat) (g : Int), Bo w0 C T X w rb vb zs q g p f → Calls Try.prog fv (av vb) w fun e w' => e = .returned y ∧ Bo w0 C T X w' rb vb zs q g p' f'
/-- The same out of the two contracts. -/
theorem pair_of {fr fv : Nat} {ar av : Nat → Array Value} {zs : List Nat} {p : Nat} {f : Int} {y : Value} {p' : Nat} {f' : Int}
    (hr : ∀ (C rb : Nat) (v : Value) (w : World), Rd C w rb v zs p f → Calls Try.prog fr (ar rb) w fun e w' => e = .returned y ∧ RdTo C w rb v zs p' f' w')
    (hv : ∀ (C vb : Nat) (v : Value) (w : World), Rv C w vb v zs p f → Calls Try.prog fv (av vb) w fun e w' => e = .returned y ∧ RvTo C w vb v zs p' f' w') : Pair fr fv ar av zs p f y p' f' := by
  refine ⟨?_, ?_⟩
  · intro w0 C T X w rb vb q g ⟨v, lv, h1, h2, h3, h4, h5, h6, h7, h8, h9⟩
    exact (hr C rb v w h1).mono fun e w' ⟨he, ht⟩ => ⟨he, Bo.code h1 h2 h3 h4 h5 h6 h7 h8 h9 ht⟩
  · intro w0 C T X w rb vb q g ⟨v, lv, h1, h2, h3, h4, h5, h6, h7, h8, h9⟩
    exact (hv C vb lv w h2).mono fun e w' ⟨he, ht⟩ => ⟨he, Bo.doc h1 h2 h3 h4 h5 h6 h7 h8 h9 ht⟩

abbrev a1 (b : Nat) : Array Value := #[.pointer (some ⟨b, 0, none⟩)]
abbrev a2 (m : Int) (b : Nat) : Array Value := #[.pointer (some ⟨b, 0, none⟩), .int .i64 m]
theorem count_pair (zs : List Nat) (p : Nat) (f : Int) (hp : p ≤ 8 * zs.length) : ∃ (N p' : Nat) (f' : Int), Pair 15 16 a1 a1 zs p f (.int .u64 (N : Int)) p' f' ∧ p' ≤ 8 * zs.length := by
  by_cases hf : f = 0
  · subst hf
    obtain ⟨n, hz⟩ := zs_exists zs p hp
    have h64 := hz.few
    by_cases hn : n = 64
    · subst hn
      exact ⟨0, p, 4, pair_of (fun C rb v w h => count_toolong C rb v zs p w h hz) (fun C vb v w h => vcount_long C vb v zs p w h hz), hp⟩
    · by_cases hs : 8 * zs.length < p + (2 * n + 1)
      · exact ⟨0, p, 10, pair_of (fun C rb v w h => count_short C rb v zs p n w h hz (by omega) hs) (fun C vb v w h => vcount_short C vb v zs p n w h hz (by omega) hs), hp⟩
      · exact ⟨_, _, 0, pair_of (fun C rb v w h => rcount_ok C rb v zs p n w h hz (by omega) (by omega)) (fun C vb v w h => vcount_ok C vb v zs p n w h hz (by omega) (by omega)), by omega⟩
  · exact ⟨0, p, f, pair_of (fun C rb v w h => (count_fault C rb v zs p f w h hf).mono fun e w' ⟨he, hw⟩ => ⟨he, by rw [← hw]; exact RdTo.refl h⟩) (fun C vb v w h => vcount_fault C vb v zs p f w h hf), hp⟩
theorem get_pair (zs : List Nat) (p : Nat) (f m : Int) (hp : p ≤ 8 * zs.length) : ∃ (N p' : Nat) (f' : Int), Pair 17 18 (a2 m) (a2 m) zs p f (.int .u64 (N : Int)) p' f' ∧ p' ≤ 8 * zs.length := by
  by_cases hf : f = 0
  · subst hf
    by_cases hm : m < 0 ∨ 64 < m
    · exact ⟨0, p, 1, pair_of (fun C rb v w h => get_arg C rb v zs p m w h hm) (fun C vb v w h => vget_arg C vb v zs p m w h hm), hp⟩
    · obtain ⟨k, rfl⟩ := Int.eq_ofNat_of_zero_le (show 0 ≤ m by omega)
      by_cases hs : 8 * zs.length < p + k
      · exact ⟨0, p, 10, pair_of (fun C rb v w h => get_short C rb v zs p k w h (by omega) hs) (fun C vb v w h => vget_short C vb v zs p k w h (by omega) hs), hp⟩
      · exact ⟨_, _, 0, pair_of (fun C rb v w h => get_ok C rb v zs p k w h (by omega) (by omega)) (fun C vb v w h => vget_ok C vb v zs p k w h (by omega) (by omega)), by omega⟩
  · exact ⟨0, p, f, pair_of (fun C rb v w h => (get_fault C rb v zs p f m w h hf).mono fun e w' ⟨he, hw⟩ => ⟨he, by rw [← hw]; exact RdTo.refl h⟩) (fun C vb v w h => vget_fault C vb v zs p f m w h hf), hp⟩
theorem end_pair (zs : List Nat) (p : Nat) (f : Int) (hp : p ≤ 8 * zs.length) : ∃ E : Int, Pair 20 21 a1 a1 zs p f (.int .i64 E) p f := by
  by_cases hf : f = 0
  · subst hf
    by_cases ht : p + 8 ≤ 8 * zs.length
    · exact ⟨11, pair_of (fun C rb v w h => end_tail C rb v zs p w h ht) (fun C vb v w h => vend_tail C vb v zs p w h ht)⟩
    · obtain ⟨n, hz⟩ := zs_exists zs p hp
      exact ⟨_, pair_of (fun C rb v w h => end_bit C rb v zs p n w h hz (by omega)) (fun C vb v w h => vend_bit C vb v zs p n w h hz (by omega))⟩
  · exact ⟨f, pair_of (fun C rb v w h => (end_fault C rb v zs p f w h hf).mono fun e w' ⟨he, hw⟩ => ⟨he, by rw [← hw]; exact RdTo.refl h⟩) (fun C vb v w h => vend_fault C vb v zs p f w h hf)⟩
/-- The document's reader's cells are as they were. -/
def Vsame (vb : Nat) (w w' : World) : Prop := w'.cell? ⟨vb, 0, none⟩ = w.cell? ⟨vb, 0, none⟩ ∧ w'.cell? ⟨vb, 1, none⟩ = w.cell? ⟨vb, 1, none⟩
structure PairE (zs : List Nat) (p : Nat) (f E : Int) : Prop where
  code : ∀ (w0 : World) (C T : Nat) (X w : World) (rb vb : Nat), Bo w0 C T X w rb vb zs p f p f → Calls Try.prog 20 #[.pointer (some ⟨rb, 0, none⟩)] w fun e w' => e = .returned (.int .i64 E) ∧ Bo w0 C T X w' rb vb zs p f p f ∧ Vsame vb w w'
  doc : ∀ (w0 : World) (C T : Nat) (X w : World) (rb vb : Nat), Bo w0 C T X w rb vb zs p f p f → Calls Try.prog 21 #[.pointer (some ⟨vb, 0, none⟩)] w fun e w' => e = .returned (.int .i64 E) ∧ Bo w0 C T X w' rb vb zs p f p f ∧ Vsame vb w w'
theorem pairE_of {zs : List Nat} {p : Nat} {f E : Int}
    (hr : ∀ (C rb : Nat) (v : Value) (w : World), Rd C w rb v zs p f → Calls Try.prog 20 #[.pointer (some ⟨rb, 0, none⟩)] w fun e w' => e = .returned (.int .i64 E) ∧ RdTo C w rb v zs p f w')
    (hv : ∀ (C vb : Nat) (v : Value) (w : World), Rv C w vb v zs p f → Calls Try.prog 21 #[.pointer (some ⟨vb, 0, none⟩)] w fun e w' => e = .returned (.int .i64 E) ∧ RvTo C w vb v zs p f w') : PairE zs p f E := by
  refine ⟨?_, ?_⟩
  · intro w0 C T X w rb vb ⟨v, lv, h1, h2, h3, h4, h5, h6, h7, h8, h9⟩
    refine (hr C rb v w h1).mono fun e w' ⟨he, ht⟩ => ⟨he, Bo.code h1 h2 h3 h4 h5 h6 h7 h8 h9 ht, ?_⟩
    have hb := ht.2.block vb (h2.lt (.inl rfl)).2 (fun x => h3 vb x (.inl rfl))
    exact ⟨World.cell?_of_block (a := ⟨vb, 0, none⟩) hb, World.cell?_of_block (a := ⟨vb, 1, none⟩) hb⟩
  · intro w0 C T X w rb vb ⟨v, lv, h1, h2, h3, h4, h5, h6, h7, h8, h9⟩
    refine (hv C vb lv w h2).mono fun e w' ⟨he, ht⟩ => ⟨he, Bo.doc h1 h2 h3 h4 h5 h6 h7 h8 h9 ht, ?_⟩
    exact ⟨ht.1.cells.1.trans h2.cells.1.symm, ht.1.cells.2.1.trans h2.cells.2.1.symm⟩
theorem ends_pair (zs : List Nat) (p : Nat) (f : Int) (hp : p ≤ 8 * zs.length) : ∃ E : Int, PairE zs p f E := by
  by_cases hf : f = 0
  · subst hf
    by_cases ht : p + 8 ≤ 8 * zs.length
    · exact ⟨11, pairE_of (fun C rb v w h => end_tail C rb v zs p w h ht) (fun C vb v w h => vend_tail C vb v zs p w h ht)⟩
    · obtain ⟨n, hz⟩ := zs_exists zs p hp
      exact ⟨_, pairE_of (fun C rb v w h => end_bit C rb v zs p n w h hz (by omega)) (fun C vb v w h => vend_bit C vb v zs p n w h hz (by omega))⟩
  · exact ⟨f, pairE_of (fun C rb v w h => (end_fault C rb v zs p f w h hf).mono fun e w' ⟨he, hw⟩ => ⟨he, by rw [← hw]; exact RdTo.refl h⟩) (fun C vb v w h => vend_fault C vb v zs p f w h hf)⟩
theorem bo_left {w0 : World} {C T : Nat} {X w : World} {rb vb : Nat} {zs : List Nat} {p : Nat} {f : Int} {q : Nat} {g : Int} (h : Bo w0 C T X w rb vb zs p f q g) :
    Calls Try.prog 19 #[.pointer (some ⟨rb, 0, none⟩)] w fun e w' => e = .returned (.int .i64 ((zs.length : Int) * 8 - (p : Int))) ∧ w.drew = w' := by
  obtain ⟨v, lv, h1, _⟩ := h
  exact rleft_any C rb v zs p f w h1

end Go.Proofs.Ytbdlcmpljhbebaa
