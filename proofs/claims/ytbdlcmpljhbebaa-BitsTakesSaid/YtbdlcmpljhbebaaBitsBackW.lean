/-
  The statement BitsBack: its walk.
-/
import Derived.Test.YtbdlcmpljhbebaaBitsFirstW
import Derived.Test.YtbdlcmpljhbebaaBitsArgs
import Derived.Deep.DeepCutAuto
set_option linter.unusedVariables false
namespace Go.Proofs.Ytbdlcmpljhbebaa
open Go.RowKit Bp

theorem Wb.alloc {w0 w : World} {B b : Nat} {bs : List Bool} (h : Wb w0 B w b bs) (o : Obj) : Wb w0 B (w.alloc o) b bs := by
  obtain ⟨v, h1, h2, h3⟩ := h
  have hlt := (h1.lt (k := b) (.inl rfl)).2
  exact ⟨v, h1.frame (fun k hk => Below.heap_alloc _ _ _ (h1.lt hk).2), h2.alloc (by omega) _, h3⟩
theorem Rb.alloc {w0 w : World} {B b : Nat} {zs : List Nat} {p : Nat} {f : Int} (h : Rb w0 B w b zs p f) (o : Obj) : Rb w0 B (w.alloc o) b zs p f := by
  obtain ⟨C, v, h1, h2, h3⟩ := h
  have hlt := (h1.lt (k := b) (.inl rfl))
  exact ⟨C, v, h1.frame (fun k hk => Below.heap_alloc _ _ _ (h1.lt hk).2), h2, h3.alloc (by omega) _⟩

/-- A world beside: what was there is as it was, and more blocks may be there. -/
def Beside (w W : World) : Prop := (∀ k, k < w.heap.size → W.heap[k]? = w.heap[k]?) ∧ Below w.heap.size w W
theorem beside_alloc (w : World) (o : Obj) : Beside w (w.alloc o) := ⟨fun k hk => Below.heap_alloc _ _ _ hk, (Below.refl _ _).alloc (Nat.le_refl _) _⟩
theorem Beside.drew {w W : World} (h : Beside w W) : Beside w W.drew := ⟨h.1, h.2.drew⟩
theorem rb_beside {w0 w W : World} {B b : Nat} {zs : List Nat} {p : Nat} {f : Int} (h : Rb w0 B w b zs p f) (hW : Beside w W) :
    ∃ C v, Rd C W b v zs p f ∧ B ≤ C ∧ Below B w0 W ∧ ∀ k, RF b v k → k < w.heap.size := by
  obtain ⟨C, v, h1, h2, h3⟩ := h
  have hlt := (h1.lt (k := b) (.inl rfl))
  exact ⟨C, v, h1.frame (fun k hk => hW.1 k (h1.lt hk).2), h2, h3.trans (hW.2.mono (by omega)), fun k hk => (h1.lt hk).2⟩
/-- A block beside a reader is as it was behind the reader's call. -/
theorem turn_beside {w W W' : World} {b : Nat} {v : Value} (ht : Turn (RF b v) (RF b v) W W') (hf : ∀ k, RF b v k → k < w.heap.size) (hlt : w.heap.size < W.heap.size) (j : Nat) :
    W'.cell? ⟨w.heap.size, j, none⟩ = W.cell? ⟨w.heap.size, j, none⟩ :=
  World.cell?_of_block (a := ⟨w.heap.size, j, none⟩) (ht.block w.heap.size hlt (fun x => by have := hf _ x; omega))
theorem rb_get_beside (b : Nat) (zs : List Nat) (p n m : Nat) (M : Int) (w0 w W : World) (B : Nat) (h : Rb w0 B w b zs p 0) (hW : Beside w W) (hlt : w.heap.size < W.heap.size) (hm : m ≤ 64) (hh : Has zs p (bitsOf n m)) (hM : M = m) (hn : n < 2 ^ m) :
    Calls Try.prog 17 #[.pointer (some ⟨b, 0, none⟩), .int .i64 M] W fun e w' => e = .returned (.int .u64 (n : Int)) ∧ Rb w0 B w' b zs (p + m) 0 ∧ ∀ j, w'.cell? ⟨w.heap.size, j, none⟩ = W.cell? ⟨w.heap.size, j, none⟩ := by
  obtain ⟨C, v, h1, h2, h3, h4⟩ := rb_beside h hW
  have := get_has C b v zs p n m M W h1 hm hh hM
  rw [Nat.mod_eq_of_lt hn] at this
  refine this.mono ?_
  rintro e w' ⟨rfl, ht⟩
  exact ⟨rfl, Rb.to h1 h2 h3 ht, turn_beside ht.2 h4 hlt⟩
theorem rb_count_beside (b : Nat) (zs : List Nat) (p x : Nat) (w0 w W : World) (B : Nat) (h : Rb w0 B w b zs p 0) (hW : Beside w W) (hlt : w.heap.size < W.heap.size) (hx : x + 1 < 18446744073709551616) (hh : Has zs p (countBits x)) :
    Calls Try.prog 15 #[.pointer (some ⟨b, 0, none⟩)] W fun e w' => e = .returned (.int .u64 (x : Int)) ∧ Rb w0 B w' b zs (p + (2 * kz x + 1)) 0 ∧ ∀ j, w'.cell? ⟨w.heap.size, j, none⟩ = W.cell? ⟨w.heap.size, j, none⟩ := by
  obtain ⟨C, v, h1, h2, h3, h4⟩ := rb_beside h hW
  refine (count_has C b v zs p x W h1 hx hh).mono ?_
  rintro e w' ⟨rfl, ht⟩
  exact ⟨rfl, Rb.to h1 h2 h3 ht, turn_beside ht.2 h4 hlt⟩

theorem rb_left (b : Nat) (zs : List Nat) (p : Nat) (w0 w : World) (B : Nat) (h : Rb w0 B w b zs p 0) :
    Calls Try.prog 19 #[.pointer (some ⟨b, 0, none⟩)] w fun e w' => e = .returned (.int .i64 ((zs.length : Int) * 8 - (p : Int))) ∧ Rb w0 B w' b zs p 0 := by
  obtain ⟨C, v, h1, h2, h3⟩ := h
  refine (rleft_any C b v zs p 0 w h1).mono ?_
  rintro e w' ⟨rfl, rfl⟩
  exact ⟨rfl, C, v, h1.drew, h2, h3.drew⟩

/-- The bits of one thing that is laid. -/
def one (q : Bool × Nat × Int) : List Bool := if q.1 then countBits (q.2.1 % 9223372036854775808) else bitsOf q.2.1 64
/-- The bits of the first k. -/
def laid (f : Nat → Bool × Nat × Int) (k : Nat) : List Bool := (List.range k).flatMap fun i => one (f i)
theorem laid_succ (f : Nat → Bool × Nat × Int) (k : Nat) : laid f (k + 1) = laid f k ++ one (f k) := by simp [laid, List.range_succ]
theorem one_false (y : Nat) (z : Int) : one (false, y, z) = bitsOf y 64 := by unfold one; rw [if_neg (by simp)]
theorem one_true (y : Nat) (z : Int) : one (true, y, z) = countBits (y % 9223372036854775808) := by unfold one; rw [if_pos rfl]
theorem one_le (q : Bool × Nat × Int) : (one q).length ≤ 127 := by
  unfold one
  split
  · rw [countBits_length]
    have := kz_63 (q.2.1 % 9223372036854775808) (by omega)
    omega
  · rw [bitsOf_length]; omega
theorem laid_le (f : Nat → Bool × Nat × Int) (k : Nat) : (laid f k).length ≤ 127 * k := by
  induction k with
  | zero => simp [laid]
  | succ k ih => rw [laid_succ, List.length_append]; have := one_le (f k); omega
theorem laid_more (f : Nat → Bool × Nat × Int) (k d : Nat) : ∃ c, laid f (k + 1 + d) = laid f k ++ one (f k) ++ c := by
  induction d with
  | zero => exact ⟨[], by rw [Nat.add_zero, laid_succ, List.append_nil]⟩
  | succ d ih =>
    obtain ⟨c, hc⟩ := ih
    exact ⟨c ++ one (f (k + 1 + d)), by rw [← Nat.add_assoc, laid_succ, hc]; simp⟩
theorem laid_has (f : Nat → Bool × Nat × Int) (k m : Nat) (h : k < m) : Has (pack (laid f m)) (laid f k).length (one (f k)) := by
  obtain ⟨c, hc⟩ := laid_more f k (m - (k + 1))
  have e : k + 1 + (m - (k + 1)) = m := by omega
  rw [e] at hc
  rw [hc]
  exact has_pack _ _ _ _ rfl

end Go.Proofs.Ytbdlcmpljhbebaa
