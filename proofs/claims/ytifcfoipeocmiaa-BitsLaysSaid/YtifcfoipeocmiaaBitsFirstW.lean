/-
  The statement BitsFirst: its walk.
-/
import Derived.Test.YtifcfoipeocmiaaBitsPlain5
import Derived.Test.YtifcfoipeocmiaaBitsLongW
import Derived.Test.YtifcfoipeocmiaaArgs
import Derived.Deep.RegionHeld3
set_option linter.unusedVariables false
namespace Go.Proofs.Ytifcfoipeocmiaa
open Go.RowKit Bp

/-- The bits of the first k bytes. -/
def flat (f : Nat → Nat) (k : Nat) : List Bool := (List.range k).flatMap fun i => bitsOf (f i) 8
theorem flat_succ (f : Nat → Nat) (k : Nat) : flat f (k + 1) = flat f k ++ bitsOf (f k) 8 := by
  simp [flat, List.range_succ]
theorem flat_length (f : Nat → Nat) (k : Nat) : (flat f k).length = 8 * k := by
  induction k with
  | zero => rfl
  | succ k ih => rw [flat_succ, List.length_append, ih, bitsOf_length]; omega
theorem flat_more (f : Nat → Nat) (k d : Nat) : ∃ c, flat f (k + 1 + d) = flat f k ++ bitsOf (f k) 8 ++ c := by
  induction d with
  | zero => exact ⟨[], by rw [Nat.add_zero, flat_succ, List.append_nil]⟩
  | succ d ih =>
    obtain ⟨c, hc⟩ := ih
    exact ⟨c ++ bitsOf (f (k + 1 + d)) 8, by rw [← Nat.add_assoc, flat_succ, hc]; simp⟩
theorem flat_split (f : Nat → Nat) (k m : Nat) (h : k < m) : ∃ c, flat f m = flat f k ++ bitsOf (f k) 8 ++ c := by
  obtain ⟨c, hc⟩ := flat_more f k (m - (k + 1))
  exact ⟨c, by rw [← hc]; congr 1; omega⟩

theorem bytesAt_all {w : World} {base : Nat} {v : Value} {n : Nat} {l : List Nat} (h : w.ownsRow base 5 1 v n (bc l)) : BytesAt w v l := by
  have hl : l.length = n := by have := h.1; rw [bc_length] at this; omega
  rcases h.2 with ⟨rfl, rfl⟩ | ⟨g, cap, cur, rfl, _⟩
  · exact .inl ⟨rfl, List.eq_nil_of_length_eq_zero hl⟩
  · have := bytesAt_own h n (Nat.le_refl _)
    rwa [List.take_of_length_le (by omega)] at this

/-- A reader of what a writer has laid, beside the writer's world. -/
def Rb (w0 : World) (B : Nat) (w : World) (b : Nat) (zs : List Nat) (p : Nat) (f : Int) : Prop := ∃ C v, Rd C w b v zs p f ∧ B ≤ C ∧ Below B w0 w
theorem Rb.below {w0 w : World} {B b : Nat} {zs : List Nat} {p : Nat} {f : Int} (h : Rb w0 B w b zs p f) : Below B w0 w := by obtain ⟨C, v, _, _, h⟩ := h; exact h
theorem rb_start {w0 w w' : World} {B b : Nat} {v : Value} {zs : List Nat} (hb : Below B w0 w) (hs : B ≤ w.heap.size) (h : Rd w.heap.size w' b v zs 0 0) (hb' : Below w.heap.size w w') : Rb w0 B w' b zs 0 0 :=
  ⟨_, v, h, hs, hb.trans (hb'.mono hs)⟩
theorem Rb.to {w0 w w' : World} {B C b : Nat} {v : Value} {zs : List Nat} {p q : Nat} {f g : Int} (h : Rd C w b v zs p f) (hC : B ≤ C) (hb : Below B w0 w) (ht : RdTo C w b v zs q g w') : Rb w0 B w' b zs q g :=
  ⟨C, v, ht.1, hC, hb.trans (ht.2.below B (by have := h.base; have := (h.lt (k := b) (.inl rfl)).2; omega) (fun k hk => Nat.le_trans hC (h.lt hk).1))⟩
theorem Rb.drew {w0 w : World} {B b : Nat} {zs : List Nat} {p : Nat} {f : Int} (h : Rb w0 B w b zs p f) : Rb w0 B w.drew b zs p f := by
  obtain ⟨C, v, h1, h2, h3⟩ := h
  exact ⟨C, v, h1.drew, h2, h3.drew⟩
theorem rb_get (b : Nat) (zs : List Nat) (p n m : Nat) (M : Int) (w0 w : World) (B : Nat) (h : Rb w0 B w b zs p 0) (hm : m ≤ 64) (hh : Has zs p (bitsOf n m)) (hM : M = m) :
    Calls Try.prog 17 #[.pointer (some ⟨b, 0, none⟩), .int .i64 M] w fun e w' => e = .returned (.int .u64 ((n % 2 ^ m : Nat) : Int)) ∧ Rb w0 B w' b zs (p + m) 0 := by
  obtain ⟨C, v, h1, h2, h3⟩ := h
  refine (get_has C b v zs p n m M w h1 hm hh hM).mono ?_
  rintro e w' ⟨rfl, ht⟩
  exact ⟨rfl, Rb.to h1 h2 h3 ht⟩
theorem rb_get_small (b : Nat) (zs : List Nat) (p n m : Nat) (M : Int) (w0 w : World) (B : Nat) (h : Rb w0 B w b zs p 0) (hm : m ≤ 64) (hh : Has zs p (bitsOf n m)) (hM : M = m) (hn : n < 2 ^ m) :
    Calls Try.prog 17 #[.pointer (some ⟨b, 0, none⟩), .int .i64 M] w fun e w' => e = .returned (.int .u64 (n : Int)) ∧ Rb w0 B w' b zs (p + m) 0 := by
  have := rb_get b zs p n m M w0 w B h hm hh hM
  rw [Nat.mod_eq_of_lt hn] at this
  exact this
theorem rb_count (b : Nat) (zs : List Nat) (p x : Nat) (w0 w : World) (B : Nat) (h : Rb w0 B w b zs p 0) (hx : x + 1 < 18446744073709551616) (hh : Has zs p (countBits x)) :
    Calls Try.prog 16 #[.pointer (some ⟨b, 0, none⟩)] w fun e w' => e = .returned (.int .u64 (x : Int)) ∧ Rb w0 B w' b zs (p + (2 * kz x + 1)) 0 := by
  obtain ⟨C, v, h1, h2, h3⟩ := h
  refine (count_has C b v zs p x w h1 hx hh).mono ?_
  rintro e w' ⟨rfl, ht⟩
  exact ⟨rfl, Rb.to h1 h2 h3 ht⟩
theorem rb_end (b : Nat) (bs : List Bool) (w0 w : World) (B : Nat) (h : Rb w0 B w b (pack bs) bs.length 0) :
    Calls Try.prog 18 #[.pointer (some ⟨b, 0, none⟩)] w fun e w' => e = .returned (.int .i64 0) ∧ Rb w0 B w' b (pack bs) bs.length 0 := by
  obtain ⟨C, v, h1, h2, h3⟩ := h
  refine (end_has C b v bs w h1).mono ?_
  rintro e w' ⟨rfl, ht⟩
  exact ⟨rfl, Rb.to h1 h2 h3 ht⟩
/-- NewReader of a writer's Out. -/
theorem rb_new (v : Value) (bs : List Bool) (w0 w : World) (B base n : Nat) (b : Nat) (ho : w.ownsRow base 5 1 v n (bc (pack bs))) (h : Wb w0 B w b bs) :
    Calls Try.prog 15 #[v] w fun e w' => ∃ rb, e = .returned (.pointer (some ⟨rb, 0, none⟩)) ∧ Rb w0 B w' rb (pack bs) 0 0 := by
  obtain ⟨u, h1, h2, h3⟩ := h
  have hf := h1.few
  refine (newReader_any v (pack bs) w (bytesAt_all ho) (by rw [pack_length]; unfold nb; omega) (pack_byte bs)).mono ?_
  rintro e w' ⟨rb, rv, rfl, hR, hB⟩
  have hs := (h1.lt (k := b) (.inl rfl)).2
  exact ⟨rb, rfl, rb_start h2 (by omega) hR hB⟩

end Go.Proofs.Ytifcfoipeocmiaa
