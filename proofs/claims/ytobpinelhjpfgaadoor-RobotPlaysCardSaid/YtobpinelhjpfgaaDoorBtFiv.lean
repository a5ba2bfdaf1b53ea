/-
  The statement BitsFirst: its walk.
  The statement BitsBack: its walk.
  The statement BitsLeft: its walk.
-/
import Derived.Test.YtobpinelhjpfgaaDoorBtFou
import Derived.Test.YtobpinelhjpfgaaDoorArgs
import Derived.Deep.RegionHeld3
import Derived.Test.YtobpinelhjpfgaaDoorBitsArgs
import Derived.Deep.DeepCutAuto
set_option linter.unusedVariables false
section
namespace Go.Proofs.YtobpinelhjpfgaaDoor
open Go.RowKit Bp

/-- The bits of the first k bytes. -/
def flat (f : Nat → Nat) (k : Nat) : List Bool := (List.range k).flatMap fun i => bitsOf (f i) 8
theorem flat_succ (f : Nat → Nat) (k : Nat) : flat f (k + 1) = flat f k ++ bitsOf (f k) 8 := by
  simp [flat, List.range_succ]
theorem flat_length (f : Nat → Nat) (k : Nat) : (flat f k).length = 8 * k := by
  induction k with
  | zero => rfl
  | succ k ih => rw [flat_succ, List.length_append, ih, bitsOf_length]; omega
theorem flat_more (f : Nat → Nat) (k d : Nat) : ∃ c, flat f (k + 1 + d) = flat f k ++ bitsOf (f k) 8 ++ c := by
  induction d with
  | zero => exact ⟨[], by rw [Nat.add_zero, flat_succ, List.append_nil]⟩
  | succ d ih =>
    obtain ⟨c, hc⟩ := ih
    exact ⟨c ++ bitsOf (f (k + 1 + d)) 8, by rw [← Nat.add_assoc, flat_succ, hc]; simp⟩
theorem flat_split (f : Nat → Nat) (k m : Nat) (h : k < m) : ∃ c, flat f m = flat f k ++ bitsOf (f k) 8 ++ c := by
  obtain ⟨c, hc⟩ := flat_more f k (m - (k + 1))
  exact ⟨c, by rw [← hc]; congr 1; omega⟩

theorem bytesAt_all {w : World} {base : Nat} {v : Value} {n : Nat} {l : List Nat} (h : w.ownsRow base 5 1 v n (bc l)) : BytesAt w v l := by
  have hl : l.length = n := by have := h.1; rw [bc_length] at this; omega
  rcases h.2 with ⟨rfl, rfl⟩ | ⟨g, cap, cur, rfl, _⟩
  · exact .inl ⟨rfl, List.eq_nil_of_length_eq_zero hl⟩
  · have := bytesAt_own h n (Nat.le_refl _)
    rwa [List.take_of_length_le (by omega)] at this

/-- A reader of what a writer has laid, beside the writer's world. -/
def Rb (w0 : World) (B : Nat) (w : World) (b : Nat) (zs : List Nat) (p : Nat) (f : Int) : Prop := ∃ C v, Rd C w b v zs p f ∧ B ≤ C ∧ Below B w0 w
theorem Rb.below {w0 w : World} {B b : Nat} {zs : List Nat} {p : Nat} {f : Int} (h : Rb w0 B w b zs p f) : Below B w0 w := by obtain ⟨C, v, _, _, h⟩ := h; exact h
theorem rb_start {w0 w w' : World} {B b : Nat} {v : Value} {zs : List Nat} (hb : Below B w0 w) (hs : B ≤ w.heap.size) (h : Rd w.heap.size w' b v zs 0 0) (hb' : Below w.heap.size w w') : Rb w0 B w' b zs 0 0 :=
  ⟨_, v, h, hs, hb.trans (hb'.mono hs)⟩
theorem Rb.to {w0 w w' : World} {B C b : Nat} {v : Value} {zs : List Nat} {p q : Nat} {f g : Int} (h : Rd C w b v zs p f) (hC : B ≤ C) (hb : Below B w0 w) (ht : RdTo C w b v zs q g w') : Rb w0 B w' b zs q g :=
  ⟨C, v, ht.1, hC, hb.trans (ht.2.below B (by have := h.base; have := (h.lt (k := b) (.inl rfl)).2; omega) (fun k hk => Nat.le_trans hC (h.lt hk).1))⟩
theorem Rb.drew {w0 w : World} {B b : Nat} {zs : List Nat} {p : Nat} {f : Int} (h : Rb w0 B w b zs p f) : Rb w0 B w.drew b zs p f := by
  obtain ⟨C, v, h1, h2, h3⟩ := h
  exact ⟨C, v, h1.drew, h2, h3.drew⟩
theorem rb_get (b : Nat) (zs : List Nat) (p n m : Nat) (M : Int) (w0 w : World) (B : Nat) (h : Rb w0 B w b zs p 0) (hm : m ≤ 64) (hh : Has zs p (bitsOf n m)) (hM : M = m) :
    Calls Tryd.prog 74 #[.pointer (some ⟨b, 0, none⟩), .int .i64 M] w fun e w' => e = .returned (.int .u64 ((n % 2 ^ m : Nat) : Int)) ∧ Rb w0 B w' b zs (p + m) 0 := by
  obtain ⟨C, v, h1, h2, h3⟩ := h
  refine (get_has C b v zs p n m M w h1 hm hh hM).mono ?_
  rintro e w' ⟨rfl, ht⟩
  exact ⟨rfl, Rb.to h1 h2 h3 ht⟩
theorem rb_get_small (b : Nat) (zs : List Nat) (p n m : Nat) (M : Int) (w0 w : World) (B : Nat) (h : Rb w0 B w b zs p 0) (hm : m ≤ 64) (hh : Has zs p (bitsOf n m)) (hM : M = m) (hn : n < 2 ^ m) :
    Calls Tryd.prog 74 #[.pointer (some ⟨b, 0, none⟩), .int .i64 M] w fun e w' => e = .returned (.int .u64 (n : Int)) ∧ Rb w0 B w' b zs (p + m) 0 := by
  have := rb_get b zs p n m M w0 w B h hm hh hM
  rw [Nat.mod_eq_of_lt hn] at this
  exact this
theorem rb_count (b : Nat) (zs : List Nat) (p x : Nat) (w0 w : World) (B : Nat) (h : Rb w0 B w b zs p 0) (hx : x + 1 < 18446744073709551616) (hh : Has zs p (countBits x)) :
    Calls Tryd.prog 75 #[.pointer (some ⟨b, 0, none⟩)] w fun e w' => e = .returned (.int .u64 (x : Int)) ∧ Rb w0 B w' b zs (p + (2 * kz x + 1)) 0 := by
  obtain ⟨C, v, h1, h2, h3⟩ := h
  refine (count_has C b v zs p x w h1 hx hh).mono ?_
  rintro e w' ⟨rfl, ht⟩
  exact ⟨rfl, Rb.to h1 h2 h3 ht⟩
theorem rb_end (b : Nat) (bs : List Bool) (w0 w : World) (B : Nat) (h : Rb w0 B w b (pack bs) bs.length 0) :
    Calls Tryd.prog 78 #[.pointer (some ⟨b, 0, none⟩)] w fun e w' => e = .returned (.int .i64 0) ∧ Rb w0 B w' b (pack bs) bs.length 0 := by
  obtain ⟨C, v, h1, h2, h3⟩ := h
  refine (end_has C b v bs w h1).mono ?_
  rintro e w' ⟨rfl, ht⟩
  exact ⟨rfl, Rb.to h1 h2 h3 ht⟩
/-- NewReader of a writer's Out. -/
theorem rb_new (v : Value) (bs : List Bool) (w0 w : World) (B base n : Nat) (b : Nat) (ho : w.ownsRow base 5 1 v n (bc (pack bs))) (h : Wb w0 B w b bs) :
    Calls Tryd.prog 73 #[v] w fun e w' => ∃ rb, e = .returned (.pointer (some ⟨rb, 0, none⟩)) ∧ Rb w0 B w' rb (pack bs) 0 0 := by
  obtain ⟨u, h1, h2, h3⟩ := h
  have hf := h1.few
  refine (newReader_any v (pack bs) w (bytesAt_all ho) (by rw [pack_length]; unfold nb; omega) (pack_byte bs)).mono ?_
  rintro e w' ⟨rb, rv, rfl, hR, hB⟩
  have hs := (h1.lt (k := b) (.inl rfl)).2
  exact ⟨rb, rfl, rb_start h2 (by omega) hR hB⟩

end Go.Proofs.YtobpinelhjpfgaaDoor
end

section
namespace Go.Proofs.YtobpinelhjpfgaaDoor
open Go.RowKit Bp

theorem Wb.alloc {w0 w : World} {B b : Nat} {bs : List Bool} (h : Wb w0 B w b bs) (o : Obj) : Wb w0 B (w.alloc o) b bs := by
  obtain ⟨v, h1, h2, h3⟩ := h
  have hlt := (h1.lt (k := b) (.inl rfl)).2
  exact ⟨v, h1.frame (fun k hk => Below.heap_alloc _ _ _ (h1.lt hk).2), h2.alloc (by omega) _, h3⟩
theorem Rb.alloc {w0 w : World} {B b : Nat} {zs : List Nat} {p : Nat} {f : Int} (h : Rb w0 B w b zs p f) (o : Obj) : Rb w0 B (w.alloc o) b zs p f := by
  obtain ⟨C, v, h1, h2, h3⟩ := h
  have hlt := (h1.lt (k := b) (.inl rfl))
  exact ⟨C, v, h1.frame (fun k hk => Below.heap_alloc _ _ _ (h1.lt hk).2), h2, h3.alloc (by omega) _⟩

/-- A world beside: what was there is as it was, and more blocks may be there. -/
def Beside (w W : World) : Prop := (∀ k, k < w.heap.size → W.heap[k]? = w.heap[k]?) ∧ Below w.heap.size w W
theorem beside_alloc (w : World) (o : Obj) : Beside w (w.alloc o) := ⟨fun k hk => Below.heap_alloc _ _ _ hk, (Below.refl _ _).alloc (Nat.le_refl _) _⟩
theorem Beside.drew {w W : World} (h : Beside w W) : Beside w W.drew := ⟨h.1, h.2.drew⟩
theorem rb_beside {w0 w W : World} {B b : Nat} {zs : List Nat} {p : Nat} {f : Int} (h : Rb w0 B w b zs p f) (hW : Beside w W) :
    ∃ C v, Rd C W b v zs p f ∧ B ≤ C ∧ Below B w0 W ∧ ∀ k, RF b v k → k < w.heap.size := by
  obtain ⟨C, v, h1, h2, h3⟩ := h
  have hlt := (h1.lt (k := b) (.inl rfl))
  exact ⟨C, v, h1.frame (fun k hk => hW.1 k (h1.lt hk).2), h2, h3.trans (hW.2.mono (by omega)), fun k hk => (h1.lt hk).2⟩
/-- A block beside a reader is as it was behind the reader's call. -/
theorem turn_beside {w W W' : World} {b : Nat} {v : Value} (ht : Turn (RF b v) (RF b v) W W') (hf : ∀ k, RF b v k → k < w.heap.size) (hlt : w.heap.size < W.heap.size) (j : Nat) :
    W'.cell? ⟨w.heap.size, j, none⟩ = W.cell? ⟨w.heap.size, j, none⟩ :=
  World.cell?_of_block (a := ⟨w.heap.size, j, none⟩) (ht.block w.heap.size hlt (fun x => by have := hf _ x; omega))
theorem rb_get_beside (b : Nat) (zs : List Nat) (p n m : Nat) (M : Int) (w0 w W : World) (B : Nat) (h : Rb w0 B w b zs p 0) (hW : Beside w W) (hlt : w.heap.size < W.heap.size) (hm : m ≤ 64) (hh : Has zs p (bitsOf n m)) (hM : M = m) (hn : n < 2 ^ m) :
    Calls Tryd.prog 74 #[.pointer (some ⟨b, 0, none⟩), .int .i64 M] W fun e w' => e = .returned (.int .u64 (n : Int)) ∧ Rb w0 B w' b zs (p + m) 0 ∧ ∀ j, w'.cell? ⟨w.heap.size, j, none⟩ = W.cell? ⟨w.heap.size, j, none⟩ := by
  obtain ⟨C, v, h1, h2, h3, h4⟩ := rb_beside h hW
  have := get_has C b v zs p n m M W h1 hm hh hM
  rw [Nat.mod_eq_of_lt hn] at this
  refine this.mono ?_
  rintro e w' ⟨rfl, ht⟩
  exact ⟨rfl, Rb.to h1 h2 h3 ht, turn_beside ht.2 h4 hlt⟩
theorem rb_count_beside (b : Nat) (zs : List Nat) (p x : Nat) (w0 w W : World) (B : Nat) (h : Rb w0 B w b zs p 0) (hW : Beside w W) (hlt : w.heap.size < W.heap.size) (hx : x + 1 < 18446744073709551616) (hh : Has zs p (countBits x)) :
    Calls Tryd.prog 75 #[.pointer (some ⟨b, 0, none⟩)] W fun e w' => e = .returned (.int .u64 (x : Int)) ∧ Rb w0 B w' b zs (p + (2 * kz x + 1)) 0 ∧ ∀ j, w'.cell? ⟨w.heap.size, j, none⟩ = W.cell? ⟨w.heap.size, j, none⟩ := by
  obtain ⟨C, v, h1, h2, h3, h4⟩ := rb_beside h hW
  refine (count_has C b v zs p x W h1 hx hh).mono ?_
  rintro e w' ⟨rfl, ht⟩
  exact ⟨rfl, Rb.to h1 h2 h3 ht, turn_beside ht.2 h4 hlt⟩

theorem rb_left (b : Nat) (zs : List Nat) (p : Nat) (w0 w : World) (B : Nat) (h : Rb w0 B w b zs p 0) :
    Calls Tryd.prog 77 #[.pointer (some ⟨b, 0, none⟩)] w fun e w' => e = .returned (.int .i64 ((zs.length : Int) * 8 - (p : Int))) ∧ Rb w0 B w' b zs p 0 := by
  obtain ⟨C, v, h1, h2, h3⟩ := h
  refine (rleft_any C b v zs p 0 w h1).mono ?_
  rintro e w' ⟨rfl, rfl⟩
  exact ⟨rfl, C, v, h1.drew, h2, h3.drew⟩

/-- The bits of one thing that is laid. -/
def one (q : Bool × Nat × Int) : List Bool := if q.1 then countBits (q.2.1 % 9223372036854775808) else bitsOf q.2.1 64
/-- The bits of the first k. -/
def laid (f : Nat → Bool × Nat × Int) (k : Nat) : List Bool := (List.range k).flatMap fun i => one (f i)
theorem laid_succ (f : Nat → Bool × Nat × Int) (k : Nat) : laid f (k + 1) = laid f k ++ one (f k) := by simp [laid, List.range_succ]
theorem one_false (y : Nat) (z : Int) : one (false, y, z) = bitsOf y 64 := by unfold one; rw [if_neg (by simp)]
theorem one_true (y : Nat) (z : Int) : one (true, y, z) = countBits (y % 9223372036854775808) := by unfold one; rw [if_pos rfl]
theorem one_le (q : Bool × Nat × Int) : (one q).length ≤ 127 := by
  unfold one
  split
  · rw [countBits_length]
    have := kz_63 (q.2.1 % 9223372036854775808) (by omega)
    omega
  · rw [bitsOf_length]; omega
theorem laid_le (f : Nat → Bool × Nat × Int) (k : Nat) : (laid f k).length ≤ 127 * k := by
  induction k with
  | zero => simp [laid]
  | succ k ih => rw [laid_succ, List.length_append]; have := one_le (f k); omega
theorem laid_more (f : Nat → Bool × Nat × Int) (k d : Nat) : ∃ c, laid f (k + 1 + d) = laid f k ++ one (f k) ++ c := by
  induction d with
  | zero => exact ⟨[], by rw [Nat.add_zero, laid_succ, List.append_nil]⟩
  | succ d ih =>
    obtain ⟨c, hc⟩ := ih
    exact ⟨c ++ one (f (k + 1 + d)), by rw [← Nat.add_assoc, laid_succ, hc]; simp⟩
theorem laid_has (f : Nat → Bool × Nat × Int) (k m : Nat) (h : k < m) : Has (pack (laid f m)) (laid f k).length (one (f k)) := by
  obtain ⟨c, hc⟩ := laid_more f k (m - (k + 1))
  have e : k + 1 + (m - (k + 1)) = m := by omega
  rw [e] at hc
  rw [hc]
  exact has_pack _ _ _ _ rfl

end Go.Proofs.YtobpinelhjpfgaaDoor
end

section
namespace Go.Proofs.YtobpinelhjpfgaaDoor
open Go.RowKit Bp

/-- There is always a number of bits 0 ahead. -/
theorem zs_exists (zs : List Nat) (p : Nat) (h : p ≤ 8 * zs.length) : ∃ n, Zs zs p n := by
  have key : ∀ d, d ≤ 64 → (∃ n, Zs zs p n) ∨ (p + d ≤ 8 * zs.length ∧ ∀ j, j < d → rbit zs (p + j) = 0) := by
    intro d
    induction d with
    | zero => intro _; exact .inr ⟨by omega, fun j hj => by omega⟩
    | succ d ih =>
      intro hd
      rcases ih (by omega) with x | ⟨h1, h2⟩
      · exact .inl x
      · by_cases he : p + d = 8 * zs.length
        · exact .inl ⟨d, by omega, by omega, h2, .inr (.inl he)⟩
        · by_cases hb : rbit zs (p + d) = 0
          · refine .inr ⟨by omega, fun j hj => ?_⟩
            rcases Nat.lt_or_ge j d with y | y
            · exact h2 j y
            · obtain rfl : j = d := by omega
              exact hb
          · exact .inl ⟨d, by omega, by omega, h2, .inr (.inr (by have := rbit_le zs (p + d); omega))⟩
  rcases key 64 (Nat.le_refl _) with x | ⟨h1, h2⟩
  · exact x
  · exact ⟨64, Nat.le_refl _, h1, h2, .inl rfl⟩

/-- How a count comes out: refused, and nothing is taken; or taken, as long as it is. -/
def Counted (p : Nat) (f : Int) (N p' : Nat) (f' : Int) : Prop := (p' = p ∧ N = 0 ∧ f' ≠ 0) ∨ (f = 0 ∧ f' = 0 ∧ p' = p + (2 * kz N + 1))
theorem rb_count_any (b : Nat) (zs : List Nat) (p : Nat) (f : Int) (w0 w : World) (B : Nat) (h : Rb w0 B w b zs p f) :
    Calls Tryd.prog 75 #[.pointer (some ⟨b, 0, none⟩)] w fun e w' => ∃ N p' f', e = .returned (.int .u64 ((N : Nat) : Int)) ∧ N + 1 < 18446744073709551616 ∧ Rb w0 B w' b zs p' f' ∧ Counted p f N p' f' := by
  obtain ⟨C, v, h1, h2, h3⟩ := h
  by_cases hf : f = 0
  · subst hf
    obtain ⟨n, hz⟩ := zs_exists zs p h1.at_le
    by_cases h64 : n = 64
    · subst h64
      refine (count_toolong C b v zs p w h1 hz).mono ?_
      rintro e w' ⟨rfl, ht⟩
      exact ⟨0, p, 4, rfl, by decide, Rb.to h1 h2 h3 ht, .inl ⟨rfl, rfl, by decide⟩⟩
    · have hn : n ≤ 63 := by have := hz.few; omega
      by_cases hs : p + (2 * n + 1) ≤ 8 * zs.length
      · have hb : rbit zs (p + n) = 1 := by rcases hz.stop with e | e | e <;> omega
        have hlo := tk_top zs (p + n) n hb
        have hlo2 : 1 ≤ tk zs (p + n) (n + 1) := by have := Nat.two_pow_pos n; omega
        have hhi := tk_lt zs (p + n) (n + 1)
        have h64' : tk zs (p + n) (n + 1) < 18446744073709551616 := by
          have h3' : (2 : Nat) ^ (n + 1) ≤ 2 ^ 64 := Nat.pow_le_pow_right (by decide) (by omega)
          have e : (2 : Nat) ^ 64 = 18446744073709551616 := by decide
          omega
        have e1 : tk zs (p + n) (n + 1) - 1 + 1 = tk zs (p + n) (n + 1) := by omega
        have hk : kz (tk zs (p + n) (n + 1) - 1) = n := by
          have a1 := kz_le (tk zs (p + n) (n + 1) - 1)
          have a2 := kz_lt (tk zs (p + n) (n + 1) - 1)
          rw [e1] at a1 a2
          exact pow_unique _ _ _ a1 a2 hlo hhi
        refine (rcount_ok C b v zs p n w h1 hz hn hs).mono ?_
        rintro e w' ⟨rfl, ht⟩
        exact ⟨_, _, 0, rfl, by omega, Rb.to h1 h2 h3 ht, .inr ⟨rfl, rfl, by rw [hk]⟩⟩
      · refine (count_short C b v zs p n w h1 hz hn (by omega)).mono ?_
        rintro e w' ⟨rfl, ht⟩
        exact ⟨0, p, 10, rfl, by decide, Rb.to h1 h2 h3 ht, .inl ⟨rfl, rfl, by decide⟩⟩
  · refine (count_fault C b v zs p f w h1 hf).mono ?_
    rintro e w' ⟨rfl, rfl⟩
    exact ⟨0, p, f, rfl, by decide, ⟨C, v, h1, h2, h3⟩, .inl ⟨rfl, rfl, hf⟩⟩

/-- How a number comes out: refused, or taken. -/
def Gotten (len p : Nat) (f m : Int) (p' : Nat) (f' : Int) : Prop :=
  (p' = p ∧ f' ≠ 0 ∧ (f = 0 → m < 0 ∨ 64 < m ∨ (8 * len : Int) - p < m)) ∨ (f = 0 ∧ f' = 0 ∧ 0 ≤ m ∧ m ≤ 64 ∧ m ≤ (8 * len : Int) - p ∧ (p' : Int) = p + m)
theorem rb_get_any (b : Nat) (zs : List Nat) (p : Nat) (f m : Int) (w0 w W : World) (B : Nat) (h : Rb w0 B w b zs p f) (hW : Beside w W) (hlt : w.heap.size < W.heap.size) :
    Calls Tryd.prog 74 #[.pointer (some ⟨b, 0, none⟩), .int .i64 m] W fun e w' => ∃ N p' f', e = .returned (.int .u64 ((N : Nat) : Int)) ∧ Rb w0 B w' b zs p' f' ∧ Gotten zs.length p f m p' f' ∧ ∀ j, w'.cell? ⟨w.heap.size, j, none⟩ = W.cell? ⟨w.heap.size, j, none⟩ := by
  obtain ⟨C, v, h1, h2, h3, h4⟩ := rb_beside h hW
  by_cases hf : f = 0
  · subst hf
    by_cases hm : m < 0 ∨ 64 < m
    · refine (get_arg C b v zs p m W h1 hm).mono ?_
      rintro e w' ⟨rfl, ht⟩
      exact ⟨0, p, 1, rfl, Rb.to h1 h2 h3 ht, .inl ⟨rfl, by decide, fun _ => by omega⟩, turn_beside ht.2 h4 hlt⟩
    · obtain ⟨k, rfl⟩ := Int.eq_ofNat_of_zero_le (show 0 ≤ m by omega)
      by_cases hs : p + k ≤ 8 * zs.length
      · refine (get_ok C b v zs p k W h1 (by omega) hs).mono ?_
        rintro e w' ⟨rfl, ht⟩
        exact ⟨_, _, 0, rfl, Rb.to h1 h2 h3 ht, .inr ⟨rfl, rfl, by omega, by omega, by omega, by omega⟩, turn_beside ht.2 h4 hlt⟩
      · refine (get_short C b v zs p k W h1 (by omega) (by omega)).mono ?_
        rintro e w' ⟨rfl, ht⟩
        exact ⟨0, p, 10, rfl, Rb.to h1 h2 h3 ht, .inl ⟨rfl, by decide, fun _ => by omega⟩, turn_beside ht.2 h4 hlt⟩
  · refine (get_fault C b v zs p f m W h1 hf).mono ?_
    rintro e w' ⟨rfl, rfl⟩
    exact ⟨0, p, f, rfl, ⟨C, v, h1, h2, h3⟩, .inl ⟨rfl, hf, fun x => absurd x hf⟩, fun _ => rfl⟩

theorem rb_left_any (b : Nat) (zs : List Nat) (p : Nat) (f : Int) (w0 w : World) (B : Nat) (h : Rb w0 B w b zs p f) :
    Calls Tryd.prog 77 #[.pointer (some ⟨b, 0, none⟩)] w fun e w' => e = .returned (.int .i64 ((zs.length : Int) * 8 - (p : Int))) ∧ w.drew = w' := by
  obtain ⟨C, v, h1, h2, h3⟩ := h
  exact rleft_any C b v zs p f w h1
theorem Rb.at_le {w0 w : World} {B b : Nat} {zs : List Nat} {p : Nat} {f : Int} (h : Rb w0 B w b zs p f) : p ≤ 8 * zs.length ∧ zs.length ≤ 1048576 := by
  obtain ⟨C, v, h1, _⟩ := h
  exact ⟨h1.at_le, h1.few⟩
theorem Rb.drewN {w0 w : World} {B b : Nat} {zs : List Nat} {p : Nat} {f : Int} (h : Rb w0 B w b zs p f) (n : Nat) : Rb w0 B (w.drewN n) b zs p f := by
  obtain ⟨C, v, h1, h2, h3⟩ := h
  exact ⟨C, v, h1.frame (fun _ _ => rfl), h2, h3.trans ⟨rfl, rfl, rfl, Nat.le_refl _, fun _ _ => rfl⟩⟩
theorem left_quiet (b : Nat) (zs : List Nat) (p : Nat) (f : Int) (w0 w : World) (B : Nat) (h : Rb w0 B w b zs p f) (n : Nat) :
    Calls Tryd.prog 77 #[.pointer (some ⟨b, 0, none⟩)] (w.drewN n) fun e w' => e = .returned (.int .i64 ((zs.length : Int) * 8 - (p : Int))) ∧ ∃ m, w' = (w.drewN n).drewN m := by
  refine (rb_left_any b zs p f w0 _ B (h.drewN n)).mono ?_
  rintro e w' ⟨rfl, rfl⟩
  exact ⟨rfl, 1, rfl⟩
theorem rb_end_any (b : Nat) (zs : List Nat) (p : Nat) (f : Int) (w0 w : World) (B : Nat) (h : Rb w0 B w b zs p f) (hf : f ≠ 0) :
    Calls Tryd.prog 78 #[.pointer (some ⟨b, 0, none⟩)] w fun e w' => e = .returned (.int .i64 f) ∧ w = w' := by
  obtain ⟨C, v, h1, h2, h3⟩ := h
  exact end_fault C b v zs p f w h1 hf

/-- A list of numbers by its first n. -/
def listOf (f : Nat → Nat) (n : Nat) : List Nat := (List.range n).map f
theorem listOf_length (f : Nat → Nat) (n : Nat) : (listOf f n).length = n := by simp [listOf]
theorem arg_bytes {w : World} {ao : Option Addr} {len cap : Nat} {f : Nat → Nat} (hA : ArgIn (fun z : Nat => Value.int .u8 (z : Int)) w ao len cap f) (m : Nat) (hm : m ≤ len) (W : World) (hW : Below w.heap.size w W) :
    BytesAt W (.slice ao m cap) (listOf f m) := by
  cases ao with
  | none =>
    obtain ⟨h1, h2⟩ := hA.nil rfl
    have : m = 0 := by omega
    subst this h2
    exact .inl ⟨rfl, rfl⟩
  | some a =>
    refine .inr ⟨a, cap, by rw [listOf_length], fun j u hj => ?_⟩
    have hjl : j < m := by
      have := (List.getElem?_eq_some_iff.1 hj).1
      rw [bc_length, listOf_length] at this
      exact this
    obtain ⟨g, off, ha, hg, hc⟩ := hA.cell j (by omega)
    simp only [Option.some.injEq] at ha
    subst ha
    have hu : u = .int .u8 (f j : Int) := by
      simp [bc, listOf, hjl] at hj
      exact hj.symm
    subst hu
    have e : (⟨g, off, none⟩ : Addr).add j = ⟨g, off + j, none⟩ := plain_add g off j
    rw [e]
    exact (hW.cell (p := ⟨g, off + j, none⟩) hg).trans hc

theorem rb_make (v : Value) (zs : List Nat) (w0 w : World) (hb : Below w0.heap.size w0 w) (h : BytesAt w v zs) (hf : zs.length ≤ 1048576) (hz : ∀ z ∈ zs, z ≤ 255) :
    Calls Tryd.prog 73 #[v] w fun e w' => ∃ rb, e = .returned (.pointer (some ⟨rb, 0, none⟩)) ∧ Rb w0 w0.heap.size w' rb zs 0 0 := by
  refine (newReader_any v zs w h hf hz).mono ?_
  rintro e w' ⟨rb, rv, rfl, hR, hB⟩
  exact ⟨rb, rfl, rb_start hb hb.size hR hB⟩

end Go.Proofs.YtobpinelhjpfgaaDoor
end
