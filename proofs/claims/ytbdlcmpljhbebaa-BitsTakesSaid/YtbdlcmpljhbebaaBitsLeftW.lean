/-
  The statement BitsLeft: its walk.
-/
import Derived.Test.YtbdlcmpljhbebaaBitsBackW
set_option linter.unusedVariables false
namespace Go.Proofs.Ytbdlcmpljhbebaa
open Go.RowKit Bp

/-- There is always a number of bits 0 ahead. -/
theorem zs_exists (zs : List Nat) (p : Nat) (h : p ≤ 8 * zs.length) : ∃ n, Zs zs p n := by
  have key : ∀ d, d ≤ 64 → (∃ n, Zs zs p n) ∨ (p + d ≤ 8 * zs.length ∧ ∀ j, j < d → rbit zs (p + j) = 0) := by
    intro d
    induction d with
    | zero => intro _; exact .inr ⟨by omega, fun j hj => by omega⟩
    | succ d ih =>
      intro hd
      rcases ih (by omega) with x | ⟨h1, h2⟩
      · exact .inl x
      · by_cases he : p + d = 8 * zs.length
        · exact .inl ⟨d, by omega, by omega, h2, .inr (.inl he)⟩
        · by_cases hb : rbit zs (p + d) = 0
          · refine .inr ⟨by omega, fun j hj => ?_⟩
            rcases Nat.lt_or_ge j d with y | y
            · exact h2 j y
            · obtain rfl : j = d := by omega
              exact hb
          · exact .inl ⟨d, by omega, by omega, h2, .inr (.inr (by have := rbit_le zs (p + d); omega))⟩
  rcases key 64 (Nat.le_refl _) with x | ⟨h1, h2⟩
  · exact x
  · exact ⟨64, Nat.le_refl _, h1, h2, .inl rfl⟩

/-- How a count comes out: refused, and nothing is taken; or taken, as long as it is. -/
def Counted (p : Nat) (f : Int) (N p' : Nat) (f' : Int) : Prop := (p' = p ∧ N = 0 ∧ f' ≠ 0) ∨ (f = 0 ∧ f' = 0 ∧ p' = p + (2 * kz N + 1))
theorem rb_count_any (b : Nat) (zs : List Nat) (p : Nat) (f : Int) (w0 w : World) (B : Nat) (h : Rb w0 B w b zs p f) :
    Calls Try.prog 15 #[.pointer (some ⟨b, 0, none⟩)] w fun e w' => ∃ N p' f', e = .returned (.int .u64 ((N : Nat) : Int)) ∧ N + 1 < 18446744073709551616 ∧ Rb w0 B w' b zs p' f' ∧ Counted p f N p' f' := by
  obtain ⟨C, v, h1, h2, h3⟩ := h
  by_cases hf : f = 0
  · subst hf
    obtain ⟨n, hz⟩ := zs_exists zs p h1.at_le
    by_cases h64 : n = 64
    · subst h64
      refine (count_toolong C b v zs p w h1 hz).mono ?_
      rintro e w' ⟨rfl, ht⟩
      exact ⟨0, p, 4, rfl, by decide, Rb.to h1 h2 h3 ht, .inl ⟨rfl, rfl, by decide⟩⟩
    · have hn : n ≤ 63 := by have := hz.few; omega
      by_cases hs : p + (2 * n + 1) ≤ 8 * zs.length
      · have hb : rbit zs (p + n) = 1 := by rcases hz.stop with e | e | e <;> omega
        have hlo := tk_top zs (p + n) n hb
        have hlo2 : 1 ≤ tk zs (p + n) (n + 1) := by have := Nat.two_pow_pos n; omega
        have hhi := tk_lt zs (p + n) (n + 1)
        have h64' : tk zs (p + n) (n + 1) < 18446744073709551616 := by
          have h3' : (2 : Nat) ^ (n + 1) ≤ 2 ^ 64 := Nat.pow_le_pow_right (by decide) (by omega)
          have e : (2 : Nat) ^ 64 = 18446744073709551616 := by decide
          omega
        have e1 : tk zs (p + n) (n + 1) - 1 + 1 = tk zs (p + n) (n + 1) := by omega
        have hk : kz (tk zs (p + n) (n + 1) - 1) = n := by
          have a1 := kz_le (tk zs (p + n) (n + 1) - 1)
          have a2 := kz_lt (tk zs (p + n) (n + 1) - 1)
          rw [e1] at a1 a2
          exact pow_unique _ _ _ a1 a2 hlo hhi
        refine (rcount_ok C b v zs p n w h1 hz hn hs).mono ?_
        rintro e w' ⟨rfl, ht⟩
        exact ⟨_, _, 0, rfl, by omega, Rb.to h1 h2 h3 ht, .inr ⟨rfl, rfl, by rw [hk]⟩⟩
      · refine (count_short C b v zs p n w h1 hz hn (by omega)).mono ?_
        rintro e w' ⟨rfl, ht⟩
        exact ⟨0, p, 10, rfl, by decide, Rb.to h1 h2 h3 ht, .inl ⟨rfl, rfl, by decide⟩⟩
  · refine (count_fault C b v zs p f w h1 hf).mono ?_
    rintro e w' ⟨rfl, rfl⟩
    exact ⟨0, p, f, rfl, by decide, ⟨C, v, h1, h2, h3⟩, .inl ⟨rfl, rfl, hf⟩⟩

/-- How a number comes out: refused, or taken. -/
def Gotten (len p : Nat) (f m : Int) (p' : Nat) (f' : Int) : Prop :=
  (p' = p ∧ f' ≠ 0 ∧ (f = 0 → m < 0 ∨ 64 < m ∨ (8 * len : Int) - p < m)) ∨ (f = 0 ∧ f' = 0 ∧ 0 ≤ m ∧ m ≤ 64 ∧ m ≤ (8 * len : Int) - p ∧ (p' : Int) = p + m)
theorem rb_get_any (b : Nat) (zs : List Nat) (p : Nat) (f m : Int) (w0 w W : World) (B : Nat) (h : Rb w0 B w b zs p f) (hW : Beside w W) (hlt : w.heap.size < W.heap.size) :
    Calls Try.prog 17 #[.pointer (some ⟨b, 0, none⟩), .int .i64 m] W fun e w' => ∃ N p' f', e = .returned (.int .u64 ((N : Nat) : Int)) ∧ Rb w0 B w' b zs p' f' ∧ Gotten zs.length p f m p' f' ∧ ∀ j, w'.cell? ⟨w.heap.size, j, none⟩ = W.cell? ⟨w.heap.size, j, none⟩ := by
  obtain ⟨C, v, h1, h2, h3, h4⟩ := rb_beside h hW
  by_cases hf : f = 0
  · subst hf
    by_cases hm : m < 0 ∨ 64 < m
    · refine (get_arg C b v zs p m W h1 hm).mono ?_
      rintro e w' ⟨rfl, ht⟩
      exact ⟨0, p, 1, rfl, Rb.to h1 h2 h3 ht, .inl ⟨rfl, by decide, fun _ => by omega⟩, turn_beside ht.2 h4 hlt⟩
    · obtain ⟨k, rfl⟩ := Int.eq_ofNat_of_zero_le (show 0 ≤ m by omega)
      by_cases hs : p + k ≤ 8 * zs.length
      · refine (get_ok C b v zs p k W h1 (by omega) hs).mono ?_
        rintro e w' ⟨rfl, ht⟩
        exact ⟨_, _, 0, rfl, Rb.to h1 h2 h3 ht, .inr ⟨rfl, rfl, by omega, by omega, by omega, by omega⟩, turn_beside ht.2 h4 hlt⟩
      · refine (get_short C b v zs p k W h1 (by omega) (by omega)).mono ?_
        rintro e w' ⟨rfl, ht⟩
        exact ⟨0, p, 10, rfl, Rb.to h1 h2 h3 ht, .inl ⟨rfl, by decide, fun _ => by omega⟩, turn_beside ht.2 h4 hlt⟩
  · refine (get_fault C b v zs p f m W h1 hf).mono ?_
    rintro e w' ⟨rfl, rfl⟩
    exact ⟨0, p, f, rfl, ⟨C, v, h1, h2, h3⟩, .inl ⟨rfl, hf, fun x => absurd x hf⟩, fun _ => rfl⟩

theorem rb_left_any (b : Nat) (zs : List Nat) (p : Nat) (f : Int) (w0 w : World) (B : Nat) (h : Rb w0 B w b zs p f) :
    Calls Try.prog 19 #[.pointer (some ⟨b, 0, none⟩)] w fun e w' => e = .returned (.int .i64 ((zs.length : Int) * 8 - (p : Int))) ∧ w.drew = w' := by
  obtain ⟨C, v, h1, h2, h3⟩ := h
  exact rleft_any C b v zs p f w h1
theorem Rb.at_le {w0 w : World} {B b : Nat} {zs : List Nat} {p : Nat} {f : Int} (h : Rb w0 B w b zs p f) : p ≤ 8 * zs.length ∧ zs.length ≤ 1048576 := by
  obtain ⟨C, v, h1, _⟩ := h
  exact ⟨h1.at_le, h1.few⟩
theorem Rb.drewN {w0 w : World} {B b : Nat} {zs : List Nat} {p : Nat} {f : Int} (h : Rb w0 B w b zs p f) (n : Nat) : Rb w0 B (w.drewN n) b zs p f := by
  obtain ⟨C, v, h1, h2, h3⟩ := h
  exact ⟨C, v, h1.frame (fun _ _ => rfl), h2, h3.trans ⟨rfl, rfl, rfl, Nat.le_refl _, fun _ _ => rfl⟩⟩
theorem left_quiet (b : Nat) (zs : List Nat) (p : Nat) (f : Int) (w0 w : World) (B : Nat) (h : Rb w0 B w b zs p f) (n : Nat) :
    Calls Try.prog 19 #[.pointer (some ⟨b, 0, none⟩)] (w.drewN n) fun e w' => e = .returned (.int .i64 ((zs.length : Int) * 8 - (p : Int))) ∧ ∃ m, w' = (w.drewN n).drewN m := by
  refine (rb_left_any b zs p f w0 _ B (h.drewN n)).mono ?_
  rintro e w' ⟨rfl, rfl⟩
  exact ⟨rfl, 1, rfl⟩
theorem rb_end_any (b : Nat) (zs : List Nat) (p : Nat) (f : Int) (w0 w : World) (B : Nat) (h : Rb w0 B w b zs p f) (hf : f ≠ 0) :
    Calls Try.prog 20 #[.pointer (some ⟨b, 0, none⟩)] w fun e w' => e = .returned (.int .i64 f) ∧ w = w' := by
  obtain ⟨C, v, h1, h2, h3⟩ := h
  exact end_fault C b v zs p f w h1 hf

/-- A list of numbers by its first n. -/
def listOf (f : Nat → Nat) (n : Nat) : List Nat := (List.range n).map f
theorem listOf_length (f : Nat → Nat) (n : Nat) : (listOf f n).length = n := by simp [listOf]
theorem arg_bytes {w : World} {ao : Option Addr} {len cap : Nat} {f : Nat → Nat} (hA : ArgIn (fun z : Nat => Value.int .u8 (z : Int)) w ao len cap f) (m : Nat) (hm : m ≤ len) (W : World) (hW : Below w.heap.size w W) :
    BytesAt W (.slice ao m cap) (listOf f m) := by
  cases ao with
  | none =>
    obtain ⟨h1, h2⟩ := hA.nil rfl
    have : m = 0 := by omega
    subst this h2
    exact .inl ⟨rfl, rfl⟩
  | some a =>
    refine .inr ⟨a, cap, by rw [listOf_length], fun j u hj => ?_⟩
    have hjl : j < m := by
      have := (List.getElem?_eq_some_iff.1 hj).1
      rw [bc_length, listOf_length] at this
      exact this
    obtain ⟨g, off, ha, hg, hc⟩ := hA.cell j (by omega)
    simp only [Option.some.injEq] at ha
    subst ha
    have hu : u = .int .u8 (f j : Int) := by
      simp [bc, listOf, hjl] at hj
      exact hj.symm
    subst hu
    have e : (⟨g, off, none⟩ : Addr).add j = ⟨g, off + j, none⟩ := plain_add g off j
    rw [e]
    exact (hW.cell (p := ⟨g, off + j, none⟩) hg).trans hc

theorem rb_make (v : Value) (zs : List Nat) (w0 w : World) (hb : Below w0.heap.size w0 w) (h : BytesAt w v zs) (hf : zs.length ≤ 1048576) (hz : ∀ z ∈ zs, z ≤ 255) :
    Calls Try.prog 13 #[v] w fun e w' => ∃ rb, e = .returned (.pointer (some ⟨rb, 0, none⟩)) ∧ Rb w0 w0.heap.size w' rb zs 0 0 := by
  refine (newReader_any v zs w h hf hz).mono ?_
  rintro e w' ⟨rb, rv, rfl, hR, hB⟩
  exact ⟨rb, rfl, rb_start hb hb.size hR hB⟩

end Go.Proofs.Ytbdlcmpljhbebaa
