/-
  The statement BitsLong: its walk.
-/
import Derived.Test.YtifcfoipeocmiaaBitsPlain4
import Derived.Test.YtifcfoipeocmiaaBitsFullW
set_option linter.unusedVariables false
namespace Go.Proofs.Ytifcfoipeocmiaa
open Go.RowKit Bp

/-- A writer in block b that has laid the bits bs, all below B as it was in w0. -/
def Wb (w0 : World) (B : Nat) (w : World) (b : Nat) (bs : List Bool) : Prop := ∃ v, Wr w b v bs ∧ Below B w0 w ∧ B ≤ b
theorem wb_start (w0 w : World) (hb : Below w0.heap.size w0 w) : Wb w0 w0.heap.size (w.alloc (.cells #[.slice none 0 0, .int .i64 0] 47)) w.heap.size [] :=
  ⟨_, wr_start w, hb.alloc hb.size _, hb.size⟩
theorem Wb.lays {w0 w w' : World} {B b : Nat} {v : Value} {bs more : List Bool} (h : Wr w b v bs) (hb : Below B w0 w) (hB : B ≤ b) (hl : Lays w b v bs more w') : Wb w0 B w' b (bs ++ more) := by
  obtain ⟨v', h', ht⟩ := hl
  exact ⟨v', h', hb.trans (ht.below B (by have := (h.lt (k := b) (.inl rfl)).2; omega) (fun k hk => by have := (h.lt hk).1; omega)), hB⟩
theorem Wb.below {w0 w : World} {B b : Nat} {bs : List Bool} (h : Wb w0 B w b bs) : Below B w0 w := by obtain ⟨v, _, h, _⟩ := h; exact h
theorem Wb.size {w0 w : World} {B b : Nat} {bs : List Bool} (h : Wb w0 B w b bs) : B ≤ w.heap.size := by
  obtain ⟨v, h, _, h2⟩ := h
  have := (h.lt (k := b) (.inl rfl)).2
  omega
theorem wb_put (b n m : Nat) (N M : Int) (w0 w : World) (B : Nat) (bs : List Bool) (h : Wb w0 B w b bs) (hn : n < 18446744073709551616) (hm : m ≤ 64) (hl : bs.length + m ≤ 1048576) (hN : N = n) (hM : M = m) :
    Calls Try.prog 10 #[.pointer (some ⟨b, 0, none⟩), .int .u64 N, .int .i64 M] w fun e w' => e = .returned (.int .i64 0) ∧ Wb w0 B w' b (bs ++ bitsOf n m) := by
  subst hN hM
  obtain ⟨v, h1, h2, h3⟩ := h
  refine (put_ok b n m v bs w h1 hn hm hl).mono ?_
  rintro e w' ⟨rfl, hL⟩
  exact ⟨rfl, Wb.lays h1 h2 h3 hL⟩
theorem wb_count (b n : Nat) (N : Int) (w0 w : World) (B : Nat) (bs : List Bool) (h : Wb w0 B w b bs) (hn : n + 1 < 18446744073709551616) (hl : bs.length + (2 * kz n + 1) ≤ 1048576) (hN : N = n) :
    Calls Try.prog 8 #[.pointer (some ⟨b, 0, none⟩), .int .u64 N] w fun e w' => e = .returned (.int .i64 0) ∧ Wb w0 B w' b (bs ++ countBits n) := by
  subst hN
  obtain ⟨v, h1, h2, h3⟩ := h
  refine (count_ok b n v bs w h1 hn hl).mono ?_
  rintro e w' ⟨rfl, hL⟩
  exact ⟨rfl, Wb.lays h1 h2 h3 hL⟩
theorem wb_len (b : Nat) (X : Int) (w0 w : World) (B : Nat) (bs : List Bool) (h : Wb w0 B w b bs) (hX : X = bs.length) :
    Calls Try.prog 12 #[.pointer (some ⟨b, 0, none⟩)] w fun e w' => e = .returned (.int .i64 X) ∧ w = w' := by
  subst hX
  obtain ⟨v, h1, h2, h3⟩ := h
  exact len_any b _ w h1.cells.2.1
/-- Out of a writer: bytes in new memory. -/
theorem wb_out (b : Nat) (w0 w : World) (B : Nat) (bs : List Bool) (h : Wb w0 B w b bs) :
    Calls Try.prog 13 #[.pointer (some ⟨b, 0, none⟩)] w fun e w' => ∃ a cap, e = .returned (.slice a (nb bs.length) cap) ∧ w'.ownsRow w.heap.size 5 1 (.slice a (nb bs.length) cap) (nb bs.length) (bc (pack bs)) ∧ Wb w0 B w' b bs := by
  obtain ⟨v, h1, h2, h3⟩ := h
  refine (out_val b v bs w h1).mono ?_
  rintro e w' ⟨a, cap, rfl, ho, hb⟩
  have hlt := (h1.lt (k := b) (.inl rfl)).2
  exact ⟨a, cap, rfl, ho, v, h1.below hb, h2.trans (hb.mono (by omega)), h3⟩

theorem bytesAt_own {w : World} {base g n cap : Nat} {l : List Nat} (h : w.ownsRow base 5 1 (.slice (some ⟨g, 0, none⟩) n cap) n (bc l)) (c : Nat) (hc : c ≤ n) : BytesAt w (.slice (some ⟨g, 0, none⟩) c cap) (l.take c) := by
  have hl : l.length = n := by have := h.1; rw [bc_length] at this; omega
  refine .inr ⟨_, cap, by rw [List.length_take, hl]; congr 1; omega, fun j u hj => ?_⟩
  have hx := h.cells (g := g) rfl j u
  have : (bc (l.take c))[j]? = (bc l)[j]? ∨ (bc (l.take c))[j]? = none := by
    rcases Nat.lt_or_ge j c with y | y
    · left; simp [bc, y]
    · right; exact List.getElem?_eq_none (by rw [bc_length, List.length_take]; omega)
  rcases this with e | e
  · rw [e] at hj; exact hx hj
  · rw [e] at hj; cases hj

theorem long_out (b x : Nat) (w0 w : World) (B : Nat) (h : Wb w0 B w b (countBits x)) :
    Calls Try.prog 13 #[.pointer (some ⟨b, 0, none⟩)] w fun e w' => ∃ g cap L, e = .returned (.slice (some ⟨g, 0, none⟩) L cap) ∧ L = nb (2 * kz x + 1) ∧ L ≤ cap ∧ (∀ c, c ≤ L → BytesAt w' (.slice (some ⟨g, 0, none⟩) c cap) ((pack (countBits x)).take c)) ∧ Wb w0 B w' b (countBits x) := by
  refine (wb_out b w0 w B _ h).mono ?_
  rintro e w' ⟨a, cap, rfl, ho, hW⟩
  rw [countBits_length] at ho ⊢
  rcases ho.2 with ⟨_, h0⟩ | ⟨g, cap', cur, hv, hg, hh, hnc, hcm, hcs, htake⟩
  · unfold nb at h0; omega
  · rw [hv] at ho ⊢
    exact ⟨g, cap', _, rfl, rfl, hnc, fun c hc => bytesAt_own ho c hc, hW⟩

end Go.Proofs.Ytifcfoipeocmiaa
