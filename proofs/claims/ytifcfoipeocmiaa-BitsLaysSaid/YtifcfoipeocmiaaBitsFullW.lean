/-
  The statement BitsFull: its walk.
-/
import Derived.Test.YtifcfoipeocmiaaBitsW6
import Derived.Deep.LoopGhost
set_option linter.unusedVariables false
namespace Go.Proofs.Ytifcfoipeocmiaa
open Go.RowKit Bp

/-- A writer in block b that has laid L bits, all below B as it was in w0. -/
def Wl (w0 : World) (B : Nat) (w : World) (b L : Nat) : Prop := ∃ v bs, Wr w b v bs ∧ bs.length = L ∧ Below B w0 w ∧ B ≤ b
theorem wl_start (w0 w : World) (hb : Below w0.heap.size w0 w) : Wl w0 w0.heap.size (w.alloc (.cells #[.slice none 0 0, .int .i64 0] 47)) w.heap.size 0 :=
  ⟨_, _, wr_start w, rfl, hb.alloc hb.size _, hb.size⟩
theorem Wl.lays {w0 w w' : World} {B b : Nat} {v : Value} {bs more : List Bool} (h : Wr w b v bs) (hb : Below B w0 w) (hB : B ≤ b) (hl : Lays w b v bs more w') : Wl w0 B w' b (bs.length + more.length) := by
  obtain ⟨v', h', ht⟩ := hl
  exact ⟨v', _, h', by simp, hb.trans (ht.below B (by have := (h.lt (k := b) (.inl rfl)).2; omega) (fun k hk => by have := (h.lt hk).1; omega)), hB⟩
theorem wl_put (b n m L : Nat) (N M : Int) (w0 w : World) (B : Nat) (h : Wl w0 B w b L) (hn : n < 18446744073709551616) (hm : m ≤ 64) (hl : L + m ≤ 1048576) (hN : N = n) (hM : M = m) :
    Calls Try.prog 10 #[.pointer (some ⟨b, 0, none⟩), .int .u64 N, .int .i64 M] w fun e w' => e = .returned (.int .i64 0) ∧ Wl w0 B w' b (L + m) := by
  subst hN hM
  obtain ⟨v, bs, h1, rfl, h2, h3⟩ := h
  refine (put_ok b n m v bs w h1 hn hm hl).mono ?_
  rintro e w' ⟨rfl, hL⟩
  have := Wl.lays h1 h2 h3 hL
  rw [bitsOf_length] at this
  exact ⟨rfl, this⟩
theorem wl_long (b m L : Nat) (N M : Int) (w0 w : World) (B : Nat) (h : Wl w0 B w b L) (hm : m ≤ 64) (hl : 1048576 < L + m) (hM : M = m) :
    Calls Try.prog 10 #[.pointer (some ⟨b, 0, none⟩), .int .u64 N, .int .i64 M] w fun e w' => e = .returned (.int .i64 4) ∧ w = w' := by
  subst hM
  obtain ⟨v, bs, h1, rfl, h2, h3⟩ := h
  exact put_long b m N v bs w h1 hm hl
theorem wl_len (b L : Nat) (w0 w : World) (B : Nat) (h : Wl w0 B w b L) :
    Calls Try.prog 12 #[.pointer (some ⟨b, 0, none⟩)] w fun e w' => e = .returned (.int .i64 (L : Int)) ∧ w = w' := by
  obtain ⟨v, bs, h1, rfl, h2, h3⟩ := h
  exact len_any b _ w h1.cells.2.1
theorem wl_len_at (b L : Nat) (X : Int) (w0 w : World) (B : Nat) (h : Wl w0 B w b L) (hX : X = L) :
    Calls Try.prog 12 #[.pointer (some ⟨b, 0, none⟩)] w fun e w' => e = .returned (.int .i64 X) ∧ w = w' := by
  subst hX; exact wl_len b L w0 w B h
theorem wl_out (b L : Nat) (w0 w : World) (B : Nat) (h : Wl w0 B w b L) :
    Calls Try.prog 13 #[.pointer (some ⟨b, 0, none⟩)] w fun e w' => ∃ a cap, e = .returned (.slice a (nb L) cap) ∧ Wl w0 B w' b L := by
  obtain ⟨v, bs, h1, rfl, h2, h3⟩ := h
  refine (out_val b v bs w h1).mono ?_
  rintro e w' ⟨a, cap, rfl, ho, hb⟩
  have hlt := (h1.lt (k := b) (.inl rfl)).2
  exact ⟨a, cap, rfl, v, bs, h1.below hb, rfl, h2.trans (hb.mono (by omega)), h3⟩

end Go.Proofs.Ytifcfoipeocmiaa
