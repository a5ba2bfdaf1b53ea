/-
  The shelf's contract of math/bits.Len64 at this program: it returns how many bits the number has.
  The writer's call Count.
  Writers beside each other; what Out answers, as a text.
  The document's examples, at the head of all statements of layer 1: they hold.
  The statement BitsFull: its walk.
-/
import Derived.Test.YtnamnikelgcepaaProg
import Derived.Test.YtnamnikelgcepaaBtOne
import Derived.Laws.BytesArg
import Derived.Deep.LoopGhost
set_option linter.unusedVariables false
section
namespace Go.Proofs
end Go.Proofs
end

section
namespace Go.Proofs.Ytnamnikelgcepaa
open Go.RowKit Bp





theorem spread_int (b n many : Nat) (N M : Int) (v : Value) (bs : List Bool) (w : World) (h : Wr w b v bs) (hn : n < 18446744073709551616) (hm : many ≤ 64) (hlt : bs.length + many ≤ 1048576) (hN : N = n) (hM : M = many) :
    Calls Try.prog 63 #[.int .u64 N, .int .i64 M, .func (.func 64) #[.pointer (some ⟨b, 0, none⟩)] #[]] w fun e w' => e = .returned (.tuple #[]) ∧ Lays w b v bs (bitsOf n many) w' := by
  subst hN hM; exact spread_any b n many v bs w h hn hm hlt


end Go.Proofs.Ytnamnikelgcepaa
end

section
namespace Go.Proofs.Ytnamnikelgcepaa
open Go.RowKit Bp

theorem Wr.frame {w w' : World} {b : Nat} {v : Value} {bs : List Bool} (h : Wr w b v bs) (hk : ∀ k, WF b v k → w'.heap[k]? = w.heap[k]?) : Wr w' b v bs :=
  ⟨(hk b (.inl rfl)).trans h.box, ownsRow_same h.row (fun k e => hk k (.inr e)), h.few⟩
theorem Wr.lt {w : World} {b : Nat} {v : Value} {bs : List Bool} (h : Wr w b v bs) {k : Nat} (hk : WF b v k) : b ≤ k ∧ k < w.heap.size := by
  rcases hk with rfl | hk
  · exact ⟨Nat.le_refl _, lt_of_heap h.box⟩
  · have := h.row.lt k hk
    exact ⟨by omega, this.2⟩
theorem Wr.below {w w' : World} {b : Nat} {v : Value} {bs : List Bool} (h : Wr w b v bs) (hb : Below w.heap.size w w') : Wr w' b v bs :=
  h.frame fun k hk => hb.block k (h.lt hk).2

theorem wr_start (w : World) : Wr (w.alloc (.cells #[.slice none 0 0, .int .i64 0] 89)) w.heap.size (.slice none 0 0) [] :=
  ⟨heap_alloc_new w _, by exact World.ownsRow_nil _ _ _ _, by simp⟩

theorem ownsRow_shape {w : World} {base : Nat} {e : TypeId} {size : Nat} {v : Value} {n : Nat} {xs : List Value} (h : w.ownsRow base e size v n xs) : ∃ a cap, v = .slice a n cap := by
  rcases h.2 with ⟨rfl, rfl⟩ | ⟨g, cap, cur, rfl, _⟩
  · exact ⟨none, 0, rfl⟩
  · exact ⟨_, cap, rfl⟩

/-- A list of numbers as a text. -/
def strOf (l : List Nat) : ByteArray := strOfNums (l.map fun n : Nat => (n : Int))
theorem conv_own {w : World} {base : Nat} {v : Value} {l : List Nat} {n : Nat} (h : w.ownsRow base 5 1 v n (bc l)) :
    (convert 22 9 v).run Try.prog w = .ok (.string (strOf l)) w := by
  have hl : l.length = n := by have := h.1; rw [bc_length] at this; omega
  rcases h.2 with ⟨rfl, rfl⟩ | ⟨g, cap, cur, rfl, _⟩
  · have : l = [] := List.eq_nil_of_length_eq_zero hl
    subst this
    exact run_convert_bytes_nil w _ _ Try.underlying22 Try.underlying5 0 0 _ Try.underlying9
  · refine run_convert_bytes_arg w _ _ Try.underlying22 Try.underlying5 g 0 n cap (l.map fun n : Nat => (n : Int)) (by simpa using hl) (fun i hi => ?_) _ Try.underlying9
    have := h.cellAt i (by omega)
    rw [Nat.zero_add, this]
    simp [bc, List.getD, List.getElem?_eq_getElem (show i < l.length by omega)]

theorem out_val (b : Nat) (v : Value) (bs : List Bool) (w : World) (h : Wr w b v bs) :
    Calls Try.prog 56 #[.pointer (some ⟨b, 0, none⟩)] w fun e w' => ∃ a cap, e = .returned (.slice a (nb bs.length) cap) ∧ w'.ownsRow w.heap.size 5 1 (.slice a (nb bs.length) cap) (nb bs.length) (bc (pack bs)) ∧ Below w.heap.size w w' := by
  refine (out_any b v bs w h).mono ?_
  rintro e w' ⟨v', rfl, ho, hb⟩
  obtain ⟨a, cap, rfl⟩ := ownsRow_shape ho
  exact ⟨a, cap, rfl, ho, hb⟩

/-- Two writers beside each other, in the blocks B and B + 1, all that was below B as it was. -/
def Two (w0 w : World) (B : Nat) (bs cs : List Bool) : Prop :=
  ∃ v u, Wr w B v bs ∧ Wr w (B + 1) u cs ∧ (∀ k, WF B v k → ¬ WF (B + 1) u k) ∧ Below B w0 w
theorem two_start (w : World) : Two w ((w.alloc (.cells #[.slice none 0 0, .int .i64 0] 89)).alloc (.cells #[.slice none 0 0, .int .i64 0] 89)) w.heap.size [] [] := by
  have h1 := wr_start w
  have h2 := wr_start (w.alloc (.cells #[.slice none 0 0, .int .i64 0] 89))
  have e : (w.alloc (.cells #[.slice none 0 0, .int .i64 0] 89)).heap.size = w.heap.size + 1 := by simp
  rw [e] at h2
  refine ⟨_, _, h1.frame ?_, h2, ?_, ((Below.refl _ _).alloc (Nat.le_refl _) _).alloc (by simp) _⟩
  · intro k hk
    exact Below.heap_alloc _ _ _ (h1.lt hk).2
  · rintro k (rfl | h) (h' | h')
    · omega
    · simp [Value.ownBlock] at h'
    · simp [Value.ownBlock] at h
    · simp [Value.ownBlock] at h
theorem Two.left {w0 w w' : World} {B : Nat} {bs cs more : List Bool} {v u : Value} (h1 : Wr w B v bs) (h2 : Wr w (B + 1) u cs) (hd : ∀ k, WF B v k → ¬ WF (B + 1) u k) (hb : Below B w0 w)
    (hl : Lays w B v bs more w') : Two w0 w' B (bs ++ more) cs := by
  obtain ⟨v', h3, ht⟩ := hl
  refine ⟨v', u, h3, h2.frame (fun k hk => ht.block k (h2.lt hk).2 (fun x => hd k x hk)), ?_, hb.trans (ht.below B (by have := (h1.lt (k := B) (.inl rfl)).2; omega) (fun k hk => (h1.lt hk).1))⟩
  intro k hk hk2
  rcases ht.foot k hk with x | x
  · exact hd k x hk2
  · have := (h2.lt hk2).2; omega
theorem Two.right {w0 w w' : World} {B : Nat} {bs cs more : List Bool} {v u : Value} (h1 : Wr w B v bs) (h2 : Wr w (B + 1) u cs) (hd : ∀ k, WF B v k → ¬ WF (B + 1) u k) (hb : Below B w0 w)
    (hl : Lays w (B + 1) u cs more w') : Two w0 w' B bs (cs ++ more) := by
  obtain ⟨u', h3, ht⟩ := hl
  refine ⟨v, u', h1.frame (fun k hk => ht.block k (h1.lt hk).2 (fun x => hd k hk x)), h3, ?_, hb.trans (ht.below B (by have := (h1.lt (k := B) (.inl rfl)).2; omega) (fun k hk => by have := (h2.lt hk).1; omega))⟩
  intro k hk1 hk
  rcases ht.foot k hk with x | x
  · exact hd k hk1 x
  · have := (h1.lt hk1).2; omega
theorem Two.still {w0 w w' : World} {B : Nat} {bs cs : List Bool} (h : Two w0 w B bs cs) (hb : Below w.heap.size w w') : Two w0 w' B bs cs := by
  obtain ⟨v, u, h1, h2, hd, h0⟩ := h
  have := (h1.lt (k := B) (.inl rfl)).2
  exact ⟨v, u, h1.below hb, h2.below hb, hd, h0.trans (hb.mono (by omega))⟩

/-- Put on the first of two writers. -/
theorem two_put (B n m : Nat) (w0 w : World) (bs cs : List Bool) (h : Two w0 w B bs cs) (hn : n < 18446744073709551616) (hm : m ≤ 64) (hl : bs.length + m ≤ 1048576) :
    Calls Try.prog 55 #[.pointer (some ⟨B, 0, none⟩), .int .u64 (n : Int), .int .i64 (m : Int)] w fun e w' => e = .returned (.int .i64 0) ∧ Two w0 w' B (bs ++ bitsOf n m) cs := by
  obtain ⟨v, u, h1, h2, hd, h0⟩ := h
  refine (put_ok B n m v bs w h1 hn hm hl).mono ?_
  rintro e w' ⟨rfl, hL⟩
  exact ⟨rfl, Two.left h1 h2 hd h0 hL⟩
/-- Out of either, and its text. -/
theorem two_out1 (B : Nat) (w0 w : World) (bs cs : List Bool) (h : Two w0 w B bs cs) :
    Calls Try.prog 56 #[.pointer (some ⟨B, 0, none⟩)] w fun e w' => ∃ a cap, e = .returned (.slice a (nb bs.length) cap) ∧ (convert 22 9 (.slice a (nb bs.length) cap)).run Try.prog w' = .ok (.string (strOf (pack bs))) w' ∧ Two w0 w' B bs cs := by
  obtain ⟨v, u, h1, h2, hd, h0⟩ := h
  refine (out_val B v bs w h1).mono ?_
  rintro e w' ⟨a, cap, rfl, ho, hb⟩
  exact ⟨a, cap, rfl, conv_own ho, Two.still ⟨v, u, h1, h2, hd, h0⟩ hb⟩
theorem two_out2 (B : Nat) (w0 w : World) (bs cs : List Bool) (h : Two w0 w B bs cs) :
    Calls Try.prog 56 #[.pointer (some ⟨B + 1, 0, none⟩)] w fun e w' => ∃ a cap, e = .returned (.slice a (nb cs.length) cap) ∧ (convert 22 9 (.slice a (nb cs.length) cap)).run Try.prog w' = .ok (.string (strOf (pack cs))) w' ∧ Two w0 w' B bs cs := by
  obtain ⟨v, u, h1, h2, hd, h0⟩ := h
  refine (out_val (B + 1) u cs w h2).mono ?_
  rintro e w' ⟨a, cap, rfl, ho, hb⟩
  exact ⟨a, cap, rfl, conv_own ho, Two.still ⟨v, u, h1, h2, hd, h0⟩ hb⟩

end Go.Proofs.Ytnamnikelgcepaa
end

section
namespace Go.Proofs.Ytnamnikelgcepaa
open Go.RowKit Bp

theorem kz0 : kz 0 = 0 := by decide
theorem kz1 : kz 1 = 1 := by decide
theorem kz4 : kz 4 = 2 := by decide
def ex1 : List Bool := [true, false, true]
def ex2 : List Bool := [true, false, true, false, true]
def cx1 : List Bool := [true]
def cx2 : List Bool := [true, false, true, false]
def cx3 : List Bool := [true, false, true, false, false, false, true, false, true]

theorem sh_put5 (B : Nat) (w0 w : World) (h : Two w0 w B [] []) :
    Calls Try.prog 55 #[.pointer (some ⟨B, 0, none⟩), .int .u64 5, .int .i64 3] w fun e w' => e = .returned (.int .i64 0) ∧ Two w0 w' B ex1 [] :=
  two_put B 5 3 w0 w [] [] h (by decide) (by decide) (by decide)
theorem sh_put1 (B : Nat) (w0 w : World) (h : Two w0 w B ex1 []) :
    Calls Try.prog 55 #[.pointer (some ⟨B, 0, none⟩), .int .u64 1, .int .i64 2] w fun e w' => e = .returned (.int .i64 0) ∧ Two w0 w' B ex2 [] :=
  two_put B 1 2 w0 w ex1 [] h (by decide) (by decide) (by decide)
theorem sh_out0 (B : Nat) (w0 w : World) (h : Two w0 w B [] []) :
    Calls Try.prog 56 #[.pointer (some ⟨B, 0, none⟩)] w fun e w' => ∃ a cap, e = .returned (.slice a 0 cap) ∧ Two w0 w' B [] [] := by
  refine (two_out1 B w0 w [] [] h).mono ?_
  rintro e w' ⟨a, cap, rfl, _, ht⟩
  exact ⟨a, cap, rfl, ht⟩
theorem sh_out1 (B : Nat) (w0 w : World) (h : Two w0 w B ex2 cx3) :
    Calls Try.prog 56 #[.pointer (some ⟨B, 0, none⟩)] w fun e w' => ∃ a cap, e = .returned (.slice a 1 cap) ∧ (convert 22 9 (.slice a 1 cap)).run Try.prog w' = .ok (.string ⟨#[168]⟩) w' ∧ Two w0 w' B ex2 cx3 := by
  refine (two_out1 B w0 w ex2 cx3 h).mono ?_
  rintro e w' ⟨a, cap, rfl, hc, ht⟩
  have : strOf (pack ex2) = ⟨#[168]⟩ := by decide +kernel
  rw [this] at hc
  exact ⟨a, cap, rfl, hc, ht⟩
theorem sh_out2 (B : Nat) (w0 w : World) (h : Two w0 w B ex2 cx3) :
    Calls Try.prog 56 #[.pointer (some ⟨B + 1, 0, none⟩)] w fun e w' => ∃ a cap, e = .returned (.slice a 2 cap) ∧ (convert 22 9 (.slice a 2 cap)).run Try.prog w' = .ok (.string ⟨#[162, 128]⟩) w' ∧ Two w0 w' B ex2 cx3 := by
  refine (two_out2 B w0 w ex2 cx3 h).mono ?_
  rintro e w' ⟨a, cap, rfl, hc, ht⟩
  have : strOf (pack cx3) = ⟨#[162, 128]⟩ := by decide +kernel
  rw [this] at hc
  exact ⟨a, cap, rfl, hc, ht⟩


end Go.Proofs.Ytnamnikelgcepaa
end

section
namespace Go.Proofs.Ytnamnikelgcepaa
open Go.RowKit Bp

/-- A writer in block b that has laid L bits, all below B as it was in w0. -/
def Wl (w0 : World) (B : Nat) (w : World) (b L : Nat) : Prop := ∃ v bs, Wr w b v bs ∧ bs.length = L ∧ Below B w0 w ∧ B ≤ b
theorem wl_start (w0 w : World) (hb : Below w0.heap.size w0 w) : Wl w0 w0.heap.size (w.alloc (.cells #[.slice none 0 0, .int .i64 0] 89)) w.heap.size 0 :=
  ⟨_, _, wr_start w, rfl, hb.alloc hb.size _, hb.size⟩
theorem Wl.lays {w0 w w' : World} {B b : Nat} {v : Value} {bs more : List Bool} (h : Wr w b v bs) (hb : Below B w0 w) (hB : B ≤ b) (hl : Lays w b v bs more w') : Wl w0 B w' b (bs.length + more.length) := by
  obtain ⟨v', h', ht⟩ := hl
  exact ⟨v', _, h', by simp, hb.trans (ht.below B (by have := (h.lt (k := b) (.inl rfl)).2; omega) (fun k hk => by have := (h.lt hk).1; omega)), hB⟩
theorem wl_put (b n m L : Nat) (N M : Int) (w0 w : World) (B : Nat) (h : Wl w0 B w b L) (hn : n < 18446744073709551616) (hm : m ≤ 64) (hl : L + m ≤ 1048576) (hN : N = n) (hM : M = m) :
    Calls Try.prog 55 #[.pointer (some ⟨b, 0, none⟩), .int .u64 N, .int .i64 M] w fun e w' => e = .returned (.int .i64 0) ∧ Wl w0 B w' b (L + m) := by
  subst hN hM
  obtain ⟨v, bs, h1, rfl, h2, h3⟩ := h
  refine (put_ok b n m v bs w h1 hn hm hl).mono ?_
  rintro e w' ⟨rfl, hL⟩
  have := Wl.lays h1 h2 h3 hL
  rw [bitsOf_length] at this
  exact ⟨rfl, this⟩
theorem wl_long (b m L : Nat) (N M : Int) (w0 w : World) (B : Nat) (h : Wl w0 B w b L) (hm : m ≤ 64) (hl : 1048576 < L + m) (hM : M = m) :
    Calls Try.prog 55 #[.pointer (some ⟨b, 0, none⟩), .int .u64 N, .int .i64 M] w fun e w' => e = .returned (.int .i64 4) ∧ w = w' := by
  subst hM
  obtain ⟨v, bs, h1, rfl, h2, h3⟩ := h
  exact put_long b m N v bs w h1 hm hl
theorem wl_out (b L : Nat) (w0 w : World) (B : Nat) (h : Wl w0 B w b L) :
    Calls Try.prog 56 #[.pointer (some ⟨b, 0, none⟩)] w fun e w' => ∃ a cap, e = .returned (.slice a (nb L) cap) ∧ Wl w0 B w' b L := by
  obtain ⟨v, bs, h1, rfl, h2, h3⟩ := h
  refine (out_val b v bs w h1).mono ?_
  rintro e w' ⟨a, cap, rfl, ho, hb⟩
  have hlt := (h1.lt (k := b) (.inl rfl)).2
  exact ⟨a, cap, rfl, v, bs, h1.below hb, rfl, h2.trans (hb.mono (by omega)), h3⟩

end Go.Proofs.Ytnamnikelgcepaa
end
