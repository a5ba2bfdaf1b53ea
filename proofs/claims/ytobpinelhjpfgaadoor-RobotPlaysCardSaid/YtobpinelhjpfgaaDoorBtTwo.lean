/-
  The shelf's contract of math/bits.Len64 at this program: it returns how many bits the number has.
  The writer's call Count.
  Writers beside each other; what Out answers, as a text.
  The document's examples, at the head of all statements of layer 1: they hold.
  The statement BitsFull: its walk.
-/
import Derived.Shelf.Strconv.Itoa0
import Derived.Test.YtobpinelhjpfgaaDoorProg
import Derived.Test.YtobpinelhjpfgaaDoorBtOne
import Derived.Lib.ItoaNum
import Derived.Laws.BytesArg
import Derived.Deep.LoopGhost
set_option linter.unusedVariables false
section
namespace Go.Proofs
open Go.Shelf
def Tryd.lays129_ren : Go.Shelf.Ren := ⟨fun | 129 => 111 | n => n, fun | 53 => 34 | 3 => 3 | 4 => 4 | 46 => 157 | 5 => 5 | 9 => 9 | n => n, fun | n => n⟩
theorem Tryd.lays129 : Go.Proofs.Lays.n129 Tryd.prog Tryd.lays129_ren := {
  mixed := by kernel_rfl
  f129 := Tryd.func111.trans (congrArg some (by kernel_rfl))
  t3 := Tryd.underlying3
  a3 := Tryd.isAgg3
  z3 := Tryd.sizeOf3
  v3 := Tryd.zeroValue3
  t4 := Tryd.underlying4
  a4 := Tryd.isAgg4
  z4 := Tryd.sizeOf4
  v4 := Tryd.zeroValue4
  t5 := Tryd.underlying5
  a5 := Tryd.isAgg5
  z5 := Tryd.sizeOf5
  v5 := Tryd.zeroValue5
  t9 := Tryd.underlying9
  a9 := Tryd.isAgg9
  z9 := Tryd.sizeOf9
  v9 := Tryd.zeroValue9
  t46 := Tryd.underlying157
  a46 := Tryd.isAgg157
  z46 := Tryd.sizeOf157
  v46 := Tryd.zeroValue157
  t53 := Tryd.underlying34
  a53 := Tryd.isAgg34
  z53 := Tryd.sizeOf34
  v53 := Tryd.zeroValue34 }
theorem Tryd.bits_Len64 (x : Int) (w : World) (h0 : 0 ≤ x) (h1 : x ≤ 18446744073709551615) :
    Calls Tryd.prog 111 #[.int .u64 x] w fun e w' => e = .returned (.int .i64 (Lib.bitLen x.toNat)) ∧ w' = w := Any.bits_Len64 Tryd.lays129 x w h0 h1
end Go.Proofs
end

section
namespace Go.Proofs.YtobpinelhjpfgaaDoor
open Go.RowKit Bp

theorem bitLen_kz (n : Nat) (h : n + 1 < 18446744073709551616) : Lib.bitLen (n + 1) = kz n + 1 := by
  obtain ⟨h1, h2, h3⟩ := Lib.bitLenAux_bounds 64 (n + 1) (by simpa using h) (by omega)
  have e : Lib.bitLenAux 64 (n + 1) - 1 + 1 = Lib.bitLenAux 64 (n + 1) := by omega
  have := pow_unique (Lib.bitLenAux 64 (n + 1) - 1) (kz n) (n + 1) h2 (by rw [e]; exact h3) (kz_le n) (kz_lt n)
  unfold Lib.bitLen
  omega

theorem len64_any (n : Nat) (w : World) (h : n + 1 < 18446744073709551616) :
    Calls Tryd.prog 111 #[.int .u64 ((n : Int) + 1)] w fun e w' => e = .returned (.int .i64 ((kz n : Int) + 1)) ∧ w = w' := by
  refine (Tryd.bits_Len64 ((n : Int) + 1) w (by omega) (by omega)).mono ?_
  rintro e w' ⟨rfl, rfl⟩
  refine ⟨?_, rfl⟩
  have e1 : ((n : Int) + 1).toNat = n + 1 := by omega
  rw [e1, bitLen_kz n h]
  rfl

theorem count_arg (b : Nat) (w : World) :
    Calls Tryd.prog 88 #[.pointer (some ⟨b, 0, none⟩), .int .u64 18446744073709551615] w fun e w' => e = .returned (.int .i64 1) ∧ w = w' := by
  go_enter Tryd.func88, Tryd.ntmps88
  go_wp2
  go_ret
  exact ⟨rfl, rfl⟩

set_option maxHeartbeats 400000 in
theorem count_long (b n : Nat) (v : Value) (bs : List Bool) (w : World) (h : Wr w b v bs) (hn : n + 1 < 18446744073709551616) (hl : 1048576 < bs.length + (2 * kz n + 1)) :
    Calls Tryd.prog 88 #[.pointer (some ⟨b, 0, none⟩), .int .u64 (n : Int)] w fun e w' => e = .returned (.int .i64 4) ∧ w = w' := by
  have hk := kz_63 n hn
  have hne : ((n : Int) == 18446744073709551615) = false := by rw [beq_eq_false_iff_ne]; omega
  have HL := Lib.hid (len64_any n w hn)
  have hr : decide ((kz n : Int) + (kz n : Int) + 1 ≤ 1048576 - (bs.length : Int)) = false := by simp; omega
  have hd := hasRoom_any b ((kz n : Int) + (kz n : Int) + 1) bs.length w h.cells.2.1 (by omega) (by have := h.few; omega)
  rw [hr] at hd
  have HD := Lib.hid hd
  clear hd hr hl h
  generalize kz n = k at *
  go_enter Tryd.func88, Tryd.ntmps88
  go_wp2_with (first | (go_at_call 111; refine HL.out.mono ?_; rintro e w' ⟨rfl, rfl⟩) | (go_at_call 108; refine HD.out.mono ?_; rintro e w' ⟨rfl, rfl⟩))
  go_ret
  exact ⟨rfl, rfl⟩

theorem spread_int (b n many : Nat) (N M : Int) (v : Value) (bs : List Bool) (w : World) (h : Wr w b v bs) (hn : n < 18446744073709551616) (hm : many ≤ 64) (hlt : bs.length + many ≤ 1048576) (hN : N = n) (hM : M = many) :
    Calls Tryd.prog 109 #[.int .u64 N, .int .i64 M, .func (.func 110) #[.pointer (some ⟨b, 0, none⟩)] #[]] w fun e w' => e = .returned (.tuple #[]) ∧ Lays w b v bs (bitsOf n many) w' := by
  subst hN hM; exact spread_any b n many v bs w h hn hm hlt

set_option maxHeartbeats 400000 in
theorem count_ok (b n : Nat) (v : Value) (bs : List Bool) (w : World) (h : Wr w b v bs) (hn : n + 1 < 18446744073709551616) (hl : bs.length + (2 * kz n + 1) ≤ 1048576) :
    Calls Tryd.prog 88 #[.pointer (some ⟨b, 0, none⟩), .int .u64 (n : Int)] w fun e w' => e = .returned (.int .i64 0) ∧ Lays w b v bs (countBits n) w' := by
  have hk := kz_63 n hn
  have hne : ((n : Int) == 18446744073709551615) = false := by rw [beq_eq_false_iff_ne]; omega
  have HL := Lib.hid (len64_any n w hn)
  have hr : decide ((kz n : Int) + (kz n : Int) + 1 ≤ 1048576 - (bs.length : Int)) = true := by simp; omega
  have hd := hasRoom_any b ((kz n : Int) + (kz n : Int) + 1) bs.length w h.cells.2.1 (by omega) (by have := h.few; omega)
  rw [hr] at hd
  have HD := Lib.hid hd
  have HS := Lib.hid (spread_int b 0 (kz n) 0 (kz n : Int) v bs w h (by decide) (by omega) (by omega) rfl rfl)
  have hfin : ∀ w1 v1 w2, Wr w1 b v1 (bs ++ bitsOf 0 (kz n)) → Turn (WF b v) (WF b v1) w w1 → Lays w1 b v1 (bs ++ bitsOf 0 (kz n)) (bitsOf (n + 1) (kz n + 1)) w2 → Lays w b v bs (countBits n) w2 := by
    rintro w1 v1 w2 h1 t1 ⟨v2, h2, t2⟩
    refine ⟨v2, ?_, t1.trans t2⟩
    rw [bitsOf_zero, List.append_assoc] at h2
    exact h2
  have HF := Lib.hid hfin
  have hlen : (bs ++ bitsOf 0 (kz n)).length = bs.length + kz n := by simp [bitsOf_length]
  have HLen := Lib.hid hlen
  clear hd hr h hfin hlen
  generalize hkk : kz n = k at *
  have HK := Lib.hid hkk
  clear hkk
  go_enter Tryd.func88, Tryd.ntmps88
  go_wp2_with (first | (go_at_call 111; refine HL.out.mono ?_; rintro e w' ⟨rfl, rfl⟩) | (go_at_call 108; refine HD.out.mono ?_; rintro e w' ⟨rfl, rfl⟩))
  refine HS.out.mono ?_
  rintro e w1 ⟨rfl, v1, h1, t1⟩
  have H1 := Lib.hid h1
  have T1 := Lib.hid t1
  clear h1 t1 HS HL HD
  go_wp2_with fail
  refine (spread_int b (n + 1) (k + 1) ((n : Int) + 1) ((k : Int) + 1) v1 _ w1 H1.out (by omega) (by omega) (by rw [HLen.out]; omega) (by simp) (by simp)).mono ?_
  rintro e w2 ⟨rfl, h2⟩
  have R := HF.out w1 v1 w2 H1.out T1.out h2
  clear h2
  go_wp2
  go_ret
  exact ⟨rfl, R⟩

end Go.Proofs.YtobpinelhjpfgaaDoor
end

section
namespace Go.Proofs.YtobpinelhjpfgaaDoor
open Go.RowKit Bp

theorem Wr.frame {w w' : World} {b : Nat} {v : Value} {bs : List Bool} (h : Wr w b v bs) (hk : ∀ k, WF b v k → w'.heap[k]? = w.heap[k]?) : Wr w' b v bs :=
  ⟨(hk b (.inl rfl)).trans h.box, ownsRow_same h.row (fun k e => hk k (.inr e)), h.few⟩
theorem Wr.lt {w : World} {b : Nat} {v : Value} {bs : List Bool} (h : Wr w b v bs) {k : Nat} (hk : WF b v k) : b ≤ k ∧ k < w.heap.size := by
  rcases hk with rfl | hk
  · exact ⟨Nat.le_refl _, lt_of_heap h.box⟩
  · have := h.row.lt k hk
    exact ⟨by omega, this.2⟩
theorem Wr.below {w w' : World} {b : Nat} {v : Value} {bs : List Bool} (h : Wr w b v bs) (hb : Below w.heap.size w w') : Wr w' b v bs :=
  h.frame fun k hk => hb.block k (h.lt hk).2

theorem wr_start (w : World) : Wr (w.alloc (.cells #[.slice none 0 0, .int .i64 0] 153)) w.heap.size (.slice none 0 0) [] :=
  ⟨heap_alloc_new w _, by exact World.ownsRow_nil _ _ _ _, by simp⟩

theorem ownsRow_shape {w : World} {base : Nat} {e : TypeId} {size : Nat} {v : Value} {n : Nat} {xs : List Value} (h : w.ownsRow base e size v n xs) : ∃ a cap, v = .slice a n cap := by
  rcases h.2 with ⟨rfl, rfl⟩ | ⟨g, cap, cur, rfl, _⟩
  · exact ⟨none, 0, rfl⟩
  · exact ⟨_, cap, rfl⟩

/-- A list of numbers as a text. -/
def strOf (l : List Nat) : ByteArray := strOfNums (l.map fun n : Nat => (n : Int))
theorem conv_own {w : World} {base : Nat} {v : Value} {l : List Nat} {n : Nat} (h : w.ownsRow base 5 1 v n (bc l)) :
    (convert 35 9 v).run Tryd.prog w = .ok (.string (strOf l)) w := by
  have hl : l.length = n := by have := h.1; rw [bc_length] at this; omega
  rcases h.2 with ⟨rfl, rfl⟩ | ⟨g, cap, cur, rfl, _⟩
  · have : l = [] := List.eq_nil_of_length_eq_zero hl
    subst this
    exact run_convert_bytes_nil w _ _ Tryd.underlying35 Tryd.underlying5 0 0 _ Tryd.underlying9
  · refine run_convert_bytes_arg w _ _ Tryd.underlying35 Tryd.underlying5 g 0 n cap (l.map fun n : Nat => (n : Int)) (by simpa using hl) (fun i hi => ?_) _ Tryd.underlying9
    have := h.cellAt i (by omega)
    rw [Nat.zero_add, this]
    simp [bc, List.getD, List.getElem?_eq_getElem (show i < l.length by omega)]

theorem out_val (b : Nat) (v : Value) (bs : List Bool) (w : World) (h : Wr w b v bs) :
    Calls Tryd.prog 85 #[.pointer (some ⟨b, 0, none⟩)] w fun e w' => ∃ a cap, e = .returned (.slice a (nb bs.length) cap) ∧ w'.ownsRow w.heap.size 5 1 (.slice a (nb bs.length) cap) (nb bs.length) (bc (pack bs)) ∧ Below w.heap.size w w' := by
  refine (out_any b v bs w h).mono ?_
  rintro e w' ⟨v', rfl, ho, hb⟩
  obtain ⟨a, cap, rfl⟩ := ownsRow_shape ho
  exact ⟨a, cap, rfl, ho, hb⟩

/-- Two writers beside each other, in the blocks B and B + 1, all that was below B as it was. -/
def Two (w0 w : World) (B : Nat) (bs cs : List Bool) : Prop :=
  ∃ v u, Wr w B v bs ∧ Wr w (B + 1) u cs ∧ (∀ k, WF B v k → ¬ WF (B + 1) u k) ∧ Below B w0 w
theorem two_start (w : World) : Two w ((w.alloc (.cells #[.slice none 0 0, .int .i64 0] 153)).alloc (.cells #[.slice none 0 0, .int .i64 0] 153)) w.heap.size [] [] := by
  have h1 := wr_start w
  have h2 := wr_start (w.alloc (.cells #[.slice none 0 0, .int .i64 0] 153))
  have e : (w.alloc (.cells #[.slice none 0 0, .int .i64 0] 153)).heap.size = w.heap.size + 1 := by simp
  rw [e] at h2
  refine ⟨_, _, h1.frame ?_, h2, ?_, ((Below.refl _ _).alloc (Nat.le_refl _) _).alloc (by simp) _⟩
  · intro k hk
    exact Below.heap_alloc _ _ _ (h1.lt hk).2
  · rintro k (rfl | h) (h' | h')
    · omega
    · simp [Value.ownBlock] at h'
    · simp [Value.ownBlock] at h
    · simp [Value.ownBlock] at h
theorem Two.left {w0 w w' : World} {B : Nat} {bs cs more : List Bool} {v u : Value} (h1 : Wr w B v bs) (h2 : Wr w (B + 1) u cs) (hd : ∀ k, WF B v k → ¬ WF (B + 1) u k) (hb : Below B w0 w)
    (hl : Lays w B v bs more w') : Two w0 w' B (bs ++ more) cs := by
  obtain ⟨v', h3, ht⟩ := hl
  refine ⟨v', u, h3, h2.frame (fun k hk => ht.block k (h2.lt hk).2 (fun x => hd k x hk)), ?_, hb.trans (ht.below B (by have := (h1.lt (k := B) (.inl rfl)).2; omega) (fun k hk => (h1.lt hk).1))⟩
  intro k hk hk2
  rcases ht.foot k hk with x | x
  · exact hd k x hk2
  · have := (h2.lt hk2).2; omega
theorem Two.right {w0 w w' : World} {B : Nat} {bs cs more : List Bool} {v u : Value} (h1 : Wr w B v bs) (h2 : Wr w (B + 1) u cs) (hd : ∀ k, WF B v k → ¬ WF (B + 1) u k) (hb : Below B w0 w)
    (hl : Lays w (B + 1) u cs more w') : Two w0 w' B bs (cs ++ more) := by
  obtain ⟨u', h3, ht⟩ := hl
  refine ⟨v, u', h1.frame (fun k hk => ht.block k (h1.lt hk).2 (fun x => hd k hk x)), h3, ?_, hb.trans (ht.below B (by have := (h1.lt (k := B) (.inl rfl)).2; omega) (fun k hk => by have := (h2.lt hk).1; omega))⟩
  intro k hk1 hk
  rcases ht.foot k hk with x | x
  · exact hd k hk1 x
  · have := (h1.lt hk1).2; omega
theorem Two.still {w0 w w' : World} {B : Nat} {bs cs : List Bool} (h : Two w0 w B bs cs) (hb : Below w.heap.size w w') : Two w0 w' B bs cs := by
  obtain ⟨v, u, h1, h2, hd, h0⟩ := h
  have := (h1.lt (k := B) (.inl rfl)).2
  exact ⟨v, u, h1.below hb, h2.below hb, hd, h0.trans (hb.mono (by omega))⟩

/-- Put on the first of two writers. -/
theorem two_put (B n m : Nat) (w0 w : World) (bs cs : List Bool) (h : Two w0 w B bs cs) (hn : n < 18446744073709551616) (hm : m ≤ 64) (hl : bs.length + m ≤ 1048576) :
    Calls Tryd.prog 81 #[.pointer (some ⟨B, 0, none⟩), .int .u64 (n : Int), .int .i64 (m : Int)] w fun e w' => e = .returned (.int .i64 0) ∧ Two w0 w' B (bs ++ bitsOf n m) cs := by
  obtain ⟨v, u, h1, h2, hd, h0⟩ := h
  refine (put_ok B n m v bs w h1 hn hm hl).mono ?_
  rintro e w' ⟨rfl, hL⟩
  exact ⟨rfl, Two.left h1 h2 hd h0 hL⟩
/-- Count on the second of two writers. -/
theorem two_count (B n : Nat) (w0 w : World) (bs cs : List Bool) (h : Two w0 w B bs cs) (hn : n + 1 < 18446744073709551616) (hl : cs.length + (2 * kz n + 1) ≤ 1048576) :
    Calls Tryd.prog 88 #[.pointer (some ⟨B + 1, 0, none⟩), .int .u64 (n : Int)] w fun e w' => e = .returned (.int .i64 0) ∧ Two w0 w' B bs (cs ++ countBits n) := by
  obtain ⟨v, u, h1, h2, hd, h0⟩ := h
  refine (count_ok (B + 1) n u cs w h2 hn hl).mono ?_
  rintro e w' ⟨rfl, hL⟩
  exact ⟨rfl, Two.right h1 h2 hd h0 hL⟩
/-- Out of either, and its text. -/
theorem two_out1 (B : Nat) (w0 w : World) (bs cs : List Bool) (h : Two w0 w B bs cs) :
    Calls Tryd.prog 85 #[.pointer (some ⟨B, 0, none⟩)] w fun e w' => ∃ a cap, e = .returned (.slice a (nb bs.length) cap) ∧ (convert 35 9 (.slice a (nb bs.length) cap)).run Tryd.prog w' = .ok (.string (strOf (pack bs))) w' ∧ Two w0 w' B bs cs := by
  obtain ⟨v, u, h1, h2, hd, h0⟩ := h
  refine (out_val B v bs w h1).mono ?_
  rintro e w' ⟨a, cap, rfl, ho, hb⟩
  exact ⟨a, cap, rfl, conv_own ho, Two.still ⟨v, u, h1, h2, hd, h0⟩ hb⟩
theorem two_out2 (B : Nat) (w0 w : World) (bs cs : List Bool) (h : Two w0 w B bs cs) :
    Calls Tryd.prog 85 #[.pointer (some ⟨B + 1, 0, none⟩)] w fun e w' => ∃ a cap, e = .returned (.slice a (nb cs.length) cap) ∧ (convert 35 9 (.slice a (nb cs.length) cap)).run Tryd.prog w' = .ok (.string (strOf (pack cs))) w' ∧ Two w0 w' B bs cs := by
  obtain ⟨v, u, h1, h2, hd, h0⟩ := h
  refine (out_val (B + 1) u cs w h2).mono ?_
  rintro e w' ⟨a, cap, rfl, ho, hb⟩
  exact ⟨a, cap, rfl, conv_own ho, Two.still ⟨v, u, h1, h2, hd, h0⟩ hb⟩

end Go.Proofs.YtobpinelhjpfgaaDoor
end

section
namespace Go.Proofs.YtobpinelhjpfgaaDoor
open Go.RowKit Bp

theorem kz0 : kz 0 = 0 := by decide
theorem kz1 : kz 1 = 1 := by decide
theorem kz4 : kz 4 = 2 := by decide
def ex1 : List Bool := [true, false, true]
def ex2 : List Bool := [true, false, true, false, true]
def cx1 : List Bool := [true]
def cx2 : List Bool := [true, false, true, false]
def cx3 : List Bool := [true, false, true, false, false, false, true, false, true]

theorem sh_put5 (B : Nat) (w0 w : World) (h : Two w0 w B [] []) :
    Calls Tryd.prog 81 #[.pointer (some ⟨B, 0, none⟩), .int .u64 5, .int .i64 3] w fun e w' => e = .returned (.int .i64 0) ∧ Two w0 w' B ex1 [] :=
  two_put B 5 3 w0 w [] [] h (by decide) (by decide) (by decide)
theorem sh_put1 (B : Nat) (w0 w : World) (h : Two w0 w B ex1 []) :
    Calls Tryd.prog 81 #[.pointer (some ⟨B, 0, none⟩), .int .u64 1, .int .i64 2] w fun e w' => e = .returned (.int .i64 0) ∧ Two w0 w' B ex2 [] :=
  two_put B 1 2 w0 w ex1 [] h (by decide) (by decide) (by decide)
theorem sh_count0 (B : Nat) (w0 w : World) (h : Two w0 w B ex2 []) :
    Calls Tryd.prog 88 #[.pointer (some ⟨B + 1, 0, none⟩), .int .u64 0] w fun e w' => e = .returned (.int .i64 0) ∧ Two w0 w' B ex2 cx1 := by
  have := two_count B 0 w0 w ex2 [] h (by decide) (by rw [kz0]; decide)
  have e : countBits 0 = cx1 := by unfold countBits; rw [kz0]; decide
  rw [e] at this; exact this
theorem sh_count1 (B : Nat) (w0 w : World) (h : Two w0 w B ex2 cx1) :
    Calls Tryd.prog 88 #[.pointer (some ⟨B + 1, 0, none⟩), .int .u64 1] w fun e w' => e = .returned (.int .i64 0) ∧ Two w0 w' B ex2 cx2 := by
  have := two_count B 1 w0 w ex2 cx1 h (by decide) (by rw [kz1]; decide)
  have e : cx1 ++ countBits 1 = cx2 := by unfold countBits; rw [kz1]; decide
  rw [e] at this; exact this
theorem sh_count4 (B : Nat) (w0 w : World) (h : Two w0 w B ex2 cx2) :
    Calls Tryd.prog 88 #[.pointer (some ⟨B + 1, 0, none⟩), .int .u64 4] w fun e w' => e = .returned (.int .i64 0) ∧ Two w0 w' B ex2 cx3 := by
  have := two_count B 4 w0 w ex2 cx2 h (by decide) (by rw [kz4]; decide)
  have e : cx2 ++ countBits 4 = cx3 := by unfold countBits; rw [kz4]; decide
  rw [e] at this; exact this
theorem sh_out0 (B : Nat) (w0 w : World) (h : Two w0 w B [] []) :
    Calls Tryd.prog 85 #[.pointer (some ⟨B, 0, none⟩)] w fun e w' => ∃ a cap, e = .returned (.slice a 0 cap) ∧ Two w0 w' B [] [] := by
  refine (two_out1 B w0 w [] [] h).mono ?_
  rintro e w' ⟨a, cap, rfl, _, ht⟩
  exact ⟨a, cap, rfl, ht⟩
theorem sh_out1 (B : Nat) (w0 w : World) (h : Two w0 w B ex2 cx3) :
    Calls Tryd.prog 85 #[.pointer (some ⟨B, 0, none⟩)] w fun e w' => ∃ a cap, e = .returned (.slice a 1 cap) ∧ (convert 35 9 (.slice a 1 cap)).run Tryd.prog w' = .ok (.string ⟨#[168]⟩) w' ∧ Two w0 w' B ex2 cx3 := by
  refine (two_out1 B w0 w ex2 cx3 h).mono ?_
  rintro e w' ⟨a, cap, rfl, hc, ht⟩
  have : strOf (pack ex2) = ⟨#[168]⟩ := by decide +kernel
  rw [this] at hc
  exact ⟨a, cap, rfl, hc, ht⟩
theorem sh_out2 (B : Nat) (w0 w : World) (h : Two w0 w B ex2 cx3) :
    Calls Tryd.prog 85 #[.pointer (some ⟨B + 1, 0, none⟩)] w fun e w' => ∃ a cap, e = .returned (.slice a 2 cap) ∧ (convert 35 9 (.slice a 2 cap)).run Tryd.prog w' = .ok (.string ⟨#[162, 128]⟩) w' ∧ Two w0 w' B ex2 cx3 := by
  refine (two_out2 B w0 w ex2 cx3 h).mono ?_
  rintro e w' ⟨a, cap, rfl, hc, ht⟩
  have : strOf (pack cx3) = ⟨#[162, 128]⟩ := by decide +kernel
  rw [this] at hc
  exact ⟨a, cap, rfl, hc, ht⟩


end Go.Proofs.YtobpinelhjpfgaaDoor
end

section
namespace Go.Proofs.YtobpinelhjpfgaaDoor
open Go.RowKit Bp

/-- A writer in block b that has laid L bits, all below B as it was in w0. -/
def Wl (w0 : World) (B : Nat) (w : World) (b L : Nat) : Prop := ∃ v bs, Wr w b v bs ∧ bs.length = L ∧ Below B w0 w ∧ B ≤ b
theorem wl_start (w0 w : World) (hb : Below w0.heap.size w0 w) : Wl w0 w0.heap.size (w.alloc (.cells #[.slice none 0 0, .int .i64 0] 153)) w.heap.size 0 :=
  ⟨_, _, wr_start w, rfl, hb.alloc hb.size _, hb.size⟩
theorem Wl.lays {w0 w w' : World} {B b : Nat} {v : Value} {bs more : List Bool} (h : Wr w b v bs) (hb : Below B w0 w) (hB : B ≤ b) (hl : Lays w b v bs more w') : Wl w0 B w' b (bs.length + more.length) := by
  obtain ⟨v', h', ht⟩ := hl
  exact ⟨v', _, h', by simp, hb.trans (ht.below B (by have := (h.lt (k := b) (.inl rfl)).2; omega) (fun k hk => by have := (h.lt hk).1; omega)), hB⟩
theorem wl_put (b n m L : Nat) (N M : Int) (w0 w : World) (B : Nat) (h : Wl w0 B w b L) (hn : n < 18446744073709551616) (hm : m ≤ 64) (hl : L + m ≤ 1048576) (hN : N = n) (hM : M = m) :
    Calls Tryd.prog 81 #[.pointer (some ⟨b, 0, none⟩), .int .u64 N, .int .i64 M] w fun e w' => e = .returned (.int .i64 0) ∧ Wl w0 B w' b (L + m) := by
  subst hN hM
  obtain ⟨v, bs, h1, rfl, h2, h3⟩ := h
  refine (put_ok b n m v bs w h1 hn hm hl).mono ?_
  rintro e w' ⟨rfl, hL⟩
  have := Wl.lays h1 h2 h3 hL
  rw [bitsOf_length] at this
  exact ⟨rfl, this⟩
theorem wl_long (b m L : Nat) (N M : Int) (w0 w : World) (B : Nat) (h : Wl w0 B w b L) (hm : m ≤ 64) (hl : 1048576 < L + m) (hM : M = m) :
    Calls Tryd.prog 81 #[.pointer (some ⟨b, 0, none⟩), .int .u64 N, .int .i64 M] w fun e w' => e = .returned (.int .i64 4) ∧ w = w' := by
  subst hM
  obtain ⟨v, bs, h1, rfl, h2, h3⟩ := h
  exact put_long b m N v bs w h1 hm hl
theorem wl_out (b L : Nat) (w0 w : World) (B : Nat) (h : Wl w0 B w b L) :
    Calls Tryd.prog 85 #[.pointer (some ⟨b, 0, none⟩)] w fun e w' => ∃ a cap, e = .returned (.slice a (nb L) cap) ∧ Wl w0 B w' b L := by
  obtain ⟨v, bs, h1, rfl, h2, h3⟩ := h
  refine (out_val b v bs w h1).mono ?_
  rintro e w' ⟨a, cap, rfl, ho, hb⟩
  have hlt := (h1.lt (k := b) (.inl rfl)).2
  exact ⟨a, cap, rfl, v, bs, h1.below hb, rfl, h2.trans (hb.mono (by omega)), h3⟩

end Go.Proofs.YtobpinelhjpfgaaDoor
end
