/-
  The statement BitsFull: its walk.
-/
import Derived.Test.YtjjcomdmeodicaaBitsW6
import Derived.Deep.LoopGhost
set_option linter.unusedVariables false
namespace Go.Proofs.Ytjjcomdmeodicaa
open Go.RowKit Bp

/-- A writer in block b that has laid L bits, all below B as it was in w0. -/
def Wl (w0 : World) (B : Nat) (w : World) (b L : Nat) : Prop := ∃ v bs, Wr w b v bs ∧ bs.length = L ∧ Below B w0 w ∧ B ≤ b
theorem wl_start (w0 w : World) (hb : Below w0.heap.size w0 w) : Wl w0 w0.heap.size (w.alloc (.cells #[.slice none 0 0, .int .i64 0] 57)) w.heap.size 0 :=
  ⟨_, _, wr_start w, rfl, hb.alloc hb.size _, hb.size⟩
theorem Wl.lays {w0 w w' : World} {B b : Nat} {v : Value} {bs more : List Bool} (h : Wr w b v bs) (hb : Below B w0 w) (hB : B ≤ b) (hl : Lays w b v bs more w') : Wl w0 B w' b (bs.length + more.length) := by
  obtain ⟨v', h', ht⟩ := hl
  exact ⟨v', _, h', by simp, hb.trans (ht.below B (by have := (h.lt (k := b) (.inl rfl)).2; omega) (fun k hk => by have := (h.lt hk).1; omega)), hB⟩
theorem wl_put (b n m L : Nat) (N M : Int) (w0 w : World) (B : Nat) (h : Wl w0 B w b L) (hn : n < 18446744073709551616) (hm : m ≤ 64) (hl : L + m ≤ 1048576) (hN : N = n) (hM : M = m) :
    Calls Try.prog 15 #[.pointer (some ⟨b, 0, none⟩), .int .u64 N, .int .i64 M] w fun e w' => e = .returned (.int .i64 0) ∧ Wl w0 B w' b (L + m) := by
  subst hN hM
  obtain ⟨v, bs, h1, rfl, h2, h3⟩ := h
  refine (put_ok b n m v bs w h1 hn hm hl).mono ?_
  rintro e w' ⟨rfl, hL⟩
  have := Wl.lays h1 h2 h3 hL
  rw [bitsOf_length] at this
  exact ⟨rfl, this⟩
theorem wl_long (b m L : Nat) (N M : Int) (w0 w : World) (B : Nat) (h : Wl w0 B w b L) (hm : m ≤ 64) (hl : 1048576 < L + m) (hM : M = m) :
    Calls Try.prog 15 #[.pointer (some ⟨b, 0, none⟩), .int .u64 N, .int .i64 M] w fun e w' => e = .returned (.int .i64 4) ∧ w = w' := by
  subst hM
  obtain ⟨v, bs, h1, rfl, h2, h3⟩ := h
  exact put_long b m N v bs w h1 hm hl
theorem wl_len (b L : Nat) (w0 w : World) (B : Nat) (h : Wl w0 B w b L) :
    Calls Try.prog 17 #[.pointer (some ⟨b, 0, none⟩)] w fun e w' => e = .returned (.int .i64 (L : Int)) ∧ w = w' := by
  obtain ⟨v, bs, h1, rfl, h2, h3⟩ := h
  exact len_any b _ w h1.cells.2.1
theorem wl_len_at (b L : Nat) (X : Int) (w0 w : World) (B : Nat) (h : Wl w0 B w b L) (hX : X = L) :
    Calls Try.prog 17 #[.pointer (some ⟨b, 0, none⟩)] w fun e w' => e = .returned (.int .i64 X) ∧ w = w' := by
  subst hX; exact wl_len b L w0 w B h
theorem wl_out (b L : Nat) (w0 w : World) (B : Nat) (h : Wl w0 B w b L) :
    Calls Try.prog 18 #[.pointer (some ⟨b, 0, none⟩)] w fun e w' => ∃ a cap, e = .returned (.slice a (nb L) cap) ∧ Wl w0 B w' b L := by
  obtain ⟨v, bs, h1, rfl, h2, h3⟩ := h
  refine (out_val b v bs w h1).mono ?_
  rintro e w' ⟨a, cap, rfl, ho, hb⟩
  have hlt := (h1.lt (k := b) (.inl rfl)).2
  exact ⟨a, cap, rfl, v, bs, h1.below hb, rfl, h2.trans (hb.mono (by omega)), h3⟩

set_option maxHeartbeats 1000000 in
theorem bitsFull_walk (n a : Nat) (hn : n < 18446744073709551616) (ha : a ≤ 255) (w : World) :
    Calls Try.prog 8 #[.int .u64 (n : Int), .int .u8 (a : Int)] w fun e w' => e = .returned (.bool true) ∧ Below w.heap.size w w' := by
  go_enter Try.func8, Try.ntmps8
  go_wp2_with (first | (go_at_call 10; refine (shown_any _).mono ?_; rintro e w1 ⟨rfl, hb1⟩; have HB1 := Lib.hid hb1; clear hb1) | (go_at_call 11; refine (newWriter_any _).mono ?_; rintro e w2 ⟨rfl, rfl⟩))
  have hst := wl_start w w1 HB1.out
  have HST := Lib.hid hst
  clear hst HB1
  obtain ⟨b, hb⟩ : ∃ b, b = w1.heap.size := ⟨_, rfl⟩
  rw [← hb] at HST
  rw [← hb]
  clear hb
  go_loopw [19] (fun i wr => ∃ k : Nat, k ≤ (1048576 - a % 201) / 64 ∧ i = .int .i64 (k : Int) ∧ Wl w w.heap.size wr b (64 * k)) (fun i _ => (1048576 - a % 201) / 64 - (intOf i).toNat)
  case atStart => exact ⟨0, Nat.zero_le _, rfl, HST.out⟩
  case round =>
    obtain ⟨k, hk, rfl, hW⟩ := hrel
    have HW := Lib.hid hW
    clear hW
    by_cases hlt : k < (1048576 - a % 201) / 64
    · have ht : (k : Int) < (1048576 - (a : Int) % 201) / 64 := by omega
      go_wp2_with (go_at_call 15; refine (wl_put b n 64 (64 * k) (n : Int) 64 w wr w.heap.size HW.out hn (by omega) (by omega) rfl rfl).mono ?_; rintro e w3 ⟨rfl, hW3⟩; have HW3 := Lib.hid hW3; clear hW3)
      go_roundw
      case rel => exact ⟨k + 1, by omega, by go_num, HW3.out⟩
      case measure => simp [intOf]; omega
    · have hkk : k = (1048576 - a % 201) / 64 := by omega
      have ht : ¬ (k : Int) < (1048576 - (a : Int) % 201) / 64 := by omega
      have HK := Lib.hid hkk
      clear hkk
      go_wp2_with (go_at_call 15; refine (wl_put b n ((1048576 - a % 201) % 64) (64 * k) (n : Int) _ w wr w.heap.size HW.out hn (by omega) (by omega) rfl (by omega)).mono ?_; rintro e w3 ⟨rfl, hW3⟩)
      have e3 : 64 * k + (1048576 - a % 201) % 64 = 1048576 - a % 201 := by have := HK.out; omega
      rw [e3] at hW3
      have HW3 := Lib.hid hW3
      clear hW3 e3 HW HK hk hlt ht HST
      refine (wl_len_at b (1048576 - a % 201) (1048576 - (a : Int) % 201) w w3 w.heap.size HW3.out (by omega)).mono ?_
      rintro e w4 ⟨rfl, rfl⟩
      have hL : (1048576 - a % 201) + (a % 201) = 1048576 := by omega
      have HL := Lib.hid hL
      clear hL
      by_cases h64 : 64 ≤ a % 201
      · have hmin : min ((a : Int) % 201 + 1) 64 = 64 := by omega
        have hge : (64 : Int) ≤ (a : Int) % 201 := by omega
        go_wp2_with (go_at_call 15; refine (wl_put b n 64 (1048576 - a % 201) (n : Int) 64 w w3 w.heap.size HW3.out hn (by omega) (by have := HL.out; omega) rfl rfl).mono ?_; rintro e w5 ⟨rfl, hW5⟩)
        go_ret
        obtain ⟨v, bs, h1, h2, h3, h4⟩ := hW5
        exact ⟨rfl, h3⟩
      · have hmin : min ((a : Int) % 201 + 1) 64 = (a : Int) % 201 + 1 := by omega
        have hge : (a : Int) % 201 < 64 := by omega
        have hout : ((nb (1048576 - a % 201) : Nat) : Int) = (1048576 - (a : Int) % 201 + 7) / 8 := by unfold nb; omega
        have HO := Lib.hid hout
        clear hout
        go_wp2_with fail
        refine (wl_long b (a % 201 + 1) (1048576 - a % 201) (n : Int) ((a : Int) % 201 + 1) w w3 w.heap.size HW3.out (by omega) (by have := HL.out; omega) (by omega)).mono ?_
        rintro e w4 ⟨rfl, rfl⟩
        go_wp2_with fail
        refine (wl_len_at b (1048576 - a % 201) (1048576 - (a : Int) % 201) w w3 w.heap.size HW3.out (by omega)).mono ?_
        rintro e w4 ⟨rfl, rfl⟩
        go_wp2_with fail
        refine (wl_out b (1048576 - a % 201) w w3 w.heap.size HW3.out).mono ?_
        rintro e w5 ⟨a5, c5, rfl, hW5⟩
        have HW5 := Lib.hid hW5
        clear hW5 HW3
        obtain ⟨q, hq⟩ : ∃ q, q = nb (1048576 - a % 201) := ⟨_, rfl⟩
        rw [← hq] at HO ⊢
        clear hq
        have ho := HO.out
        go_wp2
        go_ret
        obtain ⟨v, bs, h1, h2, h3, h4⟩ := HW5.out
        exact ⟨rfl, h3⟩

end Go.Proofs.Ytjjcomdmeodicaa
