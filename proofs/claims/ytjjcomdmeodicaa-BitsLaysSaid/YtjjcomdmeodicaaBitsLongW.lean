/-
  The statement BitsLong: its walk.
-/
import Derived.Test.YtjjcomdmeodicaaBitsPlain4
import Derived.Test.YtjjcomdmeodicaaBitsFullW
set_option linter.unusedVariables false
namespace Go.Proofs.Ytjjcomdmeodicaa
open Go.RowKit Bp

/-- A writer in block b that has laid the bits bs, all below B as it was in w0. -/
def Wb (w0 : World) (B : Nat) (w : World) (b : Nat) (bs : List Bool) : Prop := ∃ v, Wr w b v bs ∧ Below B w0 w ∧ B ≤ b
theorem wb_start (w0 w : World) (hb : Below w0.heap.size w0 w) : Wb w0 w0.heap.size (w.alloc (.cells #[.slice none 0 0, .int .i64 0] 57)) w.heap.size [] :=
  ⟨_, wr_start w, hb.alloc hb.size _, hb.size⟩
theorem Wb.lays {w0 w w' : World} {B b : Nat} {v : Value} {bs more : List Bool} (h : Wr w b v bs) (hb : Below B w0 w) (hB : B ≤ b) (hl : Lays w b v bs more w') : Wb w0 B w' b (bs ++ more) := by
  obtain ⟨v', h', ht⟩ := hl
  exact ⟨v', h', hb.trans (ht.below B (by have := (h.lt (k := b) (.inl rfl)).2; omega) (fun k hk => by have := (h.lt hk).1; omega)), hB⟩
theorem Wb.below {w0 w : World} {B b : Nat} {bs : List Bool} (h : Wb w0 B w b bs) : Below B w0 w := by obtain ⟨v, _, h, _⟩ := h; exact h
theorem Wb.size {w0 w : World} {B b : Nat} {bs : List Bool} (h : Wb w0 B w b bs) : B ≤ w.heap.size := by
  obtain ⟨v, h, _, h2⟩ := h
  have := (h.lt (k := b) (.inl rfl)).2
  omega
theorem wb_put (b n m : Nat) (N M : Int) (w0 w : World) (B : Nat) (bs : List Bool) (h : Wb w0 B w b bs) (hn : n < 18446744073709551616) (hm : m ≤ 64) (hl : bs.length + m ≤ 1048576) (hN : N = n) (hM : M = m) :
    Calls Try.prog 15 #[.pointer (some ⟨b, 0, none⟩), .int .u64 N, .int .i64 M] w fun e w' => e = .returned (.int .i64 0) ∧ Wb w0 B w' b (bs ++ bitsOf n m) := by
  subst hN hM
  obtain ⟨v, h1, h2, h3⟩ := h
  refine (put_ok b n m v bs w h1 hn hm hl).mono ?_
  rintro e w' ⟨rfl, hL⟩
  exact ⟨rfl, Wb.lays h1 h2 h3 hL⟩
theorem wb_count (b n : Nat) (N : Int) (w0 w : World) (B : Nat) (bs : List Bool) (h : Wb w0 B w b bs) (hn : n + 1 < 18446744073709551616) (hl : bs.length + (2 * kz n + 1) ≤ 1048576) (hN : N = n) :
    Calls Try.prog 13 #[.pointer (some ⟨b, 0, none⟩), .int .u64 N] w fun e w' => e = .returned (.int .i64 0) ∧ Wb w0 B w' b (bs ++ countBits n) := by
  subst hN
  obtain ⟨v, h1, h2, h3⟩ := h
  refine (count_ok b n v bs w h1 hn hl).mono ?_
  rintro e w' ⟨rfl, hL⟩
  exact ⟨rfl, Wb.lays h1 h2 h3 hL⟩
theorem wb_len (b : Nat) (X : Int) (w0 w : World) (B : Nat) (bs : List Bool) (h : Wb w0 B w b bs) (hX : X = bs.length) :
    Calls Try.prog 17 #[.pointer (some ⟨b, 0, none⟩)] w fun e w' => e = .returned (.int .i64 X) ∧ w = w' := by
  subst hX
  obtain ⟨v, h1, h2, h3⟩ := h
  exact len_any b _ w h1.cells.2.1
/-- Out of a writer: bytes in new memory. -/
theorem wb_out (b : Nat) (w0 w : World) (B : Nat) (bs : List Bool) (h : Wb w0 B w b bs) :
    Calls Try.prog 18 #[.pointer (some ⟨b, 0, none⟩)] w fun e w' => ∃ a cap, e = .returned (.slice a (nb bs.length) cap) ∧ w'.ownsRow w.heap.size 5 1 (.slice a (nb bs.length) cap) (nb bs.length) (bc (pack bs)) ∧ Wb w0 B w' b bs := by
  obtain ⟨v, h1, h2, h3⟩ := h
  refine (out_val b v bs w h1).mono ?_
  rintro e w' ⟨a, cap, rfl, ho, hb⟩
  have hlt := (h1.lt (k := b) (.inl rfl)).2
  exact ⟨a, cap, rfl, ho, v, h1.below hb, h2.trans (hb.mono (by omega)), h3⟩

theorem bytesAt_own {w : World} {base g n cap : Nat} {l : List Nat} (h : w.ownsRow base 5 1 (.slice (some ⟨g, 0, none⟩) n cap) n (bc l)) (c : Nat) (hc : c ≤ n) : BytesAt w (.slice (some ⟨g, 0, none⟩) c cap) (l.take c) := by
  have hl : l.length = n := by have := h.1; rw [bc_length] at this; omega
  refine .inr ⟨_, cap, by rw [List.length_take, hl]; congr 1; omega, fun j u hj => ?_⟩
  have hx := h.cells (g := g) rfl j u
  have : (bc (l.take c))[j]? = (bc l)[j]? ∨ (bc (l.take c))[j]? = none := by
    rcases Nat.lt_or_ge j c with y | y
    · left; simp [bc, y]
    · right; exact List.getElem?_eq_none (by rw [bc_length, List.length_take]; omega)
  rcases this with e | e
  · rw [e] at hj; exact hx hj
  · rw [e] at hj; cases hj

theorem long_out (b x : Nat) (w0 w : World) (B : Nat) (h : Wb w0 B w b (countBits x)) :
    Calls Try.prog 18 #[.pointer (some ⟨b, 0, none⟩)] w fun e w' => ∃ g cap L, e = .returned (.slice (some ⟨g, 0, none⟩) L cap) ∧ L = nb (2 * kz x + 1) ∧ L ≤ cap ∧ (∀ c, c ≤ L → BytesAt w' (.slice (some ⟨g, 0, none⟩) c cap) ((pack (countBits x)).take c)) ∧ Wb w0 B w' b (countBits x) := by
  refine (wb_out b w0 w B _ h).mono ?_
  rintro e w' ⟨a, cap, rfl, ho, hW⟩
  rw [countBits_length] at ho ⊢
  rcases ho.2 with ⟨_, h0⟩ | ⟨g, cap', cur, hv, hg, hh, hnc, hcm, hcs, htake⟩
  · unfold nb at h0; omega
  · rw [hv] at ho ⊢
    exact ⟨g, cap', _, rfl, rfl, hnc, fun c hc => bytesAt_own ho c hc, hW⟩

set_option maxHeartbeats 1000000 in
theorem bitsLong_walk (n a : Nat) (hn : n < 18446744073709551616) (ha : a ≤ 255) (w : World) :
    Calls Try.prog 6 #[.int .u64 (n : Int), .int .u8 (a : Int)] w fun e w' => e = .returned (.bool true) ∧ Below w.heap.size w w' := by
  obtain ⟨x, hx, hx2⟩ : ∃ x : Nat, (n : Int) % 9223372036854775808 = x ∧ x + 1 < 18446744073709551616 := ⟨n % 9223372036854775808, by omega, by omega⟩
  have HX := Lib.hid hx
  clear hx
  go_enter Try.func6, Try.ntmps6
  go_wp2_with (first | (go_at_call 10; refine (shown_any _).mono ?_; rintro e w1 ⟨rfl, hb1⟩; have HB1 := Lib.hid hb1; clear hb1) | (go_at_call 11; refine (newWriter_any _).mono ?_; rintro e w2 ⟨rfl, rfl⟩))
  rw [HX.out]
  have hst := wb_start w w1 HB1.out
  obtain ⟨b, hb⟩ : ∃ b, b = w1.heap.size := ⟨_, rfl⟩
  rw [← hb] at hst ⊢
  have HST := Lib.hid hst
  have hk63 := kz_63 x hx2
  clear hst HB1 hb HX
  refine (wb_count b x _ w _ _ [] HST.out hx2 (by simp; omega) rfl).mono ?_
  rintro e w3 ⟨rfl, hW⟩
  rw [List.nil_append] at hW
  have HW := Lib.hid hW
  clear hW HST
  go_wp2
  go_loop [8, 9] (fun k m => ∃ j : Nat, j ≤ kz x ∧ 2 ^ j ≤ x + 1 ∧ k = .int .i64 (j : Int) ∧ m = .int .u64 (((x + 1) / 2 ^ j : Nat) : Int)) (fun k _ => 64 - (intOf k).toNat)
  case atStart => exact ⟨0, by omega, by simp, rfl, by simp⟩
  case round =>
    obtain ⟨j, hj, hp, rfl, rfl⟩ := hrel
    have hle : (x + 1) / 2 ^ j ≤ x + 1 := Nat.div_le_self _ _
    have HN : Hid ((x + 1) / 2 ^ (j + 1) = (x + 1) / 2 ^ j / 2) := Lib.hid (by rw [Nat.pow_succ, Nat.div_div_eq_div_mul])
    by_cases h1 : 1 < (x + 1) / 2 ^ j
    · have hm := half_more (x + 1) j h1
      have hj1 : j + 1 ≤ kz x := by
        rcases Nat.lt_or_ge (kz x) (j + 1) with y | y
        · have h2 := kz_lt x
          have h3 : (2 : Nat) ^ (kz x + 1) ≤ 2 ^ (j + 1) := Nat.pow_le_pow_right (by decide) y
          omega
        · exact y
      have HM := Lib.hid hm
      clear hm hp
      generalize (x + 1) / 2 ^ j = y at *
      go_wp2
      go_round
      case rel => exact ⟨j + 1, hj1, HM.out, by go_num, by rw [HN.out]; go_num⟩
      case measure => simp [intOf]; omega
    · have hjk := half_end x j hp (by omega)
      subst hjk
      clear hp HN hle
      generalize (x + 1) / 2 ^ kz x = y at *
      go_wp2_with fail
      refine (long_out b x w w3 w.heap.size HW.out).mono ?_
      rintro e w4 ⟨g, cap, L, rfl, hL, hcap, hBA, hW4⟩
      have HW4 := Lib.hid hW4
      have HBA := Lib.hid hBA
      have HL := Lib.hid hL
      have hL1 : 1 ≤ L := by rw [hL]; unfold nb; omega
      have hL2 : L ≤ 16 := by rw [hL]; unfold nb; omega
      have t1 : ((L : Int) != (2 * (kz x : Int) + 8) / 8) = false := by rw [bne_eq_false_iff_eq, hL]; unfold nb; omega
      clear hW4 hBA hL HW
      go_wp2_with fail
      refine (wb_len b (2 * (kz x : Int) + 1) w w4 w.heap.size _ HW4.out (by rw [countBits_length]; omega)).mono ?_
      rintro e w5 ⟨rfl, rfl⟩
      have hp : (0 : Int) < (L : Int) := by omega
      have hc0 : 0 ≤ (a : Int) % (L : Int) := Int.emod_nonneg _ (by omega)
      have hc1 : (a : Int) % (L : Int) < (L : Int) := Int.emod_lt_of_pos _ hp
      have hc2 : ((a : Int) % (L : Int)).toNat = a % L := by rw [← Int.natCast_emod]; exact Int.toNat_natCast _
      have hc3 : (a : Int) % (L : Int) ≤ (cap : Int) := by omega
      go_wp2_with fail
      have hlt : a % L < nb (2 * kz x + 1) := by rw [← HL.out]; exact Nat.mod_lt _ (by omega)
      have hlt2 : a % L < L := Nat.mod_lt _ (by omega)
      obtain ⟨nz, hz1, hz2, hz3⟩ := cut_zs x (a % L) hx2 hlt
      have HZ1 := Lib.hid hz1
      have HZ3 := Lib.hid hz3
      have hbyte : ∀ z ∈ (pack (countBits x)).take (a % L), z ≤ 255 := fun z hz => pack_byte _ z (List.mem_of_mem_take hz)
      have hfew : ((pack (countBits x)).take (a % L)).length ≤ 1048576 := by rw [List.length_take]; omega
      refine (newReader_any _ _ w4 (HBA.out (a % L) (by omega)) hfew hbyte).mono ?_
      rintro e w5 ⟨rb, rv, rfl, hR, hB5⟩
      have HR := Lib.hid hR
      have HB5 := Lib.hid hB5
      clear hR hB5 hz1 hz3 hbyte hfew HBA hc0 hc1 hc2 hc3 hlt hlt2
      go_wp2_with fail
      refine (count_short _ rb rv _ 0 nz w5 HR.out HZ1.out hz2 HZ3.out).mono ?_
      rintro e w6 ⟨rfl, hR6, hT6⟩
      have HR6 := Lib.hid hR6
      have HT6 := Lib.hid hT6
      clear hR6 hT6
      go_wp2_with fail
      refine (end_fault _ rb rv _ 0 10 w6 HR6.out (by decide)).mono ?_
      rintro e w7 ⟨rfl, rfl⟩
      go_wp2
      go_ret
      refine ⟨rfl, (HW4.out.below.trans (HB5.out.mono HW4.out.size)).trans ?_⟩
      exact HT6.out.below _ (Nat.le_trans HW4.out.size HB5.out.size) (fun k hk => Nat.le_trans HW4.out.size (HR.out.lt hk).1)

end Go.Proofs.Ytjjcomdmeodicaa
