/-
  The statement BitsLays: its walk.
-/
import Derived.Test.YtifcfoipeocmiaaBitsF3
import Derived.Test.YtifcfoipeocmiaaBitsBackW
set_option linter.unusedVariables false
namespace Go.Proofs.Ytifcfoipeocmiaa
open Go.RowKit Bp

/-- A writer in block b that has laid L, beside a list of bits A at av; all below B as it was. -/
structure WA (w0 : World) (B : Nat) (w : World) (b : Nat) (v : Value) (av : Value) (L A : List Bool) : Prop where
  wr : Wr w b v L
  all : w.ownsRow B 4 1 av A.length (bb A)
  apart : ∀ k, WF b v k → av.ownBlock ≠ some k
  below : Below B w0 w
  base : B ≤ b
theorem WA.size {w0 w : World} {B b : Nat} {v av : Value} {L A : List Bool} (h : WA w0 B w b v av L A) : B ≤ w.heap.size := by
  have := (h.wr.lt (k := b) (.inl rfl)).2
  have := h.base
  omega
/-- New memory changes nothing. -/
theorem WA.more {w0 w w' : World} {B b : Nat} {v av : Value} {L A : List Bool} (h : WA w0 B w b v av L A) (hb : Below w.heap.size w w') : WA w0 B w' b v av L A :=
  ⟨h.wr.below hb, ownsRow_same h.all (fun k hk => hb.block k (h.all.lt k hk).2), h.apart, h.below.trans (hb.mono h.size), h.base⟩
theorem WA.alloc {w0 w : World} {B b : Nat} {v av : Value} {L A : List Bool} (h : WA w0 B w b v av L A) (o : Obj) : WA w0 B (w.alloc o) b v av L A :=
  h.more ((Below.refl _ _).alloc (Nat.le_refl _) _)
/-- The writer lays. -/
theorem WA.lays {w0 w W W' : World} {B b : Nat} {v av : Value} {L A more : List Bool} (h : WA w0 B w b v av L A) (hW : Below w.heap.size w W) (hl : Lays W b v L more W') :
    (∃ v', WA w0 B W' b v' av (L ++ more) A) ∧ (∀ j, w.heap.size < W.heap.size → W'.cell? ⟨w.heap.size, j, none⟩ = W.cell? ⟨w.heap.size, j, none⟩) := by
  obtain ⟨v', h1, ht⟩ := hl
  have hM := h.more hW
  refine ⟨⟨v', h1, ownsRow_same hM.all (fun k hk => ht.block k (hM.all.lt k hk).2 (fun x => hM.apart k x hk)), ?_, hM.below.trans (ht.below B hM.size (fun k hk => by have := (hM.wr.lt hk).1; have := h.base; omega)), h.base⟩, ?_⟩
  · intro k hk e
    rcases ht.foot k hk with x | x
    · exact hM.apart k x e
    · have := (hM.all.lt k e).2; omega
  · intro j hlt
    refine World.cell?_of_block (a := ⟨w.heap.size, j, none⟩) (ht.block w.heap.size hlt (fun x => ?_))
    have := (h.wr.lt x).2
    omega
/-- The list of bits grows. -/
theorem WA.grows {w0 w w' : World} {B b : Nat} {v av av' : Value} {L A A' : List Bool} (h : WA w0 B w b v av L A) (ho : w'.ownsRow B 4 1 av' A'.length (bb A')) (hg : w.grownBy w' av.ownBlock) (hat : av'.ownBlock = av.ownBlock ∨ av'.ownBlock = some w.heap.size) : WA w0 B w' b v av' L A' := by
  refine ⟨h.wr.frame (fun k hk => hg.block k (h.wr.lt hk).2 (fun e => h.apart k hk e.symm)), ho, ?_, h.below.grown hg h.size (fun k hk => (h.all.lt k hk).1), h.base⟩
  intro k hk e
  rcases hat with x | x
  · exact h.apart k hk (x ▸ e)
  · rw [x] at e
    have := (h.wr.lt hk).2
    simp at e
    omega

/-- The bits of one thing, as the document has it: none where it is refused. -/
def oneL (q : Bool × Nat × Int) : List Bool :=
  if q.1 then (if q.2.1 = 18446744073709551615 then [] else countBits q.2.1) else (if 0 ≤ q.2.2 ∧ q.2.2 ≤ 64 then bitsOf q.2.1 q.2.2.toNat else [])
def lays (f : Nat → Bool × Nat × Int) (k : Nat) : List Bool := (List.range k).flatMap fun i => oneL (f i)
theorem lays_succ (f : Nat → Bool × Nat × Int) (k : Nat) : lays f (k + 1) = lays f k ++ oneL (f k) := by simp [lays, List.range_succ]
theorem oneL_le (q : Bool × Nat × Int) (hq : q.2.1 < 18446744073709551616) : (oneL q).length ≤ 127 := by
  unfold oneL
  split
  · split
    · simp
    · rw [countBits_length]
      have := kz_63 q.2.1 (by omega)
      omega
  · split
    · rw [bitsOf_length]; omega
    · simp
theorem lays_le (f : Nat → Bool × Nat × Int) (k n : Nat) (hk : k ≤ n) (hf : ∀ i, i < n → (f i).2.1 < 18446744073709551616) : (lays f k).length ≤ 127 * k := by
  induction k with
  | zero => simp [lays]
  | succ k ih =>
    rw [lays_succ, List.length_append]
    have := oneL_le (f k) (hf k (by omega))
    have := ih (by omega)
    omega

theorem wa_count (b n : Nat) (N : Int) (w0 w W : World) (B : Nat) (v av : Value) (L A : List Bool) (h : WA w0 B w b v av L A) (hW : Below w.heap.size w W) (hlt : w.heap.size < W.heap.size) (hn : n + 1 < 18446744073709551616) (hl : L.length + (2 * kz n + 1) ≤ 1048576) (hN : N = n) :
    Calls Try.prog 8 #[.pointer (some ⟨b, 0, none⟩), .int .u64 N] W fun e w' => e = .returned (.int .i64 0) ∧ (∃ v', WA w0 B w' b v' av (L ++ countBits n) A) ∧ ∀ j, w'.cell? ⟨w.heap.size, j, none⟩ = W.cell? ⟨w.heap.size, j, none⟩ := by
  subst hN
  refine (count_ok b n v L W (h.more hW).wr hn hl).mono ?_
  rintro e w' ⟨rfl, hL⟩
  have := h.lays hW hL
  exact ⟨rfl, this.1, fun j => this.2 j hlt⟩
theorem wa_put (b n m : Nat) (N M : Int) (w0 w W : World) (B : Nat) (v av : Value) (L A : List Bool) (h : WA w0 B w b v av L A) (hW : Below w.heap.size w W) (hlt : w.heap.size < W.heap.size) (hn : n < 18446744073709551616) (hm : m ≤ 64) (hl : L.length + m ≤ 1048576) (hN : N = n) (hM : M = m) :
    Calls Try.prog 10 #[.pointer (some ⟨b, 0, none⟩), .int .u64 N, .int .i64 M] W fun e w' => e = .returned (.int .i64 0) ∧ (∃ v', WA w0 B w' b v' av (L ++ bitsOf n m) A) ∧ ∀ j, w'.cell? ⟨w.heap.size, j, none⟩ = W.cell? ⟨w.heap.size, j, none⟩ := by
  subst hN hM
  refine (put_ok b n m v L W (h.more hW).wr hn hm hl).mono ?_
  rintro e w' ⟨rfl, hL⟩
  have := h.lays hW hL
  exact ⟨rfl, this.1, fun j => this.2 j hlt⟩
theorem wa_len (b : Nat) (X : Int) (w0 w : World) (B : Nat) (v av : Value) (L A : List Bool) (h : WA w0 B w b v av L A) (hX : X = L.length) :
    Calls Try.prog 12 #[.pointer (some ⟨b, 0, none⟩)] w fun e w' => e = .returned (.int .i64 X) ∧ w = w' := by
  subst hX; exact len_any b _ w h.wr.cells.2.1

/-- The document's bytes of the list of bits, as a text. -/
theorem wa_bytes (b : Nat) (w0 w : World) (B : Nat) (v av : Value) (L A : List Bool) (h : WA w0 B w b v av L A) (hl : A.length ≤ 1048576) :
    Calls Try.prog 14 #[av] w fun e w' => ∃ v', e = .returned v' ∧ (convert 37 9 v').run Try.prog w' = .ok (.string (strOf (pack A))) w' ∧ Below w.heap.size w w' := by
  refine (refBytes_any av A w B h.all hl).mono ?_
  rintro e w' ⟨v', rfl, ho, hb⟩
  exact ⟨v', rfl, conv_own ho, hb⟩
theorem WA.drew {w0 w : World} {B b : Nat} {v av : Value} {L A : List Bool} (h : WA w0 B w b v av L A) : WA w0 B w.drew b v av L A := h.more (Below.refl _ w).drew
theorem wa_out (b : Nat) (w0 w : World) (B : Nat) (v av : Value) (L A : List Bool) (h : WA w0 B w b v av L A) :
    Calls Try.prog 13 #[.pointer (some ⟨b, 0, none⟩)] w fun e w' => ∃ a cap, e = .returned (.slice a (nb L.length) cap) ∧ w'.ownsRow w.heap.size 5 1 (.slice a (nb L.length) cap) (nb L.length) (bc (pack L)) ∧ Below w.heap.size w w' := out_val b v L w h.wr
theorem conv_later {w W : World} {base : Nat} {v : Value} {l : List Nat} {n : Nat} (h : w.ownsRow base 5 1 v n (bc l)) (hb : Below w.heap.size w W) : (convert 37 9 v).run Try.prog W = .ok (.string (strOf l)) W :=
  conv_own (ownsRow_same h (fun k hk => hb.block k (h.lt k hk).2))
theorem xor_byte (z : Nat) (hz : z ≤ 255) : ∃ y : Nat, bits BinOp.xor IntKind.u8 (z : Int) 255 = (y : Int) ∧ y ≤ 255 := by
  have h1 := u8_xor_nat z 255 (by omega) (by omega)
  refine ⟨z ^^^ 255, h1, ?_⟩
  have : z ^^^ 255 < 2 ^ 8 := Nat.xor_lt_two_pow (by omega) (by omega)
  omega

set_option maxRecDepth 100000 in
set_option maxHeartbeats 4000000 in
theorem bitsLays_walk (ao : Option Addr) (len cap : Nat) (f : Nat → Bool × Nat × Int) (w : World) (hA : ArgRows 3 (putCell f) w ao len cap) (hf : ∀ i, i < len → (f i).2.1 < 18446744073709551616 ∧ -9223372036854775808 ≤ (f i).2.2 ∧ (f i).2.2 ≤ 9223372036854775807) :
    Calls Try.prog 3 #[.slice ao len cap] w fun e w' => e = .returned (.bool true) ∧ Below w.heap.size w w' := by
  obtain ⟨i0, hi, hz0, hz1, hz2⟩ := info_parts Try.infoBool
  have HF := Lib.hid hf
  have HA := Lib.hid hA
  have hle := hA.le
  have hmax : cap ≤ 9223372036854775807 := hA.max
  obtain ⟨m, hm, hml, hm1⟩ : ∃ m : Nat, min (len : Int) 300 = m ∧ m ≤ len ∧ m ≤ 300 := ⟨min len 300, by omega, by omega, by omega⟩
  have HFew := Lib.hid fun w => few_any ao len cap m w hle hmax hm
  clear hf hA hm
  go_enter Try.func3, Try.ntmps3
  go_wp2_with (first | (go_at_call 5; refine (shown_any _).mono ?_; rintro e w1 ⟨rfl, hb1⟩; have HB1 := Lib.hid hb1; clear hb1) | (go_at_call 6; refine (newWriter_any _).mono ?_; rintro e w2 ⟨rfl, rfl⟩) | (go_at_call 7; refine (HFew.out _).mono ?_; rintro e w3 ⟨rfl, rfl⟩))
  have hst : WA w w.heap.size (w1.alloc (.cells #[.slice none 0 0, .int .i64 0] 47)) w1.heap.size (.slice none 0 0) (.slice none 0 0) [] [] :=
    ⟨wr_start w1, World.ownsRow_nil _ _ _ _, fun k _ => by simp [Value.ownBlock], HB1.out.alloc HB1.out.size _, HB1.out.size⟩
  obtain ⟨b, hb⟩ : ∃ b, b = w1.heap.size := ⟨_, rfl⟩
  rw [← hb] at hst ⊢
  have HST := Lib.hid hst
  clear hst HB1 hb HFew
  go_loopw [5, 20] (fun av i wr => ∃ k : Nat, ∃ v, k ≤ m ∧ i = .int .i64 (k : Int) ∧ WA w w.heap.size wr b v av (lays f k) (lays f k)) (fun _ i _ => m - (intOf i).toNat)
  case atStart => exact ⟨0, _, Nat.zero_le _, rfl, HST.out⟩
  case round =>
    obtain ⟨k, v, hk, rfl, hWA⟩ := hrel
    obtain ⟨aa, acap, hav⟩ := ownsRow_shape hWA.all
    subst hav
    have HW := Lib.hid hWA
    clear hWA HST
    have hll := lays_le f k len (by omega) (fun i hi => (HF.out i hi).1)
    by_cases hlt : k < m
    · obtain ⟨g, off, hao, hg, hc⟩ := HA.out.cell k (by omega)
      subst hao
      have hc0 := (HW.out.below.cell (p := ⟨g, off + k * 3 + 0, none⟩) hg).trans (hc 0 (by omega))
      have hc1 := (HW.out.below.cell (p := ⟨g, off + k * 3 + 1, none⟩) hg).trans (hc 1 (by omega))
      have hc2 := (HW.out.below.cell (p := ⟨g, off + k * 3 + 2, none⟩) hg).trans (hc 2 (by omega))
      obtain ⟨hf1, hf2, hf3⟩ := HF.out k (by omega)
      have HS := Lib.hid (lays_succ f k)
      unfold putCell at hc0 hc1 hc2
      simp only [Nat.add_zero, if_pos, if_neg (show ¬ (1 = 0) by decide), if_neg (show ¬ (2 = 0) by decide), if_neg (show ¬ (2 = 1) by decide)] at hc0 hc1 hc2
      generalize hq : f k = q at *
      obtain ⟨c, y, z⟩ := q
      simp only at hc0 hc1 hc2 hf1 hf2 hf3
      clear hc hq
      have hsz : w.heap.size ≤ wr.heap.size := HW.out.size
      obtain ⟨L, hLL⟩ : ∃ L, L = lays f k := ⟨_, rfl⟩
      rw [← hLL] at HW hll HS ⊢
      clear hLL
      cases c
      · by_cases hz : 0 ≤ z ∧ z ≤ 64
        · obtain ⟨zn, rfl⟩ := Int.eq_ofNat_of_zero_le hz.1
          have hzn : zn ≤ 64 := by omega
          have HS2 : Hid (lays f (k + 1) = L ++ bitsOf y zn) := Lib.hid (by rw [HS.out]; unfold oneL; rw [if_neg (by simp), if_pos (by exact hz)]; rfl)
          clear HS hz
          go_wp2_with fail
          refine (wa_put b y zn _ _ w wr _ w.heap.size v _ L L HW.out ((Below.refl _ _).alloc (Nat.le_refl _) _) (by simp) hf1 hzn (by omega) rfl rfl).mono ?_
          rintro e w4 ⟨rfl, ⟨v4, hW4⟩, hk4⟩
          have k1 := (hk4 1).trans (show _ = some (.int .u64 (y : Int)) by simp)
          have k2 := (hk4 2).trans (show _ = some (.int .i64 (zn : Int)) by simp)
          have HW4 := Lib.hid hW4
          clear hW4 hk4 HW
          go_wp2_with fail
          refine (refBits_int y zn _ _ hf1 hzn w4 rfl rfl).mono ?_
          rintro e w5 ⟨v5, rfl, hS5, hO5, hB5⟩
          have HW5 := Lib.hid (HW4.out.more hB5)
          have HO5 := Lib.hid hO5
          have hB5s : w.heap.size ≤ w5.heap.size := HW5.out.size
          clear hO5 hB5 HW4 k1 k2
          rcases hS5 with ⟨h0, hv5⟩ | ⟨h0, g5, c5, hv5⟩
          · subst hv5
            subst h0
            have HS3 : Hid (lays f (k + 1) = L) := Lib.hid (by rw [HS2.out]; simp [bitsOf])
            have HW6 : Hid (WA w w.heap.size w5 b v4 _ L L) := Lib.hid (by have := HW5.out; rw [show bitsOf y 0 = [] from rfl, List.append_nil] at this; exact this)
            clear HW5 HS2
            go_wp2_with (at_builtin; refine wpList_append_own_none rfl _ _ 26 rfl w.heap.size 4 i0 1 Try.underlying26 hi _ _ _ rfl HW6.out.all rfl ?_)
            go_wp2_with fail
            refine (wa_len b (L.length : Int) w _ w.heap.size v4 _ _ _ HW6.out rfl).mono ?_
            rintro e w7 ⟨rfl, rfl⟩
            go_wp2
            go_roundw
            case rel => exact ⟨k + 1, v4, by omega, by go_num, by rw [HS3.out]; exact HW6.out⟩
            case measure => simp [intOf]; omega
          · subst hv5
            go_wp2_with (at_builtin; refine wpList_append_own_at _ rfl _ _ 26 rfl w.heap.size 4 i0 (.bool false) 1 1 Try.underlying26 hi hz0 hz1 hz2 rfl (by decide) _ _ _ rfl HW5.out.all ⟨g5, 0, none⟩ zn c5 (bb (bitsOf y zn)) rfl (by rw [bb_length, bitsOf_length]; omega) (HO5.out.cells (g := g5) rfl) (bb_one _) (by unfold maxLen; omega) (by omega) (by omega) ?_)
            intro v6 w6 hown' hgrow hne hat
            have HW6 : Hid (WA w w.heap.size w6 b v4 v6 (lays f (k + 1)) (lays f (k + 1))) := Lib.hid (by
              rw [HS2.out]
              exact HW5.out.grows (by rw [List.length_append, bitsOf_length, bb_app]; exact hown') hgrow hat)
            obtain ⟨g6, c6, hv6⟩ := shape_of hown' (by omega)
            subst hv6
            have hlen6 : (L.length + zn : Nat) = (lays f (k + 1)).length := by rw [HS2.out, List.length_append, bitsOf_length]
            have HL6 := Lib.hid hlen6
            clear hown' hgrow hne hat HW5 HO5 hlen6
            go_wp2_with fail
            refine (wa_len b ((L.length : Int) + (zn : Int)) w w6 w.heap.size v4 _ _ _ HW6.out (by rw [← HL6.out]; simp)).mono ?_
            rintro e w7 ⟨rfl, rfl⟩
            go_wp2
            go_roundw
            case rel => exact ⟨k + 1, v4, by omega, by go_num, HW6.out⟩
            case measure => simp [intOf]; omega
        · have HS2 : Hid (lays f (k + 1) = L) := Lib.hid (by rw [HS.out]; unfold oneL; rw [if_neg (by simp), if_neg (by exact hz), List.append_nil])
          have hbad : z < 0 ∨ 64 < z := by omega
          have HP := Lib.hid fun W => put_arg b (y : Int) z W hbad
          have HWa := Lib.hid (HW.out.alloc (.cells #[.bool false, .int .u64 (y : Int), .int .i64 z] 30))
          clear HS hz
          by_cases hneg : z < 0
          · clear hbad
            go_wp2_with fail
            refine (HP.out _).mono ?_
            rintro e w4 ⟨rfl, rfl⟩
            go_wp2_with fail
            refine (wa_len b (L.length : Int) w _ w.heap.size v _ _ _ HWa.out rfl).mono ?_
            rintro e w7 ⟨rfl, rfl⟩
            go_wp2
            go_roundw
            case rel => exact ⟨k + 1, v, by omega, by go_num, by rw [HS2.out]; exact HWa.out⟩
            case measure => simp [intOf]; omega
          · have h64 : 64 < z := by omega
            clear hbad
            go_wp2_with fail
            refine (HP.out _).mono ?_
            rintro e w4 ⟨rfl, rfl⟩
            go_wp2_with fail
            refine (wa_len b (L.length : Int) w _ w.heap.size v _ _ _ HWa.out rfl).mono ?_
            rintro e w7 ⟨rfl, rfl⟩
            go_wp2
            go_roundw
            case rel => exact ⟨k + 1, v, by omega, by go_num, by rw [HS2.out]; exact HWa.out⟩
            case measure => simp [intOf]; omega
      · by_cases hy : y = 18446744073709551615
        · subst hy
          have HS2 : Hid (lays f (k + 1) = L) := Lib.hid (by rw [HS.out]; unfold oneL; rw [if_pos rfl, if_pos rfl, List.append_nil])
          have HP := Lib.hid fun W => count_arg b W
          have HWa := Lib.hid (HW.out.alloc (.cells #[.bool true, .int .u64 18446744073709551615, .int .i64 z] 30))
          clear HS
          go_wp2_with fail
          refine (HP.out _).mono ?_
          rintro e w4 ⟨rfl, rfl⟩
          go_wp2_with fail
          refine (wa_len b (L.length : Int) w _ w.heap.size v _ _ _ HWa.out rfl).mono ?_
          rintro e w7 ⟨rfl, rfl⟩
          go_wp2
          go_roundw
          case rel => exact ⟨k + 1, v, by omega, by go_num, by rw [HS2.out]; exact HWa.out⟩
          case measure => simp [intOf]; omega
        · have HS2 : Hid (lays f (k + 1) = L ++ countBits y) := Lib.hid (by rw [HS.out]; unfold oneL; rw [if_pos rfl, if_neg (by exact hy)])
          have hyn : y + 1 < 18446744073709551616 := by omega
          have hyb : ((y : Int) == 18446744073709551615) = false := by rw [beq_eq_false_iff_ne]; omega
          have hk63 := kz_63 y hyn
          clear HS hy
          go_wp2_with fail
          refine (wa_count b y _ w wr _ w.heap.size v _ L L HW.out ((Below.refl _ _).alloc (Nat.le_refl _) _) (by simp) hyn (by omega) rfl).mono ?_
          rintro e w4 ⟨rfl, ⟨v4, hW4⟩, hk4⟩
          have k1 := (hk4 1).trans (show _ = some (.int .u64 (y : Int)) by simp)
          have HW4 := Lib.hid hW4
          clear hW4 hk4 HW
          go_wp2_with fail
          refine (refCount_any y hyn w4).mono ?_
          rintro e w5 ⟨g5, c5, rfl, hO5, hB5⟩
          have HW5 := Lib.hid (HW4.out.more hB5)
          have HO5 := Lib.hid hO5
          have hB5s : w.heap.size ≤ w5.heap.size := HW5.out.size
          clear hO5 hB5 HW4 k1
          go_wp2_with (at_builtin; refine wpList_append_own_at _ rfl _ _ 26 rfl w.heap.size 4 i0 (.bool false) 1 1 Try.underlying26 hi hz0 hz1 hz2 rfl (by decide) _ _ _ rfl HW5.out.all ⟨g5, 0, none⟩ (2 * kz y + 1) c5 (bb (countBits y)) rfl (by rw [bb_length, countBits_length]; omega) (HO5.out.cells (g := g5) rfl) (bb_one _) (by unfold maxLen; omega) (by omega) (by omega) ?_)
          intro v6 w6 hown' hgrow hne hat
          have HW6 : Hid (WA w w.heap.size w6 b v4 v6 (lays f (k + 1)) (lays f (k + 1))) := Lib.hid (by
            rw [HS2.out]
            exact HW5.out.grows (by rw [List.length_append, countBits_length, bb_app]; exact hown') hgrow hat)
          obtain ⟨g6, c6, hv6⟩ := shape_of hown' (by omega)
          subst hv6
          have hlen6 : (L.length + (2 * kz y + 1) : Nat) = (lays f (k + 1)).length := by rw [HS2.out, List.length_append, countBits_length]
          have HL6 := Lib.hid hlen6
          clear hown' hgrow hne hat HW5 HO5 hlen6
          generalize 2 * kz y + 1 = cn at *
          go_wp2_with fail
          refine (wa_len b ((L.length : Int) + (cn : Int)) w w6 w.heap.size v4 _ _ _ HW6.out (by rw [← HL6.out]; simp)).mono ?_
          rintro e w7 ⟨rfl, rfl⟩
          go_wp2
          go_roundw
          case rel => exact ⟨k + 1, v4, by omega, by go_num, HW6.out⟩
          case measure => simp [intOf]; omega
    · obtain rfl : k = m := by omega
      clear hlt hk
      have hll2 : (lays f k).length ≤ 1048576 := by omega
      obtain ⟨L, hLL⟩ : ∃ L, L = lays f k := ⟨_, rfl⟩
      rw [← hLL] at HW hll hll2 ⊢
      clear hLL
      go_wp2_with fail
      refine (wa_out b w wr w.heap.size v _ L L HW.out).mono ?_
      rintro e w4 ⟨oa, oc, rfl, hO4, hB4⟩
      have HO4 := Lib.hid hO4
      have HB4 := Lib.hid hB4
      have HW4 := Lib.hid (HW.out.more hB4)
      clear hO4 hB4
      go_upto_region 24 with (fail)
      go_cut [11] (fun t wc => t = .bool true ∧ Below w4.heap.size w4 wc)
      case first =>
        have cv0 := conv_later HO4.out (Below.refl _ w4)
        have cv1 := conv_later HO4.out (Below.refl _ w4).drew
        first | (go_region_with (go_at_call 14; refine (wa_bytes b w _ w.heap.size v _ L L HW4.out.drew hll2).mono ?_; rintro e w5 ⟨v5, rfl, cv5, hB5⟩; have cv6 := conv_later HO4.out ((Below.refl _ w4).drew.trans hB5); have HB5 := Lib.hid hB5; clear hB5)) | fail
        all_goals (go_wp2_with fail; go_meet; exact ⟨rfl, (Below.refl _ w4).drew.trans HB5.out⟩)
      case rest =>
        obtain ⟨rfl, hBc⟩ := hcut
        have HOc : Hid (wc.ownsRow wr.heap.size 5 1 (.slice oa (nb L.length) oc) (nb L.length) (bc (pack L))) := Lib.hid (ownsRow_same HO4.out (fun k hk => hBc.block k (HO4.out.lt k hk).2))
        have HBc : Hid (Below wr.heap.size wr wc) := Lib.hid (HB4.out.trans (hBc.mono HB4.out.size))
        have hnl : nb L.length ≤ 1048576 := by unfold nb; omega
        clear hBc HO4 HB4 HW4
        obtain ⟨nL, hnL⟩ : ∃ nL, nL = nb L.length := ⟨_, rfl⟩
        rw [← hnL] at HOc hnl ⊢
        have HNL := Lib.hid hnL
        clear hnL
        obtain ⟨wo, hwo⟩ : ∃ wo : World, wo = wr := ⟨_, rfl⟩
        rw [← hwo] at HOc HBc HW
        clear hwo
        go_wp2
        go_loopw [80] (fun i wq => ∃ j : Nat, ∃ zs : List Nat, j ≤ nL ∧ i = .int .i64 (j : Int) ∧ wq.ownsRow wo.heap.size 5 1 (.slice oa nL oc) nL (bc zs) ∧ (∀ z ∈ zs, z ≤ 255) ∧ Below wo.heap.size wo wq) (fun i _ => nL - (intOf i).toNat)
        case atStart => exact ⟨0, pack L, Nat.zero_le _, rfl, HOc.out, pack_byte L, HBc.out⟩
        case round =>
          obtain ⟨j, zs, hj, rfl, hOq, hzq, hBq⟩ := hrel
          have HOq := Lib.hid hOq
          have HZq := Lib.hid hzq
          have HBq := Lib.hid hBq
          have hzl : zs.length = nL := by have := hOq.1; rw [bc_length] at this; omega
          clear hOq hzq hBq HOc HBc
          by_cases hjl : j < nL
          · obtain ⟨gB, cB, hs⟩ := shape_of HOq.out (by omega)
            simp only [Value.slice.injEq, true_and] at hs
            obtain ⟨rfl, rfl⟩ := hs
            have hgB : wo.heap.size ≤ gB := (HOq.out.lt gB rfl).1
            have cj : wr.cell? ⟨gB, j, none⟩ = some (.int .u8 ((zs.getD j 0 : Nat) : Int)) := by
              rw [HOq.out.cellAt _ (by omega)]
              simp [bc, List.getD, List.getElem?_eq_getElem (show j < zs.length by omega)]
            have fj : wr.frozen? ⟨gB, j, none⟩ = false := HOq.out.frozenAt _
            have hz : zs.getD j 0 ≤ 255 := by
              rw [List.getD, List.getElem?_eq_getElem (show j < zs.length by omega)]
              exact HZq.out _ (List.getElem_mem _)
            obtain ⟨y, hy, hy2⟩ := xor_byte (zs.getD j 0) hz
            generalize zs.getD j 0 = zj at *
            have ST : Hid ((wr.setCell ⟨gB, j, none⟩ (.int .u8 (y : Int))).ownsRow wo.heap.size 5 1 (.slice (some ⟨gB, 0, none⟩) nL oc) nL (bc (zs.set j y))) := Lib.hid (by
              have h1 := (HOq.out.stored j (.int .u8 (y : Int))).1
              rw [bc_set] at h1
              exact h1)
            have SB : Hid (Below wo.heap.size wo (wr.setCell ⟨gB, j, none⟩ (.int .u8 (y : Int)))) := Lib.hid (HBq.out.setCell (p := ⟨gB, j, none⟩) hgB _)
            have SZ : Hid (∀ z ∈ zs.set j y, z ≤ 255) := Lib.hid fun z hz => by
              rcases List.mem_or_eq_of_mem_set hz with x | x
              · exact HZq.out z x
              · omega
            have hjn : (j : Int) < (nL : Int) := by omega
            clear HOq HZq HBq
            go_wp2
            go_roundw
            case rel => exact ⟨j + 1, zs.set j y, by omega, by go_num, ST.out, SZ.out, SB.out⟩
            case measure => simp [intOf]; omega
          · obtain rfl : j = nL := by omega
            have HWq : Hid (WA w w.heap.size wr b v (.slice aa L.length acap) L L) := Lib.hid (HW.out.more HBq.out)
            clear HOq HZq hzl hjl HBq HW
            go_upto_region 30 with (fail)
            go_cut [2] (fun t wc => t = .bool true ∧ Below w.heap.size w wc)
            case first =>
              first | (go_region_with (first | (go_at_call 13; refine (wa_out b w _ w.heap.size v _ L L HWq.out.drew).mono ?_; rintro e w8 ⟨xa, xc, rfl, hO8, hB8⟩; have cv8 := conv_own hO8; have HO8 := Lib.hid hO8; have HW8 := Lib.hid (HWq.out.drew.more hB8); clear hO8 hB8) | (go_at_call 14; refine (wa_bytes b w _ w.heap.size v _ L L HW8.out hll2).mono ?_; rintro e w9 ⟨v9, rfl, cv9, hB9⟩; have cv10 := conv_later HO8.out hB9; have HW9 := Lib.hid (HW8.out.more hB9); clear hB9))) | fail
              all_goals (go_wp2_with fail; go_meet; exact ⟨rfl, HW9.out.below⟩)
            case rest =>
              obtain ⟨rfl, hBf⟩ := hcut
              have HBf := Lib.hid hBf
              clear hBf
              go_wp2
              go_ret
              exact ⟨rfl, HBf.out⟩

end Go.Proofs.Ytifcfoipeocmiaa
