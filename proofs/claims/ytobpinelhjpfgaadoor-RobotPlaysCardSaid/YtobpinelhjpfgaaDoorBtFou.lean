/-
  Plain facts: bits read off the bytes of laid bits; a count's bits.
  The statement BitsLong: its walk.
  What was laid at a place is taken there again.
-/
import Derived.Test.YtobpinelhjpfgaaDoorBtOne
import Derived.Test.YtobpinelhjpfgaaDoorBtThr
import Derived.Test.YtobpinelhjpfgaaDoorBtTwo
set_option linter.unusedVariables false
section
namespace Go.Proofs.YtobpinelhjpfgaaDoor
open Bp

theorem rbit_pack (bs : List Bool) (k : Nat) (h : k < 8 * nb bs.length) : rbit (pack bs) k = bitN bs k := by
  unfold rbit
  rw [pack_getD bs (k / 8) (by omega), byteAt_bit]
theorem rbit_take (zs : List Nat) (c k : Nat) (h : k < 8 * c) : rbit (zs.take c) k = rbit zs k := by
  unfold rbit
  rw [List.getD, List.getD, List.getElem?_take, if_pos (by omega)]
theorem pack_byte (bs : List Bool) : ∀ z ∈ pack bs, z ≤ 255 := by
  intro z hz
  simp only [pack, List.mem_map] at hz
  obtain ⟨i, _, rfl⟩ := hz
  exact byteAt_le bs i
theorem bitN_left (a b : List Bool) (i : Nat) (h : i < a.length) : bitN (a ++ b) i = bitN a i := by
  simp [bitN, List.getD, List.getElem?_append_left h]
theorem bitN_right (a b : List Bool) (i : Nat) : bitN (a ++ b) (a.length + i) = bitN b i := by
  unfold bitN
  rw [List.getD, List.getD, List.getElem?_append_right (by omega), Nat.add_sub_cancel_left]
theorem bitN_at (a b c : List Bool) (p i : Nat) (hp : a.length = p) (h : i < b.length) : bitN (a ++ b ++ c) (p + i) = bitN b i := by
  subst hp
  rw [List.append_assoc, bitN_right, bitN_left _ _ _ h]
/-- The bits of a number, by their places. -/
theorem bitN_bitsOf (n m i : Nat) (h : i < m) : bitN (bitsOf n m) i = n / 2 ^ (m - 1 - i) % 2 := by
  induction m generalizing n with
  | zero => omega
  | succ m ih =>
    rw [bitsOf_succ]
    rcases Nat.lt_or_ge i m with x | x
    · rw [bitN_left _ _ _ (by rw [bitsOf_length]; exact x), ih (n / 2) x, Nat.div_div_eq_div_mul, ← Nat.pow_succ']
      congr 3
      omega
    · obtain rfl : i = m := by omega
      have := bitN_right (bitsOf (n / 2) i) [n % 2 == 1] 0
      rw [bitsOf_length, Nat.add_zero] at this
      rw [this]
      have e : i + 1 - 1 - i = 0 := by omega
      rw [e, Nat.pow_zero, Nat.div_one]
      exact bn_mod n
theorem count_zero (x i : Nat) (h : i < kz x) : bitN (countBits x) i = 0 := by
  unfold countBits
  rw [bitN_left _ _ _ (by simpa using h)]
  simp [bitN, List.getD, h, bn]
theorem count_one (x : Nat) : bitN (countBits x) (kz x) = 1 := by
  unfold countBits
  have := bitN_right (List.replicate (kz x) false) (bitsOf (x + 1) (kz x + 1)) 0
  simp only [List.length_replicate, Nat.add_zero] at this
  rw [this, bitN_bitsOf _ _ _ (by omega)]
  have h1 := kz_le x
  have h2 := kz_lt x
  rw [Nat.pow_succ] at h2
  have e : kz x + 1 - 1 - 0 = kz x := by omega
  rw [e]
  have h3 : (x + 1) / 2 ^ kz x = 1 := by
    apply Nat.div_eq_of_lt_le
    · omega
    · omega
  rw [h3]
/-- A cut count is too short. -/
theorem cut_zs (x c : Nat) (hx : x + 1 < 18446744073709551616) (hc : c < nb (2 * kz x + 1)) :
    ∃ n, Zs ((pack (countBits x)).take c) 0 n ∧ n ≤ 63 ∧ 8 * ((pack (countBits x)).take c).length < 0 + (2 * n + 1) := by
  have hk := kz_63 x hx
  have hlen : ((pack (countBits x)).take c).length = c := by
    rw [List.length_take, pack_length, countBits_length]; omega
  have hnb : nb (2 * kz x + 1) = (2 * kz x + 8) / 8 := rfl
  have hb : ∀ k, k < 8 * c → rbit ((pack (countBits x)).take c) k = bitN (countBits x) k := fun k hkc => by
    rw [rbit_take _ _ _ hkc, rbit_pack _ _ (by rw [countBits_length]; omega)]
  rcases Nat.lt_or_ge (kz x) (8 * c) with h | h
  · refine ⟨kz x, ⟨by omega, by rw [hlen]; omega, fun j hj => ?_, .inr (.inr ?_)⟩, hk, by rw [hlen]; omega⟩
    · rw [Nat.zero_add, hb j (by omega), count_zero x j hj]
    · rw [Nat.zero_add, hb _ h, count_one]
  · refine ⟨8 * c, ⟨by omega, by rw [hlen]; omega, fun j hj => ?_, .inr (.inl (by rw [hlen]; omega))⟩, by omega, by rw [hlen]; omega⟩
    rw [Nat.zero_add, hb j hj, count_zero x j (by omega)]
/-- How far halving goes. -/
theorem half_more (y j : Nat) (h : 1 < y / 2 ^ j) : 2 ^ (j + 1) ≤ y := by
  have hp := Nat.two_pow_pos j
  have := (Nat.le_div_iff_mul_le hp).1 h
  rw [Nat.pow_succ]; omega
theorem half_end (x j : Nat) (h1 : 2 ^ j ≤ x + 1) (h : (x + 1) / 2 ^ j ≤ 1) : j = kz x := by
  have hp := Nat.two_pow_pos j
  have h2 : x + 1 < 2 ^ (j + 1) := by
    rw [Nat.pow_succ]
    rcases Nat.lt_or_ge (x + 1) (2 ^ j * 2) with y | y
    · exact y
    · have : 2 ≤ (x + 1) / 2 ^ j := (Nat.le_div_iff_mul_le hp).2 (by omega)
      omega
  exact pow_unique j (kz x) (x + 1) h1 h2 (kz_le x) (kz_lt x)

end Go.Proofs.YtobpinelhjpfgaaDoor
end

section
namespace Go.Proofs.YtobpinelhjpfgaaDoor
open Go.RowKit Bp

/-- A writer in block b that has laid the bits bs, all below B as it was in w0. -/
def Wb (w0 : World) (B : Nat) (w : World) (b : Nat) (bs : List Bool) : Prop := ∃ v, Wr w b v bs ∧ Below B w0 w ∧ B ≤ b
theorem wb_start (w0 w : World) (hb : Below w0.heap.size w0 w) : Wb w0 w0.heap.size (w.alloc (.cells #[.slice none 0 0, .int .i64 0] 153)) w.heap.size [] :=
  ⟨_, wr_start w, hb.alloc hb.size _, hb.size⟩
theorem Wb.lays {w0 w w' : World} {B b : Nat} {v : Value} {bs more : List Bool} (h : Wr w b v bs) (hb : Below B w0 w) (hB : B ≤ b) (hl : Lays w b v bs more w') : Wb w0 B w' b (bs ++ more) := by
  obtain ⟨v', h', ht⟩ := hl
  exact ⟨v', h', hb.trans (ht.below B (by have := (h.lt (k := b) (.inl rfl)).2; omega) (fun k hk => by have := (h.lt hk).1; omega)), hB⟩
theorem Wb.below {w0 w : World} {B b : Nat} {bs : List Bool} (h : Wb w0 B w b bs) : Below B w0 w := by obtain ⟨v, _, h, _⟩ := h; exact h
theorem Wb.size {w0 w : World} {B b : Nat} {bs : List Bool} (h : Wb w0 B w b bs) : B ≤ w.heap.size := by
  obtain ⟨v, h, _, h2⟩ := h
  have := (h.lt (k := b) (.inl rfl)).2
  omega
theorem wb_put (b n m : Nat) (N M : Int) (w0 w : World) (B : Nat) (bs : List Bool) (h : Wb w0 B w b bs) (hn : n < 18446744073709551616) (hm : m ≤ 64) (hl : bs.length + m ≤ 1048576) (hN : N = n) (hM : M = m) :
    Calls Tryd.prog 81 #[.pointer (some ⟨b, 0, none⟩), .int .u64 N, .int .i64 M] w fun e w' => e = .returned (.int .i64 0) ∧ Wb w0 B w' b (bs ++ bitsOf n m) := by
  subst hN hM
  obtain ⟨v, h1, h2, h3⟩ := h
  refine (put_ok b n m v bs w h1 hn hm hl).mono ?_
  rintro e w' ⟨rfl, hL⟩
  exact ⟨rfl, Wb.lays h1 h2 h3 hL⟩
theorem wb_count (b n : Nat) (N : Int) (w0 w : World) (B : Nat) (bs : List Bool) (h : Wb w0 B w b bs) (hn : n + 1 < 18446744073709551616) (hl : bs.length + (2 * kz n + 1) ≤ 1048576) (hN : N = n) :
    Calls Tryd.prog 88 #[.pointer (some ⟨b, 0, none⟩), .int .u64 N] w fun e w' => e = .returned (.int .i64 0) ∧ Wb w0 B w' b (bs ++ countBits n) := by
  subst hN
  obtain ⟨v, h1, h2, h3⟩ := h
  refine (count_ok b n v bs w h1 hn hl).mono ?_
  rintro e w' ⟨rfl, hL⟩
  exact ⟨rfl, Wb.lays h1 h2 h3 hL⟩
/-- Out of a writer: bytes in new memory. -/
theorem wb_out (b : Nat) (w0 w : World) (B : Nat) (bs : List Bool) (h : Wb w0 B w b bs) :
    Calls Tryd.prog 85 #[.pointer (some ⟨b, 0, none⟩)] w fun e w' => ∃ a cap, e = .returned (.slice a (nb bs.length) cap) ∧ w'.ownsRow w.heap.size 5 1 (.slice a (nb bs.length) cap) (nb bs.length) (bc (pack bs)) ∧ Wb w0 B w' b bs := by
  obtain ⟨v, h1, h2, h3⟩ := h
  refine (out_val b v bs w h1).mono ?_
  rintro e w' ⟨a, cap, rfl, ho, hb⟩
  have hlt := (h1.lt (k := b) (.inl rfl)).2
  exact ⟨a, cap, rfl, ho, v, h1.below hb, h2.trans (hb.mono (by omega)), h3⟩

theorem bytesAt_own {w : World} {base g n cap : Nat} {l : List Nat} (h : w.ownsRow base 5 1 (.slice (some ⟨g, 0, none⟩) n cap) n (bc l)) (c : Nat) (hc : c ≤ n) : BytesAt w (.slice (some ⟨g, 0, none⟩) c cap) (l.take c) := by
  have hl : l.length = n := by have := h.1; rw [bc_length] at this; omega
  refine .inr ⟨_, cap, by rw [List.length_take, hl]; congr 1; omega, fun j u hj => ?_⟩
  have hx := h.cells (g := g) rfl j u
  have : (bc (l.take c))[j]? = (bc l)[j]? ∨ (bc (l.take c))[j]? = none := by
    rcases Nat.lt_or_ge j c with y | y
    · left; simp [bc, y]
    · right; exact List.getElem?_eq_none (by rw [bc_length, List.length_take]; omega)
  rcases this with e | e
  · rw [e] at hj; exact hx hj
  · rw [e] at hj; cases hj

theorem long_out (b x : Nat) (w0 w : World) (B : Nat) (h : Wb w0 B w b (countBits x)) :
    Calls Tryd.prog 85 #[.pointer (some ⟨b, 0, none⟩)] w fun e w' => ∃ g cap L, e = .returned (.slice (some ⟨g, 0, none⟩) L cap) ∧ L = nb (2 * kz x + 1) ∧ L ≤ cap ∧ (∀ c, c ≤ L → BytesAt w' (.slice (some ⟨g, 0, none⟩) c cap) ((pack (countBits x)).take c)) ∧ Wb w0 B w' b (countBits x) := by
  refine (wb_out b w0 w B _ h).mono ?_
  rintro e w' ⟨a, cap, rfl, ho, hW⟩
  rw [countBits_length] at ho ⊢
  rcases ho.2 with ⟨_, h0⟩ | ⟨g, cap', cur, hv, hg, hh, hnc, hcm, hcs, htake⟩
  · unfold nb at h0; omega
  · rw [hv] at ho ⊢
    exact ⟨g, cap', _, rfl, rfl, hnc, fun c hc => bytesAt_own ho c hc, hW⟩

end Go.Proofs.YtobpinelhjpfgaaDoor
end

section
namespace Go.Proofs.YtobpinelhjpfgaaDoor
open Go.RowKit Bp

/-- From bit p on the bytes zs hold the bits more. -/
def Has (zs : List Nat) (p : Nat) (more : List Bool) : Prop := p + more.length ≤ 8 * zs.length ∧ ∀ i, i < more.length → rbit zs (p + i) = bitN more i

theorem has_pack (a more c : List Bool) (p : Nat) (hp : a.length = p) : Has (pack (a ++ more ++ c)) p more := by
  have hl : (a ++ more ++ c).length = p + more.length + c.length := by simp [← hp]; omega
  have hn : p + more.length ≤ 8 * nb (a ++ more ++ c).length := by rw [hl]; unfold nb; omega
  refine ⟨by rw [pack_length]; exact hn, fun i hi => ?_⟩
  rw [rbit_pack _ _ (by omega), bitN_at a more c p i hp hi]

theorem tk_has (zs : List Nat) (p m n : Nat) (h : ∀ i, i < m → rbit zs (p + i) = bitN (bitsOf n m) i) : tk zs p m = n % 2 ^ m := by
  induction m generalizing n with
  | zero => simp [tk, Nat.mod_one]
  | succ m ih =>
    have h1 := ih (n / 2) (fun i hi => by
      rw [h i (by omega), bitsOf_succ, bitN_left _ _ _ (by rw [bitsOf_length]; exact hi)])
    have h2 := h m (by omega)
    rw [bitN_bitsOf _ _ _ (by omega)] at h2
    have e : m + 1 - 1 - m = 0 := by omega
    rw [e, Nat.pow_zero, Nat.div_one] at h2
    rw [tk, h1, h2, Nat.pow_succ, Nat.mul_comm (2 ^ m) 2, Nat.mod_mul]
    omega
theorem Has.get {zs : List Nat} {p n m : Nat} (h : Has zs p (bitsOf n m)) : p + m ≤ 8 * zs.length ∧ tk zs p m = n % 2 ^ m := by
  obtain ⟨h1, h2⟩ := h
  rw [bitsOf_length] at h1 h2
  exact ⟨h1, tk_has zs p m n h2⟩
theorem Has.count {zs : List Nat} {p x : Nat} (hx : x + 1 < 18446744073709551616) (h : Has zs p (countBits x)) :
    Zs zs p (kz x) ∧ kz x ≤ 63 ∧ p + (2 * kz x + 1) ≤ 8 * zs.length ∧ tk zs (p + kz x) (kz x + 1) = x + 1 := by
  obtain ⟨h1, h2⟩ := h
  rw [countBits_length] at h1 h2
  have hk := kz_63 x hx
  refine ⟨⟨by omega, by omega, fun j hj => by rw [h2 j (by omega), count_zero x j hj], .inr (.inr (by rw [h2 _ (by omega), count_one]))⟩, hk, h1, ?_⟩
  have h3 : ∀ i, i < kz x + 1 → rbit zs (p + kz x + i) = bitN (bitsOf (x + 1) (kz x + 1)) i := fun i hi => by
    rw [Nat.add_assoc, h2 (kz x + i) (by omega)]
    unfold countBits
    have := bitN_right (List.replicate (kz x) false) (bitsOf (x + 1) (kz x + 1)) i
    simp only [List.length_replicate] at this
    exact this
  rw [tk_has zs (p + kz x) (kz x + 1) (x + 1) h3, Nat.mod_eq_of_lt (kz_lt x)]
/-- At the end of what was laid: fewer than 8 bits are left, and all are 0. -/
theorem zs_end (bs : List Bool) : Zs (pack bs) bs.length (8 * nb bs.length - bs.length) ∧ 8 * (pack bs).length < bs.length + 8 ∧ bs.length + (8 * nb bs.length - bs.length) = 8 * (pack bs).length ∧ bs.length ≤ 8 * (pack bs).length := by
  have h : bs.length ≤ 8 * nb bs.length ∧ 8 * nb bs.length < bs.length + 8 := by unfold nb; omega
  rw [pack_length]
  refine ⟨⟨by omega, by rw [pack_length]; omega, fun j hj => ?_, .inr (.inl (by rw [pack_length]; omega))⟩, h.2, by omega, h.1⟩
  rw [rbit_pack _ _ (by omega), bitN_ge _ _ (by omega)]

/-- Get at a place where a number was laid. -/
theorem get_has (B b : Nat) (v : Value) (zs : List Nat) (p n m : Nat) (M : Int) (w : World) (h : Rd B w b v zs p 0) (hm : m ≤ 64) (hh : Has zs p (bitsOf n m)) (hM : M = m) :
    Calls Tryd.prog 74 #[.pointer (some ⟨b, 0, none⟩), .int .i64 M] w fun e w' => e = .returned (.int .u64 ((n % 2 ^ m : Nat) : Int)) ∧ RdTo B w b v zs (p + m) 0 w' := by
  subst hM
  have := get_ok B b v zs p m w h hm hh.get.1
  rw [hh.get.2] at this
  exact this
/-- Count at a place where a count was laid. -/
theorem count_has (B b : Nat) (v : Value) (zs : List Nat) (p x : Nat) (w : World) (h : Rd B w b v zs p 0) (hx : x + 1 < 18446744073709551616) (hh : Has zs p (countBits x)) :
    Calls Tryd.prog 75 #[.pointer (some ⟨b, 0, none⟩)] w fun e w' => e = .returned (.int .u64 (x : Int)) ∧ RdTo B w b v zs (p + (2 * kz x + 1)) 0 w' := by
  obtain ⟨h1, h2, h3, h4⟩ := hh.count hx
  have := rcount_ok B b v zs p (kz x) w h h1 h2 h3
  rw [h4, Nat.add_sub_cancel] at this
  exact this
/-- End behind all that was laid. -/
theorem end_has (B b : Nat) (v : Value) (bs : List Bool) (w : World) (h : Rd B w b v (pack bs) bs.length 0) :
    Calls Tryd.prog 78 #[.pointer (some ⟨b, 0, none⟩)] w fun e w' => e = .returned (.int .i64 0) ∧ RdTo B w b v (pack bs) bs.length 0 w' := by
  obtain ⟨h1, h2, h3, h4⟩ := zs_end bs
  have := end_bit B b v (pack bs) bs.length _ w h h1 h2
  rw [if_neg (by omega)] at this
  exact this

end Go.Proofs.YtobpinelhjpfgaaDoor
end
