/-
  The statement BitsFirst: its walk.
-/
import Derived.Test.YtjjcomdmeodicaaBitsPlain5
import Derived.Test.YtjjcomdmeodicaaBitsLongW
import Derived.Test.YtjjcomdmeodicaaArgs
import Derived.Deep.RegionHeld3
set_option linter.unusedVariables false
namespace Go.Proofs.Ytjjcomdmeodicaa
open Go.RowKit Bp

/-- The bits of the first k bytes. -/
def flat (f : Nat → Nat) (k : Nat) : List Bool := (List.range k).flatMap fun i => bitsOf (f i) 8
theorem flat_succ (f : Nat → Nat) (k : Nat) : flat f (k + 1) = flat f k ++ bitsOf (f k) 8 := by
  simp [flat, List.range_succ]
theorem flat_length (f : Nat → Nat) (k : Nat) : (flat f k).length = 8 * k := by
  induction k with
  | zero => rfl
  | succ k ih => rw [flat_succ, List.length_append, ih, bitsOf_length]; omega
theorem flat_more (f : Nat → Nat) (k d : Nat) : ∃ c, flat f (k + 1 + d) = flat f k ++ bitsOf (f k) 8 ++ c := by
  induction d with
  | zero => exact ⟨[], by rw [Nat.add_zero, flat_succ, List.append_nil]⟩
  | succ d ih =>
    obtain ⟨c, hc⟩ := ih
    exact ⟨c ++ bitsOf (f (k + 1 + d)) 8, by rw [← Nat.add_assoc, flat_succ, hc]; simp⟩
theorem flat_split (f : Nat → Nat) (k m : Nat) (h : k < m) : ∃ c, flat f m = flat f k ++ bitsOf (f k) 8 ++ c := by
  obtain ⟨c, hc⟩ := flat_more f k (m - (k + 1))
  exact ⟨c, by rw [← hc]; congr 1; omega⟩

theorem bytesAt_all {w : World} {base : Nat} {v : Value} {n : Nat} {l : List Nat} (h : w.ownsRow base 5 1 v n (bc l)) : BytesAt w v l := by
  have hl : l.length = n := by have := h.1; rw [bc_length] at this; omega
  rcases h.2 with ⟨rfl, rfl⟩ | ⟨g, cap, cur, rfl, _⟩
  · exact .inl ⟨rfl, List.eq_nil_of_length_eq_zero hl⟩
  · have := bytesAt_own h n (Nat.le_refl _)
    rwa [List.take_of_length_le (by omega)] at this

/-- A reader of what a writer has laid, beside the writer's world. -/
def Rb (w0 : World) (B : Nat) (w : World) (b : Nat) (zs : List Nat) (p : Nat) (f : Int) : Prop := ∃ C v, Rd C w b v zs p f ∧ B ≤ C ∧ Below B w0 w
theorem Rb.below {w0 w : World} {B b : Nat} {zs : List Nat} {p : Nat} {f : Int} (h : Rb w0 B w b zs p f) : Below B w0 w := by obtain ⟨C, v, _, _, h⟩ := h; exact h
theorem rb_start {w0 w w' : World} {B b : Nat} {v : Value} {zs : List Nat} (hb : Below B w0 w) (hs : B ≤ w.heap.size) (h : Rd w.heap.size w' b v zs 0 0) (hb' : Below w.heap.size w w') : Rb w0 B w' b zs 0 0 :=
  ⟨_, v, h, hs, hb.trans (hb'.mono hs)⟩
theorem Rb.to {w0 w w' : World} {B C b : Nat} {v : Value} {zs : List Nat} {p q : Nat} {f g : Int} (h : Rd C w b v zs p f) (hC : B ≤ C) (hb : Below B w0 w) (ht : RdTo C w b v zs q g w') : Rb w0 B w' b zs q g :=
  ⟨C, v, ht.1, hC, hb.trans (ht.2.below B (by have := h.base; have := (h.lt (k := b) (.inl rfl)).2; omega) (fun k hk => Nat.le_trans hC (h.lt hk).1))⟩
theorem Rb.drew {w0 w : World} {B b : Nat} {zs : List Nat} {p : Nat} {f : Int} (h : Rb w0 B w b zs p f) : Rb w0 B w.drew b zs p f := by
  obtain ⟨C, v, h1, h2, h3⟩ := h
  exact ⟨C, v, h1.drew, h2, h3.drew⟩
theorem rb_get (b : Nat) (zs : List Nat) (p n m : Nat) (M : Int) (w0 w : World) (B : Nat) (h : Rb w0 B w b zs p 0) (hm : m ≤ 64) (hh : Has zs p (bitsOf n m)) (hM : M = m) :
    Calls Try.prog 24 #[.pointer (some ⟨b, 0, none⟩), .int .i64 M] w fun e w' => e = .returned (.int .u64 ((n % 2 ^ m : Nat) : Int)) ∧ Rb w0 B w' b zs (p + m) 0 := by
  obtain ⟨C, v, h1, h2, h3⟩ := h
  refine (get_has C b v zs p n m M w h1 hm hh hM).mono ?_
  rintro e w' ⟨rfl, ht⟩
  exact ⟨rfl, Rb.to h1 h2 h3 ht⟩
theorem rb_get_small (b : Nat) (zs : List Nat) (p n m : Nat) (M : Int) (w0 w : World) (B : Nat) (h : Rb w0 B w b zs p 0) (hm : m ≤ 64) (hh : Has zs p (bitsOf n m)) (hM : M = m) (hn : n < 2 ^ m) :
    Calls Try.prog 24 #[.pointer (some ⟨b, 0, none⟩), .int .i64 M] w fun e w' => e = .returned (.int .u64 (n : Int)) ∧ Rb w0 B w' b zs (p + m) 0 := by
  have := rb_get b zs p n m M w0 w B h hm hh hM
  rw [Nat.mod_eq_of_lt hn] at this
  exact this
theorem rb_count (b : Nat) (zs : List Nat) (p x : Nat) (w0 w : World) (B : Nat) (h : Rb w0 B w b zs p 0) (hx : x + 1 < 18446744073709551616) (hh : Has zs p (countBits x)) :
    Calls Try.prog 22 #[.pointer (some ⟨b, 0, none⟩)] w fun e w' => e = .returned (.int .u64 (x : Int)) ∧ Rb w0 B w' b zs (p + (2 * kz x + 1)) 0 := by
  obtain ⟨C, v, h1, h2, h3⟩ := h
  refine (count_has C b v zs p x w h1 hx hh).mono ?_
  rintro e w' ⟨rfl, ht⟩
  exact ⟨rfl, Rb.to h1 h2 h3 ht⟩
theorem rb_end (b : Nat) (bs : List Bool) (w0 w : World) (B : Nat) (h : Rb w0 B w b (pack bs) bs.length 0) :
    Calls Try.prog 27 #[.pointer (some ⟨b, 0, none⟩)] w fun e w' => e = .returned (.int .i64 0) ∧ Rb w0 B w' b (pack bs) bs.length 0 := by
  obtain ⟨C, v, h1, h2, h3⟩ := h
  refine (end_has C b v bs w h1).mono ?_
  rintro e w' ⟨rfl, ht⟩
  exact ⟨rfl, Rb.to h1 h2 h3 ht⟩
/-- NewReader of a writer's Out. -/
theorem rb_new (v : Value) (bs : List Bool) (w0 w : World) (B base n : Nat) (b : Nat) (ho : w.ownsRow base 5 1 v n (bc (pack bs))) (h : Wb w0 B w b bs) :
    Calls Try.prog 20 #[v] w fun e w' => ∃ rb, e = .returned (.pointer (some ⟨rb, 0, none⟩)) ∧ Rb w0 B w' rb (pack bs) 0 0 := by
  obtain ⟨u, h1, h2, h3⟩ := h
  have hf := h1.few
  refine (newReader_any v (pack bs) w (bytesAt_all ho) (by rw [pack_length]; unfold nb; omega) (pack_byte bs)).mono ?_
  rintro e w' ⟨rb, rv, rfl, hR, hB⟩
  have hs := (h1.lt (k := b) (.inl rfl)).2
  exact ⟨rb, rfl, rb_start h2 (by omega) hR hB⟩

set_option maxHeartbeats 2000000 in
theorem bitsFirst_walk (n : Nat) (hn : n < 18446744073709551616) (ao : Option Addr) (len cap : Nat) (f : Nat → Nat) (w : World) (hA : ArgIn (fun z : Nat => Value.int .u8 (z : Int)) w ao len cap f) (hf : ∀ i, i < len → f i ≤ 255) :
    Calls Try.prog 7 #[.int .u64 (n : Int), .slice ao len cap] w fun e w' => e = .returned (.bool true) ∧ Below w.heap.size w w' := by
  obtain ⟨x, hx, hx2⟩ : ∃ x : Nat, (n : Int) % 9223372036854775808 = x ∧ x + 1 < 18446744073709551616 := ⟨n % 9223372036854775808, by omega, by omega⟩
  have HX := Lib.hid hx
  have HF := Lib.hid hf
  have HA := Lib.hid hA
  have hle := hA.le
  have hmax := hA.max
  unfold maxLen at hmax
  obtain ⟨m, hm, hml, hm1⟩ : ∃ m : Nat, min (len : Int) 1000 = m ∧ m ≤ len ∧ m ≤ 1000 := ⟨min len 1000, by omega, by omega, by omega⟩
  clear hx hf hA
  go_enter Try.func7, Try.ntmps7
  go_wp2_with (first | (go_at_call 10; refine (shown_any _).mono ?_; rintro e w1 ⟨rfl, hb1⟩; have HB1 := Lib.hid hb1; clear hb1) | (go_at_call 11; refine (newWriter_any _).mono ?_; rintro e w2 ⟨rfl, rfl⟩))
  rw [HX.out]
  have hst := wb_start w w1 HB1.out
  obtain ⟨b, hb⟩ : ∃ b, b = w1.heap.size := ⟨_, rfl⟩
  rw [← hb] at hst ⊢
  have HST := Lib.hid hst
  have hk63 := kz_63 x hx2
  clear hst HB1 hb HX
  refine (wb_count b x _ w _ _ [] HST.out hx2 (by simp; omega) rfl).mono ?_
  rintro e w3 ⟨rfl, hW⟩
  rw [List.nil_append] at hW
  have HW := Lib.hid hW
  clear hW HST
  go_wp2
  clear hm
  go_loopw [31] (fun i wr => ∃ k : Nat, k ≤ m ∧ i = .int .i64 (k : Int) ∧ Wb w w.heap.size wr b (countBits x ++ flat f k)) (fun i _ => m - (intOf i).toNat)
  case atStart => exact ⟨0, Nat.zero_le _, rfl, by simpa [flat] using HW.out⟩
  case round =>
    obtain ⟨k, hk, rfl, hWr⟩ := hrel
    have HWr := Lib.hid hWr
    clear hWr HW
    have hlen : (countBits x ++ flat f k).length = 2 * kz x + 1 + 8 * k := by rw [List.length_append, countBits_length, flat_length]
    have HLen := Lib.hid hlen
    clear hlen
    by_cases hlt : k < m
    · obtain ⟨g, off, hao, hg, hc⟩ := HA.out.cell k (by omega)
      subst hao
      have hc1 : wr.cell? ⟨g, off + k, none⟩ = some (.int .u8 (f k : Int)) := (HWr.out.below.cell (p := ⟨g, off + k, none⟩) hg).trans hc
      have hfk := HF.out k (by omega)
      clear hc
      have HS : Hid (countBits x ++ flat f (k + 1) = (countBits x ++ flat f k) ++ bitsOf (f k) 8) := Lib.hid (by rw [flat_succ, List.append_assoc])
      generalize f k = z at *
      go_wp2_with fail
      refine (wb_put b z 8 _ 8 w wr w.heap.size _ HWr.out (by omega) (by omega) (by rw [HLen.out]; omega) rfl rfl).mono ?_
      rintro e w4 ⟨rfl, hW4⟩
      rw [← HS.out] at hW4
      have HW4 := Lib.hid hW4
      clear hW4 HWr
      go_wp2
      go_roundw
      case rel => exact ⟨k + 1, by omega, by go_num, HW4.out⟩
      case measure => simp [intOf]; omega
    · obtain rfl : k = m := by omega
      go_wp2_with fail
      obtain ⟨bs, hbs⟩ : ∃ bs, bs = countBits x ++ flat f k := ⟨_, rfl⟩
      rw [← hbs] at HWr HLen
      have HBS := Lib.hid hbs
      clear hbs
      refine (wb_out b w wr w.heap.size bs HWr.out).mono ?_
      rintro e w4 ⟨oa, oc, rfl, ho, hW4⟩
      have HO := Lib.hid ho
      have HW4 := Lib.hid hW4
      clear ho hW4 HWr
      go_wp2_with fail
      refine (rb_new _ bs w w4 w.heap.size _ _ b HO.out HW4.out).mono ?_
      rintro e w5 ⟨rb, rfl, hR5⟩
      have HR5 := Lib.hid hR5
      clear hR5 HO HW4
      go_wp2_with fail
      refine (rb_count rb (pack bs) 0 x w w5 w.heap.size HR5.out hx2 (by rw [HBS.out]; exact has_pack [] (countBits x) (flat f k) 0 rfl)).mono ?_
      rintro e w6 ⟨rfl, hR6⟩
      have HR6 := Lib.hid hR6
      clear hR6 HR5
      go_wp2
      obtain ⟨wo, hwo⟩ : ∃ wo : World, wo = wr := ⟨_, rfl⟩
      clear hwo wo
      go_loopw [56] (fun i wq => ∃ j : Nat, j ≤ k ∧ i = .int .i64 (j : Int) ∧ Rb w w.heap.size wq rb (pack bs) (2 * kz x + 1 + 8 * j) 0) (fun i _ => k - (intOf i).toNat)
      case atStart => exact ⟨0, Nat.zero_le _, rfl, by simpa using HR6.out⟩
      case round =>
        obtain ⟨j, hj, rfl, hRr⟩ := hrel
        have HRr := Lib.hid hRr
        clear hRr HR6
        by_cases hjl : j < k
        · obtain ⟨g, off, hao, hg, hc⟩ := HA.out.cell j (by omega)
          subst hao
          have hc1 : ∀ wz, Rb w w.heap.size wz rb (pack bs) (2 * kz x + 1 + 8 * (j + 1)) 0 → wz.cell? ⟨g, off + j, none⟩ = some (.int .u8 (f j : Int)) := fun wz hz => (hz.below.cell (p := ⟨g, off + j, none⟩) hg).trans hc
          have hc2 := (HRr.out.below.cell (p := ⟨g, off + j, none⟩) hg).trans hc
          have hfj := HF.out j (by omega)
          have hH : Has (pack bs) (2 * kz x + 1 + 8 * j) (bitsOf (f j) 8) := by
            obtain ⟨c, hcc⟩ := flat_split f j k hjl
            rw [HBS.out, hcc, ← List.append_assoc, ← List.append_assoc]
            exact has_pack _ _ _ _ (by rw [List.length_append, countBits_length, flat_length])
          have HH := Lib.hid hH
          have HC1 := Lib.hid hc1
          clear hH hc1 hc
          generalize f j = z at *
          go_wp2_with fail
          have hwz : IntKind.u64.wrap (z : Int) = (z : Int) := IntWalk.u64_in _ (by omega)
          go_region_held3 (fun w' => w'.cell? ⟨g, off + j, none⟩ = some (.int .u8 (z : Int))) (first | go_keep | (apply HC1.out; assumption))
            (first | (go_at_call 24; refine (rb_get_small rb (pack bs) (2 * kz x + 1 + 8 * j) z 8 8 w _ w.heap.size (by first | exact HRr.out | exact HRr.out.drew) (by omega) HH.out rfl (by omega)).mono ?_; rintro e w7 ⟨rfl, hR7⟩))
          have HR7 := Lib.hid hR7
          clear hR7
          go_wp2
          go_roundw
          case rel => exact ⟨j + 1, by omega, by go_num, by first | exact HR7.out | exact HR7.out.drew⟩
          case measure => simp [intOf]; omega
        · obtain rfl : j = k := by omega
          have hfin : Rb w w.heap.size wr rb (pack bs) bs.length 0 := by
            rw [HLen.out]; exact HRr.out
          have HFin := Lib.hid hfin
          clear hfin
          go_wp2_with fail
          refine (rb_end rb bs w _ w.heap.size HFin.out).mono ?_
          rintro e w8 ⟨rfl, hR8⟩
          have HR8 := Lib.hid hR8
          clear hR8
          go_wp2
          go_ret
          exact ⟨rfl, HR8.out.below⟩

end Go.Proofs.Ytjjcomdmeodicaa
