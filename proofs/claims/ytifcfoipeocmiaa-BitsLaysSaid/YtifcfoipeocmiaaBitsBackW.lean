/-
  The statement BitsBack: its walk.
-/
import Derived.Test.YtifcfoipeocmiaaBitsFirstW
import Derived.Test.YtifcfoipeocmiaaBitsArgs
import Derived.Deep.DeepCutAuto
set_option linter.unusedVariables false
namespace Go.Proofs.Ytifcfoipeocmiaa
open Go.RowKit Bp

theorem few_any (ao : Option Addr) (len cap m : Nat) (w : World) (hle : len ≤ cap) (hmax : cap ≤ 9223372036854775807) (hm : min (len : Int) 300 = m) :
    Calls Try.prog 7 #[.slice ao len cap] w fun e w' => e = .returned (.slice ao m cap) ∧ w = w' := by
  have h1 : m ≤ len := by omega
  go_enter Try.func7, Try.ntmps7
  go_wp2
  go_ret
  exact ⟨rfl, rfl⟩

theorem Wb.alloc {w0 w : World} {B b : Nat} {bs : List Bool} (h : Wb w0 B w b bs) (o : Obj) : Wb w0 B (w.alloc o) b bs := by
  obtain ⟨v, h1, h2, h3⟩ := h
  have hlt := (h1.lt (k := b) (.inl rfl)).2
  exact ⟨v, h1.frame (fun k hk => Below.heap_alloc _ _ _ (h1.lt hk).2), h2.alloc (by omega) _, h3⟩
theorem Rb.alloc {w0 w : World} {B b : Nat} {zs : List Nat} {p : Nat} {f : Int} (h : Rb w0 B w b zs p f) (o : Obj) : Rb w0 B (w.alloc o) b zs p f := by
  obtain ⟨C, v, h1, h2, h3⟩ := h
  have hlt := (h1.lt (k := b) (.inl rfl))
  exact ⟨C, v, h1.frame (fun k hk => Below.heap_alloc _ _ _ (h1.lt hk).2), h2, h3.alloc (by omega) _⟩

/-- A world beside: what was there is as it was, and more blocks may be there. -/
def Beside (w W : World) : Prop := (∀ k, k < w.heap.size → W.heap[k]? = w.heap[k]?) ∧ Below w.heap.size w W
theorem beside_alloc (w : World) (o : Obj) : Beside w (w.alloc o) := ⟨fun k hk => Below.heap_alloc _ _ _ hk, (Below.refl _ _).alloc (Nat.le_refl _) _⟩
theorem Beside.drew {w W : World} (h : Beside w W) : Beside w W.drew := ⟨h.1, h.2.drew⟩
theorem rb_beside {w0 w W : World} {B b : Nat} {zs : List Nat} {p : Nat} {f : Int} (h : Rb w0 B w b zs p f) (hW : Beside w W) :
    ∃ C v, Rd C W b v zs p f ∧ B ≤ C ∧ Below B w0 W ∧ ∀ k, RF b v k → k < w.heap.size := by
  obtain ⟨C, v, h1, h2, h3⟩ := h
  have hlt := (h1.lt (k := b) (.inl rfl))
  exact ⟨C, v, h1.frame (fun k hk => hW.1 k (h1.lt hk).2), h2, h3.trans (hW.2.mono (by omega)), fun k hk => (h1.lt hk).2⟩
/-- A block beside a reader is as it was behind the reader's call. -/
theorem turn_beside {w W W' : World} {b : Nat} {v : Value} (ht : Turn (RF b v) (RF b v) W W') (hf : ∀ k, RF b v k → k < w.heap.size) (hlt : w.heap.size < W.heap.size) (j : Nat) :
    W'.cell? ⟨w.heap.size, j, none⟩ = W.cell? ⟨w.heap.size, j, none⟩ :=
  World.cell?_of_block (a := ⟨w.heap.size, j, none⟩) (ht.block w.heap.size hlt (fun x => by have := hf _ x; omega))
theorem rb_get_beside (b : Nat) (zs : List Nat) (p n m : Nat) (M : Int) (w0 w W : World) (B : Nat) (h : Rb w0 B w b zs p 0) (hW : Beside w W) (hlt : w.heap.size < W.heap.size) (hm : m ≤ 64) (hh : Has zs p (bitsOf n m)) (hM : M = m) (hn : n < 2 ^ m) :
    Calls Try.prog 17 #[.pointer (some ⟨b, 0, none⟩), .int .i64 M] W fun e w' => e = .returned (.int .u64 (n : Int)) ∧ Rb w0 B w' b zs (p + m) 0 ∧ ∀ j, w'.cell? ⟨w.heap.size, j, none⟩ = W.cell? ⟨w.heap.size, j, none⟩ := by
  obtain ⟨C, v, h1, h2, h3, h4⟩ := rb_beside h hW
  have := get_has C b v zs p n m M W h1 hm hh hM
  rw [Nat.mod_eq_of_lt hn] at this
  refine this.mono ?_
  rintro e w' ⟨rfl, ht⟩
  exact ⟨rfl, Rb.to h1 h2 h3 ht, turn_beside ht.2 h4 hlt⟩
theorem rb_count_beside (b : Nat) (zs : List Nat) (p x : Nat) (w0 w W : World) (B : Nat) (h : Rb w0 B w b zs p 0) (hW : Beside w W) (hlt : w.heap.size < W.heap.size) (hx : x + 1 < 18446744073709551616) (hh : Has zs p (countBits x)) :
    Calls Try.prog 16 #[.pointer (some ⟨b, 0, none⟩)] W fun e w' => e = .returned (.int .u64 (x : Int)) ∧ Rb w0 B w' b zs (p + (2 * kz x + 1)) 0 ∧ ∀ j, w'.cell? ⟨w.heap.size, j, none⟩ = W.cell? ⟨w.heap.size, j, none⟩ := by
  obtain ⟨C, v, h1, h2, h3, h4⟩ := rb_beside h hW
  refine (count_has C b v zs p x W h1 hx hh).mono ?_
  rintro e w' ⟨rfl, ht⟩
  exact ⟨rfl, Rb.to h1 h2 h3 ht, turn_beside ht.2 h4 hlt⟩

theorem rb_left (b : Nat) (zs : List Nat) (p : Nat) (w0 w : World) (B : Nat) (h : Rb w0 B w b zs p 0) :
    Calls Try.prog 19 #[.pointer (some ⟨b, 0, none⟩)] w fun e w' => e = .returned (.int .i64 ((zs.length : Int) * 8 - (p : Int))) ∧ Rb w0 B w' b zs p 0 := by
  obtain ⟨C, v, h1, h2, h3⟩ := h
  refine (rleft_any C b v zs p 0 w h1).mono ?_
  rintro e w' ⟨rfl, rfl⟩
  exact ⟨rfl, C, v, h1.drew, h2, h3.drew⟩

/-- The bits of one thing that is laid. -/
def one (q : Bool × Nat × Int) : List Bool := if q.1 then countBits (q.2.1 % 9223372036854775808) else bitsOf q.2.1 64
/-- The bits of the first k. -/
def laid (f : Nat → Bool × Nat × Int) (k : Nat) : List Bool := (List.range k).flatMap fun i => one (f i)
theorem laid_succ (f : Nat → Bool × Nat × Int) (k : Nat) : laid f (k + 1) = laid f k ++ one (f k) := by simp [laid, List.range_succ]
theorem one_false (y : Nat) (z : Int) : one (false, y, z) = bitsOf y 64 := by unfold one; rw [if_neg (by simp)]
theorem one_true (y : Nat) (z : Int) : one (true, y, z) = countBits (y % 9223372036854775808) := by unfold one; rw [if_pos rfl]
theorem one_le (q : Bool × Nat × Int) : (one q).length ≤ 127 := by
  unfold one
  split
  · rw [countBits_length]
    have := kz_63 (q.2.1 % 9223372036854775808) (by omega)
    omega
  · rw [bitsOf_length]; omega
theorem laid_le (f : Nat → Bool × Nat × Int) (k : Nat) : (laid f k).length ≤ 127 * k := by
  induction k with
  | zero => simp [laid]
  | succ k ih => rw [laid_succ, List.length_append]; have := one_le (f k); omega
theorem laid_more (f : Nat → Bool × Nat × Int) (k d : Nat) : ∃ c, laid f (k + 1 + d) = laid f k ++ one (f k) ++ c := by
  induction d with
  | zero => exact ⟨[], by rw [Nat.add_zero, laid_succ, List.append_nil]⟩
  | succ d ih =>
    obtain ⟨c, hc⟩ := ih
    exact ⟨c ++ one (f (k + 1 + d)), by rw [← Nat.add_assoc, laid_succ, hc]; simp⟩
theorem laid_has (f : Nat → Bool × Nat × Int) (k m : Nat) (h : k < m) : Has (pack (laid f m)) (laid f k).length (one (f k)) := by
  obtain ⟨c, hc⟩ := laid_more f k (m - (k + 1))
  have e : k + 1 + (m - (k + 1)) = m := by omega
  rw [e] at hc
  rw [hc]
  exact has_pack _ _ _ _ rfl

set_option maxHeartbeats 2000000 in
theorem bitsBack_walk (ao : Option Addr) (len cap : Nat) (f : Nat → Bool × Nat × Int) (w : World) (hA : ArgRows 3 (putCell f) w ao len cap) (hf : ∀ i, i < len → (f i).2.1 < 18446744073709551616 ∧ -9223372036854775808 ≤ (f i).2.2 ∧ (f i).2.2 ≤ 9223372036854775807) :
    Calls Try.prog 4 #[.slice ao len cap] w fun e w' => e = .returned (.bool true) ∧ Below w.heap.size w w' := by
  have HF := Lib.hid hf
  have HA := Lib.hid hA
  have hle := hA.le
  have hmax : cap ≤ 9223372036854775807 := hA.max
  obtain ⟨m, hm, hml, hm1⟩ : ∃ m : Nat, min (len : Int) 300 = m ∧ m ≤ len ∧ m ≤ 300 := ⟨min len 300, by omega, by omega, by omega⟩
  have HFew := Lib.hid fun w => few_any ao len cap m w hle hmax hm
  clear hf hA hm
  go_enter Try.func4, Try.ntmps4
  go_wp2_with (first | (go_at_call 5; refine (shown_any _).mono ?_; rintro e w1 ⟨rfl, hb1⟩; have HB1 := Lib.hid hb1; clear hb1) | (go_at_call 6; refine (newWriter_any _).mono ?_; rintro e w2 ⟨rfl, rfl⟩) | (go_at_call 7; refine (HFew.out _).mono ?_; rintro e w3 ⟨rfl, rfl⟩))
  have hst := wb_start w w1 HB1.out
  obtain ⟨b, hb⟩ : ∃ b, b = w1.heap.size := ⟨_, rfl⟩
  rw [← hb] at hst ⊢
  have HST := Lib.hid hst
  clear hst HB1 hb
  go_loopw [17] (fun i wr => ∃ k : Nat, k ≤ m ∧ i = .int .i64 (k : Int) ∧ Wb w w.heap.size wr b (laid f k)) (fun i _ => m - (intOf i).toNat)
  case atStart => exact ⟨0, Nat.zero_le _, rfl, HST.out⟩
  case round =>
    obtain ⟨k, hk, rfl, hWr⟩ := hrel
    have HWr := Lib.hid hWr
    clear hWr HST
    have hll := laid_le f k
    by_cases hlt : k < m
    · obtain ⟨g, off, hao, hg, hc⟩ := HA.out.cell k (by omega)
      subst hao
      have hc0 := (HWr.out.below.cell (p := ⟨g, off + k * 3 + 0, none⟩) hg).trans (hc 0 (by omega))
      have hc1 := (HWr.out.below.cell (p := ⟨g, off + k * 3 + 1, none⟩) hg).trans (hc 1 (by omega))
      have hc2 := (HWr.out.below.cell (p := ⟨g, off + k * 3 + 2, none⟩) hg).trans (hc 2 (by omega))
      obtain ⟨hf1, hf2, hf3⟩ := HF.out k (by omega)
      have HS := Lib.hid (laid_succ f k)
      unfold putCell at hc0 hc1 hc2
      simp only [Nat.add_zero, if_pos, if_neg (show ¬ (1 = 0) by decide), if_neg (show ¬ (2 = 0) by decide), if_neg (show ¬ (2 = 1) by decide)] at hc0 hc1 hc2
      generalize hq : f k = q at *
      obtain ⟨c, y, z⟩ := q
      simp only at hc0 hc1 hc2 hf1 hf2 hf3
      clear hc hq
      cases c
      · go_wp2_with fail
        refine (wb_put b y 64 _ 64 w _ w.heap.size _ (HWr.out.alloc _) hf1 (by omega) (by omega) rfl rfl).mono ?_
        rintro e w4 ⟨rfl, hW4⟩
        have HW4 : Hid (Wb w w.heap.size w4 b (laid f (k + 1))) := Lib.hid (by rw [HS.out]; exact hW4)
        clear hW4 HWr HS
        go_wp2
        go_roundw
        case rel => exact ⟨k + 1, by omega, by go_num, HW4.out⟩
        case measure => simp [intOf]; omega
      · have hx63 := kz_63 (y % 9223372036854775808) (by omega)
        go_wp2_with fail
        refine (wb_count b (y % 9223372036854775808) _ w _ w.heap.size _ (HWr.out.alloc _) (by omega) (by omega) (by omega)).mono ?_
        rintro e w4 ⟨rfl, hW4⟩
        have HW4 : Hid (Wb w w.heap.size w4 b (laid f (k + 1))) := Lib.hid (by rw [HS.out]; exact hW4)
        clear hW4 HWr HS
        go_wp2
        go_roundw
        case rel => exact ⟨k + 1, by omega, by go_num, HW4.out⟩
        case measure => simp [intOf]; omega
    · obtain rfl : k = m := by omega
      clear hlt hk
      go_wp2_with fail
      refine (wb_out b w wr w.heap.size _ HWr.out).mono ?_
      rintro e w4 ⟨oa, oc, rfl, ho, hW4⟩
      have HO := Lib.hid ho
      have HW4 := Lib.hid hW4
      clear ho hW4 HWr
      go_wp2_with fail
      refine (rb_new _ _ w w4 w.heap.size _ _ b HO.out HW4.out).mono ?_
      rintro e w5 ⟨rb, rfl, hR5⟩
      have HR5 := Lib.hid hR5
      clear hR5 HO HW4
      go_wp2_with (go_at_call 7; refine (HFew.out _).mono ?_; rintro e w6 ⟨rfl, rfl⟩)
      go_loopw [41] (fun i wq => ∃ j : Nat, j ≤ k ∧ i = .int .i64 (j : Int) ∧ Rb w w.heap.size wq rb (pack (laid f k)) (laid f j).length 0) (fun i _ => k - (intOf i).toNat)
      case atStart => exact ⟨0, Nat.zero_le _, rfl, HR5.out⟩
      case round =>
        obtain ⟨j, hj, rfl, hRr⟩ := hrel
        have HRr := Lib.hid hRr
        clear hRr HR5
        by_cases hjl : j < k
        · have HH := Lib.hid (laid_has f j k hjl)
          obtain ⟨g, off, hao, hg, hc⟩ := HA.out.cell j (by omega)
          subst hao
          have hc0 := (HRr.out.below.cell (p := ⟨g, off + j * 3 + 0, none⟩) hg).trans (hc 0 (by omega))
          have hc1 := (HRr.out.below.cell (p := ⟨g, off + j * 3 + 1, none⟩) hg).trans (hc 1 (by omega))
          have hc2 := (HRr.out.below.cell (p := ⟨g, off + j * 3 + 2, none⟩) hg).trans (hc 2 (by omega))
          obtain ⟨hf1, hf2, hf3⟩ := HF.out j (by omega)
          have HS : Hid ((laid f (j + 1)).length = (laid f j).length + (one (f j)).length) := Lib.hid (by rw [laid_succ, List.length_append])
          unfold putCell at hc0 hc1 hc2
          simp only [Nat.add_zero, if_pos, if_neg (show ¬ (1 = 0) by decide), if_neg (show ¬ (2 = 0) by decide), if_neg (show ¬ (2 = 1) by decide)] at hc0 hc1 hc2
          generalize hq : f j = q at *
          obtain ⟨c, y, z⟩ := q
          simp only at hc0 hc1 hc2 hf1 hf2 hf3
          clear hc hq
          cases c
          · go_upto_region 18 with (fail)
            go_cut [66] (fun t wc => t = .bool false ∧ Rb w w.heap.size wc rb (pack (laid f k)) (laid f (j + 1)).length 0)
            case first =>
              refine wp_region_held_drew (S := fun w' => w'.cell? ⟨wr.heap.size, 0, none⟩ = some (.bool false) ∧ w'.cell? ⟨wr.heap.size, 1, none⟩ = some (.int .u64 (y : Int))) (by kernel_rfl) (by simp) (fun hS0 => ?_)
              (refine wpAnyH_take (i := 0) (oi := ⟨some 45, _, _, _, _, _⟩) (v := .pointer (some ⟨wr.heap.size, 0, none⟩)) rfl (by kernel_rfl) (by kernel_rfl) (by kernel_rfl) (fun _ _ _ h => h) (Or.inl ⟨by rfl, ?_⟩) (by assumption) ?_; (intro w hSw; (try dsimp only at hSw); go_simp); (try simp only [Act.put, List.setIfInBounds_toArray, List.set_cons_zero, List.set_cons_succ]))
              (refine wpAnyH_take (i := 1) (oi := ⟨some 46, _, _, _, _, _⟩) (v := .bool false) rfl (by kernel_rfl) (by kernel_rfl) (by kernel_rfl) (fun _ _ _ h => h) (Or.inl ⟨by rfl, ?_⟩) (by assumption) ?_; (intro w hSw; (try dsimp only at hSw); go_simp); (try simp only [Act.put, List.setIfInBounds_toArray, List.set_cons_zero, List.set_cons_succ]))
              (refine wpAnyH_take (i := 2) (oi := ⟨some 47, _, _, _, _, _⟩) (v := .bool false) rfl (by kernel_rfl) (by kernel_rfl) (by kernel_rfl) (fun _ _ _ h => h) (Or.inl ⟨by rfl, ?_⟩) (by assumption) ?_; (intro w hSw; (try dsimp only at hSw); go_simp); (try simp only [Act.put, List.setIfInBounds_toArray, List.set_cons_zero, List.set_cons_succ]))
              (refine wpAnyH_take (i := 3) (oi := ⟨some 48, _, _, _, _, _⟩) (v := undef) rfl (by kernel_rfl) (by kernel_rfl) (by kernel_rfl) (fun _ _ _ h => h) (Or.inr ⟨by rfl, rfl⟩) (by assumption) ?_; (try simp only [Act.put, List.setIfInBounds_toArray, List.set_cons_zero, List.set_cons_succ]))
              (refine wpAnyH_take (i := 4) (oi := ⟨some 49, _, _, _, _, _⟩) (v := undef) rfl (by kernel_rfl) (by kernel_rfl) (by kernel_rfl) (fun _ _ _ h => h) (Or.inr ⟨by rfl, rfl⟩) (by assumption) ?_; (try simp only [Act.put, List.setIfInBounds_toArray, List.set_cons_zero, List.set_cons_succ]))
              (refine wpAnyH_take (i := 5) (oi := ⟨some 50, _, _, _, _, _⟩) (v := undef) rfl (by kernel_rfl) (by kernel_rfl) (by kernel_rfl) (fun _ _ _ h => h) (Or.inr ⟨by rfl, rfl⟩) (by assumption) ?_; (try simp only [Act.put, List.setIfInBounds_toArray, List.set_cons_zero, List.set_cons_succ]))
              (refine wpAnyH_take (i := 6) (oi := ⟨some 51, _, _, _, _, _⟩) (v := undef) rfl (by kernel_rfl) (by kernel_rfl) (by kernel_rfl) (fun _ _ _ h => h) (Or.inr ⟨by rfl, rfl⟩) (by assumption) ?_; (try simp only [Act.put, List.setIfInBounds_toArray, List.set_cons_zero, List.set_cons_succ]))
              (refine wpAnyH_take (i := 7) (oi := ⟨some 52, _, _, _, _, _⟩) (v := undef) rfl (by kernel_rfl) (by kernel_rfl) (by kernel_rfl) (fun _ _ _ h => h) (Or.inr ⟨by rfl, rfl⟩) (by assumption) ?_; (try simp only [Act.put, List.setIfInBounds_toArray, List.set_cons_zero, List.set_cons_succ]))
              (refine wpAnyH_take (i := 8) (oi := ⟨some 53, _, _, _, _, _⟩) (v := undef) rfl (by kernel_rfl) (by kernel_rfl) (by kernel_rfl) (fun _ _ _ h => h) (Or.inr ⟨by rfl, rfl⟩) (by assumption) ?_; (try simp only [Act.put, List.setIfInBounds_toArray, List.set_cons_zero, List.set_cons_succ]))
              (refine wpAnyH_take (i := 9) (oi := ⟨some 54, _, _, _, _, _⟩) (v := .bool false) rfl (by kernel_rfl) (by kernel_rfl) (by kernel_rfl) (fun _ _ _ h => h) (Or.inl ⟨by rfl, ?_⟩) (by assumption) ?_; (intro w hSw; (try dsimp only at hSw); go_simp); (try simp only [Act.put, List.setIfInBounds_toArray, List.set_cons_zero, List.set_cons_succ]))
              (refine wpAnyH_take (i := 10) (oi := ⟨some 55, _, _, _, _, _⟩) (v := .bool false) rfl (by kernel_rfl) (by kernel_rfl) (by kernel_rfl) (fun _ _ _ h => h) (Or.inl ⟨by rfl, ?_⟩) (by assumption) ?_; (intro w hSw; (try dsimp only at hSw); go_simp); (try simp only [Act.put, List.setIfInBounds_toArray, List.set_cons_zero, List.set_cons_succ]))
              (refine wpAnyH_take (i := 11) (oi := ⟨some 56, _, _, _, _, _⟩) (v := .pointer (some ⟨wr.heap.size, 0, none⟩)) rfl (by kernel_rfl) (by kernel_rfl) (by kernel_rfl) (fun _ _ _ h => h) (Or.inl ⟨by rfl, ?_⟩) (by assumption) ?_; (intro w hSw; (try dsimp only at hSw); go_simp); (try simp only [Act.put, List.setIfInBounds_toArray, List.set_cons_zero, List.set_cons_succ]))
              (refine wpAnyH_take (i := 12) (oi := ⟨some 57, _, _, _, _, _⟩) (v := .bool false) rfl (by kernel_rfl) (by kernel_rfl) (by kernel_rfl) (fun _ _ _ h => h) (Or.inl ⟨by rfl, ?_⟩) (by assumption) ?_; (intro w hSw; (try dsimp only at hSw); go_simp); (try simp only [Act.put, List.setIfInBounds_toArray, List.set_cons_zero, List.set_cons_succ]))
              (refine wpAnyH_take (i := 13) (oi := ⟨some 58, _, _, _, _, _⟩) (v := .bool true) rfl (by kernel_rfl) (by kernel_rfl) (by kernel_rfl) (fun _ _ _ h => h) (Or.inl ⟨by rfl, ?_⟩) (by assumption) ?_; (intro w hSw; (try dsimp only at hSw); go_simp); (try simp only [Act.put, List.setIfInBounds_toArray, List.set_cons_zero, List.set_cons_succ]))
              (refine wpAnyH_take (i := 14) (oi := ⟨some 59, _, _, _, _, _⟩) (v := .bool true) rfl (by kernel_rfl) (by kernel_rfl) (by kernel_rfl) (fun _ _ _ h => h) (Or.inl ⟨by rfl, ?_⟩) (by assumption) ?_; (intro w hSw; (try dsimp only at hSw); go_simp); (try simp only [Act.put, List.setIfInBounds_toArray, List.set_cons_zero, List.set_cons_succ]))
              (refine wpAnyH_take (i := 15) (oi := ⟨some 60, _, _, _, _, _⟩) (v := .pointer (some ⟨rb, 0, none⟩)) rfl (by kernel_rfl) (by kernel_rfl) (by kernel_rfl) (fun _ _ _ h => h) (Or.inl ⟨by rfl, ?_⟩) (by assumption) ?_; (intro w hSw; (try dsimp only at hSw); go_simp); (try simp only [Act.put, List.setIfInBounds_toArray, List.set_cons_zero, List.set_cons_succ]))
              (refine wpAnyH_take (i := 17) (oi := ⟨some 62, _, _, _, _, _⟩) (v := .pointer (some ⟨wr.heap.size, 1, none⟩)) rfl (by kernel_rfl) (by kernel_rfl) (by kernel_rfl) (fun _ _ _ h => h) (Or.inl ⟨by rfl, ?_⟩) (by assumption) ?_; (intro w hSw; (try dsimp only at hSw); go_simp); (try simp only [Act.put, List.setIfInBounds_toArray, List.set_cons_zero, List.set_cons_succ]))
              (refine wpAnyH_take (i := 18) (oi := ⟨some 63, _, _, _, _, _⟩) (v := .int .u64 (y : Int)) rfl (by kernel_rfl) (by kernel_rfl) (by kernel_rfl) (fun _ _ _ h => h) (Or.inl ⟨by rfl, ?_⟩) (by assumption) ?_; (intro w hSw; (try dsimp only at hSw); go_simp); (try simp only [Act.put, List.setIfInBounds_toArray, List.set_cons_zero, List.set_cons_succ]))
              refine wpAnyH_ready (rs := [16]) (by kernel_rfl) (by simp) ?_
              refine AllReadyH.cons (o := ⟨some 61, _, _, _, _, _⟩) rfl (fun K hK => ?_) AllReadyH.nil
              go_simp
              refine (rb_get_beside rb _ _ y 64 64 w wr _ w.heap.size HRr.out (beside_alloc _ _).drew (by simp) (by omega) HH.out rfl hf1).mono ?_
              rintro e w7 ⟨rfl, hR7, hk7⟩
              have k0 := (hk7 0).trans (show _ = some (.bool false) by simp)
              have k1 := (hk7 1).trans (show _ = some (.int .u64 (y : Int)) by simp)
              have HR7 := Lib.hid hR7
              clear hR7 hk7
              refine hK.out _ _ ⟨k0, k1⟩ (fun hS1 => ?_)
              clear hK hS0
              (refine wpAnyH_take (i := 19) (oi := ⟨some 64, _, _, _, _, _⟩) (v := .bool false) rfl (by kernel_rfl) (by kernel_rfl) (by kernel_rfl) (fun _ _ _ h => h) (Or.inl ⟨by rfl, ?_⟩) (by assumption) ?_; (intro w hSw; (try dsimp only at hSw); go_simp); (try simp only [Act.put, List.setIfInBounds_toArray, List.set_cons_zero, List.set_cons_succ]))
              (refine wpAnyH_take (i := 20) (oi := ⟨some 65, _, _, _, _, _⟩) (v := .bool false) rfl (by kernel_rfl) (by kernel_rfl) (by kernel_rfl) (fun _ _ _ h => h) (Or.inl ⟨by rfl, ?_⟩) (by assumption) ?_; (intro w hSw; (try dsimp only at hSw); go_simp); (try simp only [Act.put, List.setIfInBounds_toArray, List.set_cons_zero, List.set_cons_succ]))
              (refine wpAnyH_take (i := 21) (oi := ⟨some 66, _, _, _, _, _⟩) (v := .bool false) rfl (by kernel_rfl) (by kernel_rfl) (by kernel_rfl) (fun _ _ _ h => h) (Or.inl ⟨by rfl, ?_⟩) (by assumption) ?_; (intro w hSw; (try dsimp only at hSw); go_simp); (try simp only [Act.put, List.setIfInBounds_toArray, List.set_cons_zero, List.set_cons_succ]))
              refine wpAnyH_done (by kernel_rfl) ?_ _
              go_wp2_with fail
              go_meet
              exact ⟨rfl, by rw [HS.out, one_false, bitsOf_length]; exact HR7.out⟩
            case rest =>
              obtain ⟨rfl, hRc⟩ := hcut
              have HRc := Lib.hid hRc
              clear hRc
              go_wp2
              go_roundw
              case rel => first | exact ⟨j + 1, by omega, by go_num, HRc.out⟩ | ((repeat apply Exists.intro); exact ⟨⟨j + 1, by omega, by go_num, HRc.out⟩, rfl⟩)
              case measure => simp [intOf]; omega
          · go_upto_region 18 with (fail)
            go_cut [66] (fun t wc => t = .bool false ∧ Rb w w.heap.size wc rb (pack (laid f k)) (laid f (j + 1)).length 0)
            case first =>
              refine wp_region_held_drew (S := fun w' => w'.cell? ⟨wr.heap.size, 0, none⟩ = some (.bool true) ∧ w'.cell? ⟨wr.heap.size, 1, none⟩ = some (.int .u64 (y : Int))) (by kernel_rfl) (by simp) (fun hS0 => ?_)
              (refine wpAnyH_take (i := 0) (oi := ⟨some 45, _, _, _, _, _⟩) (v := .pointer (some ⟨wr.heap.size, 0, none⟩)) rfl (by kernel_rfl) (by kernel_rfl) (by kernel_rfl) (fun _ _ _ h => h) (Or.inl ⟨by rfl, ?_⟩) (by assumption) ?_; (intro w hSw; (try dsimp only at hSw); go_simp); (try simp only [Act.put, List.setIfInBounds_toArray, List.set_cons_zero, List.set_cons_succ]))
              (refine wpAnyH_take (i := 1) (oi := ⟨some 46, _, _, _, _, _⟩) (v := .bool true) rfl (by kernel_rfl) (by kernel_rfl) (by kernel_rfl) (fun _ _ _ h => h) (Or.inl ⟨by rfl, ?_⟩) (by assumption) ?_; (intro w hSw; (try dsimp only at hSw); go_simp); (try simp only [Act.put, List.setIfInBounds_toArray, List.set_cons_zero, List.set_cons_succ]))
              (refine wpAnyH_take (i := 2) (oi := ⟨some 47, _, _, _, _, _⟩) (v := .bool true) rfl (by kernel_rfl) (by kernel_rfl) (by kernel_rfl) (fun _ _ _ h => h) (Or.inl ⟨by rfl, ?_⟩) (by assumption) ?_; (intro w hSw; (try dsimp only at hSw); go_simp); (try simp only [Act.put, List.setIfInBounds_toArray, List.set_cons_zero, List.set_cons_succ]))
              (refine wpAnyH_take (i := 3) (oi := ⟨some 48, _, _, _, _, _⟩) (v := .pointer (some ⟨rb, 0, none⟩)) rfl (by kernel_rfl) (by kernel_rfl) (by kernel_rfl) (fun _ _ _ h => h) (Or.inl ⟨by rfl, ?_⟩) (by assumption) ?_; (intro w hSw; (try dsimp only at hSw); go_simp); (try simp only [Act.put, List.setIfInBounds_toArray, List.set_cons_zero, List.set_cons_succ]))
              (refine wpAnyH_take (i := 5) (oi := ⟨some 50, _, _, _, _, _⟩) (v := .pointer (some ⟨wr.heap.size, 1, none⟩)) rfl (by kernel_rfl) (by kernel_rfl) (by kernel_rfl) (fun _ _ _ h => h) (Or.inl ⟨by rfl, ?_⟩) (by assumption) ?_; (intro w hSw; (try dsimp only at hSw); go_simp); (try simp only [Act.put, List.setIfInBounds_toArray, List.set_cons_zero, List.set_cons_succ]))
              (refine wpAnyH_take (i := 6) (oi := ⟨some 51, _, _, _, _, _⟩) (v := .int .u64 (y : Int)) rfl (by kernel_rfl) (by kernel_rfl) (by kernel_rfl) (fun _ _ _ h => h) (Or.inl ⟨by rfl, ?_⟩) (by assumption) ?_; (intro w hSw; (try dsimp only at hSw); go_simp); (try simp only [Act.put, List.setIfInBounds_toArray, List.set_cons_zero, List.set_cons_succ]))
              (refine wpAnyH_take (i := 7) (oi := ⟨some 52, _, _, _, _, _⟩) (v := .int .u64 ((y : Int).tmod 9223372036854775808)) rfl (by kernel_rfl) (by kernel_rfl) (by kernel_rfl) (fun _ _ _ h => h) (Or.inl ⟨by rfl, ?_⟩) (by assumption) ?_; (intro w hSw; (try dsimp only at hSw); go_simp); (try simp only [Act.put, List.setIfInBounds_toArray, List.set_cons_zero, List.set_cons_succ]))
              refine wpAnyH_ready (rs := [4]) (by kernel_rfl) (by simp) ?_
              refine AllReadyH.cons (o := ⟨some 49, _, _, _, _, _⟩) rfl (fun K hK => ?_) AllReadyH.nil
              go_simp
              refine (rb_count_beside rb _ _ (y % 9223372036854775808) w wr _ w.heap.size HRr.out (beside_alloc _ _).drew (by simp) (by omega) HH.out).mono ?_
              rintro e w7 ⟨rfl, hR7, hk7⟩
              have k0 := (hk7 0).trans (show _ = some (.bool true) by simp)
              have k1 := (hk7 1).trans (show _ = some (.int .u64 (y : Int)) by simp)
              have HR7 := Lib.hid hR7
              clear hR7 hk7
              refine hK.out _ _ ⟨k0, k1⟩ (fun hS1 => ?_)
              clear hK hS0
              have hne : ((y : Int) % 9223372036854775808 != (y : Int).tmod 9223372036854775808) = false := by rw [bne_eq_false_iff_eq, Int.tmod_eq_emod_of_nonneg (by omega)]
              (refine wpAnyH_take (i := 8) (oi := ⟨some 53, _, _, _, _, _⟩) (v := .bool false) rfl (by kernel_rfl) (by kernel_rfl) (by kernel_rfl) (fun _ _ _ h => h) (Or.inl ⟨by rfl, ?_⟩) (by assumption) ?_; (intro w hSw; (try dsimp only at hSw); go_simp); (try simp only [Act.put, List.setIfInBounds_toArray, List.set_cons_zero, List.set_cons_succ]))
              (refine wpAnyH_take (i := 9) (oi := ⟨some 54, _, _, _, _, _⟩) (v := .bool false) rfl (by kernel_rfl) (by kernel_rfl) (by kernel_rfl) (fun _ _ _ h => h) (Or.inl ⟨by rfl, ?_⟩) (by assumption) ?_; (intro w hSw; (try dsimp only at hSw); go_simp); (try simp only [Act.put, List.setIfInBounds_toArray, List.set_cons_zero, List.set_cons_succ]))
              (refine wpAnyH_take (i := 10) (oi := ⟨some 55, _, _, _, _, _⟩) (v := .bool false) rfl (by kernel_rfl) (by kernel_rfl) (by kernel_rfl) (fun _ _ _ h => h) (Or.inl ⟨by rfl, ?_⟩) (by assumption) ?_; (intro w hSw; (try dsimp only at hSw); go_simp); (try simp only [Act.put, List.setIfInBounds_toArray, List.set_cons_zero, List.set_cons_succ]))
              (refine wpAnyH_take (i := 11) (oi := ⟨some 56, _, _, _, _, _⟩) (v := .pointer (some ⟨wr.heap.size, 0, none⟩)) rfl (by kernel_rfl) (by kernel_rfl) (by kernel_rfl) (fun _ _ _ h => h) (Or.inl ⟨by rfl, ?_⟩) (by assumption) ?_; (intro w hSw; (try dsimp only at hSw); go_simp); (try simp only [Act.put, List.setIfInBounds_toArray, List.set_cons_zero, List.set_cons_succ]))
              (refine wpAnyH_take (i := 12) (oi := ⟨some 57, _, _, _, _, _⟩) (v := .bool true) rfl (by kernel_rfl) (by kernel_rfl) (by kernel_rfl) (fun _ _ _ h => h) (Or.inl ⟨by rfl, ?_⟩) (by assumption) ?_; (intro w hSw; (try dsimp only at hSw); go_simp); (try simp only [Act.put, List.setIfInBounds_toArray, List.set_cons_zero, List.set_cons_succ]))
              (refine wpAnyH_take (i := 13) (oi := ⟨some 58, _, _, _, _, _⟩) (v := .bool false) rfl (by kernel_rfl) (by kernel_rfl) (by kernel_rfl) (fun _ _ _ h => h) (Or.inl ⟨by rfl, ?_⟩) (by assumption) ?_; (intro w hSw; (try dsimp only at hSw); go_simp); (try simp only [Act.put, List.setIfInBounds_toArray, List.set_cons_zero, List.set_cons_succ]))
              (refine wpAnyH_take (i := 14) (oi := ⟨some 59, _, _, _, _, _⟩) (v := .bool false) rfl (by kernel_rfl) (by kernel_rfl) (by kernel_rfl) (fun _ _ _ h => h) (Or.inl ⟨by rfl, ?_⟩) (by assumption) ?_; (intro w hSw; (try dsimp only at hSw); go_simp); (try simp only [Act.put, List.setIfInBounds_toArray, List.set_cons_zero, List.set_cons_succ]))
              (refine wpAnyH_take (i := 15) (oi := ⟨some 60, _, _, _, _, _⟩) (v := undef) rfl (by kernel_rfl) (by kernel_rfl) (by kernel_rfl) (fun _ _ _ h => h) (Or.inr ⟨by rfl, rfl⟩) (by assumption) ?_; (try simp only [Act.put, List.setIfInBounds_toArray, List.set_cons_zero, List.set_cons_succ]))
              (refine wpAnyH_take (i := 16) (oi := ⟨some 61, _, _, _, _, _⟩) (v := undef) rfl (by kernel_rfl) (by kernel_rfl) (by kernel_rfl) (fun _ _ _ h => h) (Or.inr ⟨by rfl, rfl⟩) (by assumption) ?_; (try simp only [Act.put, List.setIfInBounds_toArray, List.set_cons_zero, List.set_cons_succ]))
              (refine wpAnyH_take (i := 17) (oi := ⟨some 62, _, _, _, _, _⟩) (v := undef) rfl (by kernel_rfl) (by kernel_rfl) (by kernel_rfl) (fun _ _ _ h => h) (Or.inr ⟨by rfl, rfl⟩) (by assumption) ?_; (try simp only [Act.put, List.setIfInBounds_toArray, List.set_cons_zero, List.set_cons_succ]))
              (refine wpAnyH_take (i := 18) (oi := ⟨some 63, _, _, _, _, _⟩) (v := undef) rfl (by kernel_rfl) (by kernel_rfl) (by kernel_rfl) (fun _ _ _ h => h) (Or.inr ⟨by rfl, rfl⟩) (by assumption) ?_; (try simp only [Act.put, List.setIfInBounds_toArray, List.set_cons_zero, List.set_cons_succ]))
              (refine wpAnyH_take (i := 19) (oi := ⟨some 64, _, _, _, _, _⟩) (v := undef) rfl (by kernel_rfl) (by kernel_rfl) (by kernel_rfl) (fun _ _ _ h => h) (Or.inr ⟨by rfl, rfl⟩) (by assumption) ?_; (try simp only [Act.put, List.setIfInBounds_toArray, List.set_cons_zero, List.set_cons_succ]))
              (refine wpAnyH_take (i := 20) (oi := ⟨some 65, _, _, _, _, _⟩) (v := .bool false) rfl (by kernel_rfl) (by kernel_rfl) (by kernel_rfl) (fun _ _ _ h => h) (Or.inl ⟨by rfl, ?_⟩) (by assumption) ?_; (intro w hSw; (try dsimp only at hSw); go_simp); (try simp only [Act.put, List.setIfInBounds_toArray, List.set_cons_zero, List.set_cons_succ]))
              (refine wpAnyH_take (i := 21) (oi := ⟨some 66, _, _, _, _, _⟩) (v := .bool false) rfl (by kernel_rfl) (by kernel_rfl) (by kernel_rfl) (fun _ _ _ h => h) (Or.inl ⟨by rfl, ?_⟩) (by assumption) ?_; (intro w hSw; (try dsimp only at hSw); go_simp); (try simp only [Act.put, List.setIfInBounds_toArray, List.set_cons_zero, List.set_cons_succ]))
              refine wpAnyH_done (by kernel_rfl) ?_ _
              go_wp2_with fail
              go_meet
              exact ⟨rfl, by rw [HS.out, one_true, countBits_length]; exact HR7.out⟩
            case rest =>
              obtain ⟨rfl, hRc⟩ := hcut
              have HRc := Lib.hid hRc
              clear hRc
              go_wp2
              go_roundw
              case rel => first | exact ⟨j + 1, by omega, by go_num, HRc.out⟩ | ((repeat apply Exists.intro); exact ⟨⟨j + 1, by omega, by go_num, HRc.out⟩, rfl⟩)
              case measure => simp [intOf]; omega
        · obtain rfl : j = k := by omega
          go_wp2_with fail
          refine (rb_end rb _ w _ w.heap.size HRr.out).mono ?_
          rintro e w8 ⟨rfl, hR8⟩
          have HR8 := Lib.hid hR8
          clear hR8
          go_wp2_with fail
          refine (rb_left rb _ _ w _ w.heap.size HR8.out).mono ?_
          rintro e w9 ⟨rfl, hR9⟩
          have HR9 := Lib.hid hR9
          clear hR9
          have hl := (zs_end (laid f j)).2.1
          have hlt8 : ((pack (laid f j)).length : Int) * 8 - ((laid f j).length : Int) < 8 := by omega
          go_wp2
          go_ret
          exact ⟨rfl, HR9.out.below⟩

end Go.Proofs.Ytifcfoipeocmiaa
