/-
  The statement BitsLeft: its walk.
-/
import Derived.Test.YtjjcomdmeodicaaBitsBackW
set_option linter.unusedVariables false
namespace Go.Proofs.Ytjjcomdmeodicaa
open Go.RowKit Bp

/-- There is always a number of bits 0 ahead. -/
theorem zs_exists (zs : List Nat) (p : Nat) (h : p ≤ 8 * zs.length) : ∃ n, Zs zs p n := by
  have key : ∀ d, d ≤ 64 → (∃ n, Zs zs p n) ∨ (p + d ≤ 8 * zs.length ∧ ∀ j, j < d → rbit zs (p + j) = 0) := by
    intro d
    induction d with
    | zero => intro _; exact .inr ⟨by omega, fun j hj => by omega⟩
    | succ d ih =>
      intro hd
      rcases ih (by omega) with x | ⟨h1, h2⟩
      · exact .inl x
      · by_cases he : p + d = 8 * zs.length
        · exact .inl ⟨d, by omega, by omega, h2, .inr (.inl he)⟩
        · by_cases hb : rbit zs (p + d) = 0
          · refine .inr ⟨by omega, fun j hj => ?_⟩
            rcases Nat.lt_or_ge j d with y | y
            · exact h2 j y
            · obtain rfl : j = d := by omega
              exact hb
          · exact .inl ⟨d, by omega, by omega, h2, .inr (.inr (by have := rbit_le zs (p + d); omega))⟩
  rcases key 64 (Nat.le_refl _) with x | ⟨h1, h2⟩
  · exact x
  · exact ⟨64, Nat.le_refl _, h1, h2, .inl rfl⟩

/-- How a count comes out: refused, and nothing is taken; or taken, as long as it is. -/
def Counted (p : Nat) (f : Int) (N p' : Nat) (f' : Int) : Prop := (p' = p ∧ N = 0 ∧ f' ≠ 0) ∨ (f = 0 ∧ f' = 0 ∧ p' = p + (2 * kz N + 1))
theorem rb_count_any (b : Nat) (zs : List Nat) (p : Nat) (f : Int) (w0 w : World) (B : Nat) (h : Rb w0 B w b zs p f) :
    Calls Try.prog 22 #[.pointer (some ⟨b, 0, none⟩)] w fun e w' => ∃ N p' f', e = .returned (.int .u64 ((N : Nat) : Int)) ∧ N + 1 < 18446744073709551616 ∧ Rb w0 B w' b zs p' f' ∧ Counted p f N p' f' := by
  obtain ⟨C, v, h1, h2, h3⟩ := h
  by_cases hf : f = 0
  · subst hf
    obtain ⟨n, hz⟩ := zs_exists zs p h1.at_le
    by_cases h64 : n = 64
    · subst h64
      refine (count_toolong C b v zs p w h1 hz).mono ?_
      rintro e w' ⟨rfl, ht⟩
      exact ⟨0, p, 4, rfl, by decide, Rb.to h1 h2 h3 ht, .inl ⟨rfl, rfl, by decide⟩⟩
    · have hn : n ≤ 63 := by have := hz.few; omega
      by_cases hs : p + (2 * n + 1) ≤ 8 * zs.length
      · have hb : rbit zs (p + n) = 1 := by rcases hz.stop with e | e | e <;> omega
        have hlo := tk_top zs (p + n) n hb
        have hlo2 : 1 ≤ tk zs (p + n) (n + 1) := by have := Nat.two_pow_pos n; omega
        have hhi := tk_lt zs (p + n) (n + 1)
        have h64' : tk zs (p + n) (n + 1) < 18446744073709551616 := by
          have h3' : (2 : Nat) ^ (n + 1) ≤ 2 ^ 64 := Nat.pow_le_pow_right (by decide) (by omega)
          have e : (2 : Nat) ^ 64 = 18446744073709551616 := by decide
          omega
        have e1 : tk zs (p + n) (n + 1) - 1 + 1 = tk zs (p + n) (n + 1) := by omega
        have hk : kz (tk zs (p + n) (n + 1) - 1) = n := by
          have a1 := kz_le (tk zs (p + n) (n + 1) - 1)
          have a2 := kz_lt (tk zs (p + n) (n + 1) - 1)
          rw [e1] at a1 a2
          exact pow_unique _ _ _ a1 a2 hlo hhi
        refine (rcount_ok C b v zs p n w h1 hz hn hs).mono ?_
        rintro e w' ⟨rfl, ht⟩
        exact ⟨_, _, 0, rfl, by omega, Rb.to h1 h2 h3 ht, .inr ⟨rfl, rfl, by rw [hk]⟩⟩
      · refine (count_short C b v zs p n w h1 hz hn (by omega)).mono ?_
        rintro e w' ⟨rfl, ht⟩
        exact ⟨0, p, 10, rfl, by decide, Rb.to h1 h2 h3 ht, .inl ⟨rfl, rfl, by decide⟩⟩
  · refine (count_fault C b v zs p f w h1 hf).mono ?_
    rintro e w' ⟨rfl, rfl⟩
    exact ⟨0, p, f, rfl, by decide, ⟨C, v, h1, h2, h3⟩, .inl ⟨rfl, rfl, hf⟩⟩

/-- How a number comes out: refused, or taken. -/
def Gotten (len p : Nat) (f m : Int) (p' : Nat) (f' : Int) : Prop :=
  (p' = p ∧ f' ≠ 0 ∧ (f = 0 → m < 0 ∨ 64 < m ∨ (8 * len : Int) - p < m)) ∨ (f = 0 ∧ f' = 0 ∧ 0 ≤ m ∧ m ≤ 64 ∧ m ≤ (8 * len : Int) - p ∧ (p' : Int) = p + m)
theorem rb_get_any (b : Nat) (zs : List Nat) (p : Nat) (f m : Int) (w0 w W : World) (B : Nat) (h : Rb w0 B w b zs p f) (hW : Beside w W) (hlt : w.heap.size < W.heap.size) :
    Calls Try.prog 24 #[.pointer (some ⟨b, 0, none⟩), .int .i64 m] W fun e w' => ∃ N p' f', e = .returned (.int .u64 ((N : Nat) : Int)) ∧ Rb w0 B w' b zs p' f' ∧ Gotten zs.length p f m p' f' ∧ ∀ j, w'.cell? ⟨w.heap.size, j, none⟩ = W.cell? ⟨w.heap.size, j, none⟩ := by
  obtain ⟨C, v, h1, h2, h3, h4⟩ := rb_beside h hW
  by_cases hf : f = 0
  · subst hf
    by_cases hm : m < 0 ∨ 64 < m
    · refine (get_arg C b v zs p m W h1 hm).mono ?_
      rintro e w' ⟨rfl, ht⟩
      exact ⟨0, p, 1, rfl, Rb.to h1 h2 h3 ht, .inl ⟨rfl, by decide, fun _ => by omega⟩, turn_beside ht.2 h4 hlt⟩
    · obtain ⟨k, rfl⟩ := Int.eq_ofNat_of_zero_le (show 0 ≤ m by omega)
      by_cases hs : p + k ≤ 8 * zs.length
      · refine (get_ok C b v zs p k W h1 (by omega) hs).mono ?_
        rintro e w' ⟨rfl, ht⟩
        exact ⟨_, _, 0, rfl, Rb.to h1 h2 h3 ht, .inr ⟨rfl, rfl, by omega, by omega, by omega, by omega⟩, turn_beside ht.2 h4 hlt⟩
      · refine (get_short C b v zs p k W h1 (by omega) (by omega)).mono ?_
        rintro e w' ⟨rfl, ht⟩
        exact ⟨0, p, 10, rfl, Rb.to h1 h2 h3 ht, .inl ⟨rfl, by decide, fun _ => by omega⟩, turn_beside ht.2 h4 hlt⟩
  · refine (get_fault C b v zs p f m W h1 hf).mono ?_
    rintro e w' ⟨rfl, rfl⟩
    exact ⟨0, p, f, rfl, ⟨C, v, h1, h2, h3⟩, .inl ⟨rfl, hf, fun x => absurd x hf⟩, fun _ => rfl⟩

theorem rb_left_any (b : Nat) (zs : List Nat) (p : Nat) (f : Int) (w0 w : World) (B : Nat) (h : Rb w0 B w b zs p f) :
    Calls Try.prog 26 #[.pointer (some ⟨b, 0, none⟩)] w fun e w' => e = .returned (.int .i64 ((zs.length : Int) * 8 - (p : Int))) ∧ w.drew = w' := by
  obtain ⟨C, v, h1, h2, h3⟩ := h
  exact rleft_any C b v zs p f w h1
theorem Rb.at_le {w0 w : World} {B b : Nat} {zs : List Nat} {p : Nat} {f : Int} (h : Rb w0 B w b zs p f) : p ≤ 8 * zs.length ∧ zs.length ≤ 1048576 := by
  obtain ⟨C, v, h1, _⟩ := h
  exact ⟨h1.at_le, h1.few⟩
theorem Rb.drewN {w0 w : World} {B b : Nat} {zs : List Nat} {p : Nat} {f : Int} (h : Rb w0 B w b zs p f) (n : Nat) : Rb w0 B (w.drewN n) b zs p f := by
  obtain ⟨C, v, h1, h2, h3⟩ := h
  exact ⟨C, v, h1.frame (fun _ _ => rfl), h2, h3.trans ⟨rfl, rfl, rfl, Nat.le_refl _, fun _ _ => rfl⟩⟩
theorem left_quiet (b : Nat) (zs : List Nat) (p : Nat) (f : Int) (w0 w : World) (B : Nat) (h : Rb w0 B w b zs p f) (n : Nat) :
    Calls Try.prog 26 #[.pointer (some ⟨b, 0, none⟩)] (w.drewN n) fun e w' => e = .returned (.int .i64 ((zs.length : Int) * 8 - (p : Int))) ∧ ∃ m, w' = (w.drewN n).drewN m := by
  refine (rb_left_any b zs p f w0 _ B (h.drewN n)).mono ?_
  rintro e w' ⟨rfl, rfl⟩
  exact ⟨rfl, 1, rfl⟩
theorem rb_end_any (b : Nat) (zs : List Nat) (p : Nat) (f : Int) (w0 w : World) (B : Nat) (h : Rb w0 B w b zs p f) (hf : f ≠ 0) :
    Calls Try.prog 27 #[.pointer (some ⟨b, 0, none⟩)] w fun e w' => e = .returned (.int .i64 f) ∧ w = w' := by
  obtain ⟨C, v, h1, h2, h3⟩ := h
  exact end_fault C b v zs p f w h1 hf

/-- A list of numbers by its first n. -/
def listOf (f : Nat → Nat) (n : Nat) : List Nat := (List.range n).map f
theorem listOf_length (f : Nat → Nat) (n : Nat) : (listOf f n).length = n := by simp [listOf]
theorem arg_bytes {w : World} {ao : Option Addr} {len cap : Nat} {f : Nat → Nat} (hA : ArgIn (fun z : Nat => Value.int .u8 (z : Int)) w ao len cap f) (m : Nat) (hm : m ≤ len) (W : World) (hW : Below w.heap.size w W) :
    BytesAt W (.slice ao m cap) (listOf f m) := by
  cases ao with
  | none =>
    obtain ⟨h1, h2⟩ := hA.nil rfl
    have : m = 0 := by omega
    subst this h2
    exact .inl ⟨rfl, rfl⟩
  | some a =>
    refine .inr ⟨a, cap, by rw [listOf_length], fun j u hj => ?_⟩
    have hjl : j < m := by
      have := (List.getElem?_eq_some_iff.1 hj).1
      rw [bc_length, listOf_length] at this
      exact this
    obtain ⟨g, off, ha, hg, hc⟩ := hA.cell j (by omega)
    simp only [Option.some.injEq] at ha
    subst ha
    have hu : u = .int .u8 (f j : Int) := by
      simp [bc, listOf, hjl] at hj
      exact hj.symm
    subst hu
    have e : (⟨g, off, none⟩ : Addr).add j = ⟨g, off + j, none⟩ := plain_add g off j
    rw [e]
    exact (hW.cell (p := ⟨g, off + j, none⟩) hg).trans hc

theorem rb_make (v : Value) (zs : List Nat) (w0 w : World) (hb : Below w0.heap.size w0 w) (h : BytesAt w v zs) (hf : zs.length ≤ 1048576) (hz : ∀ z ∈ zs, z ≤ 255) :
    Calls Try.prog 20 #[v] w fun e w' => ∃ rb, e = .returned (.pointer (some ⟨rb, 0, none⟩)) ∧ Rb w0 w0.heap.size w' rb zs 0 0 := by
  refine (newReader_any v zs w h hf hz).mono ?_
  rintro e w' ⟨rb, rv, rfl, hR, hB⟩
  exact ⟨rb, rfl, rb_start hb hb.size hR hB⟩

set_option maxRecDepth 100000 in
set_option maxHeartbeats 4000000 in
theorem bitsLeft_walk (ao : Option Addr) (len cap : Nat) (f : Nat → Nat) (bo : Option Addr) (len2 cap2 : Nat) (q : Nat → Bool × Int) (w : World)
    (hA : ArgIn (fun z : Nat => Value.int .u8 (z : Int)) w ao len cap f) (hf : ∀ i, i < len → f i ≤ 255) (hQ : ArgRows 2 (takeCell q) w bo len2 cap2) (hq : ∀ i, i < len2 → -9223372036854775808 ≤ (q i).2 ∧ (q i).2 ≤ 9223372036854775807) :
    Calls Try.prog 9 #[.slice ao len cap, .slice bo len2 cap2] w fun e w' => e = .returned (.bool true) ∧ Below w.heap.size w w' := by
  have HF := Lib.hid hf
  have HA := Lib.hid hA
  have HQ := Lib.hid hQ
  have Hq := Lib.hid hq
  have hle := hA.le
  have hmax : cap ≤ 9223372036854775807 := hA.max
  have hle2 := hQ.le
  have hmax2 : cap2 ≤ 9223372036854775807 := hQ.max
  obtain ⟨m, hm, hml, hm1⟩ : ∃ m : Nat, min (len : Int) 1000 = m ∧ m ≤ len ∧ m ≤ 1000 := ⟨min len 1000, by omega, by omega, by omega⟩
  clear hf hA hQ hq
  go_enter Try.func9, Try.ntmps9
  go_wp2_with fail
  refine (shown_any _).mono ?_
  rintro e w1 ⟨rfl, hb1⟩
  have HB1 := Lib.hid hb1
  clear hb1
  go_wp2_with fail
  have hbyte : ∀ z ∈ listOf f m, z ≤ 255 := fun z hz => by
    simp only [listOf, List.mem_map, List.mem_range] at hz
    obtain ⟨i, hi, rfl⟩ := hz
    exact HF.out i (by omega)
  refine (rb_make _ (listOf f m) w w1 HB1.out (arg_bytes HA.out m hml w1 HB1.out) (by rw [listOf_length]; omega) hbyte).mono ?_
  rintro e w2 ⟨rb, rfl, hR⟩
  have HR := Lib.hid hR
  clear hR hbyte hm
  have hL : (listOf f m).length = m := listOf_length f m
  generalize listOf f m = zs at *
  have HLen := Lib.hid hL
  have hne0 : ((m : Int) * 8 != 8 * (m : Int)) = false := by rw [bne_eq_false_iff_eq]; omega
  clear hL
  go_wp2_with fail
  refine (rb_left_any rb _ 0 0 w w2 w.heap.size HR.out).mono ?_
  rintro e w3 ⟨rfl, rfl⟩
  rw [HLen.out]
  go_wp2
  clear hne0
  go_loopw [8, 36] (fun s8 i wr => ∃ k p : Nat, ∃ fl : Int, k ≤ len2 ∧ k ≤ 300 ∧ i = .int .i64 (k : Int) ∧ Rb w w.heap.size wr rb zs p fl ∧ ((s8 = .bool true ∧ fl = 0) ∨ (s8 = .bool false ∧ fl ≠ 0))) (fun _ i _ => len2 - (intOf i).toNat)
  case atStart => exact ⟨0, 0, 0, Nat.zero_le _, Nat.zero_le _, rfl, HR.out.drew, .inl ⟨rfl, rfl⟩⟩
  case round =>
    obtain ⟨k, p, fl, hk, hk3, rfl, hRr, hok⟩ := hrel
    have HRr := Lib.hid hRr
    have hat := hRr.at_le
    clear hRr HR
    by_cases hlt : k < len2
    · obtain ⟨g, off, hbo, hg, hc⟩ := HQ.out.cell k hlt
      subst hbo
      have hc0 := (HRr.out.below.cell (p := ⟨g, off + k * 2 + 0, none⟩) hg).trans (hc 0 (by omega))
      have hc1 := (HRr.out.below.cell (p := ⟨g, off + k * 2 + 1, none⟩) hg).trans (hc 1 (by omega))
      obtain ⟨hq1, hq2⟩ := Hq.out k hlt
      unfold takeCell at hc0 hc1
      simp only [Nat.add_zero, if_pos, if_neg (show ¬ (1 = 0) by decide)] at hc0 hc1
      generalize hqq : q k = t at *
      obtain ⟨c, y⟩ := t
      simp only at hc0 hc1 hq1 hq2
      clear hc hqq
      by_cases h300 : k < 300
      · have ht300 : ¬ (300 : Int) ≤ (k : Int) := by omega
        cases c
        · go_wp2_with fail
          refine (rb_left_any rb zs p fl w _ w.heap.size (HRr.out.alloc _)).mono ?_
          rintro e w4 ⟨rfl, rfl⟩
          go_wp2_with fail
          refine (rb_get_any rb zs p fl y w wr _ w.heap.size HRr.out (beside_alloc _ _).drew (by simp)).mono ?_
          rintro e w5 ⟨N, p', f', rfl, hR5, hG, hk5⟩
          have k1 := (hk5 1).trans (show _ = some (.int .i64 y) by simp)
          have HR5 := Lib.hid hR5
          have hat5 := hR5.at_le
          clear hR5 hk5
          rcases hG with ⟨rfl, hf', hcase⟩ | ⟨rfl, rfl, g1, g2, g3, g4⟩
          · rcases hok with ⟨rfl, rfl⟩ | ⟨rfl, hfl⟩
            · by_cases hy0 : 0 ≤ y
              · have d0 : decide (0 ≤ y) = true := by simpa using hy0
                by_cases hy64 : y ≤ 64
                · have d1 : decide (y ≤ 64) = true := by simpa using hy64
                  have hcc := hcase rfl
                  have d2 : decide (y ≤ (zs.length : Int) * 8 - (p' : Int)) = false := by simp; omega
                  clear hcase hcc
                  go_wp2_with fail
                  go_quiet ((go_at_call 26; exact Calls.quiet_of (left_quiet rb zs p' f' w _ w.heap.size HR5.out _)))
                  go_wp2
                  go_roundw
                  case rel => exact ⟨k + 1, p', f', by omega, by omega, by go_num, HR5.out.drewN _, .inr ⟨rfl, hf'⟩⟩
                  case measure => simp [intOf]; omega
                · have d1 : decide (y ≤ 64) = false := by simp; omega
                  clear hcase
                  go_wp2_with fail
                  go_quiet ((go_at_call 26; exact Calls.quiet_of (left_quiet rb zs p' f' w _ w.heap.size HR5.out _)))
                  go_wp2
                  go_roundw
                  case rel => exact ⟨k + 1, p', f', by omega, by omega, by go_num, HR5.out.drewN _, .inr ⟨rfl, hf'⟩⟩
                  case measure => simp [intOf]; omega
              · have d0 : decide (0 ≤ y) = false := by simp; omega
                clear hcase
                go_wp2_with fail
                go_quiet ((go_at_call 26; exact Calls.quiet_of (left_quiet rb zs p' f' w _ w.heap.size HR5.out _)))
                go_wp2
                go_roundw
                case rel => exact ⟨k + 1, p', f', by omega, by omega, by go_num, HR5.out.drewN _, .inr ⟨rfl, hf'⟩⟩
                case measure => simp [intOf]; omega
            · clear hcase
              go_wp2_with fail
              go_quiet ((go_at_call 26; exact Calls.quiet_of (left_quiet rb zs p' f' w _ w.heap.size HR5.out _)))
              go_wp2
              go_roundw
              case rel => exact ⟨k + 1, p', f', by omega, by omega, by go_num, HR5.out.drewN _, .inr ⟨rfl, hf'⟩⟩
              case measure => simp [intOf]; omega
          · have hok2 : u8 = .bool true := by
              rcases hok with ⟨rfl, _⟩ | ⟨_, hfl⟩
              · rfl
              · exact absurd rfl hfl
            subst hok2
            clear hok
            have d0 : decide (0 ≤ y) = true := by simpa using g1
            have d1 : decide (y ≤ 64) = true := by simpa using g2
            have d2 : decide (y ≤ (zs.length : Int) * 8 - (p : Int)) = true := by simp; omega
            have d3 : ((zs.length : Int) * 8 - (p' : Int) != (zs.length : Int) * 8 - (p : Int) - y) = false := by rw [bne_eq_false_iff_eq]; omega
            have G4 := Lib.hid g4
            clear g4
            go_wp2_with fail
            have hwr : IntKind.i64.wrap ((zs.length : Int) * 8 - (p : Int) - y) = (zs.length : Int) * 8 - (p : Int) - y := IntWalk.i64_in _ (by omega)
            go_quiet ((go_at_call 26; exact Calls.quiet_of (left_quiet rb zs p' 0 w _ w.heap.size HR5.out _)))
            clear hwr
            go_wp2
            go_roundw
            case rel => exact ⟨k + 1, p', 0, by omega, by omega, by go_num, HR5.out.drewN _, .inl ⟨rfl, rfl⟩⟩
            case measure => simp [intOf]; omega
        · go_wp2_with fail
          refine (rb_left_any rb zs p fl w _ w.heap.size (HRr.out.alloc _)).mono ?_
          rintro e w4 ⟨rfl, rfl⟩
          go_wp2_with fail
          refine (rb_count_any rb zs p fl w _ w.heap.size (HRr.out.alloc _).drew).mono ?_
          rintro e w5 ⟨N, p', f', rfl, hN, hR5, hC⟩
          have HR5 := Lib.hid hR5
          have hat5 := hR5.at_le
          have HC := Lib.hid hC
          have HOK := Lib.hid hok
          have hk63 := kz_63 N hN
          clear hR5 hC hok
          go_wp2
          go_loop [13, 14] (fun kk mm => ∃ j : Nat, j ≤ kz N ∧ 2 ^ j ≤ N + 1 ∧ kk = .int .i64 (j : Int) ∧ mm = .int .u64 (((N + 1) / 2 ^ j : Nat) : Int)) (fun kk _ => 64 - (intOf kk).toNat)
          case atStart => exact ⟨0, by omega, by simp, rfl, by simp⟩
          case round =>
            obtain ⟨j, hj, hp, rfl, rfl⟩ := hrel
            have hle' : (N + 1) / 2 ^ j ≤ N + 1 := Nat.div_le_self _ _
            have HN : Hid ((N + 1) / 2 ^ (j + 1) = (N + 1) / 2 ^ j / 2) := Lib.hid (by rw [Nat.pow_succ, Nat.div_div_eq_div_mul])
            by_cases h1 : 1 < (N + 1) / 2 ^ j
            · have hmm := half_more (N + 1) j h1
              have hj1 : j + 1 ≤ kz N := by
                rcases Nat.lt_or_ge (kz N) (j + 1) with z | z
                · have h2 := kz_lt N
                  have h3 : (2 : Nat) ^ (kz N + 1) ≤ 2 ^ (j + 1) := Nat.pow_le_pow_right (by decide) z
                  omega
                · exact z
              have HM := Lib.hid hmm
              clear hmm hp
              generalize (N + 1) / 2 ^ j = x at *
              go_wp2
              go_round
              case rel => exact ⟨j + 1, hj1, HM.out, by go_num, by rw [HN.out]; go_num⟩
              case measure => simp [intOf]; omega
            · have hjk := half_end N j hp (by omega)
              subst hjk
              clear hp HN hle'
              generalize (N + 1) / 2 ^ kz N = x at *
              go_wp2_with fail
              refine (rb_left_any rb zs p' f' w _ w.heap.size HR5.out).mono ?_
              rintro e w6 ⟨rfl, rfl⟩
              have HR6 := Lib.hid HR5.out.drew
              clear HR5
              rcases HC.out with ⟨c1, _, c3⟩ | ⟨c1, c2, c3⟩
              · subst c1
                clear HC
                have z0 : ((zs.length : Int) * 8 - (p' : Int) - ((zs.length : Int) * 8 - (p' : Int)) != 0) = false := by rw [bne_eq_false_iff_eq]; omega
                rcases HOK.out with ⟨o1, o2⟩ | ⟨o1, o2⟩
                · subst o1
                  clear HOK
                  go_wp2_with fail
                  refine (rb_left_any rb zs p' f' w _ w.heap.size HR6.out).mono ?_
                  rintro e w7 ⟨rfl, rfl⟩
                  go_wp2
                  go_roundw
                  case rel => exact ⟨k + 1, p', f', by omega, by omega, by go_num, HR6.out.drew, .inr ⟨rfl, c3⟩⟩
                  case measure => simp [intOf]; omega
                · subst o1
                  clear HOK
                  go_wp2
                  go_roundw
                  case rel => exact ⟨k + 1, p', f', by omega, by omega, by go_num, HR6.out, .inr ⟨rfl, c3⟩⟩
                  case measure => simp [intOf]; omega
              · have o1 : u8 = .bool true := by
                  rcases HOK.out with ⟨o1, _⟩ | ⟨_, o2⟩
                  · exact o1
                  · exact absurd c1 o2
                subst o1
                have z0 : ((zs.length : Int) * 8 - (p : Int) - ((zs.length : Int) * 8 - (p' : Int)) != 0) = true := by rw [bne_iff_ne]; omega
                have z1 : ((zs.length : Int) * 8 - (p : Int) - ((zs.length : Int) * 8 - (p' : Int)) != 2 * (kz N : Int) + 1) = false := by rw [bne_eq_false_iff_eq]; omega
                have z2 : ((zs.length : Int) * 8 - (p : Int) != (zs.length : Int) * 8 - (p' : Int)) = true := by rw [bne_iff_ne]; omega
                subst c2
                clear HC HOK c1 c3
                go_wp2_with fail
                refine (rb_left_any rb zs p' 0 w _ w.heap.size HR6.out).mono ?_
                rintro e w7 ⟨rfl, rfl⟩
                go_wp2
                go_roundw
                case rel => exact ⟨k + 1, p', 0, by omega, by omega, by go_num, HR6.out.drew, .inl ⟨rfl, rfl⟩⟩
                case measure => simp [intOf]; omega
      · have ht300 : (300 : Int) ≤ (k : Int) := by omega
        rcases hok with ⟨rfl, rfl⟩ | ⟨rfl, hfl⟩
        · go_wp2
          go_ret
          exact ⟨rfl, (HRr.out.alloc _).below⟩
        · have hfb : (fl != 0) = true := by simpa using hfl
          go_wp2_with (go_at_call 27; refine (rb_end_any rb zs p fl w _ w.heap.size (HRr.out.alloc _) hfl).mono ?_; rintro e w8 ⟨rfl, rfl⟩)
          go_ret
          exact ⟨rfl, (HRr.out.alloc _).below⟩
    · obtain rfl : k = len2 := by omega
      rcases hok with ⟨rfl, rfl⟩ | ⟨rfl, hfl⟩
      · go_wp2
        go_ret
        exact ⟨rfl, HRr.out.below⟩
      · have hfb : (fl != 0) = true := by simpa using hfl
        go_wp2_with (go_at_call 27; refine (rb_end_any rb zs p fl w _ w.heap.size HRr.out hfl).mono ?_; rintro e w8 ⟨rfl, rfl⟩)
        go_ret
        exact ⟨rfl, HRr.out.below⟩

end Go.Proofs.Ytjjcomdmeodicaa
