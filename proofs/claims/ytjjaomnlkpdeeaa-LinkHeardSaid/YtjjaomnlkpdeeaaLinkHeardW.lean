/-
  The statement LinkHeard: its walk.
-/
import Derived.Test.YtjjaomnlkpdeeaaLnArgs
set_option linter.unusedVariables false
set_option maxRecDepth 100000
namespace Go.Proofs.Ytjjaomnlkpdeeaa
namespace Ln
open Go.RowKit Bp Ck
theorem packet_none {w : World} {s told : Nat} {v : Value} (h : SAt w s v told []) : Calls Try.prog 19 #[.pointer (some ⟨s, 0, none⟩)] w fun e w' => ∃ A c, e = .returned (.tuple #[.slice A 0 c, .bool false]) ∧ Below w.heap.size w w' := by
  refine (packet_any h).mono ?_
  rintro e w' ⟨A, c, he, ho, hb⟩
  exact ⟨A, c, he, hb⟩
theorem shear_at {w W : World} {s told : Nat} {v : Value} {pk : List Nat} {A : Option Addr} {n c : Nat} (hb : Below w.heap.size w W) (h : SAt w s v told pk) (hp : pk ≠ []) (hd : By w.heap.size w A n c (play true (told + 1) [])) :
    Calls Try.prog 23 #[.pointer (some ⟨s, 0, none⟩), .slice A n c] W (STold s (told + 1) [] (.bool true) W) := shear_yes (h.later hb) hp (by_later hd hb) (Nat.le_refl _)
theorem told_at {w W : World} {s told : Nat} {v : Value} {pk : List Nat} (hb : Below w.heap.size w W) (h : SAt w s v told pk) : Calls Try.prog 27 #[.pointer (some ⟨s, 0, none⟩)] W fun e w' => e = .returned (.int .u64 (told : Int)) ∧ W = w' := told_any (h.later hb)
theorem heard_at {w W : World} {r heard : Nat} (hb : Below w.heap.size w W) (h : RAt w r heard) : Calls Try.prog 28 #[.pointer (some ⟨r, 0, none⟩)] W fun e w' => e = .returned (.int .u64 (heard : Int)) ∧ W = w' := heard_any (h.later hb)
set_option maxHeartbeats 8000000 in
theorem linkHeard_walk (n : Nat) (hn : n < 18446744073709551616) (A : Option Addr) (len cap : Nat) (ls : List (List Nat)) (w : World) (hl : Bss w.heap.size w A len cap ls) (_ : True) :
    Calls Try.prog 8 #[.int .u64 (n : Int), .slice A len cap] w fun e w' => e = .returned (.bool true) ∧ Below w.heap.size w w' := by
  have hle := hl.le
  have hmx := hl.max
  unfold maxLen at hmx
  have HL := Lib.hid hl
  have HS := Lib.hid (shown14_any w)
  obtain ⟨n0, hn0⟩ : ∃ n0, n0 = n % 9223372036854775808 := ⟨_, rfl⟩
  have hm : (n : Int) % 9223372036854775808 = (n0 : Int) := by omega
  have hn1 : n0 < 9223372036854775808 := by omega
  have hmt : (n : Int).tmod 9223372036854775808 = (n0 : Int) := by rw [Int.tmod_eq_emod_of_nonneg (by omega)]; exact hm
  clear hl hn0
  go_enter Try.func8, Try.ntmps8
  go_wp2_with fail
  refine HS.out.mono ?_
  rintro e w1 ⟨rfl, hb1⟩
  have HB1 := Lib.hid hb1
  clear hb1 HS
  go_wp2_with fail
  refine (newSender_any _ _).mono ?_
  rintro e w2 ⟨rfl, rfl⟩
  go_wp2_with fail
  refine (newReceiver_any _ _).mono ?_
  rintro e w3 ⟨rfl, rfl⟩
  have hbn := both_new w1 n0 n0 (by omega) (by omega) _ rfl
  generalize hW : (w1.alloc (.cells #[.int .u64 (n0 : Int), .slice none 0 0] 97)).alloc (.cells #[.int .u64 (n0 : Int)] 99) = w4 at hbn ⊢
  have e1 : (w1.alloc (.cells #[.int .u64 (n0 : Int), .slice none 0 0] 97)).heap.size = w1.heap.size + 1 := by simp
  rw [e1]
  obtain ⟨hs2, hr2, hb2, hz2⟩ := hbn
  have HS2 := Lib.hid hs2
  have HR2 := Lib.hid hr2
  have HB2 := Lib.hid (HB1.out.trans (hb2.mono HB1.out.size))
  have hsz := HB1.out.size
  obtain ⟨s, hs⟩ : ∃ s, s = w1.heap.size := ⟨_, rfl⟩
  obtain ⟨r, hr⟩ : ∃ r, r = w1.heap.size + 1 := ⟨_, rfl⟩
  rw [← hr] at HR2
  rw [← hs] at HS2
  rw [← hr, ← hs]
  have HSR : Hid (w.heap.size ≤ s ∧ w.heap.size ≤ r) := Lib.hid ⟨by omega, by omega⟩
  clear hs2 hr2 hb2 hz2 hs hr e1 hW hsz HB1
  go_wp2_with fail
  go_loopw [31] (fun iv wr => ∃ k : Nat, k ≤ len ∧ k ≤ 50 ∧ iv = .int .i64 (k : Int) ∧ ∃ v, SAt wr s v (n0 + k) [] ∧ RAt wr r (n0 + k) ∧ Below w.heap.size w wr) (fun iv _ => len - (intOf iv).toNat)
  case atStart => exact ⟨0, Nat.zero_le _, by omega, rfl, _, HS2.out, HR2.out, HB2.out⟩
  case round =>
    obtain ⟨k, hk, hk50, rfl, v, hs, hr, hb⟩ := hrel
    have HSk := Lib.hid hs
    have HRk := Lib.hid hr
    have HBk := Lib.hid hb
    have hlk := HL.out.below hb
    clear hs hr hb HS2 HR2 HB2
    by_cases hlt : k < len
    · obtain ⟨g, off, rfl, hg, hc⟩ := hlk.cell (by omega)
      obtain ⟨A1, n1, c1, k1, hy⟩ := hc k hlt
      have HKC : Hid (∀ W, Below w.heap.size w W → W.cell? ⟨g, off + k, none⟩ = some (.slice A1 n1 c1)) := Lib.hid (fun W hW => by
        rw [hW.cell (p := ⟨g, off + k, none⟩) hg, ← HBk.out.cell (p := ⟨g, off + k, none⟩) hg]; exact k1)
      have HYC : Hid (∀ W, Below w.heap.size w W → By w.heap.size W A1 n1 c1 (ls.getD k [])) := Lib.hid (fun W hW => by
        obtain ⟨g', off', e', hg', hc'⟩ := (HL.out.below hW).cell (by omega)
        injection e' with e'
        injection e' with ea eb
        subst ea eb
        obtain ⟨A', n', c', k', y'⟩ := hc' k hlt
        rw [HKC.out W hW] at k'
        injection k' with k'
        injection k' with ea eb ec
        subst ea eb ec
        exact y')
      have HY := Lib.hid hy
      generalize ls.getD k [] = dk at *
      have HW1 : Hid (IntKind.i64.wrap ((k : Int) + 1) = (k : Int) + 1) := Lib.hid (IntWalk.i64_in _ (by omega))
      have HW2 : Hid (IntKind.u64.wrap ((k : Int) + 1) = (k : Int) + 1) := Lib.hid (IntWalk.u64_in _ (by omega))
      have HW3 : Hid (IntKind.u64.wrap ((n0 : Int) + ((k : Int) + 1)) = (n0 : Int) + ((k : Int) + 1)) := Lib.hid (IntWalk.u64_in _ (by omega))
      have HW4 : Hid ((((n0 + k + 1 : Nat) : Int) != (n0 : Int) + ((k : Int) + 1)) = false) := Lib.hid (by rw [bne_eq_false_iff_eq]; omega)
      have hn1c := hy.le
      have hc1m := hy.max
      unfold maxLen at hc1m
      clear hc hlk hy
      by_cases h50 : k = 50
      · subst h50
        go_wp2_with fail
        go_ret
        exact ⟨rfl, HBk.out⟩
      · have d50 : decide ((50 : Int) ≤ (k : Int)) = false := decide_eq_false (by omega)
        by_cases h200 : 200 < n1
        · have d200 : decide ((200 : Int) < (n1 : Int)) = true := decide_eq_true (by omega)
          go_wp2_with fail
          go_ret
          exact ⟨rfl, HBk.out⟩
        · have d200 : decide ((200 : Int) < (n1 : Int)) = false := decide_eq_false (by omega)
          go_wp2_with fail
          refine (tell_new HSk.out (by omega) HY.out HBk.out.size (by omega)).mono ?_
          rintro e w5 ⟨v5, rfl, hs5, ht5⟩
          have hof := ok_told (told := n0 + k) (by omega) (by rw [HY.out.len]; omega) HY.out.byte
          have HOK := Lib.hid hof
          have HNE := Lib.hid (play_ne hof)
          have HS5 := Lib.hid hs5
          have HR5 := Lib.hid (HRk.out.turn ht5 (HRk.out.ne HSk.out))
          have HB5 := Lib.hid (HBk.out.trans (ht5.below _ HBk.out.size (fun q hq => by have : q = s := hq; have := HSR.out; omega)))
          have k5 := HKC.out _ HB5.out
          clear hs5 ht5 hof HSk HRk HBk k1
          go_wp2_with fail
          refine (tell_there HS5.out HNE.out).mono ?_
          rintro e w6 ⟨rfl, rfl⟩
          go_wp2_with fail
          refine (packet_yes HS5.out HNE.out).mono ?_
          rintro e w7 ⟨A7, c7, rfl, ⟨hy7, hf7⟩, hb7⟩
          have HY7 := Lib.hid hy7
          have HS7 := Lib.hid (HS5.out.later hb7)
          have HR7 := Lib.hid (HR5.out.later hb7)
          have HB7 := Lib.hid (HB5.out.trans (hb7.mono HB5.out.size))
          clear hy7 hf7 hb7 HS5 HR5 HB5 k5
          go_wp2_with fail
          refine (rhear_new HR7.out (by omega) HOK.out HY7.out (Nat.le_refl _)).mono ?_
          rintro e w8 ⟨ht8, A8, c8, A9, c9, rfl, ⟨hy8, hf8⟩, ⟨hy9, hf9⟩, hr8⟩
          have HS8 := Lib.hid (HS7.out.turn ht8 (HR7.out.free HS7.out))
          have HR8 := Lib.hid hr8
          have HB8 := Lib.hid (HB7.out.trans (ht8.below _ HB7.out.size (fun q hq => by have : q = r := hq; have := HSR.out; omega)))
          have HX8 := Lib.hid hy8
          have HF8 : Hid (∀ a, A8 = some a → ¬ One s a.block) := Lib.hid (fun a ha he => by have : a.block = s := he; have := hf8 a ha; have := HS7.out.lt s (.inl rfl); omega)
          have kc8 := hy8.drew.conv
          have kc1 := (HYC.out _ HB8.out.drew).conv
          have k8 := HKC.out _ HB8.out
          have HK8 := Lib.hid hy9
          clear ht8 hy8 hf8 hy9 hf9 hr8 HS7 HR7 HB7 HY7
          go_wp2_with fail
          refine wp_region_held_drew (S := fun w' => w'.cell? ⟨g, off + k, none⟩ = some (.slice A1 n1 c1) ∧ (convert 23 9 (.slice A8 dk.length c8)).run Try.prog w' = .ok (.string (strOf dk)) w' ∧ (convert 23 9 (.slice A1 n1 c1)).run Try.prog w' = .ok (.string (strOf dk)) w') (by kernel_rfl) (by simp; exact ⟨k8, kc8, kc1⟩) (fun hS0 => ?_)
          (refine wpAnyH_take (i := 0) (oi := ⟨some 72, _, _, _, _, _⟩) (v := .bool true) rfl (by kernel_rfl) (by kernel_rfl) (by kernel_rfl) (fun _ _ _ h => h) (Or.inl ⟨by rfl, ?_⟩) (by assumption) ?_; (intro w hSw; (try dsimp only at hSw); go_simp); (try simp only [Act.put, List.setIfInBounds_toArray, List.set_cons_zero, List.set_cons_succ]))
          (refine wpAnyH_take (i := 1) (oi := ⟨some 73, _, _, _, _, _⟩) (v := .bool false) rfl (by kernel_rfl) (by kernel_rfl) (by kernel_rfl) (fun _ _ _ h => h) (Or.inl ⟨by rfl, ?_⟩) (by assumption) ?_; (intro w hSw; (try dsimp only at hSw); go_simp); (try simp only [Act.put, List.setIfInBounds_toArray, List.set_cons_zero, List.set_cons_succ]))
          (refine wpAnyH_take (i := 2) (oi := ⟨some 74, _, _, _, _, _⟩) (v := .bool false) rfl (by kernel_rfl) (by kernel_rfl) (by kernel_rfl) (fun _ _ _ h => h) (Or.inl ⟨by rfl, ?_⟩) (by assumption) ?_; (intro w hSw; (try dsimp only at hSw); go_simp); (try simp only [Act.put, List.setIfInBounds_toArray, List.set_cons_zero, List.set_cons_succ]))
          (refine wpAnyH_take (i := 3) (oi := ⟨some 75, _, _, _, _, _⟩) (v := .bool true) rfl (by kernel_rfl) (by kernel_rfl) (by kernel_rfl) (fun _ _ _ h => h) (Or.inl ⟨by rfl, ?_⟩) (by assumption) ?_; (intro w hSw; (try dsimp only at hSw); go_simp); (try simp only [Act.put, List.setIfInBounds_toArray, List.set_cons_zero, List.set_cons_succ]))
          (refine wpAnyH_take (i := 4) (oi := ⟨some 76, _, _, _, _, _⟩) (v := .bool false) rfl (by kernel_rfl) (by kernel_rfl) (by kernel_rfl) (fun _ _ _ h => h) (Or.inl ⟨by rfl, ?_⟩) (by assumption) ?_; (intro w hSw; (try dsimp only at hSw); go_simp); (try simp only [Act.put, List.setIfInBounds_toArray, List.set_cons_zero, List.set_cons_succ]))
          (refine wpAnyH_take (i := 5) (oi := ⟨some 77, _, _, _, _, _⟩) (v := .bool false) rfl (by kernel_rfl) (by kernel_rfl) (by kernel_rfl) (fun _ _ _ h => h) (Or.inl ⟨by rfl, ?_⟩) (by assumption) ?_; (intro w hSw; (try dsimp only at hSw); go_simp); (try simp only [Act.put, List.setIfInBounds_toArray, List.set_cons_zero, List.set_cons_succ]))
          (refine wpAnyH_take (i := 6) (oi := ⟨some 78, _, _, _, _, _⟩) (v := .bool false) rfl (by kernel_rfl) (by kernel_rfl) (by kernel_rfl) (fun _ _ _ h => h) (Or.inl ⟨by rfl, ?_⟩) (by assumption) ?_; (intro w hSw; (try dsimp only at hSw); go_simp); (try simp only [Act.put, List.setIfInBounds_toArray, List.set_cons_zero, List.set_cons_succ]))
          (refine wpAnyH_take (i := 7) (oi := ⟨some 79, _, _, _, _, _⟩) (v := .slice A8 dk.length c8) rfl (by kernel_rfl) (by kernel_rfl) (by kernel_rfl) (fun _ _ _ h => h) (Or.inl ⟨by rfl, ?_⟩) (by assumption) ?_; (intro w hSw; (try dsimp only at hSw); go_simp); (try simp only [Act.put, List.setIfInBounds_toArray, List.set_cons_zero, List.set_cons_succ]))
          (refine wpAnyH_take (i := 8) (oi := ⟨some 80, _, _, _, _, _⟩) (v := (.string (strOf dk))) rfl (by kernel_rfl) (by kernel_rfl) (by kernel_rfl) (fun _ _ _ h => h) (Or.inl ⟨by rfl, ?_⟩) (by assumption) ?_; (intro w hSw; (try dsimp only at hSw); go_simp); (try simp only [Act.put, List.setIfInBounds_toArray, List.set_cons_zero, List.set_cons_succ]))
          (refine wpAnyH_take (i := 9) (oi := ⟨some 81, _, _, _, _, _⟩) (v := .slice (some ⟨g, off, none⟩) len cap) rfl (by kernel_rfl) (by kernel_rfl) (by kernel_rfl) (fun _ _ _ h => h) (Or.inl ⟨by rfl, ?_⟩) (by assumption) ?_; (intro w hSw; (try dsimp only at hSw); go_simp); (try simp only [Act.put, List.setIfInBounds_toArray, List.set_cons_zero, List.set_cons_succ]))
          (refine wpAnyH_take (i := 10) (oi := ⟨some 82, _, _, _, _, _⟩) (v := .int .i64 (k : Int)) rfl (by kernel_rfl) (by kernel_rfl) (by kernel_rfl) (fun _ _ _ h => h) (Or.inl ⟨by rfl, ?_⟩) (by assumption) ?_; (intro w hSw; (try dsimp only at hSw); go_simp); (try simp only [Act.put, List.setIfInBounds_toArray, List.set_cons_zero, List.set_cons_succ]))
          (refine wpAnyH_take (i := 11) (oi := ⟨some 83, _, _, _, _, _⟩) (v := .pointer (some ⟨g, off + k, none⟩)) rfl (by kernel_rfl) (by kernel_rfl) (by kernel_rfl) (fun _ _ _ h => h) (Or.inl ⟨by rfl, ?_⟩) (by assumption) ?_; (intro w hSw; (try dsimp only at hSw); go_simp); (try simp only [Act.put, List.setIfInBounds_toArray, List.set_cons_zero, List.set_cons_succ]))
          (refine wpAnyH_take (i := 12) (oi := ⟨some 84, _, _, _, _, _⟩) (v := .slice A1 n1 c1) rfl (by kernel_rfl) (by kernel_rfl) (by kernel_rfl) (fun _ _ _ h => h) (Or.inl ⟨by rfl, ?_⟩) (by assumption) ?_; (intro w hSw; (try dsimp only at hSw); go_simp); (try simp only [Act.put, List.setIfInBounds_toArray, List.set_cons_zero, List.set_cons_succ]))
          (refine wpAnyH_take (i := 13) (oi := ⟨some 85, _, _, _, _, _⟩) (v := (.string (strOf dk))) rfl (by kernel_rfl) (by kernel_rfl) (by kernel_rfl) (fun _ _ _ h => h) (Or.inl ⟨by rfl, ?_⟩) (by assumption) ?_; (intro w hSw; (try dsimp only at hSw); go_simp); (try simp only [Act.put, List.setIfInBounds_toArray, List.set_cons_zero, List.set_cons_succ]))
          (refine wpAnyH_take (i := 14) (oi := ⟨some 86, _, _, _, _, _⟩) (v := .bool false) rfl (by kernel_rfl) (by kernel_rfl) (by kernel_rfl) (fun _ _ _ h => h) (Or.inl ⟨by rfl, ?_⟩) (by assumption) ?_; (intro w hSw; (try dsimp only at hSw); go_simp); (try simp only [Act.put, List.setIfInBounds_toArray, List.set_cons_zero, List.set_cons_succ]))
          (refine wpAnyH_take (i := 15) (oi := ⟨some 87, _, _, _, _, _⟩) (v := .bool false) rfl (by kernel_rfl) (by kernel_rfl) (by kernel_rfl) (fun _ _ _ h => h) (Or.inl ⟨by rfl, ?_⟩) (by assumption) ?_; (intro w hSw; (try dsimp only at hSw); go_simp); (try simp only [Act.put, List.setIfInBounds_toArray, List.set_cons_zero, List.set_cons_succ]))
          (refine wpAnyH_take (i := 16) (oi := ⟨some 88, _, _, _, _, _⟩) (v := .bool false) rfl (by kernel_rfl) (by kernel_rfl) (by kernel_rfl) (fun _ _ _ h => h) (Or.inl ⟨by rfl, ?_⟩) (by assumption) ?_; (intro w hSw; (try dsimp only at hSw); go_simp); (try simp only [Act.put, List.setIfInBounds_toArray, List.set_cons_zero, List.set_cons_succ]))
          (refine wpAnyH_take (i := 17) (oi := ⟨some 89, _, _, _, _, _⟩) (v := .pointer (some ⟨s, 0, none⟩)) rfl (by kernel_rfl) (by kernel_rfl) (by kernel_rfl) (fun _ _ _ h => h) (Or.inl ⟨by rfl, ?_⟩) (by assumption) ?_; (intro w hSw; (try dsimp only at hSw); go_simp); (try simp only [Act.put, List.setIfInBounds_toArray, List.set_cons_zero, List.set_cons_succ]))
          (refine wpAnyH_take (i := 18) (oi := ⟨some 90, _, _, _, _, _⟩) (v := .slice A9 (play true (n0 + k + 1) []).length c9) rfl (by kernel_rfl) (by kernel_rfl) (by kernel_rfl) (fun _ _ _ h => h) (Or.inl ⟨by rfl, ?_⟩) (by assumption) ?_; (intro w hSw; (try dsimp only at hSw); go_simp); (try simp only [Act.put, List.setIfInBounds_toArray, List.set_cons_zero, List.set_cons_succ]))
          refine wpAnyH_ready (rs := [19]) (by kernel_rfl) (by simp) ?_
          refine AllReadyH.cons (o := ⟨some 91, _, _, _, _, _⟩) rfl (fun K hK => ?_) AllReadyH.nil
          go_simp
          refine (shear_at (Below.refl _ _).drew HS8.out HNE.out HK8.out).mono ?_
          rintro e w9 ⟨v9, rfl, hs9, ht9⟩
          have HS9 := Lib.hid hs9
          have HR9 := Lib.hid ((HR8.out.later (Below.refl _ _).drew).turn ht9 (HR8.out.ne HS8.out))
          have HB9 := Lib.hid (HB8.out.drew.trans (ht9.below _ HB8.out.size (fun q hq => by have : q = s := hq; have := HSR.out; omega)))
          have p0 := HKC.out _ HB9.out
          have p1 := (by_turn (by_later HX8.out (Below.refl _ _).drew) ht9 HF8.out).conv
          have p2 := (HYC.out _ HB9.out).conv
          clear hs9 ht9
          refine hK.out _ _ ⟨p0, p1, p2⟩ (fun hS91 => ?_)
          clear hK
          (try simp only [Act.put, List.setIfInBounds_toArray, List.set_cons_zero, List.set_cons_succ])
          (refine wpAnyH_take (i := 20) (oi := ⟨some 92, _, _, _, _, _⟩) (v := .bool false) rfl (by kernel_rfl) (by kernel_rfl) (by kernel_rfl) (fun _ _ _ h => h) (Or.inl ⟨by rfl, ?_⟩) (by assumption) ?_; (intro w hSw; (try dsimp only at hSw); go_simp); (try simp only [Act.put, List.setIfInBounds_toArray, List.set_cons_zero, List.set_cons_succ]))
          (refine wpAnyH_take (i := 21) (oi := ⟨some 93, _, _, _, _, _⟩) (v := .bool false) rfl (by kernel_rfl) (by kernel_rfl) (by kernel_rfl) (fun _ _ _ h => h) (Or.inl ⟨by rfl, ?_⟩) (by assumption) ?_; (intro w hSw; (try dsimp only at hSw); go_simp); (try simp only [Act.put, List.setIfInBounds_toArray, List.set_cons_zero, List.set_cons_succ]))
          (refine wpAnyH_take (i := 22) (oi := ⟨some 94, _, _, _, _, _⟩) (v := .bool false) rfl (by kernel_rfl) (by kernel_rfl) (by kernel_rfl) (fun _ _ _ h => h) (Or.inl ⟨by rfl, ?_⟩) (by assumption) ?_; (intro w hSw; (try dsimp only at hSw); go_simp); (try simp only [Act.put, List.setIfInBounds_toArray, List.set_cons_zero, List.set_cons_succ]))
          (refine wpAnyH_take (i := 23) (oi := ⟨some 95, _, _, _, _, _⟩) (v := .pointer (some ⟨s, 0, none⟩)) rfl (by kernel_rfl) (by kernel_rfl) (by kernel_rfl) (fun _ _ _ h => h) (Or.inl ⟨by rfl, ?_⟩) (by assumption) ?_; (intro w hSw; (try dsimp only at hSw); go_simp); (try simp only [Act.put, List.setIfInBounds_toArray, List.set_cons_zero, List.set_cons_succ]))
          (refine wpAnyH_take (i := 25) (oi := ⟨some 97, _, _, _, _, _⟩) (v := .int .u64 (n : Int)) rfl (by kernel_rfl) (by kernel_rfl) (by kernel_rfl) (fun _ _ _ h => h) (Or.inl ⟨by rfl, ?_⟩) (by assumption) ?_; (intro w hSw; (try dsimp only at hSw); go_simp); (try simp only [Act.put, List.setIfInBounds_toArray, List.set_cons_zero, List.set_cons_succ]))
          (refine wpAnyH_take (i := 26) (oi := ⟨some 98, _, _, _, _, _⟩) (v := .int .u64 (n0 : Int)) rfl (by kernel_rfl) (by kernel_rfl) (by kernel_rfl) (fun _ _ _ h => h) (Or.inl ⟨by rfl, ?_⟩) (by assumption) ?_; (intro w hSw; (try dsimp only at hSw); go_simp; try exact hmt); (try simp only [Act.put, List.setIfInBounds_toArray, List.set_cons_zero, List.set_cons_succ]))
          (refine wpAnyH_take (i := 27) (oi := ⟨some 99, _, _, _, _, _⟩) (v := .int .i64 (k : Int)) rfl (by kernel_rfl) (by kernel_rfl) (by kernel_rfl) (fun _ _ _ h => h) (Or.inl ⟨by rfl, ?_⟩) (by assumption) ?_; (intro w hSw; (try dsimp only at hSw); go_simp); (try simp only [Act.put, List.setIfInBounds_toArray, List.set_cons_zero, List.set_cons_succ]))
          (refine wpAnyH_take (i := 28) (oi := ⟨some 100, _, _, _, _, _⟩) (v := .int .i64 ((k : Int) + 1)) rfl (by kernel_rfl) (by kernel_rfl) (by kernel_rfl) (fun _ _ _ h => h) (Or.inl ⟨by rfl, ?_⟩) (by assumption) ?_; (intro w hSw; (try dsimp only at hSw); go_simp; try exact HW1.out); (try simp only [Act.put, List.setIfInBounds_toArray, List.set_cons_zero, List.set_cons_succ]))
          (refine wpAnyH_take (i := 29) (oi := ⟨some 101, _, _, _, _, _⟩) (v := .int .u64 ((k : Int) + 1)) rfl (by kernel_rfl) (by kernel_rfl) (by kernel_rfl) (fun _ _ _ h => h) (Or.inl ⟨by rfl, ?_⟩) (by assumption) ?_; (intro w hSw; (try dsimp only at hSw); go_simp; try exact HW2.out); (try simp only [Act.put, List.setIfInBounds_toArray, List.set_cons_zero, List.set_cons_succ]))
          (refine wpAnyH_take (i := 30) (oi := ⟨some 102, _, _, _, _, _⟩) (v := .int .u64 ((n0 : Int) + ((k : Int) + 1))) rfl (by kernel_rfl) (by kernel_rfl) (by kernel_rfl) (fun _ _ _ h => h) (Or.inl ⟨by rfl, ?_⟩) (by assumption) ?_; (intro w hSw; (try dsimp only at hSw); go_simp; try exact HW3.out); (try simp only [Act.put, List.setIfInBounds_toArray, List.set_cons_zero, List.set_cons_succ]))
          refine wpAnyH_ready (rs := [24]) (by kernel_rfl) (by simp) ?_
          refine AllReadyH.cons (o := ⟨some 96, _, _, _, _, _⟩) rfl (fun K hK => ?_) AllReadyH.nil
          go_simp
          refine (told_any HS9.out).mono ?_
          rintro e wq ⟨rfl, rfl⟩
          refine hK.out _ _ ⟨p0, p1, p2⟩ (fun hS96 => ?_)
          clear hK
          (try simp only [Act.put, List.setIfInBounds_toArray, List.set_cons_zero, List.set_cons_succ])
          (refine wpAnyH_take (i := 31) (oi := ⟨some 103, _, _, _, _, _⟩) (v := .bool false) rfl (by kernel_rfl) (by kernel_rfl) (by kernel_rfl) (fun _ _ _ h => h) (Or.inl ⟨by rfl, ?_⟩) (by assumption) ?_; (intro w hSw; (try dsimp only at hSw); go_simp; try (first | exact HW4.out | omega | (rw [bne_eq_false_iff_eq]; omega) | (simp; omega))); (try simp only [Act.put, List.setIfInBounds_toArray, List.set_cons_zero, List.set_cons_succ]))
          (refine wpAnyH_take (i := 32) (oi := ⟨some 104, _, _, _, _, _⟩) (v := .bool false) rfl (by kernel_rfl) (by kernel_rfl) (by kernel_rfl) (fun _ _ _ h => h) (Or.inl ⟨by rfl, ?_⟩) (by assumption) ?_; (intro w hSw; (try dsimp only at hSw); go_simp); (try simp only [Act.put, List.setIfInBounds_toArray, List.set_cons_zero, List.set_cons_succ]))
          (refine wpAnyH_take (i := 33) (oi := ⟨some 105, _, _, _, _, _⟩) (v := .bool false) rfl (by kernel_rfl) (by kernel_rfl) (by kernel_rfl) (fun _ _ _ h => h) (Or.inl ⟨by rfl, ?_⟩) (by assumption) ?_; (intro w hSw; (try dsimp only at hSw); go_simp); (try simp only [Act.put, List.setIfInBounds_toArray, List.set_cons_zero, List.set_cons_succ]))
          (refine wpAnyH_take (i := 34) (oi := ⟨some 106, _, _, _, _, _⟩) (v := .pointer (some ⟨r, 0, none⟩)) rfl (by kernel_rfl) (by kernel_rfl) (by kernel_rfl) (fun _ _ _ h => h) (Or.inl ⟨by rfl, ?_⟩) (by assumption) ?_; (intro w hSw; (try dsimp only at hSw); go_simp); (try simp only [Act.put, List.setIfInBounds_toArray, List.set_cons_zero, List.set_cons_succ]))
          (refine wpAnyH_take (i := 36) (oi := ⟨some 108, _, _, _, _, _⟩) (v := .pointer (some ⟨s, 0, none⟩)) rfl (by kernel_rfl) (by kernel_rfl) (by kernel_rfl) (fun _ _ _ h => h) (Or.inl ⟨by rfl, ?_⟩) (by assumption) ?_; (intro w hSw; (try dsimp only at hSw); go_simp); (try simp only [Act.put, List.setIfInBounds_toArray, List.set_cons_zero, List.set_cons_succ]))
          refine wpAnyH_ready (rs := [35]) (by kernel_rfl) (by simp) ?_
          refine AllReadyH.cons (o := ⟨some 107, _, _, _, _, _⟩) rfl (fun K hK => ?_) AllReadyH.nil
          go_simp
          refine (heard_any HR9.out).mono ?_
          rintro e wq ⟨rfl, rfl⟩
          refine hK.out _ _ ⟨p0, p1, p2⟩ (fun hS107 => ?_)
          clear hK
          (try simp only [Act.put, List.setIfInBounds_toArray, List.set_cons_zero, List.set_cons_succ])
          refine wpAnyH_ready (rs := [37]) (by kernel_rfl) (by simp) ?_
          refine AllReadyH.cons (o := ⟨some 109, _, _, _, _, _⟩) rfl (fun K hK => ?_) AllReadyH.nil
          go_simp
          refine (told_any HS9.out).mono ?_
          rintro e wq ⟨rfl, rfl⟩
          refine hK.out _ _ ⟨p0, p1, p2⟩ (fun hS109 => ?_)
          clear hK
          (try simp only [Act.put, List.setIfInBounds_toArray, List.set_cons_zero, List.set_cons_succ])
          (refine wpAnyH_take (i := 38) (oi := ⟨some 110, _, _, _, _, _⟩) (v := .bool false) rfl (by kernel_rfl) (by kernel_rfl) (by kernel_rfl) (fun _ _ _ h => h) (Or.inl ⟨by rfl, ?_⟩) (by assumption) ?_; (intro w hSw; (try dsimp only at hSw); go_simp); (try simp only [Act.put, List.setIfInBounds_toArray, List.set_cons_zero, List.set_cons_succ]))
          (refine wpAnyH_take (i := 39) (oi := ⟨some 111, _, _, _, _, _⟩) (v := .bool false) rfl (by kernel_rfl) (by kernel_rfl) (by kernel_rfl) (fun _ _ _ h => h) (Or.inl ⟨by rfl, ?_⟩) (by assumption) ?_; (intro w hSw; (try dsimp only at hSw); go_simp); (try simp only [Act.put, List.setIfInBounds_toArray, List.set_cons_zero, List.set_cons_succ]))
          refine wpAnyH_done (by kernel_rfl) ?_ _
          have HX := Lib.hid HR9.out
          go_wp2_with fail
          refine (packet_none HS9.out).mono ?_
          rintro e w10 ⟨A10, c10, rfl, hb10⟩
          have HS10 := Lib.hid (HS9.out.later hb10)
          have HR10 := Lib.hid (HR9.out.later hb10)
          have HB10 := Lib.hid (HB9.out.trans (hb10.mono HB9.out.size))
          clear hb10 HS9 HR9 HB9 HX
          go_wp2_with fail
          go_roundw
          case rel => exact ⟨k + 1, by omega, by omega, by go_num, v9, by rw [← Nat.add_assoc]; exact HS10.out, by rw [← Nat.add_assoc]; exact HR10.out, HB10.out⟩
          case measure => simp [intOf]; omega
    · obtain rfl : k = len := by omega
      go_wp2_with fail
      go_ret
      exact ⟨rfl, HBk.out⟩
end Ln
end Go.Proofs.Ytjjaomnlkpdeeaa
