/-
  The statement LinkPlays: its walk.
-/
import Derived.Test.YtjjaomnlkpdeeaaLnW
import Derived.Test.YtjjaomnlkpdeeaaLnX
import Derived.Deep.CutBlock
import Derived.Deep.CutRange
import Derived.Deep.DeepCutAuto
set_option linter.unusedVariables false
set_option maxRecDepth 100000
namespace Go.Proofs.Ytjjaomnlkpdeeaa
namespace Ln
open Go.RowKit Bp Ck
theorem strOf_nil : strOf [] = ByteArray.empty := by rfl
theorem act_cells {w : World} {R : Nat} {x y : Value} {t : TypeId} (h : w.heap[R]? = some (.cells #[x, y] t (0, 0))) : w.cell? ⟨R, 0, none⟩ = some x ∧ w.cell? ⟨R, 1, none⟩ = some y :=
  ⟨by rw [cell_of_row _ R 0 _ _ _ h]; rfl, by rw [cell_of_row _ R 1 _ _ _ h]; rfl⟩
theorem qo_start {w0 w1 w2 w3 : World} {told heard : Nat} (hb : Below w0.heap.size w0 w1) (hs2 : SAt w2 w1.heap.size (.slice none 0 0) told []) (hr2 : RAt w2 (w1.heap.size + 1) heard) (hb2 : Below w1.heap.size w1 w2) (hz2 : w2.heap.size = w1.heap.size + 2) (hh : heard < 18446744073709551616)
    (h3 : w3 = (w2.alloc (.cells #[.int .u64 (told : Int), .bool false, .string { data := #[] }] 43)).alloc (.cells #[.int .u64 (heard : Int)] 46)) :
    Qo w0 w3 ⟨w1.heap.size, w1.heap.size + 1, w1.heap.size + 2, w1.heap.size + 2 + 1, w1.heap.size + 4⟩ ⟨.slice none 0 0, told, [], told, [], [], heard, heard, none, 0, []⟩ ∧ Qe ⟨.slice none 0 0, told, [], told, [], [], heard, heard, none, 0, []⟩ := by
  obtain ⟨wm, hm⟩ : ∃ wm, wm = w2.alloc (.cells #[.int .u64 (told : Int), .bool false, .string { data := #[] }] 43) := ⟨_, rfl⟩
  rw [← hm] at h3
  have b1 : Below w2.heap.size w2 wm := by rw [hm]; exact (Below.refl _ _).alloc (Nat.le_refl _) _
  have b2 : Below wm.heap.size wm w3 := by rw [h3]; exact (Below.refl _ _).alloc (Nat.le_refl _) _
  have z1 : wm.heap.size = w1.heap.size + 2 + 1 := by rw [hm]; simp [hz2]
  have z3 : w3.heap.size = w1.heap.size + 4 := by rw [h3]; simp [z1]
  have v1 : VAt wm (w1.heap.size + 2) told [] [] := by rw [hm, ← hz2]; exact heap_alloc_new w2 _
  have q1 : WAt w3 (w1.heap.size + 2 + 1) heard := ⟨by rw [h3, ← z1]; exact heap_alloc_new wm _, hh⟩
  have b3 : Below w2.heap.size w2 w3 := b1.trans (b2.mono b1.size)
  have hsz := hb.size
  refine ⟨⟨hb.trans ((hb2.trans (b3.mono hb2.size)).mono hb.size), hs2.later b3, hr2.later b3, v1.later b2, q1, By.none_ _ _, fun x hx => (by cases hx), ⟨hsz, ?_, ?_, ?_⟩, ⟨?_, ?_, ?_, ?_⟩, ?_⟩, ⟨rfl, rfl, rfl, fun e => absurd rfl e⟩⟩
  · show w0.heap.size ≤ w1.heap.size + 1; omega
  · show w0.heap.size ≤ w1.heap.size + 2; omega
  · show w0.heap.size ≤ w1.heap.size + 2 + 1; omega
  · show w1.heap.size < w1.heap.size + 4; omega
  · show w1.heap.size + 1 < w1.heap.size + 4; omega
  · show w1.heap.size + 2 < w1.heap.size + 4; omega
  · show w1.heap.size + 2 + 1 < w1.heap.size + 4; omega
  · show w1.heap.size + 4 ≤ w3.heap.size; omega
theorem plays_end {w wz : World} {a : Qa} {z' : Qz} {tv : Value} (h : Hid (Qo w wz a z' ∧ Qe z')) (e : tv = .slice z'.kA z'.bk.length z'.kc) : ∃ z' : Qz, tv = .slice z'.kA z'.bk.length z'.kc ∧ Hid (Qo w wz a z' ∧ Qe z') := ⟨z', e, h⟩
theorem plays_pick {w wz : World} {a : Qa} {z2 : Qz} (h : Hid (Qo w wz a z2 ∧ Qe z2)) : ∃ z1 : Qz, z1 = z2 ∧ Hid (Qo w wz a z1 ∧ Qe z1) := ⟨z2, rfl, h⟩
set_option maxHeartbeats 8000000 in
theorem linkPlays_walk (told : Nat) (ht : told < 18446744073709551616) (heard : Nat) (hh : heard < 18446744073709551616) (A : Option Addr) (n cap : Nat) (f : Nat → A14) (w : World) (h : Acs w.heap.size w A n cap f) (_ : True) :
    Calls Try.prog 6 #[.int .u64 (told : Int), .int .u64 (heard : Int), .slice A n cap] w fun e w' => e = .returned (.bool true) ∧ Below w.heap.size w w' := by
  have HA := Lib.hid h
  have HS := Lib.hid (shown14_any w)
  clear h
  go_enter Try.func6, Try.ntmps6
  go_wp2_with fail
  refine HS.out.mono ?_
  rintro e w1 ⟨rfl, hb1⟩
  have HB1 := Lib.hid hb1
  clear hb1 HS
  go_wp2_with fail
  refine (newSender_any (told : Int) _).mono ?_
  rintro e wa ⟨rfl, rfl⟩
  go_wp2_with fail
  refine (newReceiver_any (heard : Int) _).mono ?_
  rintro e wb ⟨rfl, rfl⟩
  have hbn := both_new w1 told heard ht hh _ rfl
  generalize hW : (w1.alloc (.cells #[.int .u64 (told : Int), .slice none 0 0] 97)).alloc (.cells #[.int .u64 (heard : Int)] 99) = w2 at hbn ⊢
  have e1 : (w1.alloc (.cells #[.int .u64 (told : Int), .slice none 0 0] 97)).heap.size = w1.heap.size + 1 := by simp
  rw [e1]
  obtain ⟨hs2, hr2, hb2, hz2⟩ := hbn
  go_wp2_with fail
  generalize h3 : (w2.alloc (.cells #[.int .u64 (told : Int), .bool false, .string { data := #[] }] 43)).alloc (.cells #[.int .u64 (heard : Int)] 46) = w3
  have hq := qo_start HB1.out hs2 hr2 hb2 hz2 hh h3.symm
  have HQ := Lib.hid hq
  clear hs2 hr2 hb2 hz2 h3 hW e1 hq HB1
  generalize w1.heap.size + 4 = t4 at *
  generalize w1.heap.size + 2 + 1 = q at *
  generalize w1.heap.size + 2 = v at *
  generalize w1.heap.size + 1 = r at *
  generalize w1.heap.size = s at *
  refine (few_any (HA.out.below HQ.out.1.below)).mono ?_
  rintro e wz ⟨m, hm, hfw, rfl, rfl⟩
  have HAM := Lib.hid (HA.out.cut hm)
  have HFW := Lib.hid hfw
  have hmx : m ≤ 9223372036854775807 := by have := HAM.out.le; have := HAM.out.max; unfold maxLen at this; omega
  clear HA hm hfw
  go_wp2_with fail
  go_loopw [12, 48] (fun bv iv wr => ∃ (k : Nat) (z : Qz), k ≤ m ∧ iv = .int .i64 (k : Int) ∧ bv = .slice z.kA z.bk.length z.kc ∧ Hid (Qo w wr ⟨s, r, v, q, t4⟩ z ∧ Qe z)) (fun _ iv _ => m - (intOf iv).toNat)
  case atStart => exact ⟨0, _, Nat.zero_le _, rfl, rfl, HQ⟩
  case round =>
    obtain ⟨k, z, hk, rfl, rfl, HZ⟩ := hrel
    clear HQ
    by_cases hlt : k < m
    · obtain ⟨g, off, rfl, hg, hc⟩ := HAM.out.cell (by omega)
      obtain ⟨p0, A1, n1, c1, p1, hy⟩ := hc k hlt
      have q0 := (HZ.out.1.below.cell (p := ⟨g, off + k * 2, none⟩) hg).trans p0
      have q1 := (HZ.out.1.below.cell (p := ⟨g, off + k * 2 + 1, none⟩) hg).trans p1
      have hfit := HAM.out.fits k hlt
      have hfew : n1 ≤ 300 := by rw [← hy.len]; exact HFW.out k hlt
      have HYW := Lib.hid hy
      have hn1 := hy.le
      have hc1 := hy.max
      unfold maxLen at hc1
      clear hc hy p0 p1
      generalize f k = fk at *
      obtain ⟨kd, d⟩ := fk
      simp only at q0 q1 hfit HYW
      have HBX := Lib.hid (heap_alloc_new wr (.cells #[.int .u8 (kd : Int), .slice A1 n1 c1] 49))
      have HX := Lib.hid (⟨HZ.out.1.later ((Below.refl _ _).alloc (Nat.le_refl _) _), HZ.out.2⟩ : Qo w (wr.alloc (.cells #[.int .u8 (kd : Int), .slice A1 n1 c1] 49)) ⟨s, r, v, q, t4⟩ z ∧ Qe z)
      have HTR := Lib.hid HZ.out.1.top
      have HP := Lib.hid (packet_any HX.out.1.sat)
      go_wp2_with fail
      generalize wr.alloc (.cells #[.int .u8 (kd : Int), .slice A1 n1 c1] 49) = wx at *
      generalize wr.heap.size = bx at *
      clear HZ q0 q1
      refine HP.out.mono ?_
      rintro e w4 ⟨A4, c4, rfl, ho4, hb4⟩
      have HO4 := Lib.hid (⟨HX.out.1.later hb4, HX.out.2⟩ : Qo w w4 ⟨s, r, v, q, t4⟩ z ∧ Qe z)
      have HB4 : Hid (w4.heap[bx]? = _) := Lib.hid ((hb4.block _ (lt_of_heap HBX.out)).trans HBX.out)
      have HY4 := Lib.hid (By.own ho4 HX.out.1.sat.byte)
      have HF4 : Hid (∀ a, A4 = some a → t4 ≤ a.block) := Lib.hid (fun a ha => by
        subst ha
        rcases ho4.2 with ⟨e, _⟩ | ⟨g, c, cur, e, hg, _⟩
        · injection e with e; cases e
        · injection e with e
          injection e with e
          subst e
          have := HX.out.1.top
          show t4 ≤ g
          simp only at this
          omega)
      have hqp := rpacket_any HO4.out.1.vat (fun e => by rw [HO4.out.2.told, HO4.out.2.pk]; exact HO4.out.2.link (by rw [← HO4.out.2.pk]; exact e))
      rw [HO4.out.2.pk] at hqp
      have HPR := Lib.hid hqp
      clear ho4 hb4 HP hqp HX HBX
      go_wp2_with fail
      refine HPR.out.mono ?_
      rintro e w5 ⟨A5, c5, rfl, hy5, hb5⟩
      have HO5 := Lib.hid (⟨HO4.out.1.later hb5, HO4.out.2⟩ : Qo w w5 ⟨s, r, v, q, t4⟩ z ∧ Qe z)
      have HB5 : Hid (w5.heap[bx]? = _) := Lib.hid ((hb5.block _ (lt_of_heap HB4.out)).trans HB4.out)
      have HY5 := Lib.hid (by_later HY4.out hb5)
      have kc1 := HY5.out.conv
      have kc2 := hy5.conv
      obtain ⟨u0, u1⟩ := act_cells HB5.out
      obtain ⟨m5, hm5, hm5b, hm9⟩ : ∃ m5 : Nat, (kd : Int).tmod 5 = (m5 : Int) ∧ (kd : Int) % 5 = (m5 : Int) ∧ m5 < 5 := ⟨kd % 5, by rw [Int.tmod_eq_emod_of_nonneg (by omega)]; omega, by omega, Nat.mod_lt _ (by omega)⟩
      clear hb5 hy5 HPR HO4 HB4 HY4
      go_upto_block 2 with fail
      go_cut [12] (fun bv wz => ∃ z' : Qz, bv = .slice z'.kA z'.bk.length z'.kc ∧ Hid (Qo w wz ⟨s, r, v, q, t4⟩ z' ∧ Qe z'))
      case first =>
        obtain rfl | rfl | rfl | rfl | rfl : m5 = 0 ∨ m5 = 1 ∨ m5 = 2 ∨ m5 = 3 ∨ m5 = 4 := by omega
        · have HE5 := Lib.hid HO5.out.2
          have HEm : Hid ((w5.alloc (.cells #[] 5)).ownsRow w5.heap.size 5 1 (.slice (some ⟨w5.heap.size, 0, none⟩) 0 0) 0 (bc [])) := Lib.hid (World.ownsRow_made w5 #[] 0 (Nat.le_refl _) (Nat.zero_le _) rfl)
          have hz5 : w5.heap.size ≤ (w5.alloc (.cells #[] 5)).heap.size := by simp
          have HO6 := Lib.hid (HO5.out.1.later ((Below.refl _ _).alloc (Nat.le_refl _) (.cells #[] 5)))
          have HY6 := Lib.hid (HYW.out.below HO6.out.below)
          obtain ⟨-, u61⟩ := act_cells (show (w5.alloc (.cells #[] 5)).heap[bx]? = _ from (((Below.refl _ w5).alloc (Nat.le_refl _) _).block _ (lt_of_heap HB5.out)).trans HB5.out)
          go_wp2_with (at_builtin; refine app_by rfl _ _ rfl w5.heap.size _ 0 [] rfl HEm.out w.heap.size _ _ _ _ rfl HY6.out (by omega) hz5 ?_)
          intro v7 w7 ho7 hb7
          obtain ⟨A7, c7, hv7⟩ := ownsRow_shape ho7
          subst hv7
          have hb57 : Below w5.heap.size w5 w7 := ((Below.refl _ w5).alloc (Nat.le_refl _) _).trans hb7
          have HO7 := Lib.hid (HO5.out.1.later hb57)
          have HW7 := Lib.hid (show w7.ownsRow w5.heap.size 5 1 (.slice A7 n1 c7) n1 (bc d) from ho7)
          have HBX7 : Hid (w7.heap[bx]? = _) := Lib.hid ((hb57.block _ (lt_of_heap HB5.out)).trans HB5.out)
          obtain ⟨u70, u71⟩ := act_cells HBX7.out
          have kd7 := (HYW.out.below HO7.out.below.drew).conv
          have HZ7 := Lib.hid hb57.size
          have HT5 : Hid (t4 ≤ w5.heap.size) := Lib.hid (HO5.out.1.top)
          have HHI : Hid (s < t4 ∧ r < t4 ∧ v < t4 ∧ q < t4) := Lib.hid (HO5.out.1.hi)
          have hlend : d.length = n1 := HYW.out.len
          have HBS : Hid (¬ One s bx) := Lib.hid (fun e => by have e2 : bx = s := e; have := HTR.out; have := HHI.out.1; omega)
          have HBV : Hid (¬ One v bx) := Lib.hid (fun e => by have e2 : bx = v := e; have := HTR.out; have := HHI.out.2.2.1; omega)
          have HGS : Hid (∀ g, (Value.slice A7 n1 c7).ownBlock = some g → ¬ One s g) := Lib.hid (fun g hg e => by have e2 : g = s := e; have h1 := (HW7.out.lt g hg).1; have := HT5.out; have := HHI.out.1; omega)
          have HGV : Hid (∀ g, (Value.slice A7 n1 c7).ownBlock = some g → ¬ One v g) := Lib.hid (fun g hg e => by have e2 : g = v := e; have h1 := (HW7.out.lt g hg).1; have := HT5.out; have := HHI.out.2.2.1; omega)
          have HT := Lib.hid (tell_any (w := w7.drew) (HO7.out.sat.later (Below.refl _ _).drew) (show By w7.drew.heap.size w7.drew A7 n1 c7 d from (by have h := By.own HW7.out HYW.out.byte; exact h.drew)) (Nat.le_refl _))
          have HTL2 := Lib.hid (show z.told2 < 18446744073709551616 from by rw [HE5.out.told]; exact HO5.out.1.sat.num)
          have HDL := Lib.hid (show d.length ≤ 9223372036854775807 from by omega)
          have HPL := Lib.hid (show z.told2 + 2 < 18446744073709551616 → d.length ≤ 200 → play false (z.told2 + 1) d ≠ [] from fun h1 h2 => play_ne (ok_told h1 h2 HYW.out.byte))
          obtain ⟨te, hte⟩ : ∃ te, te = tlE z.told z.pk d.length := ⟨_, rfl⟩
          have HTE := Lib.hid hte.symm
          have HTQ := Lib.hid (HE5.out.tell HO5.out.1.sat.num HYW.out.byte)
          rw [← hte] at HT
          clear ho7 hb7 hb57 HO6 HY6 HEm hz5 hte hlend kc1 kc2
          go_wp2_with fail
          refine wp_region_held_drew (S := fun w' => w'.cell? ⟨bx, 1, none⟩ = some (.slice A1 n1 c1) ∧ (convert 23 9 (.slice A1 n1 c1)).run Try.prog w' = .ok (.string (strOf d)) w') (by kernel_rfl) (by simp; exact ⟨u71, kd7⟩) (fun hS0 => ?_)
          (refine wpAnyH_take (i := 0) (oi := ⟨some 120, _, _, _, _, _⟩) (v := .pointer (some ⟨s, 0, none⟩)) rfl (by kernel_rfl) (by kernel_rfl) (by kernel_rfl) (fun _ _ _ h => h) (Or.inl ⟨by rfl, ?_⟩) (by assumption) ?_; (intro w hSw; (try dsimp only at hSw); go_simp); (try simp only [Act.put, List.setIfInBounds_toArray, List.set_cons_zero, List.set_cons_succ]))
          (refine wpAnyH_take (i := 1) (oi := ⟨some 121, _, _, _, _, _⟩) (v := .slice A7 n1 c7) rfl (by kernel_rfl) (by kernel_rfl) (by kernel_rfl) (fun _ _ _ h => h) (Or.inl ⟨by rfl, ?_⟩) (by assumption) ?_; (intro w hSw; (try dsimp only at hSw); go_simp); (try simp only [Act.put, List.setIfInBounds_toArray, List.set_cons_zero, List.set_cons_succ]))
          (refine wpAnyH_take (i := 3) (oi := ⟨some 123, _, _, _, _, _⟩) (v := .pointer (some ⟨v, 0, none⟩)) rfl (by kernel_rfl) (by kernel_rfl) (by kernel_rfl) (fun _ _ _ h => h) (Or.inl ⟨by rfl, ?_⟩) (by assumption) ?_; (intro w hSw; (try dsimp only at hSw); go_simp); (try simp only [Act.put, List.setIfInBounds_toArray, List.set_cons_zero, List.set_cons_succ]))
          (refine wpAnyH_take (i := 4) (oi := ⟨some 124, _, _, _, _, _⟩) (v := .pointer (some ⟨bx, 1, none⟩)) rfl (by kernel_rfl) (by kernel_rfl) (by kernel_rfl) (fun _ _ _ h => h) (Or.inl ⟨by rfl, ?_⟩) (by assumption) ?_; (intro w hSw; (try dsimp only at hSw); go_simp); (try simp only [Act.put, List.setIfInBounds_toArray, List.set_cons_zero, List.set_cons_succ]))
          (refine wpAnyH_take (i := 5) (oi := ⟨some 125, _, _, _, _, _⟩) (v := .slice A1 n1 c1) rfl (by kernel_rfl) (by kernel_rfl) (by kernel_rfl) (fun _ _ _ h => h) (Or.inl ⟨by rfl, ?_⟩) (by assumption) ?_; (intro w hSw; (try dsimp only at hSw); go_simp); (try simp only [Act.put, List.setIfInBounds_toArray, List.set_cons_zero, List.set_cons_succ]))
          (refine wpAnyH_take (i := 6) (oi := ⟨some 126, _, _, _, _, _⟩) (v := (.string (strOf d))) rfl (by kernel_rfl) (by kernel_rfl) (by kernel_rfl) (fun _ _ _ h => h) (Or.inl ⟨by rfl, ?_⟩) (by assumption) ?_; (intro w hSw; (try dsimp only at hSw); go_simp); (try simp only [Act.put, List.setIfInBounds_toArray, List.set_cons_zero, List.set_cons_succ]))
          refine wpAnyH_ready (rs := [2]) (by kernel_rfl) (by simp) ?_
          refine AllReadyH.cons (o := ⟨some 122, _, _, _, _, _⟩) rfl (fun K hK => ?_) AllReadyH.nil
          go_simp
          refine (HT.out).mono ?_
          rintro e w8 ⟨v8, rfl, hs8, ht8, hf8⟩
          have HO8 := Lib.hid ((HO7.out.later (Below.refl _ _).drew).sender hs8 ht8)
          have HBX8 : Hid (w8.heap[bx]? = _) := Lib.hid ((ht8.block _ (lt_of_heap HBX7.out) HBS.out).trans HBX7.out)
          have HS8 := Lib.hid ht8.size
          have HF8 := Lib.hid hf8
          have HW8 := Lib.hid (show w8.ownsRow w5.heap.size 5 1 _ _ _ from ownsRow_same HW7.out (fun k hk => ht8.block k (HW7.out.lt k hk).2 (HGS.out k hk)))
          have kd8 := (HYW.out.below HO8.out.below).conv
          obtain ⟨u80, u81⟩ := act_cells HBX8.out
          have HRT := Lib.hid (rtell_any (x := d) HO8.out.vat HTL2.out HDL.out HPL.out)
          clear hs8 ht8 hf8 HT
          refine hK.out _ _ ⟨u81, kd8⟩ (fun hS122 => ?_)
          clear hK
          (try simp only [Act.put, List.setIfInBounds_toArray, List.set_cons_zero, List.set_cons_succ])
          refine wpAnyH_ready (rs := [7]) (by kernel_rfl) (by simp) ?_
          refine AllReadyH.cons (o := ⟨some 127, _, _, _, _, _⟩) rfl (fun K hK => ?_) AllReadyH.nil
          go_simp
          refine HRT.out.mono ?_
          rintro e w9 ⟨he9, ht9, hv9⟩
          rw [HE5.out.told, HE5.out.pk, HTE.out] at he9
          subst he9
          have HO9 := Lib.hid (HO8.out.vsender hv9 ht9)
          have HBX9 : Hid (w9.heap[bx]? = _) := Lib.hid ((ht9.block _ (lt_of_heap HBX8.out) HBV.out).trans HBX8.out)
          have HW9 := Lib.hid (show w9.ownsRow w5.heap.size 5 1 _ _ _ from ownsRow_same HW8.out (fun k hk => ht9.block k (HW8.out.lt k hk).2 (HGV.out k hk)))
          have kd9 := (HYW.out.below HO9.out.below).conv
          obtain ⟨u90, u91⟩ := act_cells HBX9.out
          clear ht9 hv9 HRT
          refine hK.out _ _ ⟨u91, kd9⟩ (fun hS127 => ?_)
          clear hK
          (try simp only [Act.put, List.setIfInBounds_toArray, List.set_cons_zero, List.set_cons_succ])
          (refine wpAnyH_take (i := 8) (oi := ⟨some 128, _, _, _, _, _⟩) (v := .bool false) rfl (by kernel_rfl) (by kernel_rfl) (by kernel_rfl) (fun _ _ _ h => h) (Or.inl ⟨by rfl, ?_⟩) (by assumption) ?_; (intro w hSw; (try dsimp only at hSw); go_simp); (try simp only [Act.put, List.setIfInBounds_toArray, List.set_cons_zero, List.set_cons_succ]))
          refine wpAnyH_done (by kernel_rfl) ?_ _
          obtain ⟨z2, hz2, HQ9⟩ := plays_pick (Lib.hid ⟨HO9.out, HTQ.out v8 none 0 []⟩)
          have HKA := Lib.hid (show z2.kA = z.kA ∧ z2.kc = z.kc ∧ z2.bk = z.bk ∧ z2.vv = v8 from by rw [hz2]; exact ⟨rfl, rfl, rfl, rfl⟩)
          have HW0 : Hid (w9.ownsRow w5.heap.size 5 1 (.slice A7 n1 c7) n1 (uc (d.map fun n : Nat => (n : Int)))) := Lib.hid (by have h := HW9.out; rw [uc_bc] at h; exact h)
          have HG7 : Hid (∀ g7, A7 = some ⟨g7, 0, none⟩ → w5.heap.size ≤ g7 ∧ ¬ SF s v8 g7) := Lib.hid (fun g7 hg7 => by
            have h1 := HW7.out.lt g7 (by rw [hg7]; rfl)
            refine ⟨h1.1, ?_⟩
            rintro (rfl | hk)
            · have := HT5.out; have := HHI.out.1; have h2 := h1.1; omega
            · rcases HF8.out _ hk with hk2 | hk2
              · have := HO5.out.1.sat.lt g7 (.inr hk2); omega
              · have h3 : w7.heap.size ≤ g7 := hk2; omega)
          clear hz2 HO9 HTQ HW9 HW8 HW7 HBX9 HBX8 HBX7 HO8 HO7 kd9 kd8 kd7 u91 u90 u81 u80 u71 u70 HGS HGV HBS HBV
          go_wp2_with fail
          go_loopw [131] (fun iv wr => ∃ (j : Nat) (cs : List Int), j ≤ n1 ∧ iv = .int .i64 (j : Int) ∧ Hid (Qo w wr ⟨s, r, v, q, t4⟩ z2 ∧ Qe z2) ∧ Hid (wr.ownsRow w5.heap.size 5 1 (.slice A7 n1 c7) n1 (uc cs))) (fun iv _ => n1 - (intOf iv).toNat)
          case atStart => exact ⟨0, _, Nat.zero_le _, by go_num, by first | exact HQ9 | exact Lib.hid ⟨HQ9.out.1.later (Below.refl _ _).drew, HQ9.out.2⟩, by first | exact HW0 | exact Lib.hid HW0.out.drew⟩
          case round =>
            obtain ⟨j, cs, hj, rfl, HQj, HWj⟩ := hrel
            clear HQ9 HW0
            by_cases hjl : j < n1
            · obtain ⟨g7, cc, hsh⟩ := shape_of HWj.out (by omega)
              injection hsh with hA7 _ _
              subst hA7
              have cd : wr.cell? ⟨g7, j, none⟩ = some (.int .u8 (cs.getD j 0)) := by
                rw [HWj.out.cellAt _ (by omega)]
                have := HWj.out.1
                rw [uc_len] at this
                simp [uc, List.getD, List.getElem?_eq_getElem (show j < cs.length by omega)]
              have fd : wr.frozen? ⟨g7, j, none⟩ = false := HWj.out.frozenAt _
              generalize cs.getD j 0 = xj at *
              go_wp2_with fail
              go_roundw
              case rel =>
                refine ⟨j + 1, cs.set j (bits BinOp.xor IntKind.u8 xj 85), by omega, by go_num, Lib.hid ⟨HQj.out.1.other (g := g7) ((Turn.refl _ _).put _ (show One g7 g7 from rfl)) (by rw [HKA.out.2.2.2]; exact (HG7.out g7 rfl).2) (by have := HT5.out; have := (HG7.out g7 rfl).1; show t4 ≤ g7; omega) ?_, HQj.out.2⟩, Lib.hid (by have h1 := (HWj.out.stored j (.int .u8 (bits BinOp.xor IntKind.u8 xj 85))).1; rw [uc_set] at h1; exact h1)⟩
                intro hbk x hx e
                rw [HKA.out.1] at hx
                rw [HKA.out.2.2.1] at hbk
                obtain ⟨gb, ob, e2, hgb, -⟩ := HO5.out.1.back.cell hbk
                rw [hx] at e2
                injection e2 with e2
                subst e2
                have := (HG7.out g7 rfl).1
                have e3 : gb = g7 := e
                omega
              case measure => simp [intOf]; omega
            · obtain rfl : j = n1 := by omega
              go_wp2_with fail
              go_meet
              exact plays_end HQj (by rw [HKA.out.1, HKA.out.2.1, HKA.out.2.2.1])
        · have HE5 := Lib.hid HO5.out.2
          have HHI : Hid (s < t4 ∧ r < t4 ∧ v < t4 ∧ q < t4) := Lib.hid (HO5.out.1.hi)
          have HT5 : Hid (t4 ≤ w5.heap.size) := Lib.hid (HO5.out.1.top)
          have HZR := Lib.hid (rhear_any HO5.out.1.rat HY5.out (Nat.le_refl _))
          clear kc1 kc2
          go_wp2_with fail
          refine HZR.out.mono ?_
          rintro e w6 hrh
          obtain ⟨bd, fr, bb, nh, A6, c6, B6, e6, rfl, ht6, hx6, hy6, hr6, hR⟩ := rh_form hrh
          have HO6 := Lib.hid (HO5.out.1.receiver hr6 ht6)
          have hb6 := by_turn HY5.out ht6 (fun a ha e => by have e2 : a.block = r := e; have := HF4.out a ha; have := HHI.out.2.1; (try simp only at *); omega)
          have HZQ := Lib.hid (rrhear_any HO6.out.wat hb6 (Nat.le_refl _))
          have HX6 := Lib.hid hx6
          have HY6 := Lib.hid hy6
          have HRR := Lib.hid hR
          have HZ6 := Lib.hid ht6.size
          clear hrh ht6 hx6 hy6 hr6 hR hb6 HZR
          go_wp2_with fail
          refine HZQ.out.mono ?_
          rintro e w7 hrr
          obtain ⟨bd', fr', bb', nh', A7, c7, B7, e7, rfl, ht7, hx7, hy7, hr7, hR'⟩ := rr_form hrr
          have hR2 : Rh z.heard z.pk bd' fr' bb' nh' := by rw [← HE5.out.heard]; exact hR'
          obtain ⟨rfl, rfl, rfl, rfl⟩ := hR2.uniq HRR.out
          have HO7 := Lib.hid (HO6.out.wreceiver hr7 ht7)
          have kx := (by_turn HX6.out.1 ht7 (fun a ha e => by have e2 : a.block = q := e; have := HX6.out.2 a ha; have := HHI.out.2.2.2; have := HT5.out; (try simp only at *); omega)).conv
          have ky := (by_turn HY6.out.1 ht7 (fun a ha e => by have e2 : a.block = q := e; have := HY6.out.2 a ha; have := HHI.out.2.2.2; have := HT5.out; (try simp only at *); omega)).conv
          have kz := hx7.conv
          have ku := hy7.1.conv
          have HY7 := Lib.hid hy7
          have HQ7 : Hid (Qe { z with heard := nh', heard2 := nh', kA := B7, kc := e7, bk := bb' }) := Lib.hid ⟨HE5.out.told, HE5.out.pk, rfl, HE5.out.link⟩
          clear hrr ht7 hx7 hy7 hr7 hR' hR2 HX6 HY6 HRR HZQ HO6
          go_wp2_with fail
          go_meet
          exact plays_end (Lib.hid ⟨HO7.out.came HY7.out.1 (fun x hx => by have := HY7.out.2 x hx; have := HT5.out; have := HZ6.out; (try simp only at *); omega), HQ7.out⟩) rfl
        · have HE5 := Lib.hid HO5.out.2
          have HT := Lib.hid (shear_any HO5.out.1.sat HO5.out.1.back (Nat.le_refl _))
          have HTL2 := Lib.hid (show z.pk2 ≠ [] → z.told2 + 2 < 18446744073709551616 from fun h => by rw [HE5.out.told]; exact HO5.out.1.sat.good (by rw [← HE5.out.pk]; exact h))
          have HQ2 := Lib.hid (HE5.out.hear z.bk)
          obtain ⟨hx, hhx⟩ : ∃ hx, hx = heB z.told z.pk z.bk := ⟨_, rfl⟩
          have HTE := Lib.hid hhx.symm
          rw [← hhx] at HT HQ2
          clear hhx kc1 kc2
          go_wp2_with fail
          refine HT.out.mono ?_
          rintro e w8 ⟨v8, rfl, hs8, ht8, hf8⟩
          have HO8 := Lib.hid (HO5.out.1.sender hs8 ht8)
          have HRT := Lib.hid (rshear_any HO8.out.vat HTL2.out HO8.out.back (Nat.le_refl _))
          clear hs8 ht8 hf8 HT
          go_wp2_with fail
          refine HRT.out.mono ?_
          rintro e w9 ⟨he9, ht9, hv9⟩
          rw [HE5.out.told, HE5.out.pk, HTE.out] at he9
          subst he9
          have HO9 := Lib.hid (HO8.out.vsender hv9 ht9)
          clear ht9 hv9 HRT
          go_wp2_with fail
          go_meet
          exact plays_end (Lib.hid ⟨HO9.out, HQ2.out _⟩) rfl
        · have HE5 := Lib.hid HO5.out.2
          have HHI : Hid (s < t4 ∧ r < t4 ∧ v < t4 ∧ q < t4) := Lib.hid (HO5.out.1.hi)
          have HT5 : Hid (t4 ≤ w5.heap.size) := Lib.hid (HO5.out.1.top)
          have HZR := Lib.hid (rhear_any HO5.out.1.rat ((HYW.out.below HO5.out.1.below).mono HO5.out.1.below.size) (Nat.le_refl _))
          clear kc1 kc2
          go_wp2_with fail
          refine HZR.out.mono ?_
          rintro e w6 hrh
          obtain ⟨bd, fr, bb, nh, A6, c6, B6, e6, rfl, ht6, hx6, hy6, hr6, hR⟩ := rh_form hrh
          have HO6 := Lib.hid (HO5.out.1.receiver hr6 ht6)
          have hb6 := ((HYW.out.below HO6.out.below).mono HO6.out.below.size)
          have HZQ := Lib.hid (rrhear_any HO6.out.wat hb6 (Nat.le_refl _))
          have HX6 := Lib.hid hx6
          have HY6 := Lib.hid hy6
          have HRR := Lib.hid hR
          have HZ6 := Lib.hid ht6.size
          clear hrh ht6 hx6 hy6 hr6 hR hb6 HZR
          go_wp2_with fail
          refine HZQ.out.mono ?_
          rintro e w7 hrr
          obtain ⟨bd', fr', bb', nh', A7, c7, B7, e7, rfl, ht7, hx7, hy7, hr7, hR'⟩ := rr_form hrr
          have hR2 : Rh z.heard d bd' fr' bb' nh' := by rw [← HE5.out.heard]; exact hR'
          obtain ⟨rfl, rfl, rfl, rfl⟩ := hR2.uniq HRR.out
          have HO7 := Lib.hid (HO6.out.wreceiver hr7 ht7)
          have kx := (by_turn HX6.out.1 ht7 (fun a ha e => by have e2 : a.block = q := e; have := HX6.out.2 a ha; have := HHI.out.2.2.2; have := HT5.out; (try simp only at *); omega)).conv
          have ky := (by_turn HY6.out.1 ht7 (fun a ha e => by have e2 : a.block = q := e; have := HY6.out.2 a ha; have := HHI.out.2.2.2; have := HT5.out; (try simp only at *); omega)).conv
          have kz := hx7.conv
          have ku := hy7.1.conv
          have HY7 := Lib.hid hy7
          have HQ7 : Hid (Qe { z with heard := nh', heard2 := nh', kA := B7, kc := e7, bk := bb' }) := Lib.hid ⟨HE5.out.told, HE5.out.pk, rfl, HE5.out.link⟩
          clear hrr ht7 hx7 hy7 hr7 hR' hR2 HX6 HY6 HRR HZQ HO6
          go_wp2_with fail
          go_meet
          exact plays_end (Lib.hid ⟨HO7.out.came HY7.out.1 (fun x hx => by have := HY7.out.2 x hx; have := HT5.out; have := HZ6.out; (try simp only at *); omega), HQ7.out⟩) rfl
        · have HE5 := Lib.hid HO5.out.2
          have HHI : Hid (s < t4 ∧ r < t4 ∧ v < t4 ∧ q < t4) := Lib.hid (HO5.out.1.hi)
          have HBS : Hid (¬ One s bx) := Lib.hid (fun e => by have e2 : bx = s := e; have := HTR.out; have := HHI.out.1; omega)
          have HBV : Hid (¬ One v bx) := Lib.hid (fun e => by have e2 : bx = v := e; have := HTR.out; have := HHI.out.2.2.1; omega)
          have HT := Lib.hid (shear_any (w := w5.drew) (HO5.out.1.sat.later (Below.refl _ _).drew) ((HYW.out.below HO5.out.1.below).drew) HO5.out.1.below.size)
          have HTL2 := Lib.hid (show z.pk2 ≠ [] → z.told2 + 2 < 18446744073709551616 from fun h => by rw [HE5.out.told]; exact HO5.out.1.sat.good (by rw [← HE5.out.pk]; exact h))
          have HQ2 := Lib.hid (HE5.out.hear d)
          obtain ⟨hx, hhx⟩ : ∃ hx, hx = heB z.told z.pk d := ⟨_, rfl⟩
          have HTE := Lib.hid hhx.symm
          rw [← hhx] at HT HQ2
          clear hhx kc1 kc2
          go_wp2_with fail
          refine wp_region_held_drew (S := fun w' => w'.cell? ⟨bx, 1, none⟩ = some (.slice A1 n1 c1)) (by kernel_rfl) (by simp; exact u1) (fun hS0 => ?_)
          (refine wpAnyH_take (i := 0) (oi := ⟨some 152, _, _, _, _, _⟩) (v := .pointer (some ⟨s, 0, none⟩)) rfl (by kernel_rfl) (by kernel_rfl) (by kernel_rfl) (fun _ _ _ h => h) (Or.inl ⟨by rfl, ?_⟩) (by assumption) ?_; (intro w hSw; (try dsimp only at hSw); go_simp); (try simp only [Act.put, List.setIfInBounds_toArray, List.set_cons_zero, List.set_cons_succ]))
          (refine wpAnyH_take (i := 1) (oi := ⟨some 153, _, _, _, _, _⟩) (v := .pointer (some ⟨bx, 1, none⟩)) rfl (by kernel_rfl) (by kernel_rfl) (by kernel_rfl) (fun _ _ _ h => h) (Or.inl ⟨by rfl, ?_⟩) (by assumption) ?_; (intro w hSw; (try dsimp only at hSw); go_simp); (try simp only [Act.put, List.setIfInBounds_toArray, List.set_cons_zero, List.set_cons_succ]))
          (refine wpAnyH_take (i := 2) (oi := ⟨some 154, _, _, _, _, _⟩) (v := .slice A1 n1 c1) rfl (by kernel_rfl) (by kernel_rfl) (by kernel_rfl) (fun _ _ _ h => h) (Or.inl ⟨by rfl, ?_⟩) (by assumption) ?_; (intro w hSw; (try dsimp only at hSw); go_simp); (try simp only [Act.put, List.setIfInBounds_toArray, List.set_cons_zero, List.set_cons_succ]))
          (refine wpAnyH_take (i := 4) (oi := ⟨some 156, _, _, _, _, _⟩) (v := .pointer (some ⟨v, 0, none⟩)) rfl (by kernel_rfl) (by kernel_rfl) (by kernel_rfl) (fun _ _ _ h => h) (Or.inl ⟨by rfl, ?_⟩) (by assumption) ?_; (intro w hSw; (try dsimp only at hSw); go_simp); (try simp only [Act.put, List.setIfInBounds_toArray, List.set_cons_zero, List.set_cons_succ]))
          (refine wpAnyH_take (i := 5) (oi := ⟨some 157, _, _, _, _, _⟩) (v := .pointer (some ⟨bx, 1, none⟩)) rfl (by kernel_rfl) (by kernel_rfl) (by kernel_rfl) (fun _ _ _ h => h) (Or.inl ⟨by rfl, ?_⟩) (by assumption) ?_; (intro w hSw; (try dsimp only at hSw); go_simp); (try simp only [Act.put, List.setIfInBounds_toArray, List.set_cons_zero, List.set_cons_succ]))
          (refine wpAnyH_take (i := 6) (oi := ⟨some 158, _, _, _, _, _⟩) (v := .slice A1 n1 c1) rfl (by kernel_rfl) (by kernel_rfl) (by kernel_rfl) (fun _ _ _ h => h) (Or.inl ⟨by rfl, ?_⟩) (by assumption) ?_; (intro w hSw; (try dsimp only at hSw); go_simp); (try simp only [Act.put, List.setIfInBounds_toArray, List.set_cons_zero, List.set_cons_succ]))
          refine wpAnyH_ready (rs := [3]) (by kernel_rfl) (by simp) ?_
          refine AllReadyH.cons (o := ⟨some 155, _, _, _, _, _⟩) rfl (fun K hK => ?_) AllReadyH.nil
          go_simp
          refine (HT.out).mono ?_
          rintro e w8 ⟨v8, rfl, hs8, ht8, hf8⟩
          have HO8 := Lib.hid ((HO5.out.1.later (Below.refl _ _).drew).sender hs8 ht8)
          have HBX8 : Hid (w8.heap[bx]? = _) := Lib.hid ((ht8.block _ (lt_of_heap HB5.out) HBS.out).trans HB5.out)
          have HS8 := Lib.hid ht8.size
          have hx8 := HYW.out.below HO8.out.below
          obtain ⟨u80, u81⟩ := act_cells HBX8.out
          have HRT := Lib.hid (rshear_any HO8.out.vat HTL2.out hx8 HO8.out.below.size)
          clear hs8 ht8 hf8 HT hx8
          refine hK.out _ _ u81 (fun hS155 => ?_)
          clear hK
          (try simp only [Act.put, List.setIfInBounds_toArray, List.set_cons_zero, List.set_cons_succ])
          refine wpAnyH_ready (rs := [7]) (by kernel_rfl) (by simp) ?_
          refine AllReadyH.cons (o := ⟨some 159, _, _, _, _, _⟩) rfl (fun K hK => ?_) AllReadyH.nil
          go_simp
          refine HRT.out.mono ?_
          rintro e w9 ⟨he9, ht9, hv9⟩
          rw [HE5.out.told, HE5.out.pk, HTE.out] at he9
          subst he9
          have HO9 := Lib.hid (HO8.out.vsender hv9 ht9)
          have HBX9 : Hid (w9.heap[bx]? = _) := Lib.hid ((ht9.block _ (lt_of_heap HBX8.out) HBV.out).trans HBX8.out)
          obtain ⟨u90, u91⟩ := act_cells HBX9.out
          clear ht9 hv9 HRT
          refine hK.out _ _ u91 (fun hS159 => ?_)
          clear hK
          (try simp only [Act.put, List.setIfInBounds_toArray, List.set_cons_zero, List.set_cons_succ])
          (refine wpAnyH_take (i := 8) (oi := ⟨some 160, _, _, _, _, _⟩) (v := .bool false) rfl (by kernel_rfl) (by kernel_rfl) (by kernel_rfl) (fun _ _ _ h => h) (Or.inl ⟨by rfl, ?_⟩) (by assumption) ?_; (intro w hSw; (try dsimp only at hSw); go_simp); (try simp only [Act.put, List.setIfInBounds_toArray, List.set_cons_zero, List.set_cons_succ]))
          refine wpAnyH_done (by kernel_rfl) ?_ _
          go_wp2_with fail
          go_meet
          exact plays_end (Lib.hid ⟨HO9.out, HQ2.out _⟩) rfl
      case rest =>
        obtain ⟨z', rfl, HC⟩ := hcut
        have HTD : Hid (∀ W, Below wc.heap.size wc W → Calls Try.prog 27 #[.pointer (some ⟨s, 0, none⟩)] W fun e w' => e = .returned (.int .u64 (z'.told : Int)) ∧ W = w') := Lib.hid (fun W hb => told_any (HC.out.1.sat.later hb))
        have HHD : Hid (∀ W, Below wc.heap.size wc W → Calls Try.prog 28 #[.pointer (some ⟨r, 0, none⟩)] W fun e w' => e = .returned (.int .u64 (z'.heard : Int)) ∧ W = w') := Lib.hid (fun W hb => heard_any (HC.out.1.rat.later hb))
        obtain ⟨x0, -, -, -, -, -⟩ := HC.out.1.vat.cells
        obtain ⟨x1, -⟩ := HC.out.1.wat.cells
        rw [HC.out.2.told] at x0
        rw [HC.out.2.heard] at x1
        go_wp2_with fail
        refine wp_region_held_drew (S := fun w' => w'.cell? ⟨v, 0, none⟩ = some (.int .u64 (z'.told : Int)) ∧ w'.cell? ⟨q, 0, none⟩ = some (.int .u64 (z'.heard : Int))) (by kernel_rfl) (by simp; exact ⟨x0, x1⟩) (fun hS0 => ?_)
        (refine wpAnyH_take (i := 0) (oi := ⟨some 161, _, _, _, _, _⟩) (v := .pointer (some ⟨s, 0, none⟩)) rfl (by kernel_rfl) (by kernel_rfl) (by kernel_rfl) (fun _ _ _ h => h) (Or.inl ⟨by rfl, ?_⟩) (by assumption) ?_; (intro w hSw; (try dsimp only at hSw); go_simp); (try simp only [Act.put, List.setIfInBounds_toArray, List.set_cons_zero, List.set_cons_succ]))
        (refine wpAnyH_take (i := 2) (oi := ⟨some 163, _, _, _, _, _⟩) (v := .pointer (some ⟨v, 0, none⟩)) rfl (by kernel_rfl) (by kernel_rfl) (by kernel_rfl) (fun _ _ _ h => h) (Or.inl ⟨by rfl, ?_⟩) (by assumption) ?_; (intro w hSw; (try dsimp only at hSw); go_simp); (try simp only [Act.put, List.setIfInBounds_toArray, List.set_cons_zero, List.set_cons_succ]))
        (refine wpAnyH_take (i := 3) (oi := ⟨some 164, _, _, _, _, _⟩) (v := .pointer (some ⟨v, 0, none⟩)) rfl (by kernel_rfl) (by kernel_rfl) (by kernel_rfl) (fun _ _ _ h => h) (Or.inl ⟨by rfl, ?_⟩) (by assumption) ?_; (intro w hSw; (try dsimp only at hSw); go_simp); (try simp only [Act.put, List.setIfInBounds_toArray, List.set_cons_zero, List.set_cons_succ]))
        (refine wpAnyH_take (i := 4) (oi := ⟨some 165, _, _, _, _, _⟩) (v := .pointer (some ⟨v, 0, none⟩)) rfl (by kernel_rfl) (by kernel_rfl) (by kernel_rfl) (fun _ _ _ h => h) (Or.inl ⟨by rfl, ?_⟩) (by assumption) ?_; (intro w hSw; (try dsimp only at hSw); go_simp); (try simp only [Act.put, List.setIfInBounds_toArray, List.set_cons_zero, List.set_cons_succ]))
        (refine wpAnyH_take (i := 5) (oi := ⟨some 166, _, _, _, _, _⟩) (v := .int .u64 (z'.told : Int)) rfl (by kernel_rfl) (by kernel_rfl) (by kernel_rfl) (fun _ _ _ h => h) (Or.inl ⟨by rfl, ?_⟩) (by assumption) ?_; (intro w hSw; (try dsimp only at hSw); go_simp); (try simp only [Act.put, List.setIfInBounds_toArray, List.set_cons_zero, List.set_cons_succ]))
        refine wpAnyH_ready (rs := [1]) (by kernel_rfl) (by simp) ?_
        refine AllReadyH.cons (o := ⟨some 162, _, _, _, _, _⟩) rfl (fun K hK => ?_) AllReadyH.nil
        go_simp
        refine (HTD.out _ (Below.refl _ _).drew).mono ?_
        rintro e wq ⟨rfl, rfl⟩
        refine hK.out _ _ ⟨x0, x1⟩ (fun hS162 => ?_)
        clear hK
        (try simp only [Act.put, List.setIfInBounds_toArray, List.set_cons_zero, List.set_cons_succ])
        (refine wpAnyH_take (i := 6) (oi := ⟨some 167, _, _, _, _, _⟩) (v := .bool false) rfl (by kernel_rfl) (by kernel_rfl) (by kernel_rfl) (fun _ _ _ h => h) (Or.inl ⟨by rfl, ?_⟩) (by assumption) ?_; (intro w hSw; (try dsimp only at hSw); go_simp); (try simp only [Act.put, List.setIfInBounds_toArray, List.set_cons_zero, List.set_cons_succ]))
        (refine wpAnyH_take (i := 7) (oi := ⟨some 168, _, _, _, _, _⟩) (v := .bool false) rfl (by kernel_rfl) (by kernel_rfl) (by kernel_rfl) (fun _ _ _ h => h) (Or.inl ⟨by rfl, ?_⟩) (by assumption) ?_; (intro w hSw; (try dsimp only at hSw); go_simp); (try simp only [Act.put, List.setIfInBounds_toArray, List.set_cons_zero, List.set_cons_succ]))
        (refine wpAnyH_take (i := 8) (oi := ⟨some 169, _, _, _, _, _⟩) (v := .pointer (some ⟨r, 0, none⟩)) rfl (by kernel_rfl) (by kernel_rfl) (by kernel_rfl) (fun _ _ _ h => h) (Or.inl ⟨by rfl, ?_⟩) (by assumption) ?_; (intro w hSw; (try dsimp only at hSw); go_simp); (try simp only [Act.put, List.setIfInBounds_toArray, List.set_cons_zero, List.set_cons_succ]))
        (refine wpAnyH_take (i := 10) (oi := ⟨some 171, _, _, _, _, _⟩) (v := .pointer (some ⟨q, 0, none⟩)) rfl (by kernel_rfl) (by kernel_rfl) (by kernel_rfl) (fun _ _ _ h => h) (Or.inl ⟨by rfl, ?_⟩) (by assumption) ?_; (intro w hSw; (try dsimp only at hSw); go_simp); (try simp only [Act.put, List.setIfInBounds_toArray, List.set_cons_zero, List.set_cons_succ]))
        (refine wpAnyH_take (i := 11) (oi := ⟨some 172, _, _, _, _, _⟩) (v := .pointer (some ⟨q, 0, none⟩)) rfl (by kernel_rfl) (by kernel_rfl) (by kernel_rfl) (fun _ _ _ h => h) (Or.inl ⟨by rfl, ?_⟩) (by assumption) ?_; (intro w hSw; (try dsimp only at hSw); go_simp); (try simp only [Act.put, List.setIfInBounds_toArray, List.set_cons_zero, List.set_cons_succ]))
        (refine wpAnyH_take (i := 12) (oi := ⟨some 173, _, _, _, _, _⟩) (v := .pointer (some ⟨q, 0, none⟩)) rfl (by kernel_rfl) (by kernel_rfl) (by kernel_rfl) (fun _ _ _ h => h) (Or.inl ⟨by rfl, ?_⟩) (by assumption) ?_; (intro w hSw; (try dsimp only at hSw); go_simp); (try simp only [Act.put, List.setIfInBounds_toArray, List.set_cons_zero, List.set_cons_succ]))
        (refine wpAnyH_take (i := 13) (oi := ⟨some 174, _, _, _, _, _⟩) (v := .int .u64 (z'.heard : Int)) rfl (by kernel_rfl) (by kernel_rfl) (by kernel_rfl) (fun _ _ _ h => h) (Or.inl ⟨by rfl, ?_⟩) (by assumption) ?_; (intro w hSw; (try dsimp only at hSw); go_simp); (try simp only [Act.put, List.setIfInBounds_toArray, List.set_cons_zero, List.set_cons_succ]))
        refine wpAnyH_ready (rs := [9]) (by kernel_rfl) (by simp) ?_
        refine AllReadyH.cons (o := ⟨some 170, _, _, _, _, _⟩) rfl (fun K hK => ?_) AllReadyH.nil
        go_simp
        refine (HHD.out _ (Below.refl _ _).drew).mono ?_
        rintro e wq ⟨rfl, rfl⟩
        refine hK.out _ _ ⟨x0, x1⟩ (fun hS170 => ?_)
        clear hK
        (try simp only [Act.put, List.setIfInBounds_toArray, List.set_cons_zero, List.set_cons_succ])
        (refine wpAnyH_take (i := 14) (oi := ⟨some 175, _, _, _, _, _⟩) (v := .bool false) rfl (by kernel_rfl) (by kernel_rfl) (by kernel_rfl) (fun _ _ _ h => h) (Or.inl ⟨by rfl, ?_⟩) (by assumption) ?_; (intro w hSw; (try dsimp only at hSw); go_simp); (try simp only [Act.put, List.setIfInBounds_toArray, List.set_cons_zero, List.set_cons_succ]))
        (refine wpAnyH_take (i := 15) (oi := ⟨some 176, _, _, _, _, _⟩) (v := .bool false) rfl (by kernel_rfl) (by kernel_rfl) (by kernel_rfl) (fun _ _ _ h => h) (Or.inl ⟨by rfl, ?_⟩) (by assumption) ?_; (intro w hSw; (try dsimp only at hSw); go_simp); (try simp only [Act.put, List.setIfInBounds_toArray, List.set_cons_zero, List.set_cons_succ]))
        refine wpAnyH_done (by kernel_rfl) ?_ _
        go_wp2_with fail
        go_roundw
        case rel => exact ⟨k + 1, z', by omega, by go_num, rfl, Lib.hid ⟨HC.out.1.later (Below.refl _ _).drew, HC.out.2⟩⟩
        case measure => simp [intOf]; omega
    · obtain rfl : k = m := by omega
      go_wp2_with fail
      go_ret
      exact ⟨rfl, HZ.out.1.below⟩
end Ln
end Go.Proofs.Ytjjaomnlkpdeeaa
