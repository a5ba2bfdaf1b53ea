/-
  LockBack: the walk.
-/
import Derived.Test.YtnbdgijppdiecaaLkG
set_option linter.unusedVariables false
set_option maxRecDepth 100000
namespace Go.Proofs.Ytnbdgijppdiecaa
namespace Lk
open Go.RowKit Bk

theorem same9_two {w : World} {base base' : Nat} {A A' : Option Addr} {n n' c c' : Nat} {L : List Int} (h1 : Iw w base (.slice A n c) L) (h2 : Iw w base' (.slice A' n' c') L) (hn : n = L.length) (hn' : n' = L.length) (hl : L.length ≤ 26) :
    Calls Try.prog 15 #[.slice A n c, .slice A' n' c'] w fun e w' => e = .returned (.bool true) ∧ Below w.heap.size w w' := by
  subst hn
  subst hn'
  exact same9_yes A A' _ c c' L w h1.lt.2 h2.lt.2 (by omega)
set_option maxHeartbeats 8000000 in
theorem lockBack_walk (A : Option Addr) (n cap : Nat) (f : Nat → Bool × Int × Int) (rb : Int) (_ : -9223372036854775808 ≤ rb ∧ rb ≤ 9223372036854775807) (zn : Int) (_ : -9223372036854775808 ≤ zn ∧ zn ≤ 9223372036854775807) (w : World) (h : Acts9 w.heap.size w A n cap f) (_ : True) :
    Calls Try.prog 5 #[.slice A n cap, .int .i64 rb, .int .i64 zn] w fun e w' => e = .returned (.bool true) ∧ Below w.heap.size w w' := by
  have HA := Lib.hid h
  clear h
  go_enter Try.func5, Try.ntmps5
  go_wp2_with fail
  refine (shown9_any _).mono ?_
  rintro e w1 ⟨rfl, hb1⟩
  have HB1 := Lib.hid hb1
  have HN := Lib.hid (LkAt.new w1)
  have HAL := Lib.hid (hb1.trans ((Below.refl w1.heap.size w1).alloc (Nat.le_refl _) (.cells (ocl T0).toArray 51) |>.mono hb1.size))
  clear hb1
  go_wp2_with fail
  refine (new9_any _).mono ?_
  rintro e w2 ⟨rfl, hw2⟩
  rw [← hw2] at HN HAL
  clear hw2
  obtain ⟨g, hg⟩ : ∃ g, g = w1.heap.size := ⟨_, rfl⟩
  have HG : Hid (w.heap.size ≤ g) := Lib.hid (by rw [hg]; exact HB1.out.size)
  rw [← hg] at HN ⊢
  clear hg HB1
  go_wp2_with (go_at_call 9; refine (few9_any A n cap _ HA.out.le HA.out.max HA.out.nil).mono ?_; rintro e w2' ⟨rfl, m, hm, hm2, rfl⟩)
  have hcs : m ≤ cap := Nat.le_trans hm HA.out.le
  have hcs2 : cap ≤ 9223372036854775807 := by have := HA.out.max; unfold maxLen at this; omega
  go_loopw [27] (fun iv wr => ∃ j : Nat, iv = .int .i64 (j : Int) ∧ j ≤ m ∧ Hid (∃ T, LkAt wr g T) ∧ Hid (Below w.heap.size w wr)) (fun iv _ => m - (intOf iv).toNat)
  case atStart => exact ⟨0, rfl, Nat.zero_le _, Lib.hid ⟨_, HN.out⟩, HAL⟩
  case round =>
    rename World => wr
    obtain ⟨j, rfl, hj, HT, HB⟩ := hrel
    by_cases hlj : j < m
    · obtain ⟨T, hT⟩ := HT.out
      obtain ⟨ga, off, rfl, hga, hc⟩ := (HA.out.below HB.out).cell (by omega)
      obtain ⟨k0, k1, k2⟩ := hc j (by omega)
      have hjI : (j : Int) < (m : Int) := by omega
      have hga2 : ga < wr.heap.size := Nat.lt_of_lt_of_le hga HB.out.size
      generalize f j = fj at *
      obtain ⟨q, r, z⟩ := fj
      have k0 : wr.cell? ⟨ga, off + j * 3, none⟩ = some (.bool q) := k0
      have k1 : wr.cell? ⟨ga, off + j * 3 + 1, none⟩ = some (.int .i64 r) := k1
      have k2 : wr.cell? ⟨ga, off + j * 3 + 2, none⟩ = some (.int .i64 z) := k2
      have HAA := Lib.hid ((Below.refl wr.heap.size wr).alloc (Nat.le_refl _) (.cells #[.bool q, .int .i64 r, .int .i64 z] 32))
      have HTA := Lib.hid (hT.later HAA.out)
      have HBA := Lib.hid (HB.out.trans (HAA.out.mono HB.out.size))
      clear hc hT hga
      go_wp2_with fail
      refine (does9_any HTA.out q r z).mono ?_
      rintro e w4 ⟨rfl, h4, o4⟩
      have H4 : Hid (∃ T, LkAt w4 g T) := Lib.hid ⟨_, h4⟩
      have HB4 := Lib.hid (HBA.out.trans (o4.below HBA.out.size HG.out))
      clear h4 o4
      go_wp2_with fail
      go_roundw
      case rel => exact ⟨j + 1, by go_num, by omega, H4, HB4⟩
      case measure => simp [intOf]; omega
    · obtain rfl : j = m := by omega
      obtain ⟨T, hT⟩ := HT.out
      have HT := Lib.hid hT
      clear hT
      go_wp2_with fail
      refine (free9_any HT.out).mono ?_
      rintro e w5 ⟨A5, n5, c5, rfl, hn5, ho5, hb5⟩
      have HO5 := Lib.hid (iw_low9 ho5 HB.out.size)
      have HN5 := Lib.hid hn5
      have HB5 := Lib.hid (HB.out.trans (hb5.mono HB.out.size))
      have HT5 := Lib.hid (HT.out.later hb5)
      clear hn5 ho5 hb5
      go_wp2_with fail
      go_loopw [12, 37] (fun lv iv wz => ∃ (i : Nat) (Al : Option Addr) (cl : Nat), i ≤ 8 ∧ lv = .slice Al i cl ∧ iv = .int .i64 (i : Int) ∧ Hid (Ls9 wz w5.heap.size (.slice Al i cl) (ofs T i) ∧ Below w5.heap.size w5 wz)) (fun _ iv _ => 8 - (intOf iv).toNat)
      case atStart => exact ⟨0, none, 0, by omega, rfl, rfl, Lib.hid ⟨Ls9.nil _ _, Below.refl _ _⟩⟩
      case round =>
        rename World => wz
        obtain ⟨i, Al, cl, hi, rfl, rfl, HI⟩ := hrel
        by_cases hli : i < 8
        · have HTz := Lib.hid (HT5.out.later HI.out.2)
          have hi8 : (i : Int) < 8 := by omega
          go_wp2_with fail
          refine (of9_any HTz.out (i : Int)).mono ?_
          rintro e w6 ⟨A6, n6, c6, rfl, hn6, ho6, hb6⟩
          have HLz := Lib.hid (HI.out.1.later hb6)
          have HB6 := Lib.hid (HI.out.2.trans (hb6.mono HI.out.2.size))
          have HO6 := Lib.hid (iw_low9 ho6 HI.out.2.size)
          have HA7 := Lib.hid ((Below.refl w6.heap.size w6).alloc (Nat.le_refl _) (.cells #[.slice A6 n6 c6] 39))
          have H17 := Lib.hid (one9 w6 A6 n6 c6)
          have HS7 : Hid (w5.heap.size ≤ (w6.alloc (.cells #[.slice A6 n6 c6] 39)).heap.size) := Lib.hid (Nat.le_trans HB6.out.size HA7.out.size)
          have HLL : Hid ((ofs T i).length + 1 ≤ 1000000) := Lib.hid (by rw [ofs_len]; omega)
          have HE := Lib.hid (ofs_succ T i)
          clear hn6 ho6 hb6
          go_wp2_with (at_builtin; refine app_list rfl _ _ rfl w5.heap.size _ (ofs T i) rfl (HLz.out.later HA7.out) ⟨w6.heap.size, 0, none⟩ A6 n6 c6 _ rfl H17.out (HO6.out.later HA7.out) HLL.out HS7.out ?_; intro A8 n8 c8 w8 hn8 hl8 hb8; have HN8 := Lib.hid hn8; have HK8 := Lib.hid (And.intro hl8 ((HB6.out.trans (HA7.out.mono HB6.out.size)).trans hb8)); clear hn8 hl8 hb8)
          have HN9 : Hid (n8 = i + 1) := Lib.hid (by rw [HN8.out, List.length_append, ofs_len]; rfl)
          go_roundw
          case rel => exact ⟨i + 1, A8, c8, by omega, by rw [HN9.out], by go_num, Lib.hid ⟨by rw [HE.out, ← HN9.out]; exact HK8.out.1, HK8.out.2⟩⟩
          case measure => simp [intOf]; omega
        · obtain rfl : i = 8 := by omega
          have HTz := Lib.hid (HT5.out.later HI.out.2)
          have HLz := Lib.hid (HI.out.1.lower HB5.out.size)
          have HBz := Lib.hid (HB5.out.trans (HI.out.2.mono HB5.out.size))
          have HFz := Lib.hid (HO5.out.later HI.out.2)
          have HHB := Lib.hid (hold_back HTz.out.tb rb zn)
          clear HI HT5 HB5 HO5 HT HB
          go_wp2_with fail
          refine (owner9_any HTz.out zn).mono ?_
          rintro e w6 ⟨rfl, hb6⟩
          have HT6 := Lib.hid (HTz.out.later hb6)
          have HL6 := Lib.hid (HLz.out.later hb6)
          have HF6 := Lib.hid (HFz.out.later hb6)
          have HB6 := Lib.hid (HBz.out.trans (hb6.mono HBz.out.size))
          clear hb6
          obtain ⟨p, hp⟩ : ∃ p, p = hold9 T rb zn := ⟨_, rfl⟩
          obtain ⟨ow, how⟩ : ∃ ow, ow = at9 T zn := ⟨_, rfl⟩
          rw [← hp, ← how] at HHB
          rw [← how]
          have HHO := Lib.hid (hold9_any HT6.out rb zn)
          rw [← hp] at HHO
          clear hp how
          obtain ⟨ee, T1⟩ := p
          obtain ⟨oa, od⟩ := ow
          go_wp2_with fail
          refine HHO.out.mono ?_
          rintro e w7 ⟨rfl, h7, o7⟩
          have H7 := Lib.hid h7
          have HL7 := Lib.hid (HL6.out.only HT6.out o7)
          have HF7 := Lib.hid (HF6.out.only HT6.out o7)
          have HB7 := Lib.hid (HB6.out.trans (o7.below HB6.out.size HG.out))
          clear h7 o7
          simp only at HHB H7
          go_upto_region 19 with (fail)
          obtain ⟨bb, hbb⟩ : ∃ bb, bb = decide (od = false ∧ ee = 0) := ⟨_, rfl⟩
          have HBBB := Lib.hid hbb
          clear hbb
          go_cut [62] (fun bv wc => bv = .bool bb ∧ w7 = wc)
          case first =>
            have HQ := HBBB.out
            cases od with
            | true =>
              obtain rfl : bb = false := by rw [HQ]; exact decide_eq_false (fun h => by cases h.1)
              clear HQ
              go_wp2_with fail
              go_meet
              exact ⟨rfl, rfl⟩
            | false =>
              by_cases he : ee = 0
              · subst he
                obtain rfl : bb = true := by rw [HQ]; decide
                clear HQ
                go_wp2_with fail
                go_meet
                exact ⟨rfl, rfl⟩
              · have hee : (ee == 0) = false := by rw [beq_eq_false_iff_ne]; exact he
                obtain rfl : bb = false := by rw [HQ]; exact decide_eq_false (fun h => he h.2)
                clear HQ he
                go_wp2_with fail
                go_meet
                exact ⟨rfl, rfl⟩
          obtain ⟨rfl, rfl⟩ := hcut
          go_upto_if 62 with (fail)
          go_cut [7, 8, 11, 12] (fun hv tv fv lv wc => hv = .bool true ∧ tv = .pointer (some ⟨g, 0, none⟩) ∧ fv = .slice A5 n5 c5 ∧ lv = .slice Al 8 cl ∧ Hid (LkAt wc g T ∧ Ls9 wc w.heap.size (.slice Al 8 cl) (ofs T 8) ∧ Iw wc w.heap.size (.slice A5 n5 c5) (zns T (0, false) 26) ∧ Below w.heap.size w wc))
          case first =>
            cases bb with
            | true =>
              obtain ⟨rfl, rfl⟩ := of_decide_eq_true HBBB.out.symm
              obtain ⟨e1, e2⟩ := HHB.out.1 ⟨rfl, rfl⟩
              have HOW7 := Lib.hid (owner9_any H7.out zn)
              rw [e1] at HOW7
              have HE2 := Lib.hid e2
              clear e1 e2
              go_wp2_with (first
                | (go_at_call 13; refine HOW7.out.mono ?_; rintro e w8 ⟨rfl, hb8⟩; have H8 := Lib.hid (H7.out.later hb8); have HL8 := Lib.hid (HL7.out.later hb8); have HF8 := Lib.hid (HF7.out.later hb8); have HB8 := Lib.hid (HB7.out.trans (hb8.mono HB7.out.size)); have hrr : (rb != rb) = false := bne_self_eq_false rb; clear hb8)
                | (go_at_call 21; refine (release9_any H8.out rb zn).mono ?_; rw [HE2.out]; rintro e w9 ⟨rfl, h9, o9⟩; have HK9 := Lib.hid (And.intro h9 (And.intro (HL8.out.only H8.out o9) (And.intro (HF8.out.only H8.out o9) (HB8.out.trans (o9.below HB8.out.size HG.out))))); clear h9 o9))
              go_meet
              exact ⟨rfl, rfl, rfl, rfl, HK9⟩
            | false =>
              have HT1 : Hid (T1 = T) := Lib.hid (HHB.out.2 (of_decide_eq_false HBBB.out.symm))
              have HK7 : Hid (LkAt w7 g T ∧ Ls9 w7 w.heap.size (.slice Al 8 cl) (ofs T 8) ∧ Iw w7 w.heap.size (.slice A5 n5 c5) (zns T (0, false) 26) ∧ Below w.heap.size w w7) := Lib.hid ⟨by rw [← HT1.out]; exact H7.out, HL7.out, HF7.out, HB7.out⟩
              go_wp2_with fail
              go_meet
              exact ⟨rfl, rfl, rfl, rfl, HK7⟩
          case rest =>
            obtain ⟨rfl, rfl, rfl, rfl, HKC⟩ := hcut
            rename World => wc
            clear HHB HHO H7 HL7 HF7 HB7 HT6 HL6 HF6 HB6 HTz HLz HFz HBz
            go_wp2_with fail
            go_loopw [85] (fun iv wz => ∃ i : Nat, i ≤ 8 ∧ iv = .int .i64 (i : Int) ∧ Hid (Below wc.heap.size wc wz)) (fun iv _ => 8 - (intOf iv).toNat)
            case atStart => exact ⟨0, by omega, rfl, Lib.hid (Below.refl _ _)⟩
            case round =>
              rename World => wz
              obtain ⟨i, hi, rfl, HI⟩ := hrel
              by_cases hli : i < 8
              · have HTz := Lib.hid (HKC.out.1.later HI.out)
                have HBz := Lib.hid (HKC.out.2.2.2.trans (HI.out.mono HKC.out.2.2.2.size))
                obtain ⟨-, hlc1, hlc2, gl, offl, A7, n7, c7, rfl, hgl, hcl, hn7, ho7⟩ := (HKC.out.2.1.later HI.out).cell (i := i) (by rw [ofs_len]; exact hli)
                rw [ofs_get T hli] at hn7 ho7
                have HO7 := Lib.hid ho7
                have HN7 := Lib.hid hn7
                have HZL := Lib.hid (zns_len T ((i : Int), true) 26)
                have hi8 : (i : Int) < 8 := by omega
                have hi0 : (0 : Int) ≤ (i : Int) := by omega
                unfold maxLen at hlc2
                clear ho7 hn7
                go_wp2_with fail
                go_region_held3 (fun w' => w'.cell? ⟨gl, offl + i, none⟩ = some (.slice A7 n7 c7)) (go_keep)
                  ((first
                    | (go_at_call 16; refine (of9_any (HTz.out.later (Below.refl _ _).drew) (i : Int)).mono ?_; rintro e w8 ⟨A8, n8, c8, rfl, hn8, ho8, hb8⟩; have HO8 := Lib.hid ho8; have HN8 := Lib.hid hn8; have HB8 := Lib.hid ((Below.refl wz.heap.size wz).drew.trans hb8); have y8 := (HB8.out.cell (p := ⟨gl, offl + i, none⟩) hgl).trans hcl; have HSM := Lib.hid (same9_two HO8.out (HO7.out.later HB8.out) HN8.out HN7.out HZL.out); clear hn8 ho8 hb8)
                    | (go_at_call_of 15 (Value.slice A8 n8 c8); refine HSM.out.mono ?_; rintro e w9 ⟨rfl, hb9⟩; have HB9 := Lib.hid (HB8.out.trans (hb9.mono HB8.out.size)); have y9 := (HB9.out.cell (p := ⟨gl, offl + i, none⟩) hgl).trans hcl; clear hb9)))
                go_wp2_with fail
                go_roundw
                case rel => exact ⟨i + 1, by omega, by go_num, Lib.hid (HI.out.trans (HB9.out.mono HI.out.size))⟩
                case measure => simp [intOf]; omega
              · obtain rfl : i = 8 := by omega
                have HTz := Lib.hid (HKC.out.1.later HI.out)
                have HFz := Lib.hid (HKC.out.2.2.1.later HI.out)
                have HBz := Lib.hid (HKC.out.2.2.2.trans (HI.out.mono HKC.out.2.2.2.size))
                have HZL := Lib.hid (zns_len T ((0 : Int), false) 26)
                go_wp2_with fail
                refine (free9_any HTz.out).mono ?_
                rintro e w7 ⟨A7, n7, c7, rfl, hn7, ho7, hb7⟩
                have HO7 := Lib.hid ho7.lt
                have HX7 := Lib.hid ((HFz.out.later hb7).lt)
                have HB7 := Lib.hid (HBz.out.trans (hb7.mono HBz.out.size))
                have HNN : Hid (n7 = n5 ∧ n7 ≤ 26) := Lib.hid ⟨by rw [hn7, HN5.out], by rw [hn7]; exact HZL.out⟩
                obtain rfl := HNN.out.1
                clear hn7 ho7 hb7
                go_wp2_with fail
                refine (same9_yes A7 A5 n7 c7 c5 _ _ HO7.out.2 HX7.out.2 (by have := HNN.out.2; omega)).mono ?_
                rintro e w8 ⟨rfl, hb8⟩
                have HB8 := Lib.hid (HB7.out.trans (hb8.mono HB7.out.size))
                clear hb8
                go_wp2_with fail
                go_ret
                exact ⟨rfl, HB8.out⟩
end Lk
end Go.Proofs.Ytnbdgijppdiecaa
