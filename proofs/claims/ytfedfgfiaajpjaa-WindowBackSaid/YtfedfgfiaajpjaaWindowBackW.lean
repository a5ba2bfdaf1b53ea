/-
  WindowBack: the walk.
-/
import Derived.Test.YtfedfgfiaajpjaaWnQ
import Derived.Test.YtfedfgfiaajpjaaWnS
import Derived.Test.YtfedfgfiaajpjaaWnBk
set_option linter.unusedVariables false
set_option maxRecDepth 100000
namespace Go.Proofs.Ytfedfgfiaajpjaa.Wn
open Go.RowKit Go.Maps

theorem tk_cases {L : List (Int × Int)} {a b : Int} : (∃ c : Int, (c = 1 ∨ c = 3 ∨ c = 4) ∧ tk L a b = (c, L)) ∨ (rgt a b = true ∧ tk L a b = (0, insAt L (plc L a) (a, b)) ∧ (plc L a < L.length → b ≤ (L.getD (plc L a) (0, 0)).1)) := by
  unfold tk
  split
  · exact .inl ⟨1, .inl rfl, rfl⟩
  · rename_i hr
    split
    · exact .inl ⟨3, .inr (.inl rfl), rfl⟩
    · rename_i hq
      split
      · exact .inl ⟨4, .inr (.inr rfl), rfl⟩
      · refine .inr ⟨by simpa using hr, rfl, fun hp => ?_⟩
        rcases Int.lt_or_le (L.getD (plc L a) (0, 0)).1 b with q | q
        · exact absurd ⟨hp, q⟩ hq
        · exact q
set_option maxHeartbeats 4000000 in
theorem windowBack_walk (A : Option Addr) (len cap : Nat) (f : Nat → Nat × Int × Int × Int) (x : Int) (hx : -9223372036854775808 ≤ x ∧ x ≤ 9223372036854775807) (a b : Int) (o : Int) (hm : -9223372036854775808 ≤ o ∧ o ≤ 9223372036854775807) (w : World) (h : Acts w A len cap f) (hok : ∀ i, i < len → ActOk (f i)) :
    Calls Try.prog 5 #[.slice A len cap, .int .i64 x, .agg #[.int .i64 a, .int .i64 b], .int .i64 o] w fun e w' => e = .returned (.bool true) ∧ Below w.heap.size w w' := by
  have HA := Lib.hid h
  have HOK := Lib.hid hok
  have HXX : Hid (IW x) := Lib.hid hx
  have HMM : Hid (IW o) := Lib.hid hm
  obtain ⟨bx0, bx1, hbx⟩ := win_box w a b
  have HBX := Lib.hid hbx
  clear h hok hx hm hbx
  go_enter Try.func5, Try.ntmps5
  go_wp2_with fail
  refine (shown_any _).mono ?_
  rintro e w1 ⟨rfl, hb1⟩
  have HB1 := Lib.hid (HBX.out.trans (hb1.mono HBX.out.size))
  have HK : Hid (w.heap.size < w1.heap.size ∧ w1.cell? ⟨w.heap.size, 0, none⟩ = some (.int .i64 a) ∧ w1.cell? ⟨w.heap.size, 1, none⟩ = some (.int .i64 b)) := Lib.hid ⟨by have := hb1.size; rw [alloc_size] at this; omega, (hb1.cell (p := ⟨w.heap.size, 0, none⟩) (by simp)).trans bx0, (hb1.cell (p := ⟨w.heap.size, 1, none⟩) (by simp)).trans bx1⟩
  have HT1 := Lib.hid (Tab.new w1 w1.heap.size (Nat.le_refl _))
  clear hb1 bx0 bx1
  go_wp2_with fail
  refine (new_any w1).mono ?_
  rintro e w2 ⟨rfl, hw2⟩
  rw [← hw2] at HT1
  have HB2 : Hid (Below w1.heap.size w1 w2) := Lib.hid (by rw [hw2]; exact (Below.refl _ _).alloc (Nat.le_refl _) _)
  clear hw2
  go_wp2_with fail
  refine (few6_any A len cap w2 HA.out.le HA.out.max HA.out.nil).mono ?_
  rintro e w2' ⟨rfl, n, hn, hn2, rfl⟩
  have hcs : n ≤ cap := Nat.le_trans hn HA.out.le
  have hcs2 : cap ≤ 9223372036854775807 := by have := HA.out.max; unfold maxLen at this; omega
  obtain ⟨bs, hbs⟩ : ∃ bs, bs = w1.heap.size := ⟨_, rfl⟩
  have HBS : Hid (bs = w1.heap.size) := Lib.hid hbs
  rw [← hbs] at HT1 ⊢
  clear hbs
  go_wp2_with fail
  go_loopw [24] (fun iv wr => ∃ j : Nat, iv = .int .i64 (j : Int) ∧ j ≤ n ∧ (∃ mv T gb, Tab wr bs bs j mv T gb ∧ ∀ y, Ordw 0 (T y)) ∧ Below bs w1 wr) (fun iv _ => n - (intOf iv).toNat)
  case atStart => exact ⟨0, rfl, Nat.zero_le _, ⟨none, _, _, HT1.out, fun _ => trivial⟩, by rw [HBS.out]; exact HB2.out⟩
  case round =>
    rename World => wr
    obtain ⟨j, rfl, hj, ⟨mv, T, gb, hT, hO⟩, hb⟩ := hrel
    have HT := Lib.hid hT
    have HO := Lib.hid hO
    have HB := Lib.hid hb
    clear hT hO hb
    by_cases hlj : j < n
    · have HBW : Hid (Below w.heap.size w wr) := Lib.hid (HB1.out.trans (HB.out.mono (by rw [HBS.out]; exact HB1.out.size)))
      obtain ⟨g, off, rfl, _, hc⟩ := (HA.out.later HBW.out).cell (by omega)
      obtain ⟨k0, k1, k2, k3⟩ := hc j (by omega)
      obtain ⟨o1, o2, o3⟩ := HOK.out j (by omega)
      have hjI : (j : Int) < (n : Int) := by omega
      generalize hfj : f j = fj at *
      obtain ⟨q, a1, a2, a3⟩ := fj
      have HA3 := Lib.hid ((HB.out.alloc (by have h1 := HT.out.lo; have h2 := HT.out.cells.2.2; omega) (.cells #[.int .u8 q, .int .i64 a1, .int .i64 a2, .int .i64 a3] 34)))
      have HT3 := Lib.hid (HT.out.later ((Below.refl _ _).alloc (Nat.le_refl _) (.cells #[.int .u8 q, .int .i64 a1, .int .i64 a2, .int .i64 a3] 34)))
      have HDO := Lib.hid (does_any bs bs j mv T gb q (q % 3) a1 a2 a3 (wr.alloc (.cells #[.int .u8 q, .int .i64 a1, .int .i64 a2, .int .i64 a3] 34)) (HT.out.later ((Below.refl _ _).alloc (Nat.le_refl _) _)) o1 rfl o2 o3 (by omega) HO.out)
      clear hc o1 o2 o3
      go_wp2_with fail
      refine HDO.out.mono ?_
      rintro e w3 ⟨rfl, mv', gb', h1, h2⟩
      have H1 := Lib.hid h1
      have HB4 := Lib.hid (HA3.out.trans (HT3.out.below h2))
      clear h1 h2
      go_wp2_with fail
      go_roundw
      case rel => exact ⟨j + 1, by go_num, by omega, ⟨mv', _, gb', H1.out, act_ord HO.out⟩, HB4.out⟩
      case measure => simp [intOf]; omega
    · obtain rfl : j = n := by omega
      have hjj : ¬ ((j : Int) < (j : Int)) := by omega
      go_wp2_with fail
      have HBW : Hid (Below w1.heap.size w1 wr) := Lib.hid (by have := HB.out; rw [HBS.out] at this; exact this)
      have HN : Hid (j < 4000) := Lib.hid (by omega)
      have HOX := Lib.hid (HO.out x)
      have HLX : Hid ((T x).length ≤ 100000 ∧ (T o).length ≤ 100000) := Lib.hid ⟨Nat.le_trans (HT.out.small x) HT.out.few, Nat.le_trans (HT.out.small o) HT.out.few⟩
      refine (taken_any bs bs j mv T gb x wr HT.out HXX.out).mono ?_
      rintro e w3 ⟨A3, c3, rfl, ho3, hb3⟩
      have HO3 := Lib.hid ho3
      have HT3 := Lib.hid (HT.out.later hb3)
      have HB3 := Lib.hid (HBW.out.trans (hb3.mono HBW.out.size))
      have HBB3 := Lib.hid hb3
      clear ho3 hb3
      go_wp2_with fail
      refine (taken_any bs bs j mv T gb o w3 HT3.out HMM.out).mono ?_
      rintro e w4 ⟨A4, c4, rfl, ho4, hb4⟩
      have HO4 := Lib.hid ho4
      have HO34 := Lib.hid (HO3.out.later hb4)
      have HT4 := Lib.hid (HT3.out.later hb4)
      have HB4 := Lib.hid (HB3.out.trans (hb4.mono HB3.out.size))
      have HS4 : Hid (∀ k, TF bs mv T gb k → k < wr.heap.size ∧ k < w3.heap.size) := Lib.hid (fun k hk => ⟨(HT.out.foot k hk).2, (HT3.out.foot k hk).2⟩)
      have bx0 := (hb4.cell (p := ⟨w.heap.size, 0, none⟩) (Nat.lt_of_lt_of_le HK.out.1 HB3.out.size)).trans ((HB3.out.cell (p := ⟨w.heap.size, 0, none⟩) HK.out.1).trans HK.out.2.1)
      have bx1 := (hb4.cell (p := ⟨w.heap.size, 1, none⟩) (Nat.lt_of_lt_of_le HK.out.1 HB3.out.size)).trans ((HB3.out.cell (p := ⟨w.heap.size, 1, none⟩) HK.out.1).trans HK.out.2.2)
      clear ho4 hb4
      go_wp2_with fail
      refine (take_any bs bs j mv T gb x a b w4 HT4.out HXX.out (by have := HN.out; omega) HOX.out).mono ?_
      rintro e w5 ⟨he, mv5, gb5, h5, t5⟩
      have HO35 : Hid (Wow w5 wr.heap.size (.slice A3 (T x).length c3) (T x)) := Lib.hid (ownsRow_same HO34.out (fun k hk => t5.block k (World.ownsRow.lt HO34.out k hk).2 (fun hF => by
        have h3 := (World.ownsRow.lt HO34.out k hk).1
        have h4 := (HS4.out k hF).1
        omega)))
      have HO45 : Hid (Wow w5 w3.heap.size (.slice A4 (T o).length c4) (T o)) := Lib.hid (ownsRow_same HO4.out (fun k hk => t5.block k (World.ownsRow.lt HO4.out k hk).2 (fun hF => by
        have h3 := (World.ownsRow.lt HO4.out k hk).1
        have h4 := (HS4.out k hF).2
        omega)))
      have HB5 : Hid (Below w1.heap.size w1 w5) := Lib.hid (HB4.out.trans (by have := HT4.out.below t5; rw [HBS.out] at this; exact this))
      rcases tk_cases (L := T x) (a := a) (b := b) with ⟨c, hc, hk⟩ | ⟨hr, hk, hcond⟩
      · rw [hk, upd_self] at h5
        rw [hk] at he
        have H5 := Lib.hid h5
        clear h5 t5 hk bx0 bx1
        rcases hc with rfl | rfl | rfl
        all_goals
          subst he
          go_wp2_with fail
          refine (taken_any bs bs (j + 1) mv5 T gb5 x w5 H5.out HXX.out).mono ?_
          rintro e w6 ⟨A6, c6, rfl, ho6, hb6⟩
          have HO6 := Lib.hid ho6
          have HB6 := Lib.hid (HB5.out.trans (hb6.mono HB5.out.size))
          have HBB6 := Lib.hid hb6
          clear ho6 hb6
          go_wp2_with fail
          refine (same_any A6 A3 (T x).length (T x).length c6 c3 (T x) (T x) w6 HO6.out.wt (HO35.out.later HBB6.out).wt (by have := HLX.out.1; omega)).mono ?_
          rintro e w7 ⟨he, hb7⟩
          rw [show decide (T x = T x) = true from decide_eq_true rfl] at he
          subst he
          have HB7 := Lib.hid (HB6.out.trans (hb7.mono HB6.out.size))
          clear hb7
          go_wp2_with fail
          go_ret
          exact ⟨rfl, HB1.out.trans (HB7.out.mono HB1.out.size)⟩
      · have hab : 0 ≤ a ∧ a < b ∧ b ≤ 1048576 := by
          unfold rgt at hr
          simp only [Bool.and_eq_true, decide_eq_true_eq] at hr
          omega
        obtain ⟨ha0, hab1, hb1⟩ := hab
        have hple := plc_le (T x) a
        rw [hk] at h5 t5 he
        have HF5 : Hid (∀ k, TF bs mv5 (upd T x (insAt (T x) (plc (T x) a) (a, b))) gb5 k → k < wr.heap.size ∨ w4.heap.size ≤ k) := Lib.hid (fun k hk => by
          rcases t5.foot k hk with q | q
          · exact .inl (HS4.out k q).1
          · exact .inr q)
        have HTK := Lib.hid (tk_ins (T x) a b hr hab1)
        have HDR := Lib.hid (dr_ins (T x) a b hab1)
        have HDG := Lib.hid (dr_gone (T x) a b hab1 hcond)
        have HI1 := Lib.hid (isT_ins (T x) a b a (Int.le_refl _) hab1)
        have HI2 := Lib.hid (isT_ins (T x) a b (b - 1) (by omega) (by omega))
        have HIO : Hid (Ordw 0 (insAt (T x) (plc (T x) a) (a, b))) := Lib.hid (HOX.out.ins ha0 hab1 hb1 hcond)
        have hIl := insAt_length (T x) (plc (T x) a) (a, b) hple
        generalize insAt (T x) (plc (T x) a) (a, b) = I at *
        obtain ⟨T5, hT5⟩ : ∃ T5, T5 = upd T x I := ⟨_, rfl⟩
        have HX5 : Hid (T5 x = I) := Lib.hid (by rw [hT5, upd_same])
        have HO5 : Hid (o ≠ x → T5 o = T o) := Lib.hid (fun h => by rw [hT5, upd_other T I h])
        rw [← hT5] at h5 HF5
        have H5 := Lib.hid h5
        have HIL := Lib.hid hIl
        have HOW3 := Lib.hid (fun (w' : World) (F' : Nat → Prop) (tt : Turn (TF bs mv5 T5 gb5) F' w5 w') => (ownsRow_same HO35.out (fun k hk => tt.block k (World.ownsRow.lt HO35.out k hk).2 (fun hF => by
          have h3 := World.ownsRow.lt HO34.out k hk
          rcases HF5.out k hF with q | q
          · omega
          · omega)) : Wow w' wr.heap.size (.slice A3 (T x).length c3) (T x)))
        subst he
        clear h5 t5 hk hr hcond hple hT5 hIl
        go_wp2_with fail
        refine (taken_any bs bs (j + 1) mv5 T5 gb5 x w5 H5.out HXX.out).mono ?_
        rw [HX5.out, HIL.out]
        rintro e w6 ⟨A6, c6, rfl, ho6, hb6⟩
        have HT6 := Lib.hid (H5.out.later hb6)
        have HB6 := Lib.hid (HB5.out.trans (hb6.mono HB5.out.size))
        have HBB6 := Lib.hid hb6
        have HK6 : Hid (∀ w', Below w1.heap.size w1 w' → w'.cell? ⟨w.heap.size, 0, none⟩ = some (.int .i64 a) ∧ w'.cell? ⟨w.heap.size, 1, none⟩ = some (.int .i64 b)) := Lib.hid (fun w' hb => ⟨(hb.cell (p := ⟨w.heap.size, 0, none⟩) HK.out.1).trans HK.out.2.1, (hb.cell (p := ⟨w.heap.size, 1, none⟩) HK.out.1).trans HK.out.2.2⟩)
        clear ho6 hb6 bx0 bx1
        have HLE : Hid ((T x).length ≤ 100000) := Lib.hid HLX.out.1
        have hl1 := HLX.out.1
        obtain ⟨lx, hlx⟩ : ∃ lx, lx = (T x).length := ⟨_, rfl⟩
        rw [← hlx] at hl1 HO35 HOW3 ⊢
        have HLXE := Lib.hid hlx
        obtain ⟨by0, by1⟩ := HK6.out w6 HB6.out
        clear hlx hj hlj hjj
        by_cases hxo : x = o
        · obtain ⟨w7, hw7⟩ : ∃ w7, w7 = w6 := ⟨_, rfl⟩
          have HB7 : Hid (Below w6.heap.size w6 w7) := Lib.hid (by rw [hw7]; exact Below.refl _ _)
          subst hxo
          rw [← HLXE.out]
          go_wp2_with fail
          rw [← hw7]
          clear hw7 by0 by1
          have HT7 := Lib.hid (HT6.out.later HB7.out)
          refine (is_any bs bs (j + 1) mv5 T5 gb5 x a w7 HT7.out HXX.out).mono ?_
          rw [HX5.out, HI1.out]
          rintro e w8 ⟨rfl, hb8⟩
          have HB8 := Lib.hid (HB7.out.trans (hb8.mono HB7.out.size))
          have HT8 := Lib.hid (HT6.out.later HB8.out)
          obtain ⟨bz0, bz1⟩ := HK6.out w8 (HB6.out.trans (HB8.out.mono HB6.out.size))
          clear hb8
          go_wp2_with fail
          refine (is_any bs bs (j + 1) mv5 T5 gb5 x (b - 1) w8 HT8.out HXX.out).mono ?_
          rw [HX5.out, HI2.out]
          rintro e w9 ⟨rfl, hb9⟩
          have HB9 := Lib.hid (HB8.out.trans (hb9.mono HB8.out.size))
          have HT9 := Lib.hid (HT6.out.later HB9.out)
          obtain ⟨bq0, bq1⟩ := HK6.out w9 (HB6.out.trans (HB9.out.mono HB6.out.size))
          clear hb9 bz0 bz1
          go_wp2_with fail
          refine (take_any bs bs (j + 1) mv5 T5 gb5 x a b w9 HT9.out HXX.out (by have := HN.out; omega) (by rw [HX5.out]; exact HIO.out)).mono ?_
          rw [HX5.out, HTK.out]
          rintro e w10 ⟨rfl, mvA, gbA, hA, tA⟩
          have e5 : upd T5 x I = T5 := by rw [← HX5.out, upd_self]
          rw [show ((3 : Int), I).2 = I from rfl, e5] at hA tA
          have t59 : Turn (TF bs mv5 T5 gb5) (TF bs mvA T5 gbA) w5 w10 := (Turn.ofBelow (HBB6.out.trans (HB9.out.mono HBB6.out.size)) _).trans tA
          have HA10 := Lib.hid hA
          have HTA := Lib.hid t59
          have HBA : Hid (Below w1.heap.size w1 w10) := Lib.hid ((HB6.out.trans (HB9.out.mono HB6.out.size)).trans (by have := HT9.out.below tA; rw [HBS.out] at this; exact this))
          obtain ⟨br0, br1⟩ := HK6.out w10 HBA.out
          clear hA tA t59 e5 bq0 bq1
          go_wp2_with fail
          refine (drop_any bs bs (j + 1 + 1) mvA T5 gbA x a b w10 HA10.out HXX.out (by have := HN.out; omega) (by rw [HX5.out]; exact HIO.out)).mono ?_
          rw [HX5.out, HDR.out]
          rintro e w11 ⟨rfl, mvB, gbB, hB, tB⟩
          obtain ⟨TB, hTB⟩ : ∃ TB, TB = upd T5 x (T x) := ⟨_, rfl⟩
          rw [show ((0 : Int), T x).2 = T x from rfl, ← hTB] at hB tB
          have HXB : Hid (TB x = T x) := Lib.hid (by rw [hTB, upd_same])
          have HB11 := Lib.hid hB
          have HOW11 : Hid (Wow w11 wr.heap.size (.slice A3 lx c3) (T x)) := Lib.hid (by have := HOW3.out w11 _ (HTA.out.trans tB); rw [HLXE.out] at this ⊢; exact this)
          have HBB11 : Hid (Below w1.heap.size w1 w11) := Lib.hid (HBA.out.trans (by have := HA10.out.below tB; rw [HBS.out] at this; exact this))
          clear hB tB hTB br0 br1
          go_wp2_with fail
          refine (taken_any bs bs (j + 1 + 1 + 1) mvB TB gbB x w11 HB11.out HXX.out).mono ?_
          rw [HXB.out]
          rintro e w12 ⟨A12, c12, rfl, ho12, hb12⟩
          have HO12 := Lib.hid ho12
          have HBB12 := Lib.hid hb12
          have HB12 := Lib.hid (HBB11.out.trans (hb12.mono HBB11.out.size))
          have HT12 := Lib.hid (HB11.out.later hb12)
          clear ho12 hb12
          go_wp2_with fail
          refine (same_any A12 A3 (T x).length lx c12 c3 (T x) (T x) w12 HO12.out.wt (HOW11.out.later HBB12.out).wt (by have := HLE.out; omega)).mono ?_
          rintro e w13 ⟨he, hb13⟩
          rw [show decide (T x = T x) = true from decide_eq_true rfl] at he
          subst he
          have HB13 := Lib.hid (HB12.out.trans (hb13.mono HB12.out.size))
          have HT13 := Lib.hid (HT12.out.later hb13)
          obtain ⟨bs0, bs1⟩ := HK6.out w13 HB13.out
          clear hb13
          go_wp2_with fail
          refine (drop_any bs bs (j + 1 + 1 + 1) mvB TB gbB x a b w13 HT13.out HXX.out (by have := HN.out; omega) (by rw [HXB.out]; exact HOX.out)).mono ?_
          rw [HXB.out, HDG.out]
          rintro e w14 ⟨rfl, mvC, gbC, hC, tC⟩
          have HB14 : Hid (Below w1.heap.size w1 w14) := Lib.hid (HB13.out.trans (by have := HT13.out.below tC; rw [HBS.out] at this; exact this))
          clear hC tC bs0 bs1
          go_wp2_with fail
          go_ret
          exact ⟨rfl, HB1.out.trans (HB14.out.mono HB1.out.size)⟩
        · have dxo : (x == o) = false := by rw [beq_eq_false_iff_ne]; exact hxo
          have HTO := Lib.hid (HO5.out (fun e => hxo e.symm))
          have dne : decide (x = o) = false := decide_eq_false hxo
          go_wp2_with fail
          refine (taken_any bs bs (j + 1) mv5 T5 gb5 o w6 HT6.out HMM.out).mono ?_
          rw [HTO.out]
          rintro e wa ⟨Aa, ca, rfl, hoa, hba⟩
          have HOa := Lib.hid hoa
          have HBa := Lib.hid hba
          clear hoa hba
          have HO46 : Hid (Wow w6 w3.heap.size (.slice A4 (T o).length c4) (T o)) := Lib.hid (HO45.out.later HBB6.out)
          go_wp2_with fail
          refine (same_any Aa A4 (T o).length (T o).length ca c4 (T o) (T o) wa HOa.out.wt (HO46.out.later HBa.out).wt (by have := HLX.out.2; omega)).mono ?_
          rintro e w7 ⟨he, hb7⟩
          rw [show decide (T o = T o) = true from decide_eq_true rfl] at he
          subst he
          have HB7 := Lib.hid (HBa.out.trans (hb7.mono HBa.out.size))
          obtain ⟨bw0, bw1⟩ := HK6.out w7 (HB6.out.trans (HB7.out.mono HB6.out.size))
          clear hb7 by0 by1
          go_wp2_with fail
          clear bw0 bw1
          have HT7 := Lib.hid (HT6.out.later HB7.out)
          refine (is_any bs bs (j + 1) mv5 T5 gb5 x a w7 HT7.out HXX.out).mono ?_
          rw [HX5.out, HI1.out]
          rintro e w8 ⟨rfl, hb8⟩
          have HB8 := Lib.hid (HB7.out.trans (hb8.mono HB7.out.size))
          have HT8 := Lib.hid (HT6.out.later HB8.out)
          obtain ⟨bz0, bz1⟩ := HK6.out w8 (HB6.out.trans (HB8.out.mono HB6.out.size))
          clear hb8
          go_wp2_with fail
          refine (is_any bs bs (j + 1) mv5 T5 gb5 x (b - 1) w8 HT8.out HXX.out).mono ?_
          rw [HX5.out, HI2.out]
          rintro e w9 ⟨rfl, hb9⟩
          have HB9 := Lib.hid (HB8.out.trans (hb9.mono HB8.out.size))
          have HT9 := Lib.hid (HT6.out.later HB9.out)
          obtain ⟨bq0, bq1⟩ := HK6.out w9 (HB6.out.trans (HB9.out.mono HB6.out.size))
          clear hb9 bz0 bz1
          go_wp2_with fail
          refine (take_any bs bs (j + 1) mv5 T5 gb5 x a b w9 HT9.out HXX.out (by have := HN.out; omega) (by rw [HX5.out]; exact HIO.out)).mono ?_
          rw [HX5.out, HTK.out]
          rintro e w10 ⟨rfl, mvA, gbA, hA, tA⟩
          have e5 : upd T5 x I = T5 := by rw [← HX5.out, upd_self]
          rw [show ((3 : Int), I).2 = I from rfl, e5] at hA tA
          have t59 : Turn (TF bs mv5 T5 gb5) (TF bs mvA T5 gbA) w5 w10 := (Turn.ofBelow (HBB6.out.trans (HB9.out.mono HBB6.out.size)) _).trans tA
          have HA10 := Lib.hid hA
          have HTA := Lib.hid t59
          have HBA : Hid (Below w1.heap.size w1 w10) := Lib.hid ((HB6.out.trans (HB9.out.mono HB6.out.size)).trans (by have := HT9.out.below tA; rw [HBS.out] at this; exact this))
          obtain ⟨br0, br1⟩ := HK6.out w10 HBA.out
          clear hA tA t59 e5 bq0 bq1
          go_wp2_with fail
          refine (drop_any bs bs (j + 1 + 1) mvA T5 gbA x a b w10 HA10.out HXX.out (by have := HN.out; omega) (by rw [HX5.out]; exact HIO.out)).mono ?_
          rw [HX5.out, HDR.out]
          rintro e w11 ⟨rfl, mvB, gbB, hB, tB⟩
          obtain ⟨TB, hTB⟩ : ∃ TB, TB = upd T5 x (T x) := ⟨_, rfl⟩
          rw [show ((0 : Int), T x).2 = T x from rfl, ← hTB] at hB tB
          have HXB : Hid (TB x = T x) := Lib.hid (by rw [hTB, upd_same])
          have HB11 := Lib.hid hB
          have HOW11 : Hid (Wow w11 wr.heap.size (.slice A3 lx c3) (T x)) := Lib.hid (by have := HOW3.out w11 _ (HTA.out.trans tB); rw [HLXE.out] at this ⊢; exact this)
          have HBB11 : Hid (Below w1.heap.size w1 w11) := Lib.hid (HBA.out.trans (by have := HA10.out.below tB; rw [HBS.out] at this; exact this))
          clear hB tB hTB br0 br1
          go_wp2_with fail
          refine (taken_any bs bs (j + 1 + 1 + 1) mvB TB gbB x w11 HB11.out HXX.out).mono ?_
          rw [HXB.out]
          rintro e w12 ⟨A12, c12, rfl, ho12, hb12⟩
          have HO12 := Lib.hid ho12
          have HBB12 := Lib.hid hb12
          have HB12 := Lib.hid (HBB11.out.trans (hb12.mono HBB11.out.size))
          have HT12 := Lib.hid (HB11.out.later hb12)
          clear ho12 hb12
          go_wp2_with fail
          refine (same_any A12 A3 (T x).length lx c12 c3 (T x) (T x) w12 HO12.out.wt (HOW11.out.later HBB12.out).wt (by have := HLE.out; omega)).mono ?_
          rintro e w13 ⟨he, hb13⟩
          rw [show decide (T x = T x) = true from decide_eq_true rfl] at he
          subst he
          have HB13 := Lib.hid (HB12.out.trans (hb13.mono HB12.out.size))
          have HT13 := Lib.hid (HT12.out.later hb13)
          obtain ⟨bs0, bs1⟩ := HK6.out w13 HB13.out
          clear hb13
          go_wp2_with fail
          refine (drop_any bs bs (j + 1 + 1 + 1) mvB TB gbB x a b w13 HT13.out HXX.out (by have := HN.out; omega) (by rw [HXB.out]; exact HOX.out)).mono ?_
          rw [HXB.out, HDG.out]
          rintro e w14 ⟨rfl, mvC, gbC, hC, tC⟩
          have HB14 : Hid (Below w1.heap.size w1 w14) := Lib.hid (HB13.out.trans (by have := HT13.out.below tC; rw [HBS.out] at this; exact this))
          clear hC tC bs0 bs1
          go_wp2_with fail
          go_ret
          exact ⟨rfl, HB1.out.trans (HB14.out.mono HB1.out.size)⟩
end Go.Proofs.Ytfedfgfiaajpjaa.Wn
