/-
  The statement LinkTurned: its walk.
-/
import Derived.Test.YtjjaomnlkpdeeaaLnArgs
import Derived.Test.YtjjaomnlkpdeeaaChkP
import Derived.Test.YtjjaomnlkpdeeaaBtSix
set_option linter.unusedVariables false
set_option maxRecDepth 100000
namespace Go.Proofs.Ytjjaomnlkpdeeaa
namespace Ln
open Go.RowKit Bp Ck
/-- Was a bit turned? -/
def anyT (bt k : Nat) : Bool := (List.range k).any fun j => bt.testBit j
theorem anyT_succ (bt k : Nat) : anyT bt (k + 1) = (anyT bt k || bt.testBit k) := by simp [anyT, List.range_succ]
theorem anyT_iff (bt k : Nat) : anyT bt k = true ↔ ∃ j, j < k ∧ bt.testBit j = true := by simp [anyT]
theorem bit_testT (bt k : Nat) : ((((bt : Int) / 2 ^ k).tmod 2) == 1) = bt.testBit k := by
  rw [Nat.testBit_eq_decide_div_mod_eq]
  have e0 : (bt : Int) / 2 ^ k = ((bt / 2 ^ k : Nat) : Int) := by simp
  have e : ((bt : Int) / 2 ^ k).tmod 2 = ((bt / 2 ^ k % 2 : Nat) : Int) := by
    rw [e0, Int.tmod_eq_emod_of_nonneg (Int.natCast_nonneg _)]; omega
  rw [e]
  by_cases h : bt / 2 ^ k % 2 = 1
  · rw [h]; rfl
  · rw [decide_eq_false h, beq_eq_false_iff_ne]; omega
theorem xor_pwT (x j : Nat) (hx : x ≤ 255) (hj : j ≤ 7) : bits BinOp.xor IntKind.u8 (x : Int) (128 / 2 ^ j) = ((x ^^^ pw j : Nat) : Int) := by
  have e : (128 : Int) / 2 ^ j = ((pw j : Nat) : Int) := by
    have : j = 0 ∨ j = 1 ∨ j = 2 ∨ j = 3 ∨ j = 4 ∨ j = 5 ∨ j = 6 ∨ j = 7 := by omega
    rcases this with rfl | rfl | rfl | rfl | rfl | rfl | rfl | rfl <;> rfl
  rw [e]
  exact u8_xor_nat x (pw j) (by omega) (by have := pw_le j; omega)
theorem isFrm_prefix (f : List Nat) (k : Nat) (h : isFrm f = true) (hk : k < f.length) : isFrm (f.take k) = false := by
  cases hf : isFrm (f.take k) with
  | false => rfl
  | true =>
    exfalso
    obtain ⟨h1, h2, h3, h4⟩ := (isFrm_iff f).1 h
    obtain ⟨g1, g2, g3, g4⟩ := (isFrm_iff (f.take k)).1 hf
    have hl : (f.take k).length = k := by rw [List.length_take]; omega
    have e : ∀ i, i < k → (f.take k).getD i 0 = f.getD i 0 := fun i hi => by simp [List.getD, hi]
    rw [hl] at g1 g3
    rw [e 0 (by omega), e 1 (by omega)] at g3
    omega
theorem take_none {B : Nat} {w : World} {A : Option Addr} {n cap : Nat} {bs : List Nat} (h : By B w A n cap bs) (hB : B ≤ w.heap.size) (hf : isFrm bs = false) :
    Calls Try.prog 13 #[.slice A n cap] w fun e w' => e = .returned (.tuple #[.agg #[.bool false, .int .u64 0, .slice none 0 0], .int .i64 140]) ∧ Below w.heap.size w w' := by
  refine (take_any h hB).mono ?_
  rintro e w' ⟨hb, hc⟩
  rcases hc with ⟨_, _, _, _, _, his, _⟩ | ⟨_, he⟩
  · have := his.pk.1
    rw [hf] at this
    cases this
  · exact ⟨he, hb⟩
theorem take_it {B : Nat} {w : World} {A : Option Addr} {n cap : Nat} {bs : List Nat} {h : Bool} {m : Nat} {d : List Nat} (hy : By B w A n cap bs) (hB : B ≤ w.heap.size) (hi : Is bs h m d) :
    Calls Try.prog 13 #[.slice A n cap] w fun e w' => ∃ A1 c1, e = .returned (.tuple #[.agg #[.bool h, .int .u64 (m : Int), .slice A1 d.length c1], .int .i64 0]) ∧ By w'.heap.size w' A1 d.length c1 d ∧ Below w.heap.size w w' := by
  refine (take_any hy hB).mono ?_
  rintro e w' ⟨hb, hc⟩
  rcases hc with ⟨h2, m2, d2, A1, c1, his, he, hd, _⟩ | ⟨hno, _⟩
  · obtain ⟨rfl, rfl, rfl⟩ := his.uniq hi
    exact ⟨A1, c1, he, hd, hb⟩
  · exact absurd hi (hno _ _ _)
set_option maxHeartbeats 8000000 in
theorem linkTurned_walk (h : Bool) (n : Nat) (A : Option Addr) (m c : Nat) (d : List Nat) (a : Nat) (ha : a < 18446744073709551616) (bt : Nat) (hbt : bt < 65536) (cu : Nat) (hcu : cu < 256) (w : World) (hn : n < 18446744073709551616) (hd : By w.heap.size w A m c d) :
    Calls Try.prog 9 #[.agg #[.bool h, .int .u64 (n : Int), .slice A m c], .int .u64 (a : Int), .int .u16 (bt : Int), .int .u8 (cu : Int)] w fun e w' => e = .returned (.bool true) ∧ Below w.heap.size w w' := by
  obtain rfl : m = d.length := hd.len.symm
  have hle := hd.le
  have hmx := hd.max
  unfold maxLen at hmx
  have k1 := box3 w (.bool h) (.int .u64 (n : Int)) (.slice A d.length c)
  have k2 := box3_below w (.bool h) (.int .u64 (n : Int)) (.slice A d.length c)
  have HD := Lib.hid (by_later hd k2)
  have K1 := Lib.hid k1
  have K2 := Lib.hid k2
  have HS := Lib.hid (shown14_any (w.alloc (.cells #[.bool h, .int .u64 (n : Int), .slice A d.length c] 25)))
  have hs0 : (w.alloc (.cells #[.bool h, .int .u64 (n : Int), .slice A d.length c] 25)).heap.size = w.heap.size + 1 := by simp
  have HS0 := Lib.hid hs0
  have hdb := hd.byte
  have HDB := Lib.hid hdb
  clear hd k1 k2 hs0 hdb
  go_enter Try.func9, Try.ntmps9
  go_wp2_with fail
  refine HS.out.mono ?_
  rintro e w1 ⟨rfl, hb1⟩
  have hk : w1.heap[w.heap.size]? = some (.cells #[.bool h, .int .u64 (n : Int), .slice A d.length c] 25 (0, 0)) := (hb1.block _ (lt_of_heap K1.out)).trans K1.out
  obtain ⟨e0, e1, e2⟩ := pkt_cells hk
  have HK := Lib.hid hk
  have HKW := Lib.hid hk
  have HD1 := Lib.hid (by_later HD.out hb1)
  have HW1 := Lib.hid (K2.out.trans (hb1.mono K2.out.size))
  have HT1 : Hid (w.heap.size < w1.heap.size) := Lib.hid (by have := hb1.size; have := HS0.out; omega)
  clear hk hb1 HD K1 K2 HS HS0
  generalize w.alloc (.cells #[.bool h, .int .u64 (n : Int), .slice A d.length c] 25) = w0 at *
  have hl3 : lyE h n d.length = 0 ∨ lyE h n d.length = 4 ∨ lyE h n d.length = 140 := by
    unfold lyE
    split
    · exact .inr (.inl rfl)
    · split
      · exact .inr (.inr rfl)
      · exact .inl rfl
  go_wp2_with fail
  refine (lay_any hn HD1.out (Nat.le_refl _)).mono ?_
  rintro e w2 ⟨A3, c3, rfl, ho2, hb2⟩
  have HW2 := Lib.hid (HW1.out.trans (hb2.mono HW1.out.size))
  rcases hl3 with he | he | he
  rotate_left
  · rw [he]
    clear ho2 hb2 he HD1 HW1 HK e0 e1 e2
    go_wp2_with fail
    go_ret
    exact ⟨rfl, HW2.out⟩
  · rw [he]
    clear ho2 hb2 he HD1 HW1 HK e0 e1 e2
    go_wp2_with fail
    go_ret
    exact ⟨rfl, HW2.out⟩
  have hok := ly_ok hn HDB.out he
  rw [(ok_ly hok).2] at ho2 ⊢
  rw [he]
  have hpos := hok.size
  obtain ⟨g, cc, hgg⟩ := shape_of ho2 hpos.1
  injection hgg with hgA hgn hgc
  subst hgA
  have HIS := Lib.hid (is_play hok)
  have HZ := Lib.hid (is_play hok).pk.1
  have HZB := Lib.hid hok.play_byte
  have HO := Lib.hid ho2
  have HK2 : Hid (w2.heap[w.heap.size]? = _) := Lib.hid ((hb2.block _ (lt_of_heap HK.out)).trans HK.out)
  have HB2 := Lib.hid hb2
  have hcc : (play h n d).length ≤ c3 := (By.own ho2 hok.play_byte).le
  clear ho2 hb2 he HK e0 e1 e2 hok hgn hgc cc HK2 HW2
  generalize hff : play h n d = ff at *
  obtain ⟨N, hN⟩ : ∃ N, N = ff.length := ⟨_, rfl⟩
  have HN := Lib.hid hN
  rw [← hN] at HO hpos hcc ⊢
  obtain ⟨ck, hck, hck2⟩ : ∃ ck : Nat, (cu : Int).tmod (N : Int) = (ck : Int) ∧ ck < N := ⟨cu % N, by rw [Int.tmod_eq_emod_of_nonneg (by omega)]; omega, Nat.mod_lt _ (by omega)⟩
  have s1 := fun wx => slice_h (some ⟨g, 0, none⟩) N c3 ck wx (by omega)
  obtain ⟨hp1, hp2⟩ := hpos
  have HCU := Lib.hid hcu
  clear hff hN
  go_wp2_with fail
  have HYP := Lib.hid ((By.own HO.out HZB.out).take ck (by omega))
  refine (take_none HYP.out (Nat.le_refl _) (isFrm_prefix ff ck HZ.out (by rw [← HN.out]; exact hck2))).mono ?_
  rintro e w3 ⟨rfl, hb3⟩
  have hbx := hb3.trans ((box3_below w3 (.bool false) (.int .u64 0) (.slice none 0 0)).mono hb3.size)
  have HB4 := Lib.hid (HB2.out.trans (hbx.mono HB2.out.size))
  have HO4 := Lib.hid (ownsRow_same HO.out (fun q hq => hbx.block q (HO.out.lt q hq).2))
  clear hb3 hbx HYP HO HB2 s1 hck
  obtain ⟨fi, hfi, hfi2, hfl⟩ : ∃ fi : Nat, (a : Int) % (8 * (N : Int)) = (fi : Int) ∧ (a : Int).tmod (8 * (N : Int)) = (fi : Int) ∧ fi < 8 * N := ⟨a % (8 * N), by simp, by rw [Int.tmod_eq_emod_of_nonneg (by omega)]; simp, Nat.mod_lt _ (by omega)⟩
  go_wp2_with fail
  generalize w3.alloc (.cells #[.bool false, .int .u64 0, .slice none 0 0] 25) = w4 at *
  go_loopw [15, 16] (fun tv kv wr => ∃ k : Nat, k ≤ 16 ∧ fi + k ≤ 8 * N ∧ kv = .int .i64 (k : Int) ∧ tv = .bool (anyT bt k) ∧ wr.ownsRow w1.heap.size 5 1 (.slice (some ⟨g, 0, none⟩) N c3) N (bc (fl ff (oth fi bt k))) ∧ Below w1.heap.size w1 wr) (fun _ kv _ => 16 - (intOf kv).toNat)
  case atStart => exact ⟨0, by omega, by omega, rfl, rfl, by rw [fl_start]; exact HO4.out, HB4.out⟩
  case round =>
    obtain ⟨k, hk16, hkl, rfl, rfl, ho, hb⟩ := hrel
    have HOk := Lib.hid ho
    have HBk := Lib.hid hb
    have HAS := Lib.hid (anyT_succ bt k)
    have HOS := Lib.hid (oth_succ fi bt k)
    have HOL := Lib.hid (oth_len fi bt k)
    clear ho hb HO4 HB4 hfi hfi2
    by_cases hc : k < 16 ∧ fi + k < 8 * N
    · obtain ⟨hc1, hc2⟩ := hc
      have ht := bit_testT bt k
      cases hbk : bt.testBit k with
      | false =>
        rw [hbk] at ht HAS HOS
        have HF := Lib.hid (fl_false ff (oth fi bt k))
        clear hbk
        generalize anyT bt k = tn at *
        go_wp2
        go_roundw
        case rel => exact ⟨k + 1, by omega, by omega, by go_num, by rw [HAS.out, Bool.or_false], by rw [HOS.out, HF.out]; exact HOk.out, HBk.out⟩
        case measure => simp [intOf]; omega
      | true =>
        rw [hbk] at ht HAS HOS
        have HF := Lib.hid (fl_true ff (oth fi bt k) (by rw [HOL.out, ← HN.out]; omega))
        rw [HOL.out] at HF
        clear hbk
        have hln : (fi + k) / 8 < N := by omega
        have cd : wr.cell? ⟨g, (fi + k) / 8, none⟩ = some (.int .u8 (((fl ff (oth fi bt k)).getD ((fi + k) / 8) 0 : Nat) : Int)) := by
          rw [HOk.out.cellAt _ (by omega)]
          simp [bc, List.getD, List.getElem?_eq_getElem (show (fi + k) / 8 < (fl ff (oth fi bt k)).length by rw [fl_len, ← HN.out]; exact hln)]
        have fd : wr.frozen? ⟨g, (fi + k) / 8, none⟩ = false := HOk.out.frozenAt _
        have hby := getD_byte (fl ff (oth fi bt k)) ((fi + k) / 8) (fl_byte _ _ HZB.out)
        have q0 : (((fi : Int) + (k : Int)) / 8).toNat = (fi + k) / 8 := by omega
        have q1 : (0 : Int) ≤ ((fi : Int) + (k : Int)) / 8 := by omega
        have q2 : ((fi : Int) + (k : Int)) / 8 < (N : Int) := by omega
        have q3 : (0 : Int) ≤ ((fi : Int) + (k : Int)) % 8 := by omega
        have q4 : ((fi : Int) + (k : Int)) % 8 ≤ 7 := by omega
        generalize (fl ff (oth fi bt k)).getD ((fi + k) / 8) 0 = x at *
        generalize anyT bt k = tn at *
        go_wp2
        go_region
        rw [xor_pwT x ((fi + k) % 8) hby (by omega)]
        go_wp2
        go_roundw
        case rel =>
          refine ⟨k + 1, by omega, by omega, by go_num, by rw [HAS.out, Bool.or_true], ?_, ?_⟩
          · have h1 := (HOk.out.stored ((fi + k) / 8) (.int .u8 ((x ^^^ pw ((fi + k) % 8) : Nat) : Int))).1
            rw [bc_set] at h1
            rw [HOS.out, HF.out]
            exact h1
          · exact (HBk.out.setCell (p := ⟨g, (fi + k) / 8, none⟩) (HOk.out.lt g rfl).1 _).drew
        case measure => simp [intOf]; omega
    · have hend : (k = 16 ∧ decide ((k : Int) < 16) = false) ∨ (decide ((k : Int) < 16) = true ∧ decide ((fi : Int) + (k : Int) < 8 * (N : Int)) = false) := by
        by_cases h16 : k = 16
        · exact .inl ⟨h16, decide_eq_false (by omega)⟩
        · exact .inr ⟨decide_eq_true (by omega), decide_eq_false (by omega)⟩
      have HG := Lib.hid (By.own HOk.out (fl_byte _ _ HZB.out))
      have HW : Hid (Below w.heap.size w wr) := Lib.hid (HW1.out.trans (HBk.out.mono HW1.out.size))
      clear hc
      cases han : anyT bt k with
      | true =>
        have hno := noFrm_oth ff fi bt k HZB.out HZ.out hk16 (by rw [← HN.out]; exact hkl) ((anyT_iff bt k).1 han)
        have HNO := Lib.hid (take_none HG.out (Nat.le_refl _) hno)
        clear han HAS HOS HOL hno
        rcases hend with ⟨rfl, t1⟩ | ⟨t1, t2⟩
        all_goals
          go_wp2_with fail
          refine HNO.out.mono ?_
          rintro e w5 ⟨rfl, hb5⟩
          have HB5 := Lib.hid ((HW.out.trans (hb5.mono HW.out.size)).trans ((box3_below w5 (.bool false) (.int .u64 0) (.slice none 0 0)).mono (Nat.le_trans HW.out.size hb5.size)))
          clear hb5 HNO HG
          go_wp2_with fail
          go_ret
          exact ⟨rfl, HB5.out⟩
      | false =>
        have hnb : ∀ j, j < k → bt.testBit j = false := fun j hj => by
          cases hb : bt.testBit j with
          | false => rfl
          | true =>
            have : anyT bt k = true := (anyT_iff bt k).2 ⟨j, hj, hb⟩
            rw [han] at this
            cases this
        have hsm := fl_none ff fi bt k hnb
        rw [hsm] at HG
        have HIT := Lib.hid (take_it HG.out (Nat.le_refl _) HIS.out)
        have hkr : wr.heap[w.heap.size]? = some (.cells #[.bool h, .int .u64 (n : Int), .slice A d.length c] 25 (0, 0)) := (HBk.out.block _ HT1.out).trans HKW.out
        have HKR := Lib.hid hkr
        have HDR : Hid (By wr.heap.size wr A d.length c d) := Lib.hid (by_later HD1.out HBk.out)
        clear han HAS HOS HOL hnb hsm hkr
        rcases hend with ⟨rfl, t1⟩ | ⟨t1, t2⟩
        all_goals
          go_wp2_with fail
          refine HIT.out.mono ?_
          rintro e w5 ⟨A5, c5, rfl, hy5, hb5⟩
          have hbx := box3_below w5 (.bool h) (.int .u64 (n : Int)) (.slice A5 d.length c5)
          have hk5 : (w5.alloc (.cells #[.bool h, .int .u64 (n : Int), .slice A5 d.length c5] 25)).heap[w.heap.size]? = _ := (hbx.block _ (Nat.lt_of_lt_of_le (lt_of_heap HKR.out) hb5.size)).trans ((hb5.block _ (lt_of_heap HKR.out)).trans HKR.out)
          obtain ⟨e0, e1, e2⟩ := pkt_cells hk5
          have HB5 := Lib.hid ((HW.out.trans (hb5.mono HW.out.size)).trans (hbx.mono (Nat.le_trans HW.out.size hb5.size)))
          have hy6 := by_later hy5 hbx
          have hd6 := by_later (by_later HDR.out hb5) hbx
          have HSY := Lib.hid (same_yes (h := h) (n := (n : Int)) hd6 hy6 (Nat.le_refl _))
          clear hb5 hbx hk5 hy5 hy6 hd6 HIT HG HDR HKR
          go_wp2_with fail
          refine HSY.out.mono ?_
          rintro e w7 ⟨rfl, hb7⟩
          have HB7 := Lib.hid (HB5.out.trans (hb7.mono HB5.out.size))
          clear hb7 HSY HB5
          go_wp2_with fail
          go_ret
          exact ⟨rfl, HB7.out⟩
end Ln
end Go.Proofs.Ytjjaomnlkpdeeaa
