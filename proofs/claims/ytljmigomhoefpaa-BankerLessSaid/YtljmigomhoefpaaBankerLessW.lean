/-
  BankerLess: the walk.
-/
import Derived.Test.YtljmigomhoefpaaBkK
set_option linter.unusedVariables false
set_option maxRecDepth 100000
namespace Go.Proofs.Ytljmigomhoefpaa.Bk
open Go.RowKit

theorem cl_few {w : World} {A : Option Addr} {n cap : Nat} {C : Cm} (h : Cl w.heap.size w A n cap C) {m : Nat} (hm : FewIs C m) : Cl w.heap.size w A m cap (C.take m) := h.cut (by rw [← h.len]; exact hm.le)
theorem less_hold {D : Cm} (h : Rg D ∧ SafC D) {i : Nat} (hi : i < D.length) (k : Nat) : Rg (D.set i ((hold D i).take k, need D i)) ∧ SafC (D.set i ((hold D i).take k, need D i)) :=
  ⟨h.1.less hi _ (fun z hz => List.mem_of_mem_take hz) (fun z hz => hz), h.2.less hi _ (fun z hz => List.mem_of_mem_take hz) (fun z hz => hz)⟩
theorem less_need {D : Cm} (h : Rg D ∧ SafC D) {i : Nat} (hi : i < D.length) (k : Nat) : Rg (D.set i (hold D i, (need D i).drop k)) ∧ SafC (D.set i (hold D i, (need D i).drop k)) :=
  ⟨h.1.less hi _ (fun z hz => hz) (fun z hz => List.mem_of_mem_drop hz), h.2.less hi _ (fun z hz => hz) (fun z hz => List.mem_of_mem_drop hz)⟩
set_option maxHeartbeats 4000000 in
theorem bankerLess_walk (A : Option Addr) (n cap : Nat) (C : Cm) (w : World) (h : Cl w.heap.size w A n cap C) (_ : True) : Calls Try.prog 7 #[.slice A n cap] w fun e w' => e = .returned (.bool true) ∧ Below w.heap.size w w' := by
  have HC := Lib.hid h
  clear h
  go_enter Try.func7, Try.ntmps7
  go_wp2_with fail
  refine (shown_any _).mono ?_
  rintro e w1 ⟨rfl, hb1⟩
  have HB1 := Lib.hid hb1
  have HC1 := Lib.hid (HC.out.later hb1)
  clear hb1
  go_wp2_with fail
  refine (few_any A n cap _ C _ HC1.out).mono ?_
  rintro e w' ⟨m, rfl, hm, rfl⟩
  have HD1 := Lib.hid (cl_few HC1.out hm)
  have hm9 := hm.nine
  clear hm HC1
  generalize C.take m = D at *
  have HN := Lib.hid HD1.out.len
  have hs := HD1.out.size
  have hs1 := hs.1
  have hs2 := hs.2
  clear hs
  go_wp2_with fail
  refine (safe_any A m cap D _ HD1.out).mono ?_
  rintro e w2 ⟨b, rfl, hb, hb2⟩
  have HB2 := Lib.hid (HB1.out.trans (hb2.mono HB1.out.size))
  have HD2 := Lib.hid (HD1.out.later hb2)
  clear hb2
  cases b with
  | false =>
    clear hb
    go_wp2_with fail
    go_ret
    exact ⟨rfl, HB2.out⟩
  | true =>
    have HR : Hid (Rg D ∧ SafC D) := Lib.hid (hb.1 rfl)
    clear hb
    go_wp2_with fail
    go_loopw [18] (fun iv wr => ∃ i : Nat, i ≤ m ∧ iv = .int .i64 (i : Int) ∧ Hid (Below w2.heap.size w2 wr)) (fun iv _ => m - (intOf iv).toNat)
    case atStart => exact ⟨0, Nat.zero_le _, rfl, Lib.hid (Below.refl _ _)⟩
    case round =>
      rename World => wr
      obtain ⟨i, hi, rfl, HW⟩ := hrel
      by_cases hlt : i < m
      · have HDr := Lib.hid (HD2.out.later HW.out)
        obtain ⟨g, off, a1, n1, c1, a2, n2, c2, rfl, hg, q1, q2, k1, k2⟩ := HDr.out.cell hlt
        have HK1 := Lib.hid k1
        have HK2 := Lib.hid k2
        have HQ1 := Lib.hid q1
        have HQ2 := Lib.hid q2
        have HG := Lib.hid hg
        have s1 := (Gt.size k1).1
        have s2 := (Gt.size k1).2
        have s3 := (Gt.size k2).1
        have s4 := (Gt.size k2).2
        clear k1 k2 q1 q2 hg
        obtain ⟨P, hP1, hP2⟩ := HDr.out
        have hiP : i < P.length := by rw [hP2.1, HN.out]; exact hlt
        have hPi : ∃ p, P[i]? = some p := ⟨_, List.getElem?_eq_getElem hiP⟩
        obtain ⟨p, hp⟩ := hPi
        have HPP := Lib.hid hp
        have HPR := Lib.hid hP2
        have HPO := Lib.hid hP2.one
        have HA := (Below.refl wr.heap.size wr).alloc (Nat.le_refl _) (.cells #[] 33)
        have HP1 := Lib.hid ((hP1.below HA).raise HA.size)
        have HPL : Hid (([] : List (Value × Value)).length + m ≤ 1000000) := Lib.hid (by simp; omega)
        clear hP1 hP2 hiP hp
        go_upto_if 31 with (at_builtin; refine app_claims rfl _ _ rfl wr.heap.size (.slice (some ⟨wr.heap.size, 0, none⟩) 0 0) [] rfl (Cw.empty wr wr.heap.size (Nat.le_refl _)) _ m cap P rfl HP1.out HPO.out HPL.out (by simp) ?_; intro A5 n5 c5 w5 hn5 ho5 hb5 hg5 hd5; have HO5 := Lib.hid ho5; have HB5 := Lib.hid (HA.trans hb5); have HN5 := Lib.hid hn5; have r1 := (HB5.out.cell (p := ⟨g, off + i * 2, none⟩) HG.out).trans HQ1.out; clear ho5 hb5 hn5 hg5 hd5)
        obtain ⟨gy, rfl, hgy1, hgy2⟩ := HO5.out.some (by simp; exact Nat.lt_of_le_of_lt (Nat.zero_le _) (List.getElem?_eq_some_iff.1 HPP.out).1)
        have HGY := Lib.hid (And.intro hgy1 hgy2)
        obtain rfl : n5 = m := by rw [HN5.out, List.nil_append, HPR.out.1, HN.out]
        have HO6 : Hid (Cw w5 wr.heap.size (.slice (some ⟨gy, 0, none⟩) n5 c5) P) := HO5
        have HPR5 := Lib.hid (HPR.out.below HB5.out)
        have HYS := Lib.hid (Yst.start HB5.out HO6.out HPR5.out (by rw [HN.out]; exact hlt))
        have HLD := Lib.hid (less_hold HR.out (show i < D.length by rw [HN.out]; exact hlt))
        have HLN := Lib.hid (less_need HR.out (show i < D.length by rw [HN.out]; exact hlt))
        clear HA hgy1 hgy2
        go_cut [6] (fun yv wc => yv = .slice (some ⟨gy, 0, none⟩) n5 c5 ∧ Hid (Yst wr gy n5 c5 i P D wc))
        case first =>
          by_cases hn1 : 0 < n1
          · have y0 := (HO6.out.cells HPP.out).1
            have y2 := (HO6.out.cells HPP.out).2.2.1
            obtain ⟨t, ht⟩ : ∃ t, t + 1 = n1 := ⟨n1 - 1, by omega⟩
            have hw1 : IntKind.i64.wrap ((n1 : Int) - 1) = (t : Int) := by rw [IntWalk.i64_in _ (by omega)]; omega
            have ht0 : (0 : Int) ≤ (t : Int) := by omega
            have ht1 : (t : Int) ≤ (c1 : Int) := by omega
            have HT : Hid (t ≤ n1) := Lib.hid (by omega)
            have HS6 : Hid (Cl (w5.setCell ⟨gy, i * 2, none⟩ (.slice a1 t c1)).heap.size (w5.setCell ⟨gy, i * 2, none⟩ (.slice a1 t c1)) (some ⟨gy, 0, none⟩) n5 c5 (D.set i ((hold D i).take t, need D i)) ∧ Yst wr gy n5 c5 i P D (w5.setCell ⟨gy, i * 2, none⟩ (.slice a1 t c1))) := Lib.hid (by
              have hcw := HO6.out.put0 HPP.out (.slice a1 t c1)
              have hbl : Below wr.heap.size w5 (w5.setCell ⟨gy, i * 2, none⟩ (.slice a1 t c1)) := (Below.refl _ _).setCell HGY.out.1 _
              have hsl : Lt wr.heap.size (w5.setCell ⟨gy, i * 2, none⟩ (.slice a1 t c1)) a1 t c1 ((hold D i).take t) := by
                have := Gt.cut (Gt.below (Gt.below HK1.out HB5.out) hbl) HT.out
                rw [Nat.mul_one] at this
                unfold Lt
                rw [show ivs ((hold D i).take t) = (ivs (hold D i)).take t by simp [ivs]]
                exact this
              have hrd := ((HPR5.out.below hbl)).set (i := i) (by rw [HN.out]; exact hlt) (.slice a1 t c1, p.2) ((hold D i).take t, need D i) ⟨_, _, _, rfl, hsl⟩ ((HPR5.out.below hbl).2 i p HPP.out).2
              exact ⟨⟨_, hcw.gt.2, hrd.raise (by have := hcw.some (by simp; exact Nat.lt_of_le_of_lt (Nat.zero_le _) (List.getElem?_eq_some_iff.1 HPP.out).1); obtain ⟨_, e, h1, h2⟩ := this; omega)⟩, HB5.out.setCell HGY.out.1 _, _, _, hcw, hrd⟩)
            clear ht
            go_wp2_with fail
            refine (safe_any _ n5 c5 _ _ HS6.out.1).mono ?_
            rintro e w7 ⟨b7, rfl, hb7, hc7⟩
            obtain rfl : b7 = true := hb7.2 (HLD.out t)
            have HY7 := Lib.hid (HS6.out.2.later hc7)
            clear hb7 hc7
            go_wp2_with fail
            go_meet
            exact ⟨rfl, HY7⟩
          · have hd1 : decide (0 < n1) = false := decide_eq_false hn1
            go_wp2_with fail
            go_meet
            exact ⟨rfl, HYS⟩
        case rest =>
          obtain ⟨rfl, HYC⟩ := hcut
          rename World => wc
          have HBC := Lib.hid HYC.out.below
          obtain ⟨q9, e9, hcw9, hrd9⟩ := HYC.out.ex
          have hq9 : (P.set i q9)[i]? = some q9 := by
            rw [List.getElem?_set, if_pos rfl, if_pos (List.getElem?_eq_some_iff.1 HPP.out).1]
          have y0 := (hcw9.cells hq9).1
          have y1 := (hcw9.cells hq9).2.1
          have y2 := (hcw9.cells hq9).2.2.1
          have y3 := (hcw9.cells hq9).2.2.2
          have r1 := (HBC.out.cell (p := ⟨g, off + i * 2, none⟩) HG.out).trans HQ1.out
          have r2 := (HBC.out.cell (p := ⟨g, off + i * 2 + 1, none⟩) HG.out).trans HQ2.out
          have HCW9 := Lib.hid hcw9
          have HRD9 := Lib.hid hrd9
          have HQ9 := Lib.hid hq9
          clear hcw9 hrd9 hq9
          have hgg : g < gy := Nat.lt_of_lt_of_le HG.out HGY.out.1
          go_upto_if 61 with (fail)
          have HZ : Hid (Cw ((wc.setCell ⟨gy, i * 2, none⟩ (.slice a1 n1 c1)).setCell ⟨gy, i * 2 + 1, none⟩ (.slice a2 n2 c2)) wr.heap.size (.slice (some ⟨gy, 0, none⟩) n5 c5) (P.set i (.slice a1 n1 c1, .slice a2 n2 c2)) ∧ Below wr.heap.size wr ((wc.setCell ⟨gy, i * 2, none⟩ (.slice a1 n1 c1)).setCell ⟨gy, i * 2 + 1, none⟩ (.slice a2 n2 c2))) := Lib.hid (by
            have h1 := HCW9.out.put0 HQ9.out (.slice a1 n1 c1)
            rw [List.set_set] at h1
            have hq : (P.set i (.slice a1 n1 c1, q9.2))[i]? = some (.slice a1 n1 c1, q9.2) := by
              rw [List.getElem?_set, if_pos rfl, if_pos (List.getElem?_eq_some_iff.1 HPP.out).1]
            have h2 := h1.put1 hq (.slice a2 n2 c2)
            rw [List.set_set] at h2
            exact ⟨h2, (HBC.out.setCell HGY.out.1 _).setCell HGY.out.1 _⟩)
          clear y0 y1 y2 y3 HCW9 HRD9 HQ9
          generalize (wc.setCell ⟨gy, i * 2, none⟩ (.slice a1 n1 c1)).setCell ⟨gy, i * 2 + 1, none⟩ (.slice a2 n2 c2) = wd at *
          clear r1 r2
          go_cut [6] (fun yv wf => Hid (Below wr.heap.size wr wf))
          case first =>
            by_cases hn2 : 0 < n2
            · have hqd : (P.set i (.slice a1 n1 c1, .slice a2 n2 c2))[i]? = some (.slice a1 n1 c1, .slice a2 n2 c2) := by
                rw [List.getElem?_set, if_pos rfl, if_pos (List.getElem?_eq_some_iff.1 HPP.out).1]
              have y0 := (HZ.out.1.cells hqd).2.1
              have y2 := (HZ.out.1.cells hqd).2.2.2
              have r2 := (HZ.out.2.cell (p := ⟨g, off + i * 2 + 1, none⟩) HG.out).trans HQ2.out
              obtain ⟨g2, o2, hA2⟩ : ∃ g2 o2, a2 = some ⟨g2, o2, none⟩ := by
                obtain ⟨g2, o2, e, _⟩ := Gt.cell HK2.out hn2
                exact ⟨g2, o2, e⟩
              subst hA2
              have HQD := Lib.hid hqd
              have h1n : (1 : Int) ≤ (n2 : Int) := by omega
              have hnc : (n2 : Int) ≤ (c2 : Int) := by omega
              clear hqd
              obtain ⟨a9, ha9, HA9⟩ : ∃ a9, (if c2 = 1 then some ⟨g2, o2, none⟩ else some ⟨g2, o2 + 1, none⟩) = a9 ∧ Hid (Lt wr.heap.size wr a9 (n2 - 1) (c2 - 1) ((need D i).drop 1)) := by
                refine ⟨_, rfl, Lib.hid ?_⟩
                have := Gt.tail HK2.out (m := 1) (by omega) (if c2 = 1 then some ⟨g2, o2, none⟩ else some ⟨g2, o2 + 1, none⟩) (by split <;> simp) (fun h => by rw [if_neg (by omega)])
                unfold Lt
                rw [show ivs ((need D i).drop 1) = (ivs (need D i)).drop (1 * 1) by simp [ivs]]
                exact this
              have HS6 : Hid (Cl (wd.setCell ⟨gy, i * 2 + 1, none⟩ (.slice a9 (n2 - 1) (c2 - 1))).heap.size (wd.setCell ⟨gy, i * 2 + 1, none⟩ (.slice a9 (n2 - 1) (c2 - 1))) (some ⟨gy, 0, none⟩) n5 c5 (D.set i (hold D i, (need D i).drop 1)) ∧ Below wr.heap.size wr (wd.setCell ⟨gy, i * 2 + 1, none⟩ (.slice a9 (n2 - 1) (c2 - 1)))) := Lib.hid (by
                have hcw := HZ.out.1.put1 HQD.out (.slice a9 (n2 - 1) (c2 - 1))
                rw [List.set_set] at hcw
                have hbl : Below wr.heap.size wr (wd.setCell ⟨gy, i * 2 + 1, none⟩ (.slice a9 (n2 - 1) (c2 - 1))) := HZ.out.2.setCell HGY.out.1 _
                have hrd := ((HPR.out.below hbl)).set (i := i) (by rw [HN.out]; exact hlt) (.slice a1 n1 c1, .slice a9 (n2 - 1) (c2 - 1)) (hold D i, (need D i).drop 1) ⟨_, _, _, rfl, Gt.below HK1.out hbl⟩ ⟨_, _, _, rfl, Gt.below HA9.out hbl⟩
                exact ⟨⟨_, hcw.gt.2, hrd.raise hbl.size⟩, hbl⟩)
              by_cases hc1 : c2 = 1
              · rw [if_pos hc1] at ha9
                subst ha9
                obtain rfl : n2 = 1 := by omega
                subst hc1
                go_wp2_with fail
                refine (safe_any _ n5 c5 _ _ HS6.out.1).mono ?_
                rintro e w7 ⟨b7, rfl, hb7, hc7⟩
                obtain rfl : b7 = true := hb7.2 (HLN.out 1)
                have HY7 : Hid (Below wr.heap.size wr w7) := Lib.hid (HS6.out.2.trans (hc7.mono HS6.out.2.size))
                clear hb7 hc7
                go_wp2_with fail
                go_meet
                exact HY7
              · rw [if_neg hc1] at ha9
                subst ha9
                go_wp2_with fail
                refine (safe_any _ n5 c5 _ _ HS6.out.1).mono ?_
                rintro e w7 ⟨b7, rfl, hb7, hc7⟩
                obtain rfl : b7 = true := hb7.2 (HLN.out 1)
                have HY7 : Hid (Below wr.heap.size wr w7) := Lib.hid (HS6.out.2.trans (hc7.mono HS6.out.2.size))
                clear hb7 hc7
                go_wp2_with fail
                go_meet
                exact HY7
            · go_wp2_with fail
              go_meet
              exact Lib.hid HZ.out.2
          case rest =>
            rename World => wf
            have HDf := Lib.hid (HDr.out.later hcut.out)
            have HWf := Lib.hid (HW.out.trans (hcut.out.mono HW.out.size))
            clear hcut
            go_wp2_with fail
            refine (without_any _ n5 cap D i _ HDf.out hlt hm9).mono ?_
            rintro e wg ⟨Ag, mg, cg, rfl, hdg, hcg⟩
            have HDg := Lib.hid hdg
            have HWg := Lib.hid (HWf.out.trans (hcg.mono HWf.out.size))
            clear hdg hcg
            go_wp2_with fail
            refine (safe_any Ag mg cg _ _ HDg.out).mono ?_
            rintro e wh ⟨bh, rfl, hbh, hch⟩
            obtain rfl : bh = true := hbh.2 ⟨HR.out.1.erase (by rw [HN.out]; exact hlt), HR.out.2.erase (by rw [HN.out]; exact hlt)⟩
            have HWh := Lib.hid (HWg.out.trans (hch.mono HWg.out.size))
            clear hbh hch
            go_wp2_with fail
            go_roundw
            case rel => exact ⟨i + 1, by omega, by go_num, HWh⟩
            case measure => simp [intOf]; omega
      · obtain rfl : i = m := by omega
        go_wp2_with fail
        go_ret
        exact ⟨rfl, HB2.out.trans (HW.out.mono HB2.out.size)⟩
end Go.Proofs.Ytljmigomhoefpaa.Bk
