/-
  Layer 5: the document's Is.
-/
import Derived.Test.YtaioiobimenkfaaDoorPtR2
import Derived.Test.YtaioiobimenkfaaDoorPtIs
set_option linter.unusedVariables false
set_option maxRecDepth 100000
namespace Go.Proofs.YtaioiobimenkfaaDoor
open Go.RowKit Fl Pt

theorem any_mI (xs : List Nat) (n : Nat) (x : Int) (h : n = xs.length) : mI (fun j => ((xs.getD j 0 : Nat) : Int)) n x = xs.any (fun y => ((y : Int) == x)) := by
  rw [← contains_nats xs n x h, Bool.eq_iff_iff, List.contains_iff_mem]
  unfold mI il
  rw [List.any_eq_true]
  simp
/-- A map lies boxed in a block. -/
structure MX (M : Nat) (AN AL AO : Option Addr) (n cN cL cO : Nat) (w : World) : Prop where
  c0 : w.cell? ⟨M, 0, none⟩ = some (.slice AN n cN)
  c1 : w.cell? ⟨M, 1, none⟩ = some (.slice AL n cL)
  c2 : w.cell? ⟨M, 2, none⟩ = some (.slice AO n cO)
  lt : M < w.heap.size
theorem MX.later {M : Nat} {AN AL AO : Option Addr} {n cN cL cO : Nat} {w w' : World} (h : MX M AN AL AO n cN cL cO w) (hb : Below w.heap.size w w') : MX M AN AL AO n cN cL cO w' :=
  ⟨(hb.cell (p := ⟨M, 0, none⟩) h.lt).trans h.c0, (hb.cell (p := ⟨M, 1, none⟩) h.lt).trans h.c1, (hb.cell (p := ⟨M, 2, none⟩) h.lt).trans h.c2, Nat.lt_of_lt_of_le h.lt hb.size⟩
theorem rin_is (B : Nat) (A : Option Addr) (n cap : Nat) {xs : List Nat} (x : Int) (w : World) (h : Il B w A n cap (fun j => ((xs.getD j 0 : Nat) : Int))) (hn : n = xs.length) {v : Bool} (hv : xs.any (fun y => ((y : Int) == x)) = v) :
    Calls Tryd.prog 31 #[.int .i64 x, .slice A n cap] w fun e w' => e = .returned (.bool v) ∧ w = w' :=
  (rin_any B A n cap _ x w h).mono fun e w' ⟨h1, h2⟩ => ⟨by rw [h1, any_mI _ _ _ hn, hv], h2⟩
set_option maxHeartbeats 4000000 in
theorem ris_any (W H : Int) (s : ByteArray) (hs : s.size ≤ maxLen) (a : Int) (A : Option Addr) (n cap : Nat) (f : Nat → Int) (A2 : Option Addr) (n2 cap2 : Nat) (f2 : Nat → Int) (w : World) (h : Il w.heap.size w A n cap f) (h2 : Il w.heap.size w A2 n2 cap2 f2) :
    Calls Tryd.prog 18 #[.agg #[.int .i64 W, .int .i64 H, .string s], .int .i64 a, .slice A n cap, .slice A2 n2 cap2] w (Told (IsWay W H s a (mk f2 n2) (il f n)) w) := by
  have HI := Lib.hid h
  have HI2 := Lib.hid h2
  have HOF := Lib.hid (of_any W H s hs)
  have hsz := h.size
  have hle := h.le
  clear h h2
  go_enter Tryd.func18, Tryd.ntmps18
  go_wp2_with fail
  refine (HOF.out _).mono ?_
  rintro e w1 ⟨AN, n1, cN, AL, cL, AO, cO, rfl, hb1, hyes, hno⟩
  have HX1 := Lib.hid ((Box.start w W H s 23).after hb1)
  clear hb1
  by_cases hR : Right W H s
  · have HMP := Lib.hid (hyes hR)
    obtain ⟨W, H, rfl, rfl, hSd, hN⟩ := rightNat hR
    have HR := Lib.hid hR
    have HSD := Lib.hid hSd
    have h256 := hSd.le
    clear hyes hno hR hSd hN
    have HX2 := Lib.hid (HX1.out.after ((Below.refl w1.heap.size w1).alloc (Nat.le_refl _) (.cells #[.slice AN n1 cN, .slice AL n1 cL, .slice AO n1 cO] 48)))
    have HM2 : Hid (MX w1.heap.size AN AL AO n1 cN cL cO (w1.alloc (.cells #[.slice AN n1 cN, .slice AL n1 cL, .slice AO n1 cO] 48))) := Lib.hid (by
      obtain ⟨b0, b1, b2, _⟩ := map_box w1 (.slice AN n1 cN) (.slice AL n1 cL) (.slice AO n1 cO)
      exact ⟨b0, b1, b2, by rw [alloc_size]; exact Nat.lt_succ_self _⟩)
    have HMP2 := Lib.hid (HMP.out.later ((Below.refl w1.heap.size w1).alloc (Nat.le_refl _) (.cells #[.slice AN n1 cN, .slice AL n1 cL, .slice AO n1 cO] 48)))
    go_wp2_with fail
    obtain ⟨M, hM⟩ : ∃ M, M = w1.heap.size := ⟨_, rfl⟩
    rw [← hM] at HM2 ⊢
    obtain ⟨w2, hw2⟩ : ∃ w2, w2 = w1.alloc (.cells #[.slice AN n1 cN, .slice AL n1 cL, .slice AO n1 cO] 48) := ⟨_, rfl⟩
    rw [← hw2] at HM2 HX2 HMP2 ⊢
    clear hM hw2 HMP
    have HN1 := Lib.hid HMP2.out.sz
    refine (ropen_map a _ HMP2.out h256).mono ?_
    rintro e w3 ⟨b, rfl, hb, hb3⟩
    have HX3 := Lib.hid (HX2.out.after hb3)
    have HM3 := Lib.hid (HM2.out.later hb3)
    have HMP3 := Lib.hid (HMP2.out.later hb3)
    have HBB := Lib.hid hb
    clear hb hb3 HM2 HMP2
    cases b with
    | false =>
      go_wp2_with fail
      go_ret
      exact ⟨false, rfl, ⟨(fun e => by cases e), (fun h => HBB.out.2 h.1.2)⟩, HX3.out.below⟩
    | true =>
      have h35 := HBB.out.1 rfl
      obtain ⟨k, e, hk, hz⟩ := bAt_in h35
      subst e
      rw [hz] at h35
      have hk1 : k < n1 := by rw [HN1.out]; exact hk
      have HON : Hid (OnFloor (W : Int) (H : Int) s (k : Int)) := Lib.hid ⟨HR.out, by rw [hz]; exact h35⟩
      have HZ := Lib.hid h35
      clear hz h35 HBB
      go_wp2_with fail
      go_loopw [10, 11] (fun av iv wr => ∃ (j c : Nat), j ≤ n ∧ iv = .int .i64 (j : Int) ∧ av = .int .i64 (c : Int) ∧ c = atI k f j ∧ c < n1 ∧ Hid (at_ s c ≠ 35) ∧ Hid (chI (nx5 W H (at_ s) k (mk f2 n2)) k (il f j) = true) ∧ MapAt wr W H s AN AL AO n1 cN cL cO ∧ MX M AN AL AO n1 cN cL cO wr ∧ Below w.heap.size w wr) (fun _ iv _ => n - (intOf iv).toNat)
      case atStart => exact ⟨0, k, Nat.zero_le _, rfl, rfl, rfl, hk1, HZ, Lib.hid rfl, HMP3.out, HM3.out, HX3.out.below⟩
      case round =>
        rename World => wr
        obtain ⟨j, c, hj, rfl, rfl, hc, hcs, HCZ, HCH, hmp, hmx, hb⟩ := hrel
        have HC := Lib.hid hc
        have HMP := Lib.hid hmp
        have HMX := Lib.hid hmx
        have HB := Lib.hid hb
        have c0 := hmx.c0
        have c1 := hmx.c1
        have c2 := hmx.c2
        have hMl := hmx.lt
        clear hc hmp hmx hb HMP3 HM3
        by_cases hlj : j < n
        · obtain ⟨g, off, rfl, hgB, hcell⟩ := HI.out.cell (by omega)
          have hcj := (HB.out.cell (p := ⟨g, off + j, none⟩) hgB).trans (hcell j hlj)
          have HSU := Lib.hid (chI_succ (nx5 W H (at_ s) k (mk f2 n2)) k f j)
          have HAT := Lib.hid (atI_succ k f j)
          obtain ⟨x, hx⟩ : ∃ x, x = f j := ⟨_, rfl⟩
          rw [← hx] at hcj
          have HXJ := Lib.hid hx
          have hgW : g < wr.heap.size := Nat.lt_of_lt_of_le hgB HB.out.size
          have hjI : (j : Int) < (n : Int) := by omega
          clear hcell hx
          obtain ⟨v, hv⟩ : ∃ v, (nx5 W H (at_ s) k (mk f2 n2) c).any (fun y => ((y : Int) == x)) = v := ⟨_, rfl⟩
          have HV := Lib.hid hv
          clear hv
          cases v with
          | true =>
            go_wp2_with fail
            go_region_held3 (fun w' => w'.cell? ⟨M, 0, none⟩ = some (.slice AN n1 cN) ∧ w'.cell? ⟨M, 1, none⟩ = some (.slice AL n1 cL) ∧ w'.cell? ⟨M, 2, none⟩ = some (.slice AO n1 cO) ∧ w'.cell? ⟨g, off + j, none⟩ = some (.int .i64 x)) (go_keep)
              ((first
                | (go_at_call 32; refine (rsteps_any c k A2 n2 cap2 f2 _ (HMP.out.later (Below.refl _ _).drew) h256 hcs hk1 HCZ.out (args_il HI2.out HB.out.drew)).mono ?_; rintro e w4 ⟨A4, n4, k4, rfl, hn4, ho4, hb4⟩; have HB4 := Lib.hid (HB.out.drew.trans (hb4.mono HB.out.size)); have HMP4 := Lib.hid ((HMP.out.later (Below.refl _ _).drew).later hb4); have HMX4 := Lib.hid ((HMX.out.later (Below.refl _ _).drew).later hb4); have HIL := Lib.hid (Own.il ho4 hn4); have HN4 := Lib.hid hn4; have e0 := HMX4.out.c0; have e1 := HMX4.out.c1; have e2 := HMX4.out.c2; have e3 := (hb4.cell (p := ⟨g, off + j, none⟩) hgW).trans hcj; clear hn4 ho4 hb4)
                | (go_at_call 31; refine (rin_is _ A4 n4 k4 x _ HIL.out HN4.out HV.out).mono ?_; rintro e w' ⟨rfl, rfl⟩)))
            have ha := HV.out
            clear c0 c1 c2 hcj
            have HY : Hid (∃ y : Nat, x = y ∧ y < n1 ∧ at_ s y ≠ 35) := Lib.hid (by
              obtain ⟨y, hy, e⟩ := List.any_eq_true.1 ha
              refine ⟨y, (beq_iff_eq.1 e).symm, ?_, (mem_nr.1 (mem_nx5.1 hy).2.1).2⟩
              have hS := HSD.out
              rw [HN1.out, hS.sz] at hcs ⊢
              exact nx5_lt hS.w1 c y hcs hy)
            obtain ⟨y, hxy, hys, hyz⟩ := HY.out
            have HYZ := Lib.hid hyz
            have HAN := Lib.hid ha
            subst hxy
            clear ha HY hyz
            go_wp2_with fail
            go_roundw
            case rel => exact ⟨j + 1, y, by omega, by go_num, rfl, by rw [HAT.out, ← HXJ.out]; rfl, hys, HYZ, Lib.hid (by rw [HSU.out, HCH.out, ← HXJ.out, ← HC.out, HAN.out]; rfl), HMP4.out, HMX4.out, HB4.out⟩
            case measure => simp [intOf]; omega
          | false =>
            go_wp2_with fail
            go_region_held3 (fun w' => w'.cell? ⟨M, 0, none⟩ = some (.slice AN n1 cN) ∧ w'.cell? ⟨M, 1, none⟩ = some (.slice AL n1 cL) ∧ w'.cell? ⟨M, 2, none⟩ = some (.slice AO n1 cO) ∧ w'.cell? ⟨g, off + j, none⟩ = some (.int .i64 x)) (go_keep)
              ((first
                | (go_at_call 32; refine (rsteps_any c k A2 n2 cap2 f2 _ (HMP.out.later (Below.refl _ _).drew) h256 hcs hk1 HCZ.out (args_il HI2.out HB.out.drew)).mono ?_; rintro e w4 ⟨A4, n4, k4, rfl, hn4, ho4, hb4⟩; have HB4 := Lib.hid (HB.out.drew.trans (hb4.mono HB.out.size)); have HMP4 := Lib.hid ((HMP.out.later (Below.refl _ _).drew).later hb4); have HMX4 := Lib.hid ((HMX.out.later (Below.refl _ _).drew).later hb4); have HIL := Lib.hid (Own.il ho4 hn4); have HN4 := Lib.hid hn4; have e0 := HMX4.out.c0; have e1 := HMX4.out.c1; have e2 := HMX4.out.c2; have e3 := (hb4.cell (p := ⟨g, off + j, none⟩) hgW).trans hcj; clear hn4 ho4 hb4)
                | (go_at_call 31; refine (rin_is _ A4 n4 k4 x _ HIL.out HN4.out HV.out).mono ?_; rintro e w' ⟨rfl, rfl⟩)))
            have ha := HV.out
            clear c0 c1 c2 hcj
            have HAN := Lib.hid ha
            clear ha
            go_wp2_with fail
            go_ret
            refine ⟨false, rfl, ⟨(fun h => by cases h), (fun h => ?_)⟩, HB4.out⟩
            obtain ⟨q, hq⟩ := il_front f (m := j + 1) (n := n) (by omega)
            have h2 := h.2
            rw [hq] at h2
            have h3 : chI (nx5 W H (at_ s) k (mk f2 n2)) k (il f (j + 1)) = true := chI_front _ _ _ _ h2
            rw [HSU.out, ← HXJ.out, ← HC.out, HAN.out, Bool.and_false] at h3
            exact h3
        · obtain rfl : j = n := by omega
          go_wp2_with fail
          go_ret
          exact ⟨true, rfl, ⟨(fun _ => ⟨HON.out, HCH.out⟩), (fun _ => rfl)⟩, HB.out⟩
  · obtain ⟨rfl, rfl, rfl, rfl, rfl, rfl, rfl⟩ := hno hR
    have HR := Lib.hid hR
    clear hyes hno hR
    go_wp2_with fail
    refine (ropen_none a _).mono ?_
    rintro e w2 ⟨rfl, hb2⟩
    have HX2 := Lib.hid ((HX1.out.after ((Below.refl w1.heap.size w1).alloc (Nat.le_refl _) (.cells #[.slice none 0 0, .slice none 0 0, .slice none 0 0] 48))).after hb2)
    clear hb2
    go_wp2_with fail
    go_ret
    exact ⟨false, rfl, ⟨(fun e => by cases e), (fun h => absurd h.1.1 HR.out)⟩, HX2.out.below⟩
end Go.Proofs.YtaioiobimenkfaaDoor
