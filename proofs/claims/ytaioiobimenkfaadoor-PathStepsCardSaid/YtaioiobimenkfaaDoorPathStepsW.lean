/-
  PathSteps: the walk.
-/
import Derived.Test.YtaioiobimenkfaaDoorPtSet
set_option linter.unusedVariables false
set_option maxRecDepth 100000
namespace Go.Proofs.YtaioiobimenkfaaDoor
open Go.RowKit Fl Pt Go.Maps

theorem run_makeMapB (w : World) : (Instr.makeMap 36 none).run Tryd.prog w = .ok (.map (some w.heap.size)) (w.alloc (.map #[] 0)) := by
  simp [Instr.makeMap, Result.andThen]

theorem bAt_in5 (s : ByteArray) (k : Nat) (h : k < s.size) : bAt s (k : Int) = at_ s k := by
  unfold bAt; rw [if_pos (by omega), Int.toNat_natCast]
/-- What is near to a cell, as layer 3 tells it: of a wall nothing is. -/
def nrw (W H : Nat) (z : Nat → Nat) (c : Nat) : List Nat := if z c ≠ 35 then nr W H z c else []
theorem isD_wall {W H a c : Nat} {z : Nat → Nat} {B : Nat → Bool} {x : Int} (haw : z a ≠ 35) (hx : IsD (nx5 W H z a B) a c x) (h : z c = 35) : x = -1 := by
  rcases hx with ⟨e, _⟩ | ⟨n, rfl, hl⟩
  · exact e
  · rcases hl.1.inv with ⟨_, e⟩ | ⟨m, b, _, _, hb⟩
    · subst e; exact absurd h haw
    · exact absurd h (mem_nr.1 (mem_nx5.1 hb).2.1).2
structure StepsAt (W H a N : Nat) (z : Nat → Nat) (B : Nat → Bool) (F : List Int) (i : Nat) : Prop where
  lt : ∀ y, y ∈ nrw W H z i → y < N
  le : ∀ y, y ∈ nrw W H z i → 0 ≤ F.getD i 0 → outB z a i = true → B y = false → 0 ≤ F.getD y 0 ∧ F.getD y 0 ≤ F.getD i 0 + 1
  near : 0 < F.getD i 0 → ∃ y, y ∈ nrw W H z i ∧ F.getD y 0 = F.getD i 0 - 1
  zero : F.getD i 0 = 0 ↔ i = a
theorem steps_at {W H a N : Nat} {z : Nat → Nat} {B : Nat → Bool} {F : List Int} (hW : 1 ≤ W) (hN : N = W * H) (ha : a < N) (haw : z a ≠ 35) (hF : ∀ x, x < N → IsD (nx5 W H z a B) a x (F.getD x 0)) {i : Nat} (hi : i < N) : StepsAt W H a N z B F i := by
  subst hN
  have hm : ∀ y, y ∈ nrw W H z i → y ∈ nr W H z i ∧ z i ≠ 35 := fun y hy => by
    unfold nrw at hy
    split at hy
    · exact ⟨hy, by assumption⟩
    · cases hy
  refine ⟨fun y hy => nr_lt hW hi (hm y hy).1, fun y hy h0 ho hb => ?_, fun h0 => ?_, isD_zero (hF i hi)⟩
  · have hy' := (hm y hy).1
    exact step_le (hF i hi) (hF y (nr_lt hW hi hy')) h0 (mem_nx5.2 ⟨outB_iff.1 ho, hy', hb⟩)
  · obtain ⟨b, hb, hbN, hd⟩ := step_near hW ha haw (hF i hi) h0
    refine ⟨b, ?_, (hF b hbN).uniq hd⟩
    unfold nrw
    rw [if_pos (fun e => by have := isD_wall haw (hF i hi) e; omega)]
    exact hb

theorem IW_nat {n : Nat} (h : n ≤ 1000000) : IW (n : Int) := by unfold IW; omega
theorem any_take_succ (xs : List Nat) (j : Nat) (h : j < xs.length) (p : Nat → Bool) : (xs.take (j + 1)).any p = ((xs.take j).any p || p (xs.getD j 0)) := by
  rw [List.take_succ_eq_append_getElem h, List.any_append, List.getD_eq_getElem?_getD, List.getElem?_eq_getElem h]
  simp

set_option maxHeartbeats 4000000 in
theorem pathSteps_walk (W H : Int) (hH : H ≤ 9223372036854775807) (s : ByteArray) (hs : s.size ≤ maxLen) (a : Int) (ha : -9223372036854775808 ≤ a ∧ a ≤ 9223372036854775807) (A1 : Option Addr) (n1 p1 : Nat) (f : Nat → Int) (w : World) (hf : Il w.heap.size w A1 n1 p1 f) (hfw : ∀ j, j < n1 → IW (f j)) :
    Calls Tryd.prog 8 #[.agg #[.int .i64 W, .int .i64 H, .string s], .int .i64 a, .slice A1 n1 p1] w fun e w' => e = .returned (.bool true) ∧ Below w.heap.size w w' := by
  have HF := Lib.hid hf
  have HSM := Lib.hid (small_any W H s hs)
  obtain ⟨m1, hm1⟩ : ∃ m, m = min n1 50 := ⟨_, rfl⟩
  have hm1' : m1 ≤ 50 := by omega
  have HFW : Hid (∀ j, j < m1 → IW (f j)) := Lib.hid (fun j hj => hfw j (by omega))
  have HE1 := Lib.hid (fun wx => few5_is _ _ A1 n1 p1 m1 f wx hf hm1)
  have HF1 := Lib.hid (hf.cut (k := m1) (by omega))
  have HDI := Lib.hid (fun A n cap f wx h => dist_any W H s hs a A n cap f wx h)
  have HZO := Lib.hid (fun (x : Int) wx => zone_any W H s hs x wx)
  have HNE := Lib.hid (fun (x : Int) wx => near_any W H s hs x wx)
  clear hf hm1 ha hH hfw
  go_enter Tryd.func8, Tryd.ntmps8
  go_wp2_with fail
  refine (shown_any _).mono ?_
  rintro e w1 ⟨rfl, hb1⟩
  have HX1 := Lib.hid ((Box.start w W H s 23).after hb1)
  have c0 := HX1.out.c0
  have c1 := HX1.out.c1
  have c2 := HX1.out.c2
  clear hb1
  go_wp2_with fail
  refine (HSM.out _).mono ?_
  rintro e w2 ⟨rfl, hb2⟩
  have HX2 := Lib.hid (HX1.out.after hb2)
  clear hb2 c0 c1 c2
  by_cases h80 : s.size ≤ 80
  · have hd : decide (s.size ≤ 80) = true := decide_eq_true h80
    rw [hd]
    have HSZ := Lib.hid h80
    clear hd h80
    have hmk := run_makeMapB
    go_wp2_with fail
    have HM0 := Lib.hid (SetI.made w2)
    have HX3 := Lib.hid (HX2.out.after ((Below.refl w2.heap.size w2).alloc (Nat.le_refl _) (.map #[] 0)))
    refine (HE1.out _).mono ?_
    rintro e w' ⟨rfl, rfl⟩
    have h2 : w2.heap.size < (w2.alloc (.map #[] 0)).heap.size := HM0.out.lt
    obtain ⟨mb, hmb⟩ : ∃ mb, mb = w2.heap.size := ⟨_, rfl⟩
    rw [← hmb] at HM0 h2 ⊢
    have hlt : w.heap.size + 1 ≤ mb := by rw [hmb]; exact HX2.out.lt
    clear hmk hmb
    generalize w2.alloc (.map #[] 0) = w3 at *
    have hm50 : m1 ≤ 50 := hm1'
    go_wp2_with fail
    go_loopw [27] (fun iv wr => ∃ j : Nat, j ≤ m1 ∧ iv = .int .i64 (j : Int) ∧ SetI wr mb j (mI f j) ∧ Box w W H s wr) (fun iv _ => m1 - (intOf iv).toNat)
    case atStart => exact ⟨0, Nat.zero_le _, rfl, HM0.out, HX3.out⟩
    case round =>
      rename World => wr
      obtain ⟨j, hj, rfl, hS, hX⟩ := hrel
      have HS := Lib.hid hS
      have HX := Lib.hid hX
      clear hS hX HX3 HM0
      by_cases hlj : j < m1
      · obtain ⟨g, off, rfl, _, hc⟩ := (args_il HF1.out HX.out.below).cell (by omega)
        have hci := hc j hlj
        have HMS := Lib.hid (fun x => mI_succ f j x)
        have HW := Lib.hid (HFW.out j hlj)
        clear hc
        generalize f j = c at *
        go_wp2_with (at_mapUpdate; refine setI_put _ rfl _ _ _ rfl rfl HS.out (by omega) c HW.out rfl rfl ?_; intro w7 hm7 hg7; have HM7 := Lib.hid (hm7.congr (fun x => (HMS.out x).symm)); have HX7 := Lib.hid (HX.out.later (Below.grown (Below.refl _ _) hg7 HX.out.lt (fun j hj => by cases hj; exact hlt))); clear hm7 hg7)
        go_roundw
        case rel => exact ⟨j + 1, by omega, by go_num, HM7.out, HX7.out⟩
        case measure => simp [intOf]; omega
      · obtain rfl : j = m1 := by omega
        have c0 := HX.out.c0
        have c1 := HX.out.c1
        have c2 := HX.out.c2
        go_wp2_with fail
        go_region_held3 (fun w' => w'.cell? ⟨w.heap.size, 0, none⟩ = some (.int .i64 W) ∧ w'.cell? ⟨w.heap.size, 1, none⟩ = some (.int .i64 H) ∧ w'.cell? ⟨w.heap.size, 2, none⟩ = some (.string s)) (go_keep)
          ((first
            | (go_at_call 13; refine (HE1.out _).mono ?_; rintro e w' ⟨rfl, rfl⟩)
            | (go_at_call 12; refine (HDI.out A1 j _ f _ (args_il HF1.out HX.out.drew.below)).mono ?_; rintro e w4 ⟨A4, n4, k4, F, rfl, hn4, hil4, hb4, hd4, hd5⟩; have HX4 := Lib.hid (HX.out.drew.after hb4); have HS4 := Lib.hid ((HS.out.later (Below.refl _ _).drew).later hb4); have HI4 := Lib.hid hil4; have HN4 := Lib.hid hn4; have HD4 := Lib.hid hd4; have HD5 := Lib.hid hd5; have e0 := HX4.out.c0; have e1 := HX4.out.c1; have e2 := HX4.out.c2; clear hn4 hil4 hb4 hd4 hd5)))
        clear c0 c1 c2
        have hsz := HI4.out.size
        go_wp2_with fail
        go_loopw [41] (fun iv wr => ∃ i : Nat, i ≤ n4 ∧ iv = .int .i64 (i : Int) ∧ Below w4.heap.size w4 wr) (fun iv _ => n4 - (intOf iv).toNat)
        case atStart => exact ⟨0, Nat.zero_le _, rfl, Below.refl _ _⟩
        case round =>
          rename World => wr
          obtain ⟨i, hi, rfl, hB⟩ := hrel
          have HB := Lib.hid hB
          clear hB e0 e1 e2
          by_cases hli : i < n4
          · have hO : OnFloor W H s a := Classical.byContradiction fun h => by
              have h1 := HD5.out h
              have h2 := HN4.out
              rw [h1] at h2
              simp at h2
              omega
            obtain ⟨W, H, k, rfl, rfl, rfl, hk, hz, hSd, hN, _, _⟩ := onFloor_some hO
            have hl4 := (HD4.out hO).1
            obtain rfl : n4 = s.size := by rw [HN4.out, hl4]
            have HSA := Lib.hid (steps_at hSd.w1 hSd.sz hk hz (HD4.out hO).2 hli)
            have HRT := Lib.hid hO.1
            have HFB : Hid (∀ y, y < s.size → -1 ≤ F.getD y 0 ∧ F.getD y 0 ≤ 1000) := Lib.hid (fun y hy => by
              have := isD_lt (N := s.size) hk (fun x y hx hy => by rw [hSd.sz] at hx ⊢; exact nx5_lt hSd.w1 x y hx hy) ((HD4.out hO).2 y hy)
              have := HSZ.out
              omega)
            obtain ⟨g, o, rfl, _, _⟩ := HI4.out.cell (by omega)
            have HQ : Hid (∀ wz, Below w4.heap.size w4 wz → ∀ y, y < s.size → wz.cell? ⟨g, o + y, none⟩ = some (.int .i64 (F.getD y 0))) := Lib.hid (fun wz hb y hy => by
              obtain ⟨g', o', e1, _, q⟩ := (HI4.out.below hb).cell (by omega)
              simp only [Option.some.injEq, Addr.mk.injEq, and_true] at e1
              obtain ⟨rfl, rfl⟩ := e1
              exact q y hy)
            have HXr := Lib.hid (HX4.out.after HB.out)
            have c0 := HXr.out.c0
            have c1 := HXr.out.c1
            have c2 := HXr.out.c2
            have hs80 := HSZ.out
            clear hO hz hSd hN hl4
            go_wp2_with fail
            refine (HZO.out _ _).mono ?_
            rintro e w5 ⟨zn, lane, rfl, p1, p2, hb5⟩
            have HB5 := Lib.hid (HB.out.trans (hb5.mono HB.out.size))
            have HX5 := Lib.hid (HXr.out.after hb5)
            have HLN : Hid (lane = isL (at_ s i)) := Lib.hid (by
              cases hq : isL (at_ s i)
              · exact (p2 (fun h => by have := h.2; rw [bAt_in5 s i hli, hq] at this; cases this)).2
              · exact (p1 ⟨HRT.out, by rw [bAt_in5 s i hli]; exact hq⟩).2)
            have e0 := HX5.out.c0
            have e1 := HX5.out.c1
            have e2 := HX5.out.c2
            have r1 := HQ.out w5 HB5.out i hli
            obtain ⟨x, hx⟩ : ∃ x, x = F.getD i 0 := ⟨_, rfl⟩
            rw [← hx] at r1
            have HXE := Lib.hid hx
            have hxb := HFB.out i hli
            rw [← hx] at hxb
            clear hx
            clear p1 p2 hb5 c0 c1 c2
            go_wp2_with fail
            refine (HNE.out _ _).mono ?_
            rintro e w6 ⟨A6, n6, k6, xs, rfl, hn6, q1, q2, ho6, hb6⟩
            have HXS : Hid (xs = nrw W H (at_ s) i) := Lib.hid (by
              unfold nrw
              by_cases h35 : at_ s i ≠ 35
              · rw [if_pos h35]
                exact q1 ⟨HRT.out, by rw [bAt_in5 s i hli]; exact h35⟩
              · rw [if_neg h35]
                exact q2 (fun h => h35 (by have := h.2; rwa [bAt_in5 s i hli] at this)))
            have HB6 := Lib.hid (HB5.out.trans (hb6.mono HB5.out.size))
            have HO6 := Lib.hid ho6
            have HN6 := Lib.hid hn6
            have hcap6 := ho6.cap hn6
            have hc6a := hcap6.1
            have hc6b := hcap6.2
            unfold maxLen at hc6b
            clear q1 q2 hb6 ho6 hn6 hcap6 e0 e1 e2 r1
            go_wp2_with fail
            go_loopw [15, 59] (fun nv jv wz => ∃ (jj : Nat) (t : Bool), jj ≤ n6 ∧ t = (decide (x ≤ 0) || (xs.take jj).any (fun y => F.getD y 0 == x - 1)) ∧ nv = .bool t ∧ jv = .int .i64 (jj : Int) ∧ Below w6.heap.size w6 wz) (fun _ jv _ => n6 - (intOf jv).toNat)
            case atStart => exact ⟨0, decide (x ≤ 0), Nat.zero_le _, by simp, rfl, rfl, Below.refl _ _⟩
            case round =>
              rename World => wz
              obtain ⟨jj, t, hjj, ht, rfl, rfl, hBz⟩ := hrel
              have HT := Lib.hid ht
              have HBz := Lib.hid hBz
              have HBw := Lib.hid (HB6.out.trans (hBz.mono HB6.out.size))
              clear ht hBz
              by_cases hlj : jj < n6
              · obtain ⟨gn, rfl, hgn, hcn⟩ := (HO6.out.later HBz.out).at jj (by rw [← HN6.out]; exact hlj)
                obtain ⟨y, hy⟩ : ∃ y, y = xs.getD jj 0 := ⟨_, rfl⟩
                rw [← hy] at hcn
                have hyin : y ∈ xs := by
                  rw [hy, List.getD_eq_getElem?_getD, List.getElem?_eq_getElem (by rw [← HN6.out]; exact hlj)]
                  exact List.getElem_mem _
                have HYM : Hid (y ∈ nrw W H (at_ s) i) := Lib.hid (by rw [← HXS.out]; exact hyin)
                have hys := HSA.out.lt y HYM.out
                have HTK : Hid ((xs.take (jj + 1)).any (fun y => F.getD y 0 == x - 1) = ((xs.take jj).any (fun y => F.getD y 0 == x - 1) || (F.getD y 0 == x - 1))) := Lib.hid (by
                  rw [hy]
                  exact any_take_succ xs jj (by rw [← HN6.out]; exact hlj) _)
                have HSW := Lib.hid (HS4.out.later HBw.out)
                obtain ⟨u, hu⟩ : ∃ u, u = F.getD y 0 := ⟨_, rfl⟩
                have r1 := HQ.out wz HBw.out i hli
                have r2 := HQ.out wz HBw.out y hys
                rw [← HXE.out] at r1
                rw [← hu] at r2
                have hub := HFB.out y hys
                rw [← hu] at hub
                have HU := Lib.hid hu
                have dy : decide ((y : Int) < 0) = false := decide_eq_false (by omega)
                have dy2 : decide ((s.size : Int) ≤ (y : Int)) = false := decide_eq_false (by omega)
                have hwr : IntKind.i64.wrap (x + 1) = x + 1 := IntWalk.i64_in _ (by omega)
                have hwr2 : IntKind.i64.wrap (x - 1) = x - 1 := IntWalk.i64_in _ (by omega)
                have hji : (jj : Int) < (n6 : Int) := by omega
                clear hy hyin hu
                go_upto_region 21 with (fail)
                go_cut [108] (fun v wc => v = .bool false ∧ Below wz.heap.size wz wc)
                case first =>
                  by_cases hx0 : 0 ≤ x
                  · have d0 : decide (0 ≤ x) = true := decide_eq_true hx0
                    cases lane with
                    | true =>
                      have HLE : Hid (mk f j y = false → 0 ≤ u ∧ u ≤ x + 1) := Lib.hid (fun hb => by
                        have := HSA.out.le y HYM.out (by rw [← HXE.out]; exact hx0) (outB_iff.2 (.inr HLN.out.symm)) hb
                        rw [← HU.out, ← HXE.out] at this
                        exact this)
                      cases hbl : mk f j y with
                      | true =>
                        have hlk : ∀ q, (Instr.lookup 36 (.map (some mb)) (.int .i64 (y : Int)) false).run Tryd.prog (wz.drewN q) = .ok (.bool true) (wz.drewN q) := fun q => HSW.out.askedN (IW_nat (by omega)) ((mI_mk f j y).trans hbl) q
                        go_big_quiet (fail)
                        go_wp2_with fail
                        go_meet
                        exact ⟨rfl, below_drewN _ _ _⟩
                      | false =>
                        have hlk : ∀ q, (Instr.lookup 36 (.map (some mb)) (.int .i64 (y : Int)) false).run Tryd.prog (wz.drewN q) = .ok (.bool false) (wz.drewN q) := fun q => HSW.out.askedN (IW_nat (by omega)) ((mI_mk f j y).trans hbl) q
                        obtain ⟨k1, k2⟩ := HLE.out hbl
                        have d1 : decide (u < 0) = false := decide_eq_false (by omega)
                        have d2 : decide (x + 1 < u) = false := decide_eq_false (by omega)
                        go_big_quiet (fail)
                        go_wp2_with fail
                        go_meet
                        exact ⟨rfl, below_drewN _ _ _⟩
                    | false =>
                      by_cases hik : i = k
                      · subst hik
                        have HLE : Hid (mk f j y = false → 0 ≤ u ∧ u ≤ x + 1) := Lib.hid (fun hb => by
                          have := HSA.out.le y HYM.out (by rw [← HXE.out]; exact hx0) (outB_iff.2 (.inl rfl)) hb
                          rw [← HU.out, ← HXE.out] at this
                          exact this)
                        cases hbl : mk f j y with
                        | true =>
                          have hlk : ∀ q, (Instr.lookup 36 (.map (some mb)) (.int .i64 (y : Int)) false).run Tryd.prog (wz.drewN q) = .ok (.bool true) (wz.drewN q) := fun q => HSW.out.askedN (IW_nat (by omega)) ((mI_mk f j y).trans hbl) q
                          go_big_quiet (fail)
                          go_wp2_with fail
                          go_meet
                          exact ⟨rfl, below_drewN _ _ _⟩
                        | false =>
                          have hlk : ∀ q, (Instr.lookup 36 (.map (some mb)) (.int .i64 (y : Int)) false).run Tryd.prog (wz.drewN q) = .ok (.bool false) (wz.drewN q) := fun q => HSW.out.askedN (IW_nat (by omega)) ((mI_mk f j y).trans hbl) q
                          obtain ⟨k1, k2⟩ := HLE.out hbl
                          have d1 : decide (u < 0) = false := decide_eq_false (by omega)
                          have d2 : decide (x + 1 < u) = false := decide_eq_false (by omega)
                          go_big_quiet (fail)
                          go_wp2_with fail
                          go_meet
                          exact ⟨rfl, below_drewN _ _ _⟩
                      · have dik : ((i : Int) == (k : Int)) = false := by rw [beq_eq_false_iff_ne]; omega
                        go_big_quiet (fail)
                        go_wp2_with fail
                        go_meet
                        exact ⟨rfl, below_drewN _ _ _⟩
                  · have d0 : decide (0 ≤ x) = false := decide_eq_false hx0
                    go_big_quiet (fail)
                    go_wp2_with fail
                    go_meet
                    exact ⟨rfl, below_drewN _ _ _⟩
                case rest =>
                  obtain ⟨rfl, hbc⟩ := hcut
                  have HBc := Lib.hid (HBz.out.trans (hbc.mono HBz.out.size))
                  have HBcw := Lib.hid (HBw.out.trans (hbc.mono HBw.out.size))
                  have r3 := HQ.out wc HBcw.out i hli
                  have r4 := HQ.out wc HBcw.out y hys
                  rw [← HXE.out] at r3
                  rw [← HU.out] at r4
                  clear r1 r2 hbc hwr hcn
                  cases t with
                  | true =>
                    go_wp2_with fail
                    go_big_quiet (fail)
                    go_wp2_with fail
                    go_roundw
                    case rel => exact ⟨jj + 1, true, by omega, by rw [HTK.out, ← Bool.or_assoc, ← HT.out, Bool.true_or], rfl, by go_num, HBc.out.trans (below_drewN _ _ _)⟩
                    case measure => simp [intOf]; omega
                  | false =>
                    cases hux : (u == x - 1) with
                    | true =>
                      have HUX := Lib.hid hux
                      go_wp2_with fail
                      go_big_quiet (fail)
                      go_wp2_with fail
                      go_roundw
                      case rel => exact ⟨jj + 1, true, by omega, by rw [HTK.out, ← Bool.or_assoc, ← HT.out, ← HU.out, HUX.out, Bool.or_true], rfl, by go_num, HBc.out.trans (below_drewN _ _ _)⟩
                      case measure => simp [intOf]; omega
                    | false =>
                      have HUX := Lib.hid hux
                      go_wp2_with fail
                      go_big_quiet (fail)
                      go_wp2_with fail
                      go_roundw
                      case rel => exact ⟨jj + 1, false, by omega, by rw [HTK.out, ← Bool.or_assoc, ← HT.out, ← HU.out, HUX.out, Bool.or_false], rfl, by go_num, HBc.out.trans (below_drewN _ _ _)⟩
                      case measure => simp [intOf]; omega
              · obtain rfl : jj = n6 := by omega
                have ht1 : t = true := by
                  rw [HT.out]
                  by_cases h0 : 0 < x
                  · obtain ⟨y, hy, e⟩ := HSA.out.near (by rw [← HXE.out]; exact h0)
                    rw [Bool.or_eq_true]
                    refine .inr (List.any_eq_true.2 ⟨y, ?_, ?_⟩)
                    · rw [HN6.out, List.take_length, HXS.out]; exact hy
                    · rw [beq_iff_eq, e, HXE.out]
                  · rw [Bool.or_eq_true]
                    exact .inl (decide_eq_true (by omega))
                subst ht1
                have r1 := HQ.out wz HBw.out i hli
                rw [← HXE.out] at r1
                have hzero := HSA.out.zero
                rw [← HXE.out] at hzero
                by_cases hik : i = k
                · have hx0 := hzero.2 hik
                  subst hx0
                  have dik : ((i : Int) == (k : Int)) = true := by rw [beq_iff_eq, hik]
                  clear hzero hik
                  go_wp2_with fail
                  go_roundw
                  case rel => exact ⟨i + 1, by omega, by go_num, HBw.out⟩
                  case measure => simp [intOf]; omega
                · have dx : (x == 0) = false := by rw [beq_eq_false_iff_ne]; exact fun e => hik (hzero.1 e)
                  have dik : ((i : Int) == (k : Int)) = false := by rw [beq_eq_false_iff_ne]; omega
                  clear hzero hik
                  go_wp2_with fail
                  go_roundw
                  case rel => exact ⟨i + 1, by omega, by go_num, HBw.out⟩
                  case measure => simp [intOf]; omega
          · obtain rfl : i = n4 := by omega
            go_wp2_with fail
            go_ret
            exact ⟨rfl, HX4.out.below.trans (HB.out.mono HX4.out.below.size)⟩
  · have hd : decide (s.size ≤ 80) = false := decide_eq_false h80
    rw [hd]
    clear hd
    go_wp2_with fail
    go_ret
    exact ⟨rfl, HX2.out.below⟩
end Go.Proofs.YtaioiobimenkfaaDoor
