/-
  PathShort: the walk.
-/
import Derived.Test.YtaioiobimenkfaaDoorPtSet
import Derived.Test.YtaioiobimenkfaaDoorPtIs
set_option linter.unusedVariables false
set_option maxRecDepth 100000
namespace Go.Proofs.YtaioiobimenkfaaDoor
open Go.RowKit Fl Pt Go.Maps

theorem isD_wall5 {W H a c : Nat} {z : Nat → Nat} {B : Nat → Bool} {x : Int} (haw : z a ≠ 35) (hx : IsD (nx5 W H z a B) a c x) (h : z c = 35) : x = -1 := by
  rcases hx with ⟨e, _⟩ | ⟨n, rfl, hl⟩
  · exact e
  · rcases hl.1.inv with ⟨_, e⟩ | ⟨m, b, _, _, hb⟩
    · subst e; exact absurd h haw
    · exact absurd h (mem_nr.1 (mem_nx5.1 hb).2.1).2
theorem il_map (P : List Nat) (n : Nat) (h : n = P.length) : il (fun j => ((P.getD j 0 : Nat) : Int)) n = P.map fun x : Nat => (x : Int) := by
  subst h
  refine List.ext_getElem (by simp [il]) fun i h1 h2 => ?_
  have hi : i < P.length := by simpa [il] using h1
  simp [il, List.getD, List.getElem?_eq_getElem hi]
structure ShortYes (W H : Int) (s : ByteArray) (a t : Int) (B : Nat → Bool) (P : List Nat) (F : List Int) (T A : Nat) : Prop where
  aa : a = (A : Int)
  tt : t = (T : Int)
  lt : T < F.length
  far : F.getD T 0 = (P.length : Int)
  way : IsWay W H s a B (P.map fun x : Nat => (x : Int))
  dist : (A :: P).Nodup
  none : P = [] ↔ A = T
  last : P ≠ [] → P.getLast? = some T
  small : ∀ x, x ∈ A :: P → x < s.size
theorem short_cases {W H : Int} {s : ByteArray} {a t : Int} {B : Nat → Bool} {P : List Nat} {er : Int} {F : List Int} (hw : WayIs W H s a t B P er)
    (h1 : OnFloor W H s a → F.length = s.size ∧ ∀ x, x < s.size → IsD (nx5 W.toNat H.toNat (at_ s) a.toNat B) a.toNat x (F.getD x 0)) (h2 : ¬ OnFloor W H s a → F = []) :
    (er = 1 ∧ P = [] ∧ (t < 0 ∨ (0 ≤ t ∧ (F.length : Int) ≤ t) ∨ ∃ T : Nat, t = T ∧ T < F.length ∧ F.getD T 0 < 0)) ∨
    (er = 2 ∧ P = [] ∧ ∃ T : Nat, t = T ∧ T < F.length ∧ F.getD T 0 < 0) ∨
    (er = 0 ∧ ∃ T A : Nat, ShortYes W H s a t B P F T A) := by
  rcases hw with ⟨ho, ht, rfl, hg, hl⟩ | ⟨ho, ht, rfl, rfl, hn⟩ | ⟨hno, rfl, rfl⟩
  · refine .inr (.inr ⟨rfl, ?_⟩)
    obtain ⟨W, H, k, rfl, rfl, rfl, hk, hz, hSd, hN, _, _⟩ := onFloor_some ho
    obtain ⟨T, e, hT, hzT⟩ := bAt_in ht.2
    subst e
    simp only [Int.toNat_natCast] at hg hl h1
    obtain ⟨q1, q2⟩ := h1 ho
    refine ⟨T, k, rfl, rfl, by omega, ?_, ⟨ho, gr_chI hg⟩, way_distinct hg hl, ⟨fun e => ?_, fun e => ?_⟩, hg.last, ?_⟩
    · rcases q2 T hT with ⟨_, hno⟩ | ⟨m, hm, hlm⟩
      · exact absurd hl.1 (hno _)
      · rw [hm, hl.uniq hlm]
    · subst e; exact hg
    · subst e
      have := hl.2 0 .zero
      exact List.eq_nil_of_length_eq_zero (by omega)
    · intro x hx
      rcases List.mem_cons.1 hx with rfl | hx
      · exact hk
      · obtain ⟨j, hj, rfl⟩ := List.getElem_of_mem hx
        have hlv := gr_levels hg .zero (by rwa [Nat.zero_add]) j hj
        rw [List.getD, List.getElem?_eq_getElem hj, Option.getD_some] at hlv
        rw [hSd.sz] at hk ⊢
        exact wk_lt hk (nx5_lt hSd.w1) hlv.1
  · refine .inr (.inl ⟨rfl, rfl, ?_⟩)
    obtain ⟨T, e, hT, hzT⟩ := bAt_in ht.2
    subst e
    obtain ⟨q1, q2⟩ := h1 ho
    refine ⟨T, rfl, by omega, ?_⟩
    rcases q2 T hT with ⟨e, _⟩ | ⟨m, hm, hlm⟩
    · rw [e]; decide
    · exact absurd hlm.1 (hn m)
  · refine .inl ⟨rfl, rfl, ?_⟩
    by_cases ho : OnFloor W H s a
    · by_cases h0 : t < 0
      · exact .inl h0
      · by_cases hlt : (F.length : Int) ≤ t
        · exact .inr (.inl ⟨by omega, hlt⟩)
        · obtain ⟨T, rfl⟩ := Int.eq_ofNat_of_zero_le (by omega : 0 ≤ t)
          refine .inr (.inr ⟨T, rfl, by omega, ?_⟩)
          obtain ⟨q1, q2⟩ := h1 ho
          obtain ⟨W, H, k, rfl, rfl, rfl, hk, hz, hSd, hN, _, _⟩ := onFloor_some ho
          have hT : T < s.size := by omega
          have hz35 : Fl.at_ s T = 35 := Classical.byContradiction fun h => hno ⟨ho, ho.1, by unfold bAt; rw [if_pos (by omega), Int.toNat_natCast]; exact h⟩
          rw [isD_wall5 hz (q2 T hT) hz35]; decide
    · rw [h2 ho]
      by_cases h0 : t < 0
      · exact .inl h0
      · exact .inr (.inl ⟨by omega, by simp; omega⟩)

/-- What was had: the cell from which, and so many of the way. -/
def hadM (A : Nat) (P : List Nat) (j : Nat) (x : Int) : Bool := ((A : Int) == x) || (P.take j).any fun y => (y : Int) == x
theorem hadM_succ (A : Nat) (P : List Nat) (j : Nat) (h : j < P.length) (x : Int) : hadM A P (j + 1) x = (hadM A P j x || (((P.getD j 0 : Nat) : Int) == x)) := by
  unfold hadM
  rw [List.take_succ_eq_append_getElem h, List.any_append, List.getD_eq_getElem?_getD, List.getElem?_eq_getElem h]
  simp [Bool.or_assoc]
theorem hadM_new (A : Nat) (P : List Nat) (j : Nat) (h : j < P.length) (hd : (A :: P).Nodup) : hadM A P j ((P.getD j 0 : Nat) : Int) = false := by
  rw [List.getD_eq_getElem?_getD, List.getElem?_eq_getElem h, Option.getD_some]
  obtain ⟨h1, h2⟩ := List.nodup_cons.1 hd
  unfold hadM
  rw [Bool.or_eq_false_iff]
  constructor
  · rw [beq_eq_false_iff_ne]
    intro e
    exact h1 (by rw [show A = P[j] by omega]; exact List.getElem_mem h)
  · rw [List.any_eq_false]
    intro y hy e
    obtain ⟨i, hi, rfl⟩ := List.getElem_of_mem hy
    rw [List.length_take] at hi
    rw [List.getElem_take, beq_iff_eq] at e
    rw [List.nodup_iff_pairwise_ne, List.pairwise_iff_getElem] at h2
    exact h2 i j (by omega) h (by omega) (by omega)
theorem run_makeMapB1 (w : World) (n : Int) : (Instr.makeMap 36 (some (.int .i64 n))).run Tryd.prog w = .ok (.map (some w.heap.size)) (w.alloc (.map #[] 0)) := by
  simp [Instr.makeMap, run_underlying Tryd.underlying36, Result.andThen, asInt, asIntOf]
theorem run_makeMapB (w : World) : (Instr.makeMap 36 none).run Tryd.prog w = .ok (.map (some w.heap.size)) (w.alloc (.map #[] 0)) := by
  simp [Instr.makeMap, Result.andThen]
set_option maxHeartbeats 4000000 in
theorem pathShort_walk (W H : Int) (hH : H ≤ 9223372036854775807) (s : ByteArray) (hs : s.size ≤ maxLen) (a : Int) (ha : -9223372036854775808 ≤ a ∧ a ≤ 9223372036854775807) (t : Int) (ht : -9223372036854775808 ≤ t ∧ t ≤ 9223372036854775807) (A1 : Option Addr) (n1 p1 : Nat) (f : Nat → Int) (w : World) (hf : Il w.heap.size w A1 n1 p1 f) (hfw : ∀ j, j < n1 → IW (f j)) :
    Calls Tryd.prog 6 #[.agg #[.int .i64 W, .int .i64 H, .string s], .int .i64 a, .int .i64 t, .slice A1 n1 p1] w fun e w' => e = .returned (.bool true) ∧ Below w.heap.size w w' := by
  have HF := Lib.hid hf
  have HSM := Lib.hid (small_any W H s hs)
  obtain ⟨m1, hm1⟩ : ∃ m, m = min n1 50 := ⟨_, rfl⟩
  have hm1' : m1 ≤ 50 := by omega
  have HE1 := Lib.hid (fun wx => few5_is _ _ A1 n1 p1 m1 f wx hf hm1)
  have HF1 := Lib.hid (hf.cut (k := m1) (by omega))
  have HDI := Lib.hid (fun A n cap f wx h => dist_any W H s hs a A n cap f wx h)
  have HFI := Lib.hid (fun A n cap f wx h => find_any W H s hs a t A n cap f wx h)
  have HIS := Lib.hid (fun A n cap f A2 n2 cap2 f2 wx h h2 => is_any W H s hs a A n cap f A2 n2 cap2 f2 wx h h2)
  clear hf hm1 hH hfw
  go_enter Tryd.func6, Tryd.ntmps6
  go_wp2_with fail
  refine (shown_any _).mono ?_
  rintro e w1 ⟨rfl, hb1⟩
  have HX1 := Lib.hid ((Box.start w W H s 23).after hb1)
  have c0 := HX1.out.c0
  have c1 := HX1.out.c1
  have c2 := HX1.out.c2
  clear hb1
  go_wp2_with fail
  refine (HSM.out _).mono ?_
  rintro e w2 ⟨rfl, hb2⟩
  have HX2 := Lib.hid (HX1.out.after hb2)
  clear hb2 c0 c1 c2
  by_cases h80 : s.size ≤ 80
  · have hd : decide (s.size ≤ 80) = true := decide_eq_true h80
    rw [hd]
    have HSZ := Lib.hid h80
    clear hd h80
    have c0 := HX2.out.c0
    have c1 := HX2.out.c1
    have c2 := HX2.out.c2
    go_wp2_with fail
    go_region_held3 (fun w' => w'.cell? ⟨w.heap.size, 0, none⟩ = some (.int .i64 W) ∧ w'.cell? ⟨w.heap.size, 1, none⟩ = some (.int .i64 H) ∧ w'.cell? ⟨w.heap.size, 2, none⟩ = some (.string s)) (go_keep)
      ((first
        | (go_at_call 13; refine (HE1.out _).mono ?_; rintro e w' ⟨rfl, rfl⟩)
        | (go_at_call 15; refine (HFI.out A1 m1 _ f _ (args_il HF1.out HX2.out.drew.below)).mono ?_; rintro e w3 ⟨A3, n3, k3, P, er, rfl, hn3, hp3, hil3, hb3, hway⟩; have HX3 := Lib.hid (HX2.out.drew.after hb3); have HI3 := Lib.hid hil3; have HN3 := Lib.hid hn3; have HP3 := Lib.hid hp3; have HWAY := Lib.hid hway; have e0 := HX3.out.c0; have e1 := HX3.out.c1; have e2 := HX3.out.c2; clear hn3 hp3 hil3 hb3 hway)))
    clear c0 c1 c2
    go_wp2_with fail
    go_region_held3 (fun w' => w'.cell? ⟨w.heap.size, 0, none⟩ = some (.int .i64 W) ∧ w'.cell? ⟨w.heap.size, 1, none⟩ = some (.int .i64 H) ∧ w'.cell? ⟨w.heap.size, 2, none⟩ = some (.string s)) (go_keep)
      ((first
        | (go_at_call 13; refine (HE1.out _).mono ?_; rintro e w' ⟨rfl, rfl⟩)
        | (go_at_call 12; refine (HDI.out A1 m1 _ f _ (args_il HF1.out HX3.out.drew.below)).mono ?_; rintro e w4 ⟨A4, n4, k4, F, rfl, hn4, hil4, hb4, hd4, hd5⟩; have HX4 := Lib.hid (HX3.out.drew.after hb4); have HI34 := Lib.hid (args_il (w := w3) (wx := w4) HI3.out ((Below.refl _ _).drew.trans hb4)); have HI4 := Lib.hid hil4; have HN4 := Lib.hid hn4; have HD4 := Lib.hid hd4; have HD5 := Lib.hid hd5; have c0 := HX4.out.c0; have c1 := HX4.out.c1; have c2 := HX4.out.c2; clear hn4 hil4 hb4 hd4 hd5)))
    clear e0 e1 e2
    have hsz := HI4.out.size
    have hcases := short_cases HWAY.out HD4.out HD5.out
    rw [← HN4.out] at hcases
    rcases hcases with ⟨rfl, rfl, ht⟩ | ⟨rfl, rfl, T, rfl, hT, hF⟩ | ⟨rfl, T, A, hY⟩
    · obtain rfl : n3 = 0 := HN3.out
      rcases ht with h0 | h0 | ⟨T, rfl, hT, hF⟩
      · have d0 : decide (t < 0) = true := decide_eq_true h0
        by_cases hn0 : n4 = 0
        · subst hn0
          go_wp2_with fail
          go_ret
          exact ⟨rfl, HX4.out.below⟩
        · have d1 : ((n4 : Int) == 0) = false := by rw [beq_eq_false_iff_ne]; omega
          go_wp2_with fail
          go_ret
          exact ⟨rfl, HX4.out.below⟩
      · obtain ⟨h00, h01⟩ := h0
        have d0 : decide (t < 0) = false := decide_eq_false (by omega)
        have d2 : decide ((n4 : Int) ≤ t) = true := decide_eq_true h01
        clear h00
        by_cases hn0 : n4 = 0
        · subst hn0
          go_wp2_with fail
          go_ret
          exact ⟨rfl, HX4.out.below⟩
        · have d1 : ((n4 : Int) == 0) = false := by rw [beq_eq_false_iff_ne]; omega
          go_wp2_with fail
          go_ret
          exact ⟨rfl, HX4.out.below⟩
      · obtain ⟨g, o, rfl, _, q⟩ := HI4.out.cell (by omega)
        have r := q T hT
        have d0 : decide ((T : Int) < 0) = false := decide_eq_false (by omega)
        have d2 : decide ((n4 : Int) ≤ (T : Int)) = false := decide_eq_false (by omega)
        have d1 : ((n4 : Int) == 0) = false := by rw [beq_eq_false_iff_ne]; omega
        have hT2 : (T : Int) < (n4 : Int) := by omega
        generalize F.getD T 0 = x at *
        have d3 : decide (x < 0) = true := decide_eq_true hF
        clear q
        go_wp2_with fail
        go_ret
        exact ⟨rfl, HX4.out.below⟩
    · obtain rfl : n3 = 0 := HN3.out
      obtain ⟨g, o, rfl, _, q⟩ := HI4.out.cell (by omega)
      have r := q T hT
      have d0 : decide ((T : Int) < 0) = false := decide_eq_false (by omega)
      have d2 : decide ((n4 : Int) ≤ (T : Int)) = false := decide_eq_false (by omega)
      have hT2 : (T : Int) < (n4 : Int) := by omega
      generalize F.getD T 0 = x at *
      have d3 : decide (x < 0) = true := decide_eq_true hF
      clear q
      go_wp2_with fail
      go_ret
      exact ⟨rfl, HX4.out.below⟩
    · obtain rfl := hY.aa
      obtain rfl := hY.tt
      have hT : T < n4 := by rw [HN4.out]; exact hY.lt
      obtain ⟨g, o, rfl, _, q⟩ := HI4.out.cell (by omega)
      have HQ : Hid (∀ wz, Below w4.heap.size w4 wz → wz.cell? ⟨g, o + T, none⟩ = some (.int .i64 (P.length : Int))) := Lib.hid (fun wz hb => by
        obtain ⟨g', o', e1, _, q⟩ := (HI4.out.below hb).cell (by omega)
        simp only [Option.some.injEq, Addr.mk.injEq, and_true] at e1
        obtain ⟨rfl, rfl⟩ := e1
        rw [← hY.far]
        exact q T hT)
      have HY := Lib.hid hY
      have d0 : decide ((T : Int) < 0) = false := decide_eq_false (by omega)
      have d2 : decide ((n4 : Int) ≤ (T : Int)) = false := decide_eq_false (by omega)
      have hT2 : (T : Int) < (n4 : Int) := by omega
      have hmk := run_makeMapB
      clear q hY
      have hA1 : A ≤ 1000000 := by have h1 := HY.out.small A (by simp); have h2 := HSZ.out; omega
      obtain ⟨w5, hmu, hm5, hg5⟩ := (SetI.made w4).put_run (by omega) (IW_nat hA1)
      have hlt4 : w.heap.size + 1 ≤ w4.heap.size := HX4.out.lt
      have HAL := Lib.hid ((Below.refl w4.heap.size w4).alloc (Nat.le_refl _) (.map #[] 0))
      have HB45 := Lib.hid (HAL.out.trans (Below.grown (Below.refl _ _) hg5 HAL.out.size (fun j hj => by cases hj; exact Nat.le_refl _)))
      have HM5 := Lib.hid hm5
      have HX5 := Lib.hid (HX4.out.after HB45.out)
      clear hm5 hg5 HAL c0 c1 c2
      have hn3 : n3 ≤ 256 := by rw [HN3.out]; exact HP3.out.1
      go_wp2_with fail
      clear hmu hmk
      go_loopw [103] (fun iv wr => ∃ j : Nat, j ≤ n3 ∧ iv = .int .i64 (j : Int) ∧ SetI wr w4.heap.size (j + 1) (hadM A P j) ∧ Below w4.heap.size w4 wr) (fun iv _ => n3 - (intOf iv).toNat)
      case atStart => exact ⟨0, Nat.zero_le _, rfl, HM5.out.congr (fun x => by simp [hadM]), HB45.out⟩
      case round =>
        rename World => wr
        obtain ⟨j, hj, rfl, hS, hB⟩ := hrel
        have HS := Lib.hid hS
        have HB := Lib.hid hB
        clear hS hB HM5
        by_cases hlj : j < n3
        · have hjP : j < P.length := by rw [← HN3.out]; exact hlj
          obtain ⟨g3, o3, rfl, _, hcell⟩ := (args_il HI34.out HB.out).cell (by omega)
          have hcj := hcell j hlj
          have HSU := Lib.hid (hadM_succ A P j hjP)
          have HNE := Lib.hid (hadM_new A P j hjP HY.out.dist)
          have HCS : Hid (P.getD j 0 < s.size) := Lib.hid (HY.out.small _ (by rw [List.getD_eq_getElem?_getD, List.getElem?_eq_getElem hjP]; exact List.mem_cons_of_mem _ (List.getElem_mem hjP)))
          clear hcell
          generalize P.getD j 0 = c at *
          have hc1 : c ≤ 1000000 := by have h1 := HCS.out; have h2 := HSZ.out; omega
          have hlk := HS.out.asked0 (IW_nat hc1) HNE.out
          obtain ⟨w7, hmu, hm7, hg7⟩ := HS.out.put_run (by omega) (IW_nat hc1)
          have HM7 := Lib.hid (hm7.congr (fun x => (HSU.out x).symm))
          have HB7 := Lib.hid (HB.out.trans (Below.grown (Below.refl _ _) hg7 HB.out.size (fun j hj => by cases hj; exact Nat.le_refl _)))
          clear hm7 hg7
          go_wp2_with fail
          go_roundw
          case rel => exact ⟨j + 1, by omega, by go_num, HM7.out, HB7.out⟩
          case measure => simp [intOf]; omega
        · obtain rfl : j = n3 := by omega
          have HX6 := Lib.hid (HX4.out.after HB.out)
          have c0 := HX6.out.c0
          have c1 := HX6.out.c1
          have c2 := HX6.out.c2
          have r := HQ.out wr HB.out
          have HI6 := Lib.hid (args_il HI34.out HB.out)
          have HISW : Hid (∀ wx, Below w4.heap.size w4 wx → Calls Tryd.prog 17 #[.agg #[.int .i64 W, .int .i64 H, .string s], .int .i64 (A : Int), .slice A3 j k3, .slice A1 m1 p1] wx fun e w' => e = .returned (.bool true) ∧ Below wx.heap.size wx w') := Lib.hid (fun wx hb => (HIS.out A3 j k3 _ A1 m1 p1 f wx (args_il HI34.out hb) (args_il HF1.out (HX4.out.below.trans (hb.mono HX4.out.below.size)))).mono fun e w' ⟨b, h1, h2, h3⟩ => ⟨by rw [h1, h2.2 (by rw [il_map P j HN3.out]; exact HY.out.way)], h3⟩)
          have hPl : P.length = j := HN3.out.symm
          rw [hPl] at r HQ
          have HPL := Lib.hid hPl
          clear hPl
          by_cases hj0 : j = 0
          · subst hj0
            have hAT : A = T := HY.out.none.1 (List.eq_nil_of_length_eq_zero HPL.out)
            subst hAT
            go_wp2_with fail
            refine wp_region_held_drew (S := fun w' => w'.cell? ⟨w.heap.size, 0, none⟩ = some (.int .i64 W) ∧ w'.cell? ⟨w.heap.size, 1, none⟩ = some (.int .i64 H) ∧ w'.cell? ⟨w.heap.size, 2, none⟩ = some (.string s) ∧ w'.cell? ⟨g, o + A, none⟩ = some (.int .i64 ((0 : Nat) : Int))) (by kernel_rfl) (by simp; exact ⟨c0, c1, c2, r⟩) (fun hS0 => ?_)
            (refine wpAnyH_take (i := 0) (oi := ⟨some 113, _, _, _, _, _⟩) (v := .bool true) rfl (by kernel_rfl) (by kernel_rfl) (by kernel_rfl) (fun _ _ _ h => h) (Or.inl ⟨by rfl, ?_⟩) (by assumption) ?_; (intro w hSw; (try dsimp only at hSw); go_simp); (try simp only [Act.put, List.setIfInBounds_toArray, List.set_cons_zero, List.set_cons_succ]))
            (refine wpAnyH_take (i := 1) (oi := ⟨some 114, _, _, _, _, _⟩) (v := .bool true) rfl (by kernel_rfl) (by kernel_rfl) (by kernel_rfl) (fun _ _ _ h => h) (Or.inl ⟨by rfl, ?_⟩) (by assumption) ?_; (intro w hSw; (try dsimp only at hSw); go_simp); (try simp only [Act.put, List.setIfInBounds_toArray, List.set_cons_zero, List.set_cons_succ]))
            (refine wpAnyH_take (i := 2) (oi := ⟨some 115, _, _, _, _, _⟩) (v := .agg #[.int .i64 W, .int .i64 H, .string s]) rfl (by kernel_rfl) (by kernel_rfl) (by kernel_rfl) (fun _ _ _ h => h) (Or.inl ⟨by rfl, ?_⟩) (by assumption) ?_; (intro w hSw; (try dsimp only at hSw); go_simp); (try simp only [Act.put, List.setIfInBounds_toArray, List.set_cons_zero, List.set_cons_succ]))
            (refine wpAnyH_take (i := 3) (oi := ⟨some 116, _, _, _, _, _⟩) (v := .int .i64 (A : Int)) rfl (by kernel_rfl) (by kernel_rfl) (by kernel_rfl) (fun _ _ _ h => h) (Or.inl ⟨by rfl, ?_⟩) (by assumption) ?_; (intro w hSw; (try dsimp only at hSw); go_simp); (try simp only [Act.put, List.setIfInBounds_toArray, List.set_cons_zero, List.set_cons_succ]))
            (refine wpAnyH_take (i := 4) (oi := ⟨some 117, _, _, _, _, _⟩) (v := .slice A3 0 k3) rfl (by kernel_rfl) (by kernel_rfl) (by kernel_rfl) (fun _ _ _ h => h) (Or.inl ⟨by rfl, ?_⟩) (by assumption) ?_; (intro w hSw; (try dsimp only at hSw); go_simp); (try simp only [Act.put, List.setIfInBounds_toArray, List.set_cons_zero, List.set_cons_succ]))
            (refine wpAnyH_take (i := 5) (oi := ⟨some 118, _, _, _, _, _⟩) (v := .slice A1 n1 p1) rfl (by kernel_rfl) (by kernel_rfl) (by kernel_rfl) (fun _ _ _ h => h) (Or.inl ⟨by rfl, ?_⟩) (by assumption) ?_; (intro w hSw; (try dsimp only at hSw); go_simp); (try simp only [Act.put, List.setIfInBounds_toArray, List.set_cons_zero, List.set_cons_succ]))
            refine wpAnyH_ready (rs := [6]) (by kernel_rfl) (by simp) ?_
            refine AllReadyH.cons (o := ⟨some 119, _, _, _, _, _⟩) rfl (fun K hK => ?_) AllReadyH.nil
            go_simp
            refine (HE1.out _).mono ?_
            rintro e w' ⟨rfl, rfl⟩
            refine hK.out _ _ hS0 (fun hS1 => ?_)
            clear hK
            refine wpAnyH_ready (rs := [7]) (by kernel_rfl) (by simp) ?_
            refine AllReadyH.cons (o := ⟨some 120, _, _, _, _, _⟩) rfl (fun K hK => ?_) AllReadyH.nil
            go_simp
            refine (HISW.out _ HB.out.drew).mono ?_
            rintro e w6 ⟨rfl, hb6⟩
            have HX7 := Lib.hid (HX6.out.drew.after hb6)
            have HB7 := Lib.hid (HB.out.drew.trans (hb6.mono HB.out.size))
            have e0 := HX7.out.c0
            have e1 := HX7.out.c1
            have e2 := HX7.out.c2
            have r7 := HQ.out w6 HB7.out
            clear hb6
            refine hK.out _ _ ⟨e0, e1, e2, r7⟩ (fun hS2 => ?_)
            clear hK
            (refine wpAnyH_take (i := 8) (oi := ⟨some 121, _, _, _, _, _⟩) (v := .bool true) rfl (by kernel_rfl) (by kernel_rfl) (by kernel_rfl) (fun _ _ _ h => h) (Or.inl ⟨by rfl, ?_⟩) (by assumption) ?_; (intro w hSw; (try dsimp only at hSw); go_simp); (try simp only [Act.put, List.setIfInBounds_toArray, List.set_cons_zero, List.set_cons_succ]))
            (refine wpAnyH_take (i := 9) (oi := ⟨some 122, _, _, _, _, _⟩) (v := .bool true) rfl (by kernel_rfl) (by kernel_rfl) (by kernel_rfl) (fun _ _ _ h => h) (Or.inl ⟨by rfl, ?_⟩) (by assumption) ?_; (intro w hSw; (try dsimp only at hSw); go_simp); (try simp only [Act.put, List.setIfInBounds_toArray, List.set_cons_zero, List.set_cons_succ]))
            (refine wpAnyH_take (i := 10) (oi := ⟨some 123, _, _, _, _, _⟩) (v := .slice A3 0 k3) rfl (by kernel_rfl) (by kernel_rfl) (by kernel_rfl) (fun _ _ _ h => h) (Or.inl ⟨by rfl, ?_⟩) (by assumption) ?_; (intro w hSw; (try dsimp only at hSw); go_simp); (try simp only [Act.put, List.setIfInBounds_toArray, List.set_cons_zero, List.set_cons_succ]))
            (refine wpAnyH_take (i := 11) (oi := ⟨some 124, _, _, _, _, _⟩) (v := .int .i64 ((0 : Nat) : Int)) rfl (by kernel_rfl) (by kernel_rfl) (by kernel_rfl) (fun _ _ _ h => h) (Or.inl ⟨by rfl, ?_⟩) (by assumption) ?_; (intro w hSw; (try dsimp only at hSw); go_simp); (try simp only [Act.put, List.setIfInBounds_toArray, List.set_cons_zero, List.set_cons_succ]))
            (refine wpAnyH_take (i := 12) (oi := ⟨some 125, _, _, _, _, _⟩) (v := .slice (some ⟨g, o, none⟩) n4 k4) rfl (by kernel_rfl) (by kernel_rfl) (by kernel_rfl) (fun _ _ _ h => h) (Or.inl ⟨by rfl, ?_⟩) (by assumption) ?_; (intro w hSw; (try dsimp only at hSw); go_simp); (try simp only [Act.put, List.setIfInBounds_toArray, List.set_cons_zero, List.set_cons_succ]))
            (refine wpAnyH_take (i := 13) (oi := ⟨some 126, _, _, _, _, _⟩) (v := .int .i64 (A : Int)) rfl (by kernel_rfl) (by kernel_rfl) (by kernel_rfl) (fun _ _ _ h => h) (Or.inl ⟨by rfl, ?_⟩) (by assumption) ?_; (intro w hSw; (try dsimp only at hSw); go_simp); (try simp only [Act.put, List.setIfInBounds_toArray, List.set_cons_zero, List.set_cons_succ]))
            (refine wpAnyH_take (i := 14) (oi := ⟨some 127, _, _, _, _, _⟩) (v := .pointer (some ⟨g, o + A, none⟩)) rfl (by kernel_rfl) (by kernel_rfl) (by kernel_rfl) (fun _ _ _ h => h) (Or.inl ⟨by rfl, ?_⟩) (by assumption) ?_; (intro w hSw; (try dsimp only at hSw); go_simp); (try simp only [Act.put, List.setIfInBounds_toArray, List.set_cons_zero, List.set_cons_succ]))
            (refine wpAnyH_take (i := 15) (oi := ⟨some 128, _, _, _, _, _⟩) (v := .int .i64 ((0 : Nat) : Int)) rfl (by kernel_rfl) (by kernel_rfl) (by kernel_rfl) (fun _ _ _ h => h) (Or.inl ⟨by rfl, ?_⟩) (by assumption) ?_; (intro w hSw; (try dsimp only at hSw); go_simp); (try simp only [Act.put, List.setIfInBounds_toArray, List.set_cons_zero, List.set_cons_succ]))
            (refine wpAnyH_take (i := 16) (oi := ⟨some 129, _, _, _, _, _⟩) (v := .bool true) rfl (by kernel_rfl) (by kernel_rfl) (by kernel_rfl) (fun _ _ _ h => h) (Or.inl ⟨by rfl, ?_⟩) (by assumption) ?_; (intro w hSw; (try dsimp only at hSw); go_simp); (try simp only [Act.put, List.setIfInBounds_toArray, List.set_cons_zero, List.set_cons_succ]))
            (refine wpAnyH_take (i := 17) (oi := ⟨some 130, _, _, _, _, _⟩) (v := .bool true) rfl (by kernel_rfl) (by kernel_rfl) (by kernel_rfl) (fun _ _ _ h => h) (Or.inl ⟨by rfl, ?_⟩) (by assumption) ?_; (intro w hSw; (try dsimp only at hSw); go_simp); (try simp only [Act.put, List.setIfInBounds_toArray, List.set_cons_zero, List.set_cons_succ]))
            (refine wpAnyH_take (i := 18) (oi := ⟨some 131, _, _, _, _, _⟩) (v := .bool true) rfl (by kernel_rfl) (by kernel_rfl) (by kernel_rfl) (fun _ _ _ h => h) (Or.inl ⟨by rfl, ?_⟩) (by assumption) ?_; (intro w hSw; (try dsimp only at hSw); go_simp); (try simp only [Act.put, List.setIfInBounds_toArray, List.set_cons_zero, List.set_cons_succ]))
            (refine wpAnyH_take (i := 19) (oi := ⟨some 132, _, _, _, _, _⟩) (v := .slice A3 0 k3) rfl (by kernel_rfl) (by kernel_rfl) (by kernel_rfl) (fun _ _ _ h => h) (Or.inl ⟨by rfl, ?_⟩) (by assumption) ?_; (intro w hSw; (try dsimp only at hSw); go_simp); (try simp only [Act.put, List.setIfInBounds_toArray, List.set_cons_zero, List.set_cons_succ]))
            (refine wpAnyH_take (i := 20) (oi := ⟨some 133, _, _, _, _, _⟩) (v := .int .i64 ((0 : Nat) : Int)) rfl (by kernel_rfl) (by kernel_rfl) (by kernel_rfl) (fun _ _ _ h => h) (Or.inl ⟨by rfl, ?_⟩) (by assumption) ?_; (intro w hSw; (try dsimp only at hSw); go_simp); (try simp only [Act.put, List.setIfInBounds_toArray, List.set_cons_zero, List.set_cons_succ]))
            (refine wpAnyH_take (i := 21) (oi := ⟨some 134, _, _, _, _, _⟩) (v := .bool true) rfl (by kernel_rfl) (by kernel_rfl) (by kernel_rfl) (fun _ _ _ h => h) (Or.inl ⟨by rfl, ?_⟩) (by assumption) ?_; (intro w hSw; (try dsimp only at hSw); go_simp); (try simp only [Act.put, List.setIfInBounds_toArray, List.set_cons_zero, List.set_cons_succ]))
            (refine wpAnyH_take (i := 22) (oi := ⟨some 135, _, _, _, _, _⟩) (v := .int .i64 (A : Int)) rfl (by kernel_rfl) (by kernel_rfl) (by kernel_rfl) (fun _ _ _ h => h) (Or.inl ⟨by rfl, ?_⟩) (by assumption) ?_; (intro w hSw; (try dsimp only at hSw); go_simp); (try simp only [Act.put, List.setIfInBounds_toArray, List.set_cons_zero, List.set_cons_succ]))
            (refine wpAnyH_take (i := 23) (oi := ⟨some 136, _, _, _, _, _⟩) (v := .int .i64 (A : Int)) rfl (by kernel_rfl) (by kernel_rfl) (by kernel_rfl) (fun _ _ _ h => h) (Or.inl ⟨by rfl, ?_⟩) (by assumption) ?_; (intro w hSw; (try dsimp only at hSw); go_simp); (try simp only [Act.put, List.setIfInBounds_toArray, List.set_cons_zero, List.set_cons_succ]))
            (refine wpAnyH_take (i := 24) (oi := ⟨some 137, _, _, _, _, _⟩) (v := .bool true) rfl (by kernel_rfl) (by kernel_rfl) (by kernel_rfl) (fun _ _ _ h => h) (Or.inl ⟨by rfl, ?_⟩) (by assumption) ?_; (intro w hSw; (try dsimp only at hSw); go_simp); (try simp only [Act.put, List.setIfInBounds_toArray, List.set_cons_zero, List.set_cons_succ]))
            (refine wpAnyH_take (i := 25) (oi := ⟨some 138, _, _, _, _, _⟩) (v := .bool true) rfl (by kernel_rfl) (by kernel_rfl) (by kernel_rfl) (fun _ _ _ h => h) (Or.inl ⟨by rfl, ?_⟩) (by assumption) ?_; (intro w hSw; (try dsimp only at hSw); go_simp); (try simp only [Act.put, List.setIfInBounds_toArray, List.set_cons_zero, List.set_cons_succ]))
            (refine wpAnyH_take (i := 26) (oi := ⟨some 139, _, _, _, _, _⟩) (v := .bool true) rfl (by kernel_rfl) (by kernel_rfl) (by kernel_rfl) (fun _ _ _ h => h) (Or.inl ⟨by rfl, ?_⟩) (by assumption) ?_; (intro w hSw; (try dsimp only at hSw); go_simp); (try simp only [Act.put, List.setIfInBounds_toArray, List.set_cons_zero, List.set_cons_succ]))
            (refine wpAnyH_take (i := 27) (oi := ⟨some 140, _, _, _, _, _⟩) (v := .bool true) rfl (by kernel_rfl) (by kernel_rfl) (by kernel_rfl) (fun _ _ _ h => h) (Or.inl ⟨by rfl, ?_⟩) (by assumption) ?_; (intro w hSw; (try dsimp only at hSw); go_simp); (try simp only [Act.put, List.setIfInBounds_toArray, List.set_cons_zero, List.set_cons_succ]))
            (refine wpAnyH_take (i := 28) (oi := ⟨some 141, _, _, _, _, _⟩) (v := .slice A3 0 k3) rfl (by kernel_rfl) (by kernel_rfl) (by kernel_rfl) (fun _ _ _ h => h) (Or.inl ⟨by rfl, ?_⟩) (by assumption) ?_; (intro w hSw; (try dsimp only at hSw); go_simp); (try simp only [Act.put, List.setIfInBounds_toArray, List.set_cons_zero, List.set_cons_succ]))
            (refine wpAnyH_take (i := 29) (oi := ⟨some 142, _, _, _, _, _⟩) (v := .int .i64 ((0 : Nat) : Int)) rfl (by kernel_rfl) (by kernel_rfl) (by kernel_rfl) (fun _ _ _ h => h) (Or.inl ⟨by rfl, ?_⟩) (by assumption) ?_; (intro w hSw; (try dsimp only at hSw); go_simp); (try simp only [Act.put, List.setIfInBounds_toArray, List.set_cons_zero, List.set_cons_succ]))
            (refine wpAnyH_take (i := 30) (oi := ⟨some 143, _, _, _, _, _⟩) (v := .bool true) rfl (by kernel_rfl) (by kernel_rfl) (by kernel_rfl) (fun _ _ _ h => h) (Or.inl ⟨by rfl, ?_⟩) (by assumption) ?_; (intro w hSw; (try dsimp only at hSw); go_simp); (try simp only [Act.put, List.setIfInBounds_toArray, List.set_cons_zero, List.set_cons_succ]))
            (refine wpAnyH_take (i := 31) (oi := ⟨some 144, _, _, _, _, _⟩) (v := .bool true) rfl (by kernel_rfl) (by kernel_rfl) (by kernel_rfl) (fun _ _ _ h => h) (Or.inl ⟨by rfl, ?_⟩) (by assumption) ?_; (intro w hSw; (try dsimp only at hSw); go_simp); (try simp only [Act.put, List.setIfInBounds_toArray, List.set_cons_zero, List.set_cons_succ]))
            (refine wpAnyH_take (i := 32) (oi := ⟨some 145, _, _, _, _, _⟩) (v := undef) rfl (by kernel_rfl) (by kernel_rfl) (by kernel_rfl) (fun _ _ _ h => h) (Or.inr ⟨by rfl, rfl⟩) (by assumption) ?_; (try simp only [Act.put, List.setIfInBounds_toArray, List.set_cons_zero, List.set_cons_succ]))
            (refine wpAnyH_take (i := 33) (oi := ⟨some 146, _, _, _, _, _⟩) (v := undef) rfl (by kernel_rfl) (by kernel_rfl) (by kernel_rfl) (fun _ _ _ h => h) (Or.inr ⟨by rfl, rfl⟩) (by assumption) ?_; (try simp only [Act.put, List.setIfInBounds_toArray, List.set_cons_zero, List.set_cons_succ]))
            (refine wpAnyH_take (i := 34) (oi := ⟨some 147, _, _, _, _, _⟩) (v := undef) rfl (by kernel_rfl) (by kernel_rfl) (by kernel_rfl) (fun _ _ _ h => h) (Or.inr ⟨by rfl, rfl⟩) (by assumption) ?_; (try simp only [Act.put, List.setIfInBounds_toArray, List.set_cons_zero, List.set_cons_succ]))
            (refine wpAnyH_take (i := 35) (oi := ⟨some 148, _, _, _, _, _⟩) (v := undef) rfl (by kernel_rfl) (by kernel_rfl) (by kernel_rfl) (fun _ _ _ h => h) (Or.inr ⟨by rfl, rfl⟩) (by assumption) ?_; (try simp only [Act.put, List.setIfInBounds_toArray, List.set_cons_zero, List.set_cons_succ]))
            (refine wpAnyH_take (i := 36) (oi := ⟨some 149, _, _, _, _, _⟩) (v := undef) rfl (by kernel_rfl) (by kernel_rfl) (by kernel_rfl) (fun _ _ _ h => h) (Or.inr ⟨by rfl, rfl⟩) (by assumption) ?_; (try simp only [Act.put, List.setIfInBounds_toArray, List.set_cons_zero, List.set_cons_succ]))
            (refine wpAnyH_take (i := 37) (oi := ⟨some 150, _, _, _, _, _⟩) (v := undef) rfl (by kernel_rfl) (by kernel_rfl) (by kernel_rfl) (fun _ _ _ h => h) (Or.inr ⟨by rfl, rfl⟩) (by assumption) ?_; (try simp only [Act.put, List.setIfInBounds_toArray, List.set_cons_zero, List.set_cons_succ]))
            (refine wpAnyH_take (i := 38) (oi := ⟨some 151, _, _, _, _, _⟩) (v := undef) rfl (by kernel_rfl) (by kernel_rfl) (by kernel_rfl) (fun _ _ _ h => h) (Or.inr ⟨by rfl, rfl⟩) (by assumption) ?_; (try simp only [Act.put, List.setIfInBounds_toArray, List.set_cons_zero, List.set_cons_succ]))
            (refine wpAnyH_take (i := 39) (oi := ⟨some 152, _, _, _, _, _⟩) (v := undef) rfl (by kernel_rfl) (by kernel_rfl) (by kernel_rfl) (fun _ _ _ h => h) (Or.inr ⟨by rfl, rfl⟩) (by assumption) ?_; (try simp only [Act.put, List.setIfInBounds_toArray, List.set_cons_zero, List.set_cons_succ]))
            (refine wpAnyH_take (i := 40) (oi := ⟨some 153, _, _, _, _, _⟩) (v := .bool true) rfl (by kernel_rfl) (by kernel_rfl) (by kernel_rfl) (fun _ _ _ h => h) (Or.inl ⟨by rfl, ?_⟩) (by assumption) ?_; (intro w hSw; (try dsimp only at hSw); go_simp); (try simp only [Act.put, List.setIfInBounds_toArray, List.set_cons_zero, List.set_cons_succ]))
            (refine wpAnyH_take (i := 41) (oi := ⟨some 154, _, _, _, _, _⟩) (v := .bool true) rfl (by kernel_rfl) (by kernel_rfl) (by kernel_rfl) (fun _ _ _ h => h) (Or.inl ⟨by rfl, ?_⟩) (by assumption) ?_; (intro w hSw; (try dsimp only at hSw); go_simp); (try simp only [Act.put, List.setIfInBounds_toArray, List.set_cons_zero, List.set_cons_succ]))
            (refine wpAnyH_take (i := 42) (oi := ⟨some 8, _, _, _, _, _⟩) (v := .bool true) rfl (by kernel_rfl) (by kernel_rfl) (by kernel_rfl) (fun _ _ _ h => h) (Or.inl ⟨by rfl, ?_⟩) (by assumption) ?_; (intro w hSw; (try dsimp only at hSw); go_simp); (try simp only [Act.put, List.setIfInBounds_toArray, List.set_cons_zero, List.set_cons_succ]))
            refine wpAnyH_done (by kernel_rfl) ?_ _
            go_wp2_with fail
            go_ret
            exact ⟨rfl, HX7.out.below⟩
          · have hP0 : P ≠ [] := fun e => hj0 (by have := HPL.out; rw [e] at this; exact this.symm)
            have hAT : ((A : Int) == (T : Int)) = false := by rw [beq_eq_false_iff_ne]; intro e; exact hP0 (HY.out.none.2 (by omega))
            have hl := HY.out.last hP0
            have hjz : ((j : Int) == 0) = false := by rw [beq_eq_false_iff_ne]; omega
            have hsub : IntKind.i64.wrap ((j : Int) - 1) = ((j - 1 : Nat) : Int) := by rw [IntWalk.i64_in _ (by omega)]; omega
            have hlt3 : ((j - 1 : Nat) : Int) < (j : Int) := by omega
            obtain ⟨g3, o3, rfl, _, hcell⟩ := HI34.out.cell (by omega)
            have HQ3 : Hid (∀ wz, Below w4.heap.size w4 wz → wz.cell? ⟨g3, o3 + (j - 1), none⟩ = some (.int .i64 (T : Int))) := Lib.hid (fun wz hb => by
              obtain ⟨g', o', e1, _, q⟩ := (HI34.out.below hb).cell (by omega)
              simp only [Option.some.injEq, Addr.mk.injEq, and_true] at e1
              obtain ⟨rfl, rfl⟩ := e1
              rw [q (j - 1) (by omega)]
              rw [List.getLast?_eq_getElem?, HPL.out] at hl
              rw [List.getD_eq_getElem?_getD, hl]; rfl)
            have r3 := HQ3.out wr HB.out
            clear hcell hl hP0
            go_wp2_with fail
            refine wp_region_held_drew (S := fun w' => w'.cell? ⟨w.heap.size, 0, none⟩ = some (.int .i64 W) ∧ w'.cell? ⟨w.heap.size, 1, none⟩ = some (.int .i64 H) ∧ w'.cell? ⟨w.heap.size, 2, none⟩ = some (.string s) ∧ w'.cell? ⟨g, o + T, none⟩ = some (.int .i64 (j : Int)) ∧ w'.cell? ⟨g3, o3 + (j - 1), none⟩ = some (.int .i64 (T : Int))) (by kernel_rfl) (by simp; exact ⟨c0, c1, c2, r, r3⟩) (fun hS0 => ?_)
            (refine wpAnyH_take (i := 0) (oi := ⟨some 113, _, _, _, _, _⟩) (v := .bool true) rfl (by kernel_rfl) (by kernel_rfl) (by kernel_rfl) (fun _ _ _ h => h) (Or.inl ⟨by rfl, ?_⟩) (by assumption) ?_; (intro w hSw; (try dsimp only at hSw); go_simp); (try simp only [Act.put, List.setIfInBounds_toArray, List.set_cons_zero, List.set_cons_succ]))
            (refine wpAnyH_take (i := 1) (oi := ⟨some 114, _, _, _, _, _⟩) (v := .bool true) rfl (by kernel_rfl) (by kernel_rfl) (by kernel_rfl) (fun _ _ _ h => h) (Or.inl ⟨by rfl, ?_⟩) (by assumption) ?_; (intro w hSw; (try dsimp only at hSw); go_simp); (try simp only [Act.put, List.setIfInBounds_toArray, List.set_cons_zero, List.set_cons_succ]))
            (refine wpAnyH_take (i := 2) (oi := ⟨some 115, _, _, _, _, _⟩) (v := .agg #[.int .i64 W, .int .i64 H, .string s]) rfl (by kernel_rfl) (by kernel_rfl) (by kernel_rfl) (fun _ _ _ h => h) (Or.inl ⟨by rfl, ?_⟩) (by assumption) ?_; (intro w hSw; (try dsimp only at hSw); go_simp); (try simp only [Act.put, List.setIfInBounds_toArray, List.set_cons_zero, List.set_cons_succ]))
            (refine wpAnyH_take (i := 3) (oi := ⟨some 116, _, _, _, _, _⟩) (v := .int .i64 (A : Int)) rfl (by kernel_rfl) (by kernel_rfl) (by kernel_rfl) (fun _ _ _ h => h) (Or.inl ⟨by rfl, ?_⟩) (by assumption) ?_; (intro w hSw; (try dsimp only at hSw); go_simp); (try simp only [Act.put, List.setIfInBounds_toArray, List.set_cons_zero, List.set_cons_succ]))
            (refine wpAnyH_take (i := 4) (oi := ⟨some 117, _, _, _, _, _⟩) (v := .slice (some ⟨g3, o3, none⟩) j k3) rfl (by kernel_rfl) (by kernel_rfl) (by kernel_rfl) (fun _ _ _ h => h) (Or.inl ⟨by rfl, ?_⟩) (by assumption) ?_; (intro w hSw; (try dsimp only at hSw); go_simp); (try simp only [Act.put, List.setIfInBounds_toArray, List.set_cons_zero, List.set_cons_succ]))
            (refine wpAnyH_take (i := 5) (oi := ⟨some 118, _, _, _, _, _⟩) (v := .slice A1 n1 p1) rfl (by kernel_rfl) (by kernel_rfl) (by kernel_rfl) (fun _ _ _ h => h) (Or.inl ⟨by rfl, ?_⟩) (by assumption) ?_; (intro w hSw; (try dsimp only at hSw); go_simp); (try simp only [Act.put, List.setIfInBounds_toArray, List.set_cons_zero, List.set_cons_succ]))
            refine wpAnyH_ready (rs := [6]) (by kernel_rfl) (by simp) ?_
            refine AllReadyH.cons (o := ⟨some 119, _, _, _, _, _⟩) rfl (fun K hK => ?_) AllReadyH.nil
            go_simp
            refine (HE1.out _).mono ?_
            rintro e w' ⟨rfl, rfl⟩
            refine hK.out _ _ hS0 (fun hS1 => ?_)
            clear hK
            refine wpAnyH_ready (rs := [7]) (by kernel_rfl) (by simp) ?_
            refine AllReadyH.cons (o := ⟨some 120, _, _, _, _, _⟩) rfl (fun K hK => ?_) AllReadyH.nil
            go_simp
            refine (HISW.out _ HB.out.drew).mono ?_
            rintro e w6 ⟨rfl, hb6⟩
            have HX7 := Lib.hid (HX6.out.drew.after hb6)
            have HB7 := Lib.hid (HB.out.drew.trans (hb6.mono HB.out.size))
            have e0 := HX7.out.c0
            have e1 := HX7.out.c1
            have e2 := HX7.out.c2
            have r7 := HQ.out w6 HB7.out
            have r8 := HQ3.out w6 HB7.out
            clear hb6
            refine hK.out _ _ ⟨e0, e1, e2, r7, r8⟩ (fun hS2 => ?_)
            clear hK
            (refine wpAnyH_take (i := 8) (oi := ⟨some 121, _, _, _, _, _⟩) (v := .bool true) rfl (by kernel_rfl) (by kernel_rfl) (by kernel_rfl) (fun _ _ _ h => h) (Or.inl ⟨by rfl, ?_⟩) (by assumption) ?_; (intro w hSw; (try dsimp only at hSw); go_simp); (try simp only [Act.put, List.setIfInBounds_toArray, List.set_cons_zero, List.set_cons_succ]))
            (refine wpAnyH_take (i := 9) (oi := ⟨some 122, _, _, _, _, _⟩) (v := .bool true) rfl (by kernel_rfl) (by kernel_rfl) (by kernel_rfl) (fun _ _ _ h => h) (Or.inl ⟨by rfl, ?_⟩) (by assumption) ?_; (intro w hSw; (try dsimp only at hSw); go_simp); (try simp only [Act.put, List.setIfInBounds_toArray, List.set_cons_zero, List.set_cons_succ]))
            (refine wpAnyH_take (i := 10) (oi := ⟨some 123, _, _, _, _, _⟩) (v := .slice (some ⟨g3, o3, none⟩) j k3) rfl (by kernel_rfl) (by kernel_rfl) (by kernel_rfl) (fun _ _ _ h => h) (Or.inl ⟨by rfl, ?_⟩) (by assumption) ?_; (intro w hSw; (try dsimp only at hSw); go_simp); (try simp only [Act.put, List.setIfInBounds_toArray, List.set_cons_zero, List.set_cons_succ]))
            (refine wpAnyH_take (i := 11) (oi := ⟨some 124, _, _, _, _, _⟩) (v := .int .i64 (j : Int)) rfl (by kernel_rfl) (by kernel_rfl) (by kernel_rfl) (fun _ _ _ h => h) (Or.inl ⟨by rfl, ?_⟩) (by assumption) ?_; (intro w hSw; (try dsimp only at hSw); go_simp); (try simp only [Act.put, List.setIfInBounds_toArray, List.set_cons_zero, List.set_cons_succ]))
            (refine wpAnyH_take (i := 12) (oi := ⟨some 125, _, _, _, _, _⟩) (v := .slice (some ⟨g, o, none⟩) n4 k4) rfl (by kernel_rfl) (by kernel_rfl) (by kernel_rfl) (fun _ _ _ h => h) (Or.inl ⟨by rfl, ?_⟩) (by assumption) ?_; (intro w hSw; (try dsimp only at hSw); go_simp); (try simp only [Act.put, List.setIfInBounds_toArray, List.set_cons_zero, List.set_cons_succ]))
            (refine wpAnyH_take (i := 13) (oi := ⟨some 126, _, _, _, _, _⟩) (v := .int .i64 (T : Int)) rfl (by kernel_rfl) (by kernel_rfl) (by kernel_rfl) (fun _ _ _ h => h) (Or.inl ⟨by rfl, ?_⟩) (by assumption) ?_; (intro w hSw; (try dsimp only at hSw); go_simp); (try simp only [Act.put, List.setIfInBounds_toArray, List.set_cons_zero, List.set_cons_succ]))
            (refine wpAnyH_take (i := 14) (oi := ⟨some 127, _, _, _, _, _⟩) (v := .pointer (some ⟨g, o + T, none⟩)) rfl (by kernel_rfl) (by kernel_rfl) (by kernel_rfl) (fun _ _ _ h => h) (Or.inl ⟨by rfl, ?_⟩) (by assumption) ?_; (intro w hSw; (try dsimp only at hSw); go_simp); (try simp only [Act.put, List.setIfInBounds_toArray, List.set_cons_zero, List.set_cons_succ]))
            (refine wpAnyH_take (i := 15) (oi := ⟨some 128, _, _, _, _, _⟩) (v := .int .i64 (j : Int)) rfl (by kernel_rfl) (by kernel_rfl) (by kernel_rfl) (fun _ _ _ h => h) (Or.inl ⟨by rfl, ?_⟩) (by assumption) ?_; (intro w hSw; (try dsimp only at hSw); go_simp); (try simp only [Act.put, List.setIfInBounds_toArray, List.set_cons_zero, List.set_cons_succ]))
            (refine wpAnyH_take (i := 16) (oi := ⟨some 129, _, _, _, _, _⟩) (v := .bool true) rfl (by kernel_rfl) (by kernel_rfl) (by kernel_rfl) (fun _ _ _ h => h) (Or.inl ⟨by rfl, ?_⟩) (by assumption) ?_; (intro w hSw; (try dsimp only at hSw); go_simp); (try simp only [Act.put, List.setIfInBounds_toArray, List.set_cons_zero, List.set_cons_succ]))
            (refine wpAnyH_take (i := 17) (oi := ⟨some 130, _, _, _, _, _⟩) (v := .bool true) rfl (by kernel_rfl) (by kernel_rfl) (by kernel_rfl) (fun _ _ _ h => h) (Or.inl ⟨by rfl, ?_⟩) (by assumption) ?_; (intro w hSw; (try dsimp only at hSw); go_simp); (try simp only [Act.put, List.setIfInBounds_toArray, List.set_cons_zero, List.set_cons_succ]))
            (refine wpAnyH_take (i := 18) (oi := ⟨some 131, _, _, _, _, _⟩) (v := .bool true) rfl (by kernel_rfl) (by kernel_rfl) (by kernel_rfl) (fun _ _ _ h => h) (Or.inl ⟨by rfl, ?_⟩) (by assumption) ?_; (intro w hSw; (try dsimp only at hSw); go_simp); (try simp only [Act.put, List.setIfInBounds_toArray, List.set_cons_zero, List.set_cons_succ]))
            (refine wpAnyH_take (i := 19) (oi := ⟨some 132, _, _, _, _, _⟩) (v := .slice (some ⟨g3, o3, none⟩) j k3) rfl (by kernel_rfl) (by kernel_rfl) (by kernel_rfl) (fun _ _ _ h => h) (Or.inl ⟨by rfl, ?_⟩) (by assumption) ?_; (intro w hSw; (try dsimp only at hSw); go_simp); (try simp only [Act.put, List.setIfInBounds_toArray, List.set_cons_zero, List.set_cons_succ]))
            (refine wpAnyH_take (i := 20) (oi := ⟨some 133, _, _, _, _, _⟩) (v := .int .i64 (j : Int)) rfl (by kernel_rfl) (by kernel_rfl) (by kernel_rfl) (fun _ _ _ h => h) (Or.inl ⟨by rfl, ?_⟩) (by assumption) ?_; (intro w hSw; (try dsimp only at hSw); go_simp); (try simp only [Act.put, List.setIfInBounds_toArray, List.set_cons_zero, List.set_cons_succ]))
            (refine wpAnyH_take (i := 21) (oi := ⟨some 134, _, _, _, _, _⟩) (v := .bool false) rfl (by kernel_rfl) (by kernel_rfl) (by kernel_rfl) (fun _ _ _ h => h) (Or.inl ⟨by rfl, ?_⟩) (by assumption) ?_; (intro w hSw; (try dsimp only at hSw); go_simp); (try simp only [Act.put, List.setIfInBounds_toArray, List.set_cons_zero, List.set_cons_succ]))
            (refine wpAnyH_take (i := 22) (oi := ⟨some 135, _, _, _, _, _⟩) (v := .int .i64 (A : Int)) rfl (by kernel_rfl) (by kernel_rfl) (by kernel_rfl) (fun _ _ _ h => h) (Or.inl ⟨by rfl, ?_⟩) (by assumption) ?_; (intro w hSw; (try dsimp only at hSw); go_simp); (try simp only [Act.put, List.setIfInBounds_toArray, List.set_cons_zero, List.set_cons_succ]))
            (refine wpAnyH_take (i := 23) (oi := ⟨some 136, _, _, _, _, _⟩) (v := .int .i64 (T : Int)) rfl (by kernel_rfl) (by kernel_rfl) (by kernel_rfl) (fun _ _ _ h => h) (Or.inl ⟨by rfl, ?_⟩) (by assumption) ?_; (intro w hSw; (try dsimp only at hSw); go_simp); (try simp only [Act.put, List.setIfInBounds_toArray, List.set_cons_zero, List.set_cons_succ]))
            (refine wpAnyH_take (i := 24) (oi := ⟨some 137, _, _, _, _, _⟩) (v := .bool false) rfl (by kernel_rfl) (by kernel_rfl) (by kernel_rfl) (fun _ _ _ h => h) (Or.inl ⟨by rfl, ?_⟩) (by assumption) ?_; (intro w hSw; (try dsimp only at hSw); go_simp); (try simp only [Act.put, List.setIfInBounds_toArray, List.set_cons_zero, List.set_cons_succ]))
            (refine wpAnyH_take (i := 25) (oi := ⟨some 138, _, _, _, _, _⟩) (v := .bool true) rfl (by kernel_rfl) (by kernel_rfl) (by kernel_rfl) (fun _ _ _ h => h) (Or.inl ⟨by rfl, ?_⟩) (by assumption) ?_; (intro w hSw; (try dsimp only at hSw); go_simp); (try simp only [Act.put, List.setIfInBounds_toArray, List.set_cons_zero, List.set_cons_succ]))
            (refine wpAnyH_take (i := 26) (oi := ⟨some 139, _, _, _, _, _⟩) (v := .bool true) rfl (by kernel_rfl) (by kernel_rfl) (by kernel_rfl) (fun _ _ _ h => h) (Or.inl ⟨by rfl, ?_⟩) (by assumption) ?_; (intro w hSw; (try dsimp only at hSw); go_simp); (try simp only [Act.put, List.setIfInBounds_toArray, List.set_cons_zero, List.set_cons_succ]))
            (refine wpAnyH_take (i := 27) (oi := ⟨some 140, _, _, _, _, _⟩) (v := .bool true) rfl (by kernel_rfl) (by kernel_rfl) (by kernel_rfl) (fun _ _ _ h => h) (Or.inl ⟨by rfl, ?_⟩) (by assumption) ?_; (intro w hSw; (try dsimp only at hSw); go_simp); (try simp only [Act.put, List.setIfInBounds_toArray, List.set_cons_zero, List.set_cons_succ]))
            (refine wpAnyH_take (i := 28) (oi := ⟨some 141, _, _, _, _, _⟩) (v := .slice (some ⟨g3, o3, none⟩) j k3) rfl (by kernel_rfl) (by kernel_rfl) (by kernel_rfl) (fun _ _ _ h => h) (Or.inl ⟨by rfl, ?_⟩) (by assumption) ?_; (intro w hSw; (try dsimp only at hSw); go_simp); (try simp only [Act.put, List.setIfInBounds_toArray, List.set_cons_zero, List.set_cons_succ]))
            (refine wpAnyH_take (i := 29) (oi := ⟨some 142, _, _, _, _, _⟩) (v := .int .i64 (j : Int)) rfl (by kernel_rfl) (by kernel_rfl) (by kernel_rfl) (fun _ _ _ h => h) (Or.inl ⟨by rfl, ?_⟩) (by assumption) ?_; (intro w hSw; (try dsimp only at hSw); go_simp); (try simp only [Act.put, List.setIfInBounds_toArray, List.set_cons_zero, List.set_cons_succ]))
            (refine wpAnyH_take (i := 30) (oi := ⟨some 143, _, _, _, _, _⟩) (v := .bool false) rfl (by kernel_rfl) (by kernel_rfl) (by kernel_rfl) (fun _ _ _ h => h) (Or.inl ⟨by rfl, ?_⟩) (by assumption) ?_; (intro w hSw; (try dsimp only at hSw); go_simp); (try simp only [Act.put, List.setIfInBounds_toArray, List.set_cons_zero, List.set_cons_succ]))
            (refine wpAnyH_take (i := 31) (oi := ⟨some 144, _, _, _, _, _⟩) (v := .bool false) rfl (by kernel_rfl) (by kernel_rfl) (by kernel_rfl) (fun _ _ _ h => h) (Or.inl ⟨by rfl, ?_⟩) (by assumption) ?_; (intro w hSw; (try dsimp only at hSw); go_simp); (try simp only [Act.put, List.setIfInBounds_toArray, List.set_cons_zero, List.set_cons_succ]))
            (refine wpAnyH_take (i := 32) (oi := ⟨some 145, _, _, _, _, _⟩) (v := .slice (some ⟨g3, o3, none⟩) j k3) rfl (by kernel_rfl) (by kernel_rfl) (by kernel_rfl) (fun _ _ _ h => h) (Or.inl ⟨by rfl, ?_⟩) (by assumption) ?_; (intro w hSw; (try dsimp only at hSw); go_simp); (try simp only [Act.put, List.setIfInBounds_toArray, List.set_cons_zero, List.set_cons_succ]))
            (refine wpAnyH_take (i := 33) (oi := ⟨some 146, _, _, _, _, _⟩) (v := .slice (some ⟨g3, o3, none⟩) j k3) rfl (by kernel_rfl) (by kernel_rfl) (by kernel_rfl) (fun _ _ _ h => h) (Or.inl ⟨by rfl, ?_⟩) (by assumption) ?_; (intro w hSw; (try dsimp only at hSw); go_simp); (try simp only [Act.put, List.setIfInBounds_toArray, List.set_cons_zero, List.set_cons_succ]))
            (refine wpAnyH_take (i := 34) (oi := ⟨some 147, _, _, _, _, _⟩) (v := .int .i64 (j : Int)) rfl (by kernel_rfl) (by kernel_rfl) (by kernel_rfl) (fun _ _ _ h => h) (Or.inl ⟨by rfl, ?_⟩) (by assumption) ?_; (intro w hSw; (try dsimp only at hSw); go_simp); (try simp only [Act.put, List.setIfInBounds_toArray, List.set_cons_zero, List.set_cons_succ]))
            (refine wpAnyH_take (i := 35) (oi := ⟨some 148, _, _, _, _, _⟩) (v := .int .i64 ((j - 1 : Nat) : Int)) rfl (by kernel_rfl) (by kernel_rfl) (by kernel_rfl) (fun _ _ _ h => h) (Or.inl ⟨by rfl, ?_⟩) (by assumption) ?_; (intro w hSw; (try dsimp only at hSw); go_simp); (try simp only [Act.put, List.setIfInBounds_toArray, List.set_cons_zero, List.set_cons_succ]))
            (refine wpAnyH_take (i := 36) (oi := ⟨some 149, _, _, _, _, _⟩) (v := .pointer (some ⟨g3, o3 + (j - 1), none⟩)) rfl (by kernel_rfl) (by kernel_rfl) (by kernel_rfl) (fun _ _ _ h => h) (Or.inl ⟨by rfl, ?_⟩) (by assumption) ?_; (intro w hSw; (try dsimp only at hSw); go_simp); (try simp only [Act.put, List.setIfInBounds_toArray, List.set_cons_zero, List.set_cons_succ]))
            (refine wpAnyH_take (i := 37) (oi := ⟨some 150, _, _, _, _, _⟩) (v := .int .i64 (T : Int)) rfl (by kernel_rfl) (by kernel_rfl) (by kernel_rfl) (fun _ _ _ h => h) (Or.inl ⟨by rfl, ?_⟩) (by assumption) ?_; (intro w hSw; (try dsimp only at hSw); go_simp); (try simp only [Act.put, List.setIfInBounds_toArray, List.set_cons_zero, List.set_cons_succ]))
            (refine wpAnyH_take (i := 38) (oi := ⟨some 151, _, _, _, _, _⟩) (v := .int .i64 (T : Int)) rfl (by kernel_rfl) (by kernel_rfl) (by kernel_rfl) (fun _ _ _ h => h) (Or.inl ⟨by rfl, ?_⟩) (by assumption) ?_; (intro w hSw; (try dsimp only at hSw); go_simp); (try simp only [Act.put, List.setIfInBounds_toArray, List.set_cons_zero, List.set_cons_succ]))
            (refine wpAnyH_take (i := 39) (oi := ⟨some 152, _, _, _, _, _⟩) (v := .bool true) rfl (by kernel_rfl) (by kernel_rfl) (by kernel_rfl) (fun _ _ _ h => h) (Or.inl ⟨by rfl, ?_⟩) (by assumption) ?_; (intro w hSw; (try dsimp only at hSw); go_simp); (try simp only [Act.put, List.setIfInBounds_toArray, List.set_cons_zero, List.set_cons_succ]))
            (refine wpAnyH_take (i := 40) (oi := ⟨some 153, _, _, _, _, _⟩) (v := .bool true) rfl (by kernel_rfl) (by kernel_rfl) (by kernel_rfl) (fun _ _ _ h => h) (Or.inl ⟨by rfl, ?_⟩) (by assumption) ?_; (intro w hSw; (try dsimp only at hSw); go_simp); (try simp only [Act.put, List.setIfInBounds_toArray, List.set_cons_zero, List.set_cons_succ]))
            (refine wpAnyH_take (i := 41) (oi := ⟨some 154, _, _, _, _, _⟩) (v := .bool true) rfl (by kernel_rfl) (by kernel_rfl) (by kernel_rfl) (fun _ _ _ h => h) (Or.inl ⟨by rfl, ?_⟩) (by assumption) ?_; (intro w hSw; (try dsimp only at hSw); go_simp); (try simp only [Act.put, List.setIfInBounds_toArray, List.set_cons_zero, List.set_cons_succ]))
            (refine wpAnyH_take (i := 42) (oi := ⟨some 8, _, _, _, _, _⟩) (v := .bool true) rfl (by kernel_rfl) (by kernel_rfl) (by kernel_rfl) (fun _ _ _ h => h) (Or.inl ⟨by rfl, ?_⟩) (by assumption) ?_; (intro w hSw; (try dsimp only at hSw); go_simp); (try simp only [Act.put, List.setIfInBounds_toArray, List.set_cons_zero, List.set_cons_succ]))
            refine wpAnyH_done (by kernel_rfl) ?_ _
            go_wp2_with fail
            go_ret
            exact ⟨rfl, HX7.out.below⟩
  · have hd : decide (s.size ≤ 80) = false := decide_eq_false h80
    rw [hd]
    clear hd
    go_wp2_with fail
    go_ret
    exact ⟨rfl, HX2.out.below⟩
end Go.Proofs.YtaioiobimenkfaaDoor
