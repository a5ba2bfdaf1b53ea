/-
  WindowEither: the walk.
-/
import Derived.Test.YtafcdclaaagdlaaWindowSumsW
set_option linter.unusedVariables false
set_option maxRecDepth 100000
namespace Go.Proofs.Ytafcdclaaagdlaa.Wn
open Go.RowKit Go.Maps

set_option maxHeartbeats 2000000 in
/-- Whether a moment is in one of some windows. -/
theorem in_any (A : Option Addr) (n c : Nat) (L : List (Int × Int)) (m : Int) (w : World) (h : Wt w.heap.size w A n c L) (hn : n ≤ 1000000) :
    Calls Try.prog 18 #[.int .i64 m, .slice A n c] w fun e w' => e = .returned (.bool (inW m L)) ∧ Below w.heap.size w w' := by
  have HL := Lib.hid h
  have HLN := Lib.hid h.len
  have hs := h.size
  have hs1 := hs.1
  have hs2 := hs.2
  clear h hs
  go_enter Try.func18, Try.ntmps18
  go_wp2_with fail
  go_loopw [9] (fun iv wr => ∃ j : Nat, iv = .int .i64 (j : Int) ∧ j ≤ n ∧ Hid (inW m (L.take j) = false) ∧ Below w.heap.size w wr) (fun iv _ => n - (intOf iv).toNat)
  case atStart => exact ⟨0, rfl, Nat.zero_le _, Lib.hid rfl, Below.refl _ _⟩
  case round =>
    rename World => wr
    obtain ⟨j, rfl, hj, HI, hb⟩ := hrel
    have HB := Lib.hid hb
    clear hb
    by_cases hlj : j < n
    · obtain ⟨g, off, rfl, _, hc⟩ := (HL.out.later HB.out).cell (by omega)
      obtain ⟨k1, k2⟩ := hc j hlj
      have HTS := Lib.hid (take_snoc L j (by rw [← HLN.out]; exact hlj))
      have hjI : (j : Int) < (n : Int) := by omega
      have HMEM : Hid (L.getD j (0, 0) ∈ L) := Lib.hid (by
        have hjl : j < L.length := by rw [← HLN.out]; exact hlj
        rw [List.getD_eq_getElem?_getD, List.getElem?_eq_getElem hjl]
        exact List.getElem_mem hjl)
      clear hc
      generalize hp : L.getD j (0, 0) = p at *
      obtain ⟨px, py⟩ := p
      clear hp
      have HA5 := Lib.hid ((Below.refl wr.heap.size wr).alloc (Nat.le_refl _) (.cells #[.int .i64 px, .int .i64 py] 32))
      by_cases h1 : px ≤ m
      · by_cases h2 : m < py
        · have HR : Hid (inW m L = true) := Lib.hid (by
            unfold inW
            exact List.any_eq_true.2 ⟨(px, py), HMEM.out, by simp [h1, h2]⟩)
          have d1 : decide (px ≤ m) = true := decide_eq_true h1
          have d2 : decide (m < py) = true := decide_eq_true h2
          go_wp2_with fail
          go_ret
          exact ⟨by rw [HR.out]; rfl, HB.out.trans (HA5.out.mono HB.out.size)⟩
        · have HR : Hid (inW m (L.take (j + 1)) = false) := Lib.hid (by
            have := HI.out
            unfold inW at this ⊢
            rw [HTS.out, List.any_append, this]
            simp [h2])
          have d1 : decide (px ≤ m) = true := decide_eq_true h1
          have d2 : decide (m < py) = false := decide_eq_false h2
          go_wp2_with fail
          go_roundw
          case rel => exact ⟨j + 1, by go_num, by omega, HR, HB.out.trans (HA5.out.mono HB.out.size)⟩
          case measure => simp [intOf]; omega
      · have HR : Hid (inW m (L.take (j + 1)) = false) := Lib.hid (by
          have := HI.out
          unfold inW at this ⊢
          rw [HTS.out, List.any_append, this]
          simp [h1])
        have d1 : decide (px ≤ m) = false := decide_eq_false h1
        go_wp2_with fail
        go_roundw
        case rel => exact ⟨j + 1, by go_num, by omega, HR, HB.out.trans (HA5.out.mono HB.out.size)⟩
        case measure => simp [intOf]; omega
    · obtain rfl : j = n := by omega
      have HR : Hid (inW m L = false) := Lib.hid (by have := HI.out; rw [HLN.out, List.take_length] at this; exact this)
      go_wp2_with fail
      go_ret
      exact ⟨by rw [HR.out]; rfl, HB.out⟩
theorem ord_apart {f : Int} : ∀ {L : List (Int × Int)}, Ordw f L → ∀ i, i + 1 < L.length → (L.getD i (0, 0)).2 ≤ (L.getD (i + 1) (0, 0)).1
  | [], _, i, h => by simp at h
  | p :: r, ⟨h1, h2, h3, h4⟩, 0, h => by
    have := ord_get h4 0 (by simpa using h)
    rw [List.getD_cons_succ]
    show p.2 ≤ _
    omega
  | p :: r, ⟨h1, h2, h3, h4⟩, i + 1, h => by
    rw [List.getD_cons_succ, List.getD_cons_succ]
    exact ord_apart h4 i (by simpa using h)
set_option maxHeartbeats 4000000 in
theorem windowEither_walk (A : Option Addr) (len cap : Nat) (f : Nat → Nat × Int × Int × Int) (x : Int) (hx : -9223372036854775808 ≤ x ∧ x ≤ 9223372036854775807) (m : Int) (hm : -9223372036854775808 ≤ m ∧ m ≤ 9223372036854775807) (w : World) (h : Acts w A len cap f) (hok : ∀ i, i < len → ActOk (f i)) :
    Calls Try.prog 4 #[.slice A len cap, .int .i64 x, .int .i64 m] w fun e w' => e = .returned (.bool true) ∧ Below w.heap.size w w' := by
  have HA := Lib.hid h
  have HOK := Lib.hid hok
  have HXX : Hid (IW x) := Lib.hid hx
  clear h hok hx
  go_enter Try.func4, Try.ntmps4
  go_wp2_with fail
  refine (shown_any _).mono ?_
  rintro e w1 ⟨rfl, hb1⟩
  have HB1 := Lib.hid hb1
  have HT1 := Lib.hid (Tab.new w1 w1.heap.size (Nat.le_refl _))
  clear hb1
  go_wp2_with fail
  refine (new_any w1).mono ?_
  rintro e w2 ⟨rfl, hw2⟩
  rw [← hw2] at HT1
  have HB2 : Hid (Below w1.heap.size w1 w2) := Lib.hid (by rw [hw2]; exact (Below.refl _ _).alloc (Nat.le_refl _) _)
  clear hw2
  go_wp2_with fail
  refine (few6_any A len cap w2 HA.out.le HA.out.max HA.out.nil).mono ?_
  rintro e w2' ⟨rfl, n, hn, hn2, rfl⟩
  have hcs : n ≤ cap := Nat.le_trans hn HA.out.le
  have hcs2 : cap ≤ 9223372036854775807 := by have := HA.out.max; unfold maxLen at this; omega
  obtain ⟨bs, hbs⟩ : ∃ bs, bs = w1.heap.size := ⟨_, rfl⟩
  have HBS : Hid (bs = w1.heap.size) := Lib.hid hbs
  rw [← hbs] at HT1 ⊢
  clear hbs
  go_wp2_with fail
  go_loopw [23] (fun iv wr => ∃ j : Nat, iv = .int .i64 (j : Int) ∧ j ≤ n ∧ (∃ mv T gb, Tab wr bs bs j mv T gb ∧ ∀ y, Ordw 0 (T y)) ∧ Below bs w1 wr) (fun iv _ => n - (intOf iv).toNat)
  case atStart => exact ⟨0, rfl, Nat.zero_le _, ⟨none, _, _, HT1.out, fun _ => trivial⟩, by rw [HBS.out]; exact HB2.out⟩
  case round =>
    rename World => wr
    obtain ⟨j, rfl, hj, ⟨mv, T, gb, hT, hO⟩, hb⟩ := hrel
    have HT := Lib.hid hT
    have HO := Lib.hid hO
    have HB := Lib.hid hb
    clear hT hO hb
    by_cases hlj : j < n
    · have HBW : Hid (Below w.heap.size w wr) := Lib.hid (HB1.out.trans (HB.out.mono (by rw [HBS.out]; exact HB1.out.size)))
      obtain ⟨g, off, rfl, _, hc⟩ := (HA.out.later HBW.out).cell (by omega)
      obtain ⟨k0, k1, k2, k3⟩ := hc j (by omega)
      obtain ⟨o1, o2, o3⟩ := HOK.out j (by omega)
      have hjI : (j : Int) < (n : Int) := by omega
      generalize hfj : f j = fj at *
      obtain ⟨q, a1, a2, a3⟩ := fj
      have HA3 := Lib.hid ((HB.out.alloc (by have h1 := HT.out.lo; have h2 := HT.out.cells.2.2; omega) (.cells #[.int .u8 q, .int .i64 a1, .int .i64 a2, .int .i64 a3] 34)))
      have HT3 := Lib.hid (HT.out.later ((Below.refl _ _).alloc (Nat.le_refl _) (.cells #[.int .u8 q, .int .i64 a1, .int .i64 a2, .int .i64 a3] 34)))
      have HDO := Lib.hid (does_any bs bs j mv T gb q (q % 3) a1 a2 a3 (wr.alloc (.cells #[.int .u8 q, .int .i64 a1, .int .i64 a2, .int .i64 a3] 34)) (HT.out.later ((Below.refl _ _).alloc (Nat.le_refl _) _)) o1 rfl o2 o3 (by omega) HO.out)
      clear hc o1 o2 o3
      go_wp2_with fail
      refine HDO.out.mono ?_
      rintro e w3 ⟨rfl, mv', gb', h1, h2⟩
      have H1 := Lib.hid h1
      have HB4 := Lib.hid (HA3.out.trans (HT3.out.below h2))
      clear h1 h2
      go_wp2_with fail
      go_roundw
      case rel => exact ⟨j + 1, by go_num, by omega, ⟨mv', _, gb', H1.out, act_ord HO.out⟩, HB4.out⟩
      case measure => simp [intOf]; omega
    · obtain rfl : j = n := by omega
      have hjj : ¬ ((j : Int) < (j : Int)) := by omega
      go_wp2_with fail
      refine (free_any bs bs j mv T gb x wr HT.out HXX.out).mono ?_
      have HLO : Hid ((T x).length ≤ 200 ∧ Ordw 0 (T x)) := Lib.hid ⟨Nat.le_trans (HT.out.small x) hn2, HO.out x⟩
      generalize hL : T x = L at *
      have HL := Lib.hid hL
      clear hL
      rintro e w3 ⟨A3, c3, rfl, ho3, hb3⟩
      have HO3 := Lib.hid ho3
      have HB3 := Lib.hid hb3
      clear ho3 hb3
      go_wp2_with fail
      refine (taken_any bs bs j mv T gb x w3 (HT.out.later HB3.out) HXX.out).mono ?_
      rw [HL.out]
      rintro e w4 ⟨A4, c4, rfl, ho4, hb4⟩
      have HO4 := Lib.hid ho4
      have HB4 := Lib.hid hb4
      clear ho4 hb4
      go_wp2_with fail
      obtain ⟨w5, hw5⟩ : ∃ w5, w5 = w4.alloc (.cells #[.slice A3 (frees L).length c3, .slice A4 L.length c4] 40) := ⟨_, rfl⟩
      have HA5 : Hid (Below w4.heap.size w4 w5) := Lib.hid (by rw [hw5]; exact (Below.refl _ _).alloc (Nat.le_refl _) _)
      have HF5 := Lib.hid (HO3.out.later (HB4.out.trans (HA5.out.mono HB4.out.size))).wt
      have HK5 := Lib.hid (HO4.out.later HA5.out).wt
      have HTWO : Hid (Two L w4.heap.size w5) := Lib.hid (by
        refine ⟨fun k hk => ?_, by rw [hw5, alloc_size]; omega⟩
        rcases (by omega : k = 0 ∨ k = 1) with rfl | rfl
        · exact ⟨A3, c3, by rw [hw5]; simp [World.cell?_alloc_new, both], HF5.out⟩
        · exact ⟨A4, c4, by rw [hw5]; simp [World.cell?_alloc_new, both], HK5.out⟩)
      have HB5 : Hid (Below wr.heap.size wr w5) := Lib.hid (HB3.out.trans ((HB4.out.trans (HA5.out.mono HB4.out.size)).mono HB3.out.size))
      rw [← hw5]
      clear hw5
      generalize w4.heap.size = b6 at *
      go_loopw [41] (fun kv wz => ∃ k : Nat, kv = .int .i64 (k : Int) ∧ k ≤ 2 ∧ Below w5.heap.size w5 wz) (fun kv _ => 2 - (intOf kv).toNat)
      case atStart => exact ⟨0, rfl, by omega, Below.refl _ _⟩
      case round =>
        rename World => wz
        obtain ⟨k, rfl, hk, hbz⟩ := hrel
        have HBZ := Lib.hid hbz
        clear hbz
        by_cases hlk : k < 2
        · obtain ⟨A8, c8, hc8, hw8⟩ := (HTWO.out.later HBZ.out).cell k hlk
          have HW8 := Lib.hid hw8
          have hs8 := hw8.size
          have hs81 := hs8.1
          have hs82 := hs8.2
          have HBO := Lib.hid (both_ord HLO.out.2 k)
          have hbl : (both L k).length ≤ 201 := Nat.le_trans (both_len L k) (by have := HLO.out.1; omega)
          have hkI : (k : Int) < 2 := by omega
          clear hw8 hs8
          generalize hM : both L k = M at *
          clear hM
          go_wp2_with fail
          go_loopw [47] (fun iv wy => ∃ i : Nat, iv = .int .i64 (i : Int) ∧ i ≤ M.length ∧ Below wz.heap.size wz wy) (fun iv _ => M.length - (intOf iv).toNat)
          case atStart => exact ⟨0, rfl, Nat.zero_le _, Below.refl _ _⟩
          case round =>
            rename World => wy
            obtain ⟨i2, rfl, hi2, hby⟩ := hrel
            have HBY := Lib.hid hby
            clear hby
            by_cases hli2 : i2 < M.length
            · obtain ⟨g, off, rfl, hg, hc⟩ := (HW8.out.later HBY.out).cell (by omega)
              obtain ⟨k1, k2⟩ := hc i2 hli2
              have hg2 := ord_get HBO.out i2 hli2
              have hi2I : (i2 : Int) < (M.length : Int) := by omega
              by_cases hi0 : i2 = 0
              · subst hi0
                rw [Nat.zero_mul, Nat.add_zero] at k1 k2
                clear hc
                generalize hp : M.getD 0 (0, 0) = p at *
                obtain ⟨px, py⟩ := p
                clear hp
                simp only at hg2
                have d1 : decide (px < 0) = false := decide_eq_false (by omega)
                have d2 : decide (py ≤ px) = false := decide_eq_false (by omega)
                have d3 : decide (1048576 < py) = false := decide_eq_false (by omega)
                go_wp2_with fail
                go_big_quiet (fail)
                go_wp2_with fail
                go_roundw
                case rel => exact ⟨1, by go_num, by omega, HBY.out.trans (below_drewN _ _ _)⟩
                case measure => simp [intOf]; omega
              · obtain ⟨i3, hi3⟩ : ∃ i3, i2 = i3 + 1 := ⟨i2 - 1, by omega⟩
                have hap := ord_apart HBO.out i3 (by omega)
                obtain ⟨k3, k4⟩ := hc i3 (by omega)
                rw [← hi3] at hap
                have h83 : (i2 : Int) - 1 = (i3 : Int) := by omega
                have h84 : (0 : Int) < (i2 : Int) := by omega
                have h85 : (i3 : Int) < (M.length : Int) := by omega
                clear hc hi0
                generalize hp : M.getD i2 (0, 0) = p at *
                obtain ⟨px, py⟩ := p
                generalize hp2 : M.getD i3 (0, 0) = p2 at *
                obtain ⟨qx, qy⟩ := p2
                clear hp hp2 hi3
                simp only at hg2 hap
                have d1 : decide (px < 0) = false := decide_eq_false (by omega)
                have d2 : decide (py ≤ px) = false := decide_eq_false (by omega)
                have d3 : decide (1048576 < py) = false := decide_eq_false (by omega)
                have d4 : decide (px < qy) = false := decide_eq_false (by omega)
                have d5 : decide ((0 : Int) < (i2 : Int)) = true := decide_eq_true h84
                have h86 : 0 < i2 := by omega
                have d6 : decide (0 < i2) = true := decide_eq_true h86
                go_wp2_with fail
                go_big_quiet (fail)
                go_wp2_with fail
                go_roundw
                case rel => exact ⟨i2 + 1, by go_num, by omega, HBY.out.trans (below_drewN _ _ _)⟩
                case measure => simp [intOf]; omega
            · obtain rfl : i2 = M.length := by omega
              go_wp2_with fail
              go_roundw
              case rel => exact ⟨k + 1, by go_num, by omega, HBZ.out.trans (HBY.out.mono HBZ.out.size)⟩
              case measure => simp [intOf]; omega
        · obtain rfl : k = 2 := by omega
          have HBW2 : Hid (Below w.heap.size w wz) := Lib.hid (by
            have z1 := HB1.out.size
            have q2 := HB.out
            rw [HBS.out] at q2
            have z2 := Nat.le_trans z1 q2.size
            have z3 := Nat.le_trans z2 HB5.out.size
            exact HB1.out.trans ((q2.mono z1).trans ((HB5.out.mono z2).trans (HBZ.out.mono z3))))
          have HTZ := Lib.hid (HT.out.later (HB5.out.trans (HBZ.out.mono HB5.out.size)))
          have HFZ := Lib.hid (HF5.out.later HBZ.out)
          have HKZ := Lib.hid (HK5.out.later HBZ.out)
          have HFL : Hid ((frees L).length ≤ 1000000) := Lib.hid (by have := both_len L 0; have h2 : (both L 0).length = (frees L).length := rfl; have := HLO.out.1; omega)
          have HKL : Hid (L.length ≤ 1000000) := Lib.hid (by have := HLO.out.1; omega)
          have HIS := Lib.hid (isT_in (m := m) HLO.out.2)
          have HONE := Lib.hid (in_one L 0 m (Int.le_refl _) HLO.out.2)
          by_cases hm0 : m < 0
          · have d0 : decide (m < 0) = true := decide_eq_true hm0
            have HF : Hid (isT L m = false) := Lib.hid (by rw [HIS.out]; have : ¬ 0 ≤ m := (by omega); simp [this])
            go_wp2_with fail
            refine (is_any bs bs j mv T gb x m wz HTZ.out HXX.out).mono ?_
            rw [HL.out, HF.out]
            rintro e w9 ⟨rfl, hb9⟩
            have HB9 := Lib.hid hb9
            clear hb9
            go_wp2_with fail
            go_ret
            exact ⟨rfl, HBW2.out.trans (HB9.out.mono HBW2.out.size)⟩
          · by_cases hm1 : 1048576 ≤ m
            · have d0 : decide (m < 0) = false := decide_eq_false hm0
              have d1 : decide (1048576 ≤ m) = true := decide_eq_true hm1
              have HF : Hid (isT L m = false) := Lib.hid (by rw [HIS.out]; have : ¬ m < 1048576 := (by omega); simp [this])
              go_wp2_with fail
              refine (is_any bs bs j mv T gb x m wz HTZ.out HXX.out).mono ?_
              rw [HL.out, HF.out]
              rintro e w9 ⟨rfl, hb9⟩
              have HB9 := Lib.hid hb9
              clear hb9
              go_wp2_with fail
              go_ret
              exact ⟨rfl, HBW2.out.trans (HB9.out.mono HBW2.out.size)⟩
            · have d0 : decide (m < 0) = false := decide_eq_false hm0
              have d1 : decide (1048576 ≤ m) = false := decide_eq_false hm1
              obtain ⟨bf, hbf⟩ : ∃ bf, bf = inW m (frees L) := ⟨_, rfl⟩
              have e1 : inW m L = !bf := by have := HONE.out (by omega) (by omega); rw [hbf]; unfold frees; rw [this, Bool.not_not]
              have e2 : isT L m = bf := by rw [HIS.out, e1, Bool.not_not]; have h1 : 0 ≤ m := (by omega); have h2 : m < 1048576 := (by omega); simp [h1, h2]
              have HI1 := Lib.hid (fun wx h => in_any A3 (frees L).length c3 (frees L) m wx h HFL.out)
              have HI2 := Lib.hid (fun wx h => in_any A4 L.length c4 L m wx h HKL.out)
              have HI3 := Lib.hid (fun wx h => is_any bs bs j mv T gb x m wx h HXX.out)
              rw [HL.out, e2] at HI3
              rw [← hbf] at HI1
              rw [e1] at HI2
              clear hbf e1 e2
              cases bf with
              | false =>
                go_wp2_with fail
                refine (HI1.out _ HFZ.out).mono ?_
                rintro e w6 ⟨rfl, hb6⟩
                have HB6 := Lib.hid hb6
                clear hb6
                go_wp2_with fail
                refine (HI2.out _ (HKZ.out.later HB6.out)).mono ?_
                rintro e w7 ⟨rfl, hb7⟩
                have HB7 := Lib.hid (HB6.out.trans (hb7.mono HB6.out.size))
                clear hb7
                go_wp2_with fail
                refine (HI3.out _ (HTZ.out.later HB7.out)).mono ?_
                rintro e w8 ⟨rfl, hb8⟩
                have HB8 := Lib.hid (HB7.out.trans (hb8.mono HB7.out.size))
                clear hb8
                go_wp2_with fail
                refine (HI1.out _ (HFZ.out.later HB8.out)).mono ?_
                rintro e w9 ⟨rfl, hb9⟩
                have HB9 := Lib.hid (HB8.out.trans (hb9.mono HB8.out.size))
                clear hb9
                go_wp2_with fail
                go_ret
                exact ⟨rfl, HBW2.out.trans (HB9.out.mono HBW2.out.size)⟩
              | true =>
                go_wp2_with fail
                refine (HI1.out _ HFZ.out).mono ?_
                rintro e w6 ⟨rfl, hb6⟩
                have HB6 := Lib.hid hb6
                clear hb6
                go_wp2_with fail
                refine (HI2.out _ (HKZ.out.later HB6.out)).mono ?_
                rintro e w7 ⟨rfl, hb7⟩
                have HB7 := Lib.hid (HB6.out.trans (hb7.mono HB6.out.size))
                clear hb7
                go_wp2_with fail
                refine (HI3.out _ (HTZ.out.later HB7.out)).mono ?_
                rintro e w8 ⟨rfl, hb8⟩
                have HB8 := Lib.hid (HB7.out.trans (hb8.mono HB7.out.size))
                clear hb8
                go_wp2_with fail
                refine (HI1.out _ (HFZ.out.later HB8.out)).mono ?_
                rintro e w9 ⟨rfl, hb9⟩
                have HB9 := Lib.hid (HB8.out.trans (hb9.mono HB8.out.size))
                clear hb9
                go_wp2_with fail
                go_ret
                exact ⟨rfl, HBW2.out.trans (HB9.out.mono HBW2.out.size)⟩
end Go.Proofs.Ytafcdclaaagdlaa.Wn
