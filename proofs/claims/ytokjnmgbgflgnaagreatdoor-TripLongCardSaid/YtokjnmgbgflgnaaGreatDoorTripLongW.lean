/-
  TripLong: the walk.
-/
import Derived.Test.YtokjnmgbgflgnaaGreatDoorTrL
import Derived.Test.YtokjnmgbgflgnaaGreatDoorTrArgs
set_option linter.unusedVariables false
set_option maxRecDepth 100000
namespace Go.Proofs.YtokjnmgbgflgnaaGreatDoor
namespace Tr
open Go.RowKit Fl Pt
open Bk (Gt)

/-- To and fro, so often. -/
def pr (t d : Int) : Nat → List Ac
  | 0 => []
  | i + 1 => pr t d i ++ [(1, t, 0), (1, d, 0)]
theorem pr_length (t d : Int) : ∀ i, (pr t d i).length = 2 * i
  | 0 => rfl
  | i + 1 => by rw [pr, List.length_append, pr_length t d i]; simp; omega
theorem pr_carr (t d : Int) : ∀ i, carr (pr t d i) = -1 ∧ ∀ a, a ∈ pr t d i → a.1 = 1
  | 0 => ⟨rfl, fun a h => by cases h⟩
  | i + 1 => by
    have hall : ∀ a, a ∈ pr t d (i + 1) → a.1 = 1 := fun a h => by
      rcases List.mem_append.1 h with h | h
      · exact (pr_carr t d i).2 a h
      · simp at h
        rcases h with rfl | rfl <;> rfl
    refine ⟨?_, hall⟩
    have : ∀ l : List Ac, (∀ a, a ∈ l → a.1 = 1) → carr l = -1 := fun l => by
      induction l with
      | nil => intro _; rfl
      | cons a l ih =>
        intro h
        show (if a.1 = 2 then -1 else if a.1 = 3 then a.2.2 else carr l) = -1
        have := h a (by simp)
        rw [if_neg (by omega), if_neg (by omega)]
        exact ih (fun b hb => h b (by simp [hb]))
    exact this _ hall
theorem pr_run {near : Int → Int → Bool} {lane : Int → Bool} {t d : Int} (h1 : near d t = true) (h2 : near t d = true) (hl : lane t = true) : ∀ i, runA near lane d (pr t d i) (d, -1) = some (d, -1)
  | 0 => rfl
  | i + 1 => by
    rw [pr, runA_app, pr_run h1 h2 hl i]
    show (doA near lane d (d, -1) (1, t, 0)).bind (runA near lane d [(1, d, 0)]) = _
    have e1 : doA near lane d (d, -1) (1, t, 0) = some (t, -1) := by
      unfold doA
      rw [if_pos rfl, if_pos ⟨rfl, .inr hl, h1⟩]
    rw [e1]
    show runA near lane d [(1, d, 0)] (t, -1) = _
    rw [runA_one]
    unfold doA
    rw [if_pos rfl, if_pos ⟨rfl, .inl rfl, h2⟩]
/-- A right floor has a robot 0, whose dock is beside a lane. -/
theorem robot0 {W H : Int} {s : ByteArray} (h : Right W H s) : IsRobot W H s 0 := by
  obtain ⟨a, b, rfl, rfl, hS, hR⟩ := rightNat h
  refine ⟨h, Int.le_refl _, ?_⟩
  have := hR.docks.one
  unfold docks at this
  rw [hS.sz]; omega
theorem dock_lane {W H : Int} {s : ByteArray} {d : Nat} (h : Right W H s) (hd : IsFirst s (48 + (0 : Int).toNat) d) : ∃ t, t ∈ nears W H s (d : Int) ∧ laneB s (t : Int) = true := by
  obtain ⟨a, b, rfl, rfl, hS, hR⟩ := rightNat h
  have hdk : d ∈ docks a b (at_ s) := by
    unfold docks
    rw [mem_pick, ← hS.sz]
    refine ⟨hd.1, ?_⟩
    rw [hd.2.1]; decide
  obtain ⟨t, ht, hl⟩ := hR.docks.near d hdk
  have hts : t < s.size := by rw [hS.sz]; exact side_lt hS.w1 (by rw [← hS.sz]; exact hd.1) ht
  refine ⟨t, ?_, by unfold laneB; rw [bAt_in5 s t hts]; exact hl⟩
  rw [nears_nr, mem_nr]
  exact ⟨ht, fun e => by rw [e] at hl; revert hl; decide⟩
theorem near_sym {W H : Int} {s : ByteArray} {d t : Nat} (h : Right W H s) (hd : OnFloor W H s (d : Int)) (ht : t ∈ nears W H s (d : Int)) : d ∈ nears W H s (t : Int) ∧ t < s.size := by
  obtain ⟨a, b, rfl, rfl, hS, hR⟩ := rightNat h
  obtain ⟨k, e, hk, hb⟩ := bAt_in hd.2
  obtain rfl : d = k := by omega
  rw [nears_nr, mem_nr] at ht ⊢
  have hdl : d < a * b := by rw [← hS.sz]; exact hk
  refine ⟨⟨side_sym hS.w1 hdl ht.1, fun e => hd.2 (by rw [hb]; exact e)⟩, by rw [hS.sz]; exact side_lt hS.w1 hdl ht.1⟩
theorem long_right {W H : Int} {s : ByteArray} {d t : Nat} (h : Right W H s) (hd : IsFirst s (48 + (0 : Int).toNat) d) (ht : t ∈ nears W H s (d : Int)) (hl : laneB s (t : Int) = true) (n : Nat) : RightIs W H s 0 (d : Int) (pr (t : Int) (d : Int) n) ↔ 2 * n ≤ 1024 := by
  have hr := robot0 h
  have ho := dock_on hr hd
  constructor
  · rintro ⟨_, _, _, _, q, _⟩
    rw [pr_length] at q; exact q
  · intro q
    refine ⟨d, hr, hd, .inl rfl, by rw [pr_length]; exact q, ?_⟩
    rw [(pr_carr _ _ n).1]
    exact pr_run (nearB_of ht) (nearB_of (near_sym h ho ht).1) hl n
theorem pout_zero {R : List (List UInt8)} {W H : Int} {c : ByteArray} {row : Nat} {err : Int} (h : POut R W H c row err) : err = 0 ∧ Right W H c ∨ err = 30 := by
  rcases h with ⟨_, _, _, _, _, _, e⟩ | ⟨_, hr, rfl, rfl, rfl, _, e⟩ | ⟨_, _, _, _, _, _, e⟩
  · exact .inr e
  · exact .inl ⟨e, hr⟩
  · exact .inr e
set_option maxHeartbeats 16000000 in
theorem tripLong_walk (s : ByteArray) (hs : s.size ≤ maxLen) (nb : Nat) (hnb : nb ≤ 255) (w : World) :
    Calls Tryz.prog 5 #[.string s, .int .u8 (nb : Int)] w fun e w' => e = .returned (.bool true) ∧ Below w.heap.size w w' := by
  have hsm : s.size ≤ 9223372036854775807 := by unfold maxLen at hs; omega
  go_enter Tryz.func5, Tryz.ntmps5
  go_wp2_with fail
  refine (shown10_any _).mono ?_
  rintro e w1 ⟨rfl, hb1⟩
  have HB1 := Lib.hid hb1
  clear hb1
  go_wp2_with fail
  have hx70 : (s.extract 0 (min (s.size : Int) 70).toNat).size ≤ 2000 := by rw [ByteArray.size_extract]; omega
  generalize s.extract 0 (min (s.size : Int) 70).toNat = x at *
  refine (parse_any x hx70 _).mono ?_
  rintro e w2 ⟨W, H, c, row, err, rfl, ho, hb2⟩
  have HO := Lib.hid (pout_zero ho)
  have HB2 := Lib.hid (HB1.out.trans (hb2.mono HB1.out.size))
  have HX2 := Lib.hid (Box.start w2 W H c 23)
  clear ho hb2 hx70
  rcases HO.out with ⟨rfl, hr⟩ | rfl
  · have HR := Lib.hid hr
    have hcs : c.size ≤ maxLen := by have := rightLe hr; unfold maxLen; omega
    have HDK := Lib.hid (fun wx => dock_any W H c hcs 0 wx)
    have HNE := Lib.hid (fun d wx => near_any W H c hcs d wx)
    have HZO := Lib.hid (fun z wx => zone_any W H c hcs z wx)
    have HRT := Lib.hid (fun x A n cap L wx (h : Al wx.heap.size wx A n cap L) => right_any W H c hcs 0 x A n cap L wx h)
    have c0 := HX2.out.c0
    have c1 := HX2.out.c1
    have c2 := HX2.out.c2
    clear hr hcs HO
    go_wp2_with fail
    refine (HDK.out _).mono ?_
    rintro e w3 ⟨d, q, rfl, h1, _, hb3⟩
    obtain ⟨hfd, rfl⟩ := h1 (robot0 HR.out)
    have HFD := Lib.hid hfd
    have HX3 := Lib.hid (HX2.out.after hb3)
    have HON := Lib.hid (dock_on (robot0 HR.out) hfd)
    have HDL := Lib.hid (dock_lane HR.out hfd)
    clear h1 hfd hb3 c0 c1 c2 HDK
    have c0 := HX3.out.c0
    have c1 := HX3.out.c1
    have c2 := HX3.out.c2
    go_wp2_with fail
    refine (HNE.out (d : Int) _).mono ?_
    rintro e w4 ⟨A4, n4, k4, xs, rfl, hn4, hy4, _, ho4, hb4⟩
    obtain rfl := hy4 HON.out
    have HX4 := Lib.hid (HX3.out.after hb4)
    have HI4 := Lib.hid (ho4.il hn4)
    have HN4 := Lib.hid hn4
    have hk4 := (ho4.il hn4).le
    have hk4b : k4 ≤ 9223372036854775807 := by have := (ho4.il hn4).max; unfold maxLen at this; omega
    clear hn4 hy4 ho4 hb4 c0 c1 c2 HNE
    go_wp2_with fail
    go_loopw [12, 43] (fun tv iv wr => ∃ (j : Nat) (t : Int), j ≤ n4 ∧ tv = .int .i64 t ∧ iv = .int .i64 (j : Int) ∧ Hid ((t = -1 ∧ ∀ u, u < j → laneB c (((nears W H c (d : Int)).getD u 0 : Nat) : Int) = false) ∨ ∃ z : Nat, t = (z : Int) ∧ z ∈ nears W H c (d : Int) ∧ laneB c (z : Int) = true) ∧ Hid (Below w4.heap.size w4 wr)) (fun _ iv _ => n4 - (intOf iv).toNat)
    case atStart => exact ⟨0, -1, Nat.zero_le _, rfl, rfl, Lib.hid (.inl ⟨rfl, fun u hu => by omega⟩), Lib.hid (Below.refl _ _)⟩
    case round =>
      rename World => wr
      obtain ⟨j, t, hj, rfl, rfl, HT, HB⟩ := hrel
      have HXR := Lib.hid (HX4.out.after HB.out)
      have c0 := HXR.out.c0
      have c1 := HXR.out.c1
      have c2 := HXR.out.c2
      by_cases hlt : j < n4
      · obtain ⟨g, off, rfl, hg, hc⟩ := (HI4.out.below HB.out).cell (by omega)
        have hcj := hc j hlt
        have hjI : (j : Int) < (n4 : Int) := by omega
        have hg2 : g < wr.heap.size := Nat.lt_of_lt_of_le hg HB.out.size
        have HMEM : Hid ((nears W H c (d : Int)).getD j 0 ∈ nears W H c (d : Int)) := Lib.hid (by rw [List.getD, List.getElem?_eq_getElem (by rw [← HN4.out]; exact hlt)]; exact List.getElem_mem _)
        obtain ⟨z, hz⟩ : ∃ z, z = (nears W H c (d : Int)).getD j 0 := ⟨_, rfl⟩
        have HZ := Lib.hid hz
        rw [← hz] at hcj HMEM
        clear hc hz
        go_wp2_with fail
        refine (HZO.out (z : Int) _).mono ?_
        rintro e w5 ⟨zz, lb, rfl, hz1, hz2, hb5⟩
        have HLB : Hid (lb = laneB c (z : Int)) := Lib.hid (by
          cases hl : laneB c (z : Int) with
          | true => exact (hz1 ⟨HR.out, hl⟩).2
          | false => exact (hz2 (fun q => by have := q.2; unfold laneB at hl; rw [hl] at this; cases this)).2)
        have HB5 := Lib.hid (HB.out.trans (hb5.mono HB.out.size))
        clear hz1 hz2 hb5 c0 c1 c2
        cases lb with
        | false =>
          go_wp2_with fail
          go_roundw
          case rel =>
            refine ⟨j + 1, t, by omega, rfl, by go_num, Lib.hid ?_, HB5⟩
            rcases HT.out with ⟨e, q⟩ | q
            · refine .inl ⟨e, fun u hu => ?_⟩
              rcases (by omega : u < j ∨ u = j) with k | k
              · exact q u k
              · rw [k, ← HZ.out]; exact HLB.out.symm
            · exact .inr q
          case measure => simp [intOf]; omega
        | true =>
          by_cases ht : t < 0
          · have dt : decide (t < 0) = true := decide_eq_true ht
            clear ht
            go_wp2_with fail
            go_roundw
            case rel => exact ⟨j + 1, (z : Int), by omega, rfl, by go_num, Lib.hid (.inr ⟨z, rfl, HMEM.out, HLB.out.symm⟩), HB5⟩
            case measure => simp [intOf]; omega
          · have dt : decide (t < 0) = false := decide_eq_false ht
            have HT2 : Hid (∃ z : Nat, t = (z : Int) ∧ z ∈ nears W H c (d : Int) ∧ laneB c (z : Int) = true) := Lib.hid (by
              rcases HT.out with ⟨e, _⟩ | q
              · omega
              · exact q)
            clear ht
            go_wp2_with fail
            go_roundw
            case rel => exact ⟨j + 1, t, by omega, rfl, by go_num, Lib.hid (.inr HT2.out), HB5⟩
            case measure => simp [intOf]; omega
      · obtain rfl : j = n4 := by omega
        have HTL : Hid (∃ z : Nat, t = (z : Int) ∧ z ∈ nears W H c (d : Int) ∧ laneB c (z : Int) = true) := Lib.hid (by
          rcases HT.out with ⟨e, q⟩ | q
          · exfalso
            obtain ⟨z, hz1, hz2⟩ := HDL.out
            obtain ⟨u, hu, rfl⟩ := List.getElem_of_mem hz1
            have h1 := q u (by rw [HN4.out]; exact hu)
            rw [List.getD, List.getElem?_eq_getElem hu] at h1
            rw [show laneB c (((nears W H c (d : Int))[u] : Nat) : Int) = false from h1] at hz2; cases hz2
          · exact q)
        obtain ⟨z, rfl, hz1, hz2⟩ := HTL.out
        have HZM := Lib.hid (And.intro hz1 hz2)
        have dz : decide ((z : Int) < 0) = false := decide_eq_false (by omega)
        obtain ⟨mb, hmb⟩ : ∃ mb, mb = nb % 100 := ⟨_, rfl⟩
        have hmb2 : mb < 100 := by omega
        have hr1 : (nb : Int) % 100 = (mb : Int) := by omega
        have hr2 : Int.tmod (nb : Int) 100 = (mb : Int) := by rw [Int.tmod_eq_emod_of_nonneg (by omega)]; exact hr1
        have HXZ := HXR
        have HBW : Hid (Below w.heap.size w wr) := Lib.hid (HB2.out.trans (HXR.out.below.mono HB2.out.size))
        clear hz1 hz2 HTL HT hmb HX4 HX3 HB c0 c1 c2
        obtain ⟨N, hN⟩ : ∃ N, N = 462 + mb := ⟨_, rfl⟩
        have hNI : 512 + (mb : Int) - 50 = (N : Int) := by omega
        have hN2 : N ≤ 561 := by omega
        clear hN
        go_wp2_with fail
        clear hr1 hr2 hNI
        go_loopw [17, 72] (fun zv iv wz => ∃ (i : Nat) (A5 : Option Addr) (n5 k5 : Nat), i ≤ N ∧ zv = .slice A5 n5 k5 ∧ iv = .int .i64 (i : Int) ∧ Hid (Aw wz wr.heap.size (.slice A5 n5 k5) (pr (z : Int) (d : Int) i)) ∧ Hid (Below wr.heap.size wr wz)) (fun _ iv _ => N - (intOf iv).toNat)
        case atStart => exact ⟨0, none, 0, 0, Nat.zero_le _, rfl, rfl, Lib.hid (Aw.nil _ _), Lib.hid (Below.refl _ _)⟩
        case round =>
          rename World => wz
          obtain ⟨i, A5, n5, k5, hi, rfl, rfl, HAW, HB⟩ := hrel
          by_cases hlt2 : i < N
          · have hiI : (i : Int) < (N : Int) := by omega
            have hlit := al_lit (w := wz) [(1, (z : Int), 0), (1, (d : Int), 0)] (cs := #[.int .u8 1, .int .i64 (z : Int), .int .i64 0, .int .u8 1, .int .i64 (d : Int), .int .i64 0]) rfl (by simp)
            have HLIT : Hid (Al (wz.alloc (.cells #[.int .u8 1, .int .i64 (z : Int), .int .i64 0, .int .u8 1, .int .i64 (d : Int), .int .i64 0] 44)).heap.size (wz.alloc (.cells #[.int .u8 1, .int .i64 (z : Int), .int .i64 0, .int .u8 1, .int .i64 (d : Int), .int .i64 0] 44)) (some ⟨wz.heap.size, 0, none⟩) 2 2 [(1, (z : Int), 0), (1, (d : Int), 0)]) := Lib.hid hlit
            have hal := (Below.refl wz.heap.size wz).alloc (Nat.le_refl _) (.cells #[.int .u8 1, .int .i64 (z : Int), .int .i64 0, .int .u8 1, .int .i64 (d : Int), .int .i64 0] 44)
            have HAW2 := Lib.hid (HAW.out.later hal)
            have HB2' := Lib.hid (HB.out.trans (hal.mono HB.out.size))
            have HLEN : Hid ((pr (z : Int) (d : Int) i).length + 2 ≤ 1000000) := Lib.hid (by rw [pr_length]; omega)
            clear hlit hal
            go_wp2_with (at_builtin; refine app_acts rfl _ _ rfl wr.heap.size _ (pr (z : Int) (d : Int) i) rfl HAW2.out (some ⟨wz.heap.size, 0, none⟩) 2 2 [(1, (z : Int), 0), (1, (d : Int), 0)] rfl HLIT.out HLEN.out HB2'.out.size ?_; intro A' n' c' w6 hn6 ho6 hb6 hg6 _; have HO6 := Lib.hid ho6; have HB6 := Lib.hid hb6; clear hn6 ho6 hb6 hg6)
            go_roundw
            case rel => exact ⟨i + 1, A', n', c', by omega, rfl, by go_num, Lib.hid (by rw [pr]; exact HO6.out), Lib.hid (HB2'.out.trans HB6.out)⟩
            case measure => simp [intOf]; omega
          · obtain rfl : i = N := by omega
            have HAL := Lib.hid HAW.out.al.2
            have HXE := Lib.hid (HXZ.out.after HB.out)
            have HBE := Lib.hid (HBW.out.trans (HB.out.mono HBW.out.size))
            have HRR := Lib.hid (long_right HR.out HFD.out HZM.out.1 HZM.out.2 i)
            have c0 := HXE.out.c0
            have c1 := HXE.out.c1
            have c2 := HXE.out.c2
            clear HAW HB HXZ HBW HXR
            go_wp2_with fail
            refine (HRT.out _ _ _ _ _ _ HAL.out).mono ?_
            rintro e w7 ⟨q, rfl, hq, hb7⟩
            have HB7 := Lib.hid (HBE.out.trans (hb7.mono HBE.out.size))
            have HQ : Hid (q = true ↔ 2 * i ≤ 1024) := Lib.hid (hq.trans HRR.out)
            clear hq hb7 c0 c1 c2
            by_cases h2i : 2 * i ≤ 1024
            · obtain rfl : q = true := HQ.out.2 h2i
              have d2 : decide (2 * (i : Int) ≤ 1024) = true := decide_eq_true (by omega)
              go_wp2_with fail
              go_ret
              exact ⟨by first | rfl | (simp; done) | (simp; omega), HB7.out⟩
            · obtain rfl : q = false := by
                cases q with
                | false => rfl
                | true => exact absurd (HQ.out.1 rfl) h2i
              have d2 : decide (2 * (i : Int) ≤ 1024) = false := decide_eq_false (by omega)
              go_wp2_with fail
              go_ret
              exact ⟨by first | rfl | (simp; done) | (simp; omega), HB7.out⟩
  · go_wp2_with fail
    go_ret
    exact ⟨by first | rfl | simp, HB2.out.trans (HX2.out.below.mono HB2.out.size)⟩
end Tr
end Go.Proofs.YtokjnmgbgflgnaaGreatDoor
