/-
  WindowPlays: the walk.
-/
import Derived.Test.YtafcdclaaagdlaaWnY
import Derived.Deep.RegionHeld3
set_option linter.unusedVariables false
set_option maxRecDepth 100000
namespace Go.Proofs.Ytafcdclaaagdlaa.Wn
open Go.RowKit Go.Maps

theorem act_cells {w : World} {b : Nat} {q : Nat} {x y z : Int} (h : w.heap[b]? = some (.cells #[.int .u8 q, .int .i64 x, .int .i64 y, .int .i64 z] 34 (0, 0))) : w.cell? ⟨b, 0, none⟩ = some (.int .u8 q) ∧ w.cell? ⟨b, 1, none⟩ = some (.int .i64 x) ∧ w.cell? ⟨b, 2, none⟩ = some (.int .i64 y) ∧ w.cell? ⟨b, 3, none⟩ = some (.int .i64 z) :=
  ⟨by rw [cell_of_row w b 0 _ _ _ h]; rfl, by rw [cell_of_row w b 1 _ _ _ h]; rfl, by rw [cell_of_row w b 2 _ _ _ h]; rfl, by rw [cell_of_row w b 3 _ _ _ h]; rfl⟩
set_option maxHeartbeats 8000000 in
theorem windowPlays_walk (A : Option Addr) (len cap : Nat) (f : Nat → Nat × Int × Int × Int) (x : Int) (hx : -9223372036854775808 ≤ x ∧ x ≤ 9223372036854775807) (m : Int) (hm : -9223372036854775808 ≤ m ∧ m ≤ 9223372036854775807) (w : World) (h : Acts w A len cap f) (hok : ∀ i, i < len → ActOk (f i)) :
    Calls Try.prog 3 #[.slice A len cap, .int .i64 x, .int .i64 m] w fun e w' => e = .returned (.bool true) ∧ Below w.heap.size w w' := by
  have HA := Lib.hid h
  have HOK := Lib.hid hok
  have HXX : Hid (IW x) := Lib.hid hx
  clear h hok hx
  go_enter Try.func3, Try.ntmps3
  go_wp2_with fail
  refine (shown_any _).mono ?_
  rintro e w1 ⟨rfl, hb1⟩
  have HB1 := Lib.hid hb1
  have HT1 := Lib.hid (Tab.new w1 w1.heap.size (Nat.le_refl _))
  clear hb1
  go_wp2_with fail
  refine (new_any w1).mono ?_
  rintro e w2 ⟨rfl, hw2⟩
  rw [← hw2] at HT1
  have HB2 : Hid (Below w1.heap.size w1 w2) := Lib.hid (by rw [hw2]; exact (Below.refl _ _).alloc (Nat.le_refl _) _)
  have HBO1 : Hid (Bo (w2.alloc (.cells #[.slice none 0 0] 29)) w1.heap.size w1.heap.size w2.heap.size 0 none (fun _ => []) (fun _ => 0) none 0 []) := Lib.hid ⟨HT1.out.later ((Below.refl _ _).alloc (Nat.le_refl _) _), RT.new w2, fun _ => trivial, fun _ => rfl, Nat.le_refl _, HB2.out.size⟩
  have HB3 : Hid (Below w1.heap.size w1 (w2.alloc (.cells #[.slice none 0 0] 29))) := Lib.hid (HB2.out.alloc HB2.out.size _)
  clear hw2
  go_wp2_with (go_at_call 8; refine (few6_any A len cap _ HA.out.le HA.out.max HA.out.nil).mono ?_; rintro e w2' ⟨rfl, n, hn, hn2, rfl⟩)
  have hcs : n ≤ cap := Nat.le_trans hn HA.out.le
  have hcs2 : cap ≤ 9223372036854775807 := by have := HA.out.max; unfold maxLen at this; omega
  obtain ⟨bs, hbs⟩ : ∃ bs, bs = w1.heap.size := ⟨_, rfl⟩
  obtain ⟨rb, hrb⟩ : ∃ rb, rb = w2.heap.size := ⟨_, rfl⟩
  have HBS : Hid (bs = w1.heap.size) := Lib.hid hbs
  rw [← hbs, ← hrb] at HBO1
  rw [← hbs] at HB3
  rw [← hbs, ← hrb]
  clear hbs hrb
  generalize w2.alloc (.cells #[.slice none 0 0] 29) = w3 at *
  go_loopw [23] (fun iv wr => ∃ j : Nat, iv = .int .i64 (j : Int) ∧ j ≤ n ∧ (∃ mv T gb A' c' R, Bo wr bs bs rb j mv T gb A' c' R) ∧ Below bs w1 wr) (fun iv _ => n - (intOf iv).toNat)
  case atStart => exact ⟨0, rfl, Nat.zero_le _, ⟨_, _, _, _, _, _, HBO1.out⟩, HB3.out⟩
  case round =>
    rename World => wr
    obtain ⟨j, rfl, hj, ⟨mv, T, gb, A', c', R, hT⟩, hb⟩ := hrel
    have HT := Lib.hid hT
    have HB := Lib.hid hb
    clear hT hb
    by_cases hlj : j < n
    · have HBW : Hid (Below w.heap.size w wr) := Lib.hid (HB1.out.trans (HB.out.mono (by rw [HBS.out]; exact HB1.out.size)))
      obtain ⟨g, off, rfl, _, hc⟩ := (HA.out.later HBW.out).cell (by omega)
      obtain ⟨k0, k1, k2, k3⟩ := hc j (by omega)
      obtain ⟨o1, o2, o3⟩ := HOK.out j (by omega)
      have hjI : (j : Int) < (n : Int) := by omega
      generalize hfj : f j = fj at *
      obtain ⟨q, a1, a2, a3⟩ := fj
      simp only at k0 k1 k2 k3 o1 o2 o3
      have HQ : Hid (q ≤ 255) := Lib.hid o1
      have HX1 : Hid (IW a1) := Lib.hid o2
      have HX2 : Hid (IW a2) := Lib.hid o3
      have hblk : (wr.alloc (.cells #[.int .u8 q, .int .i64 a1, .int .i64 a2, .int .i64 a3] 34)).heap[wr.heap.size]? = some (.cells #[.int .u8 q, .int .i64 a1, .int .i64 a2, .int .i64 a3] 34 (0, 0)) := heap_alloc_new _ _
      have HBLK := Lib.hid hblk
      have hAB : Below wr.heap.size wr (wr.alloc (.cells #[.int .u8 q, .int .i64 a1, .int .i64 a2, .int .i64 a3] 34)) := (Below.refl _ _).alloc (Nat.le_refl _) _
      have HBO3 := Lib.hid (HT.out.later hAB)
      have HBB3 : Hid (Below bs w1 (wr.alloc (.cells #[.int .u8 q, .int .i64 a1, .int .i64 a2, .int .i64 a3] 34))) := Lib.hid (HB.out.trans (hAB.mono (by have h1 := HT.out.tab.lo; have h2 := HT.out.tab.cells.2.2; omega)))
      obtain ⟨ra, hra⟩ : ∃ ra : Int × (Int → List (Int × Int)), ra = act T (q % 3) a1 a2 a3 := ⟨_, rfl⟩
      have HDO := Lib.hid (fun wx (h : Bo wx bs bs rb j mv T gb A' c' R) => does_bo bs bs rb j mv T gb A' c' R q (q % 3) a1 a2 a3 wx h HQ.out rfl HX1.out HX2.out (by omega))
      have HMO := Lib.hid (model_bo bs bs rb j T ra.2 A' c' R q (q % 3) a1 a2 a3 HQ.out rfl (by omega) (by rw [hra]) HT.out.ord HT.out.same HT.out.few HT.out.box)
      rw [← hra] at HDO HMO
      obtain ⟨rn, rT⟩ := ra
      simp only at HDO HMO
      have HLS : Hid (wr.heap.size < (wr.alloc (.cells #[.int .u8 q, .int .i64 a1, .int .i64 a2, .int .i64 a3] 34)).heap.size) := Lib.hid (by simp)
      obtain ⟨c0, c1, c2, c3⟩ := act_cells hblk
      clear hc hra hfj hblk hAB o1 o2 o3
      go_wp2_with fail
      go_region_held3 (fun w' => w'.cell? ⟨wr.heap.size, 0, none⟩ = some (.int .u8 q) ∧ w'.cell? ⟨wr.heap.size, 1, none⟩ = some (.int .i64 a1) ∧ w'.cell? ⟨wr.heap.size, 2, none⟩ = some (.int .i64 a2) ∧ w'.cell? ⟨wr.heap.size, 3, none⟩ = some (.int .i64 a3)) (go_keep)
        ((first
          | (go_at_call 9; refine (HDO.out _ (HBO3.out.later (Below.refl _ _).drew)).mono ?_; rintro e w4 ⟨rfl, ht4, hr4, hb4, hk4⟩; have HT4 := Lib.hid ht4; have HR4 := Lib.hid hr4; have HB4 := Lib.hid hb4; have hh4 := (hk4 _ _ _ HBLK.out).trans HBLK.out; have HH4 := Lib.hid hh4; obtain ⟨e0, e1, e2, e3⟩ := act_cells hh4; clear ht4 hr4 hb4 hk4 hh4)
          | (go_at_call 10; refine (HMO.out _ HT4.out HR4.out).mono ?_; rintro e w5 ⟨rfl, ht5, hb5, hk5⟩; have HT5 := Lib.hid ht5; have HB5 := Lib.hid hb5; have hh5 := (hk5 _ _ _ HH4.out).trans HH4.out; have HH5 := Lib.hid hh5; obtain ⟨e0, e1, e2, e3⟩ := act_cells hh5; clear ht5 hb5 hk5 hh5)))
      clear k0 k1 k2 k3 c0 c1 c2 c3 HDO HMO HT4 HR4
      obtain ⟨mv5, gb5, A5, c5, R5, hbo5⟩ := HT5.out
      have HBO5 := Lib.hid hbo5
      have HB6 := Lib.hid (HBB3.out.drew.trans (HB4.out.trans HB5.out))
      obtain ⟨b6, hb6⟩ : ∃ b6, b6 = w5.heap.size := ⟨_, rfl⟩
      obtain ⟨w6, hw6⟩ : ∃ w6, w6 = w5.alloc (.cells #[.int .i64 a1, .int .i64 x] 3) := ⟨_, rfl⟩
      have HA6 : Hid (Below w5.heap.size w5 w6) := Lib.hid (by rw [hw6]; exact (Below.refl _ _).alloc (Nat.le_refl _) _)
      have HC6 : Hid (∀ k, k < 2 → w6.cell? ⟨b6, k, none⟩ = some (.int .i64 (if k = 0 then a1 else x))) := Lib.hid (by
        intro k hk
        rcases (by omega : k = 0 ∨ k = 1) with rfl | rfl
        · rw [hw6, hb6]; simp [World.cell?_alloc_new]
        · rw [hw6, hb6]; simp [World.cell?_alloc_new])
      have HL6 : Hid (b6 < w6.heap.size) := Lib.hid (by rw [hw6, hb6, alloc_size]; omega)
      have HBO6 := Lib.hid (HBO5.out.later HA6.out)
      have HB7 : Hid (Below bs w1 w6) := Lib.hid (HB6.out.trans (HA6.out.mono (by have h1 := HBO5.out.tab.lo; have h2 := HBO5.out.tab.cells.2.2; omega)))
      have HE6 : Hid (w6.cell? ⟨wr.heap.size, 3, none⟩ = some (.int .i64 a3)) := Lib.hid ((HA6.out.cell (p := ⟨wr.heap.size, 3, none⟩) (lt_of_heap HH5.out)).trans e3)
      have HL7 : Hid (wr.heap.size < w6.heap.size) := Lib.hid (Nat.lt_of_lt_of_le (lt_of_heap HH5.out) HA6.out.size)
      clear hbo5 HT5 HB4 HB5
      go_wp2_with fail
      rw [← hw6, ← hb6]
      clear hw6 hb6 e0 e1 e2 e3 HH4 HH5 HBLK HA6 HBO5 HB6
      go_loopw [39] (fun kv wz => ∃ k : Nat, kv = .int .i64 (k : Int) ∧ k ≤ 2 ∧ Below w6.heap.size w6 wz) (fun kv _ => 2 - (intOf kv).toNat)
      case atStart => exact ⟨0, rfl, by omega, Below.refl _ _⟩
      case round =>
        rename World => wz
        obtain ⟨k, rfl, hk, hbz⟩ := hrel
        have HBZ := Lib.hid hbz
        by_cases hlk : k < 2
        · have ck := (hbz.cell (p := ⟨b6, k, none⟩) HL6.out).trans (HC6.out k hlk)
          have z3 := (hbz.cell (p := ⟨wr.heap.size, 3, none⟩) HL7.out).trans HE6.out
          have hlz := Nat.lt_of_lt_of_le HL7.out hbz.size
          have hkI : (k : Int) < 2 := by omega
          have HBOZ := Lib.hid (HBO6.out.later hbz)
          have hyy : IW (if k = 0 then a1 else x) := by
            split
            · exact HX1.out
            · exact HXX.out
          clear hbz
          generalize (if k = 0 then a1 else x) = y at *
          have HY := Lib.hid hyy
          clear hyy
          obtain ⟨L, hL⟩ : ∃ L, L = rT y := ⟨_, rfl⟩
          have HLL : Hid (L.length ≤ 1000000 ∧ (frees L).length ≤ 1000000) := Lib.hid (by
            have h1 := HBO6.out.tab.small y
            rw [← hL] at h1
            have h2 := gaps_len (L ++ [(1048576, 0)]) 0
            rw [List.length_append] at h2
            have h3 : frees L = gaps 0 (L ++ [(1048576, 0)]) := rfl
            rw [h3]
            simp only [List.length_cons, List.length_nil] at h2
            omega)
          obtain ⟨bm, hbm⟩ : ∃ bm, bm = isT L m := ⟨_, rfl⟩
          obtain ⟨bt, hbt⟩ : ∃ bt, bt = isT L a3 := ⟨_, rfl⟩
          have T1 := Lib.hid (fun wx (h : Bo wx bs bs rb (j + 1) mv5 rT gb5 A5 c5 R5) => taken_bo y HY.out h)
          have T2 := Lib.hid (fun wx (h : Bo wx bs bs rb (j + 1) mv5 rT gb5 A5 c5 R5) => rtaken_bo y h)
          have F1 := Lib.hid (fun wx (h : Bo wx bs bs rb (j + 1) mv5 rT gb5 A5 c5 R5) => free_bo y HY.out h)
          have F2 := Lib.hid (fun wx (h : Bo wx bs bs rb (j + 1) mv5 rT gb5 A5 c5 R5) => rfree_bo y h)
          have I1 := Lib.hid (fun wx (h : Bo wx bs bs rb (j + 1) mv5 rT gb5 A5 c5 R5) => is_bo y m bm (by rw [hbm, hL]) HY.out h)
          have I2 := Lib.hid (fun wx (h : Bo wx bs bs rb (j + 1) mv5 rT gb5 A5 c5 R5) => ris_bo y m bm (by rw [hbm, hL]) h)
          have I3 := Lib.hid (fun wx (h : Bo wx bs bs rb (j + 1) mv5 rT gb5 A5 c5 R5) => is_bo y a3 bt (by rw [hbt, hL]) HY.out h)
          have I4 := Lib.hid (fun wx (h : Bo wx bs bs rb (j + 1) mv5 rT gb5 A5 c5 R5) => ris_bo y a3 bt (by rw [hbt, hL]) h)
          rw [← hL] at T1 T2 F1 F2
          have nm : (bm != bm) = false := by cases bm <;> rfl
          have nt : (bt != bt) = false := by cases bt <;> rfl
          clear hL hbm hbt
          generalize hFL : frees L = FL at *
          clear hFL
          go_wp2_with fail
          go_region_held3 (fun w' => w'.cell? ⟨wr.heap.size, 3, none⟩ = some (.int .i64 a3)) (go_keep)
            ((first
              | (go_at_call 17; refine (I4.out _ (HBOZ.out.later HG.out)).mono ?_; rintro e wi ⟨rfl, hb⟩; have HI := Lib.hid (HG.out.trans (hb.mono HG.out.size)); have yi := (HI.out.cell (p := ⟨wr.heap.size, 3, none⟩) hlz).trans z3; clear hb)
              | (go_at_call 16; refine (I3.out _ (HBOZ.out.later HF.out)).mono ?_; rintro e wh ⟨rfl, hb⟩; have HG := Lib.hid (HF.out.trans (hb.mono HF.out.size)); have yh := (HG.out.cell (p := ⟨wr.heap.size, 3, none⟩) hlz).trans z3; clear hb)
              | (go_at_call 17; refine (I2.out _ (HBOZ.out.later HE.out)).mono ?_; rintro e wg ⟨rfl, hb⟩; have HF := Lib.hid (HE.out.trans (hb.mono HE.out.size)); have yg := (HF.out.cell (p := ⟨wr.heap.size, 3, none⟩) hlz).trans z3; clear hb)
              | (go_at_call 16; refine (I1.out _ (HBOZ.out.later HD.out)).mono ?_; rintro e wf ⟨rfl, hb⟩; have HE := Lib.hid (HD.out.trans (hb.mono HD.out.size)); have yf := (HE.out.cell (p := ⟨wr.heap.size, 3, none⟩) hlz).trans z3; clear hb)
              | (go_at_call_of 11 (Value.slice A9 FL.length c9); refine (same_yes A9 A10 FL.length c9 c10 FL _ (HW9.out.later HN10.out) HW10.out HLL.out.2).mono ?_; rintro e we ⟨rfl, hb⟩; have HD := Lib.hid (HC.out.trans (hb.mono HC.out.size)); have ye := (HD.out.cell (p := ⟨wr.heap.size, 3, none⟩) hlz).trans z3; clear hb)
              | (go_at_call 15; refine (F2.out _ (HBOZ.out.later HB0.out)).mono ?_; rintro e wd ⟨A10, c10, rfl, hw, hb⟩; have HC := Lib.hid (HB0.out.trans (hb.mono HB0.out.size)); have HN10 := Lib.hid hb; have HW10 := Lib.hid hw; have yd := (HC.out.cell (p := ⟨wr.heap.size, 3, none⟩) hlz).trans z3; clear hb hw)
              | (go_at_call 14; refine (F1.out _ (HBOZ.out.later HAA.out)).mono ?_; rintro e wc ⟨A9, c9, rfl, hw, hb⟩; have HB0 := Lib.hid (HAA.out.trans (hb.mono HAA.out.size)); have HW9 := Lib.hid hw; have yc := (HB0.out.cell (p := ⟨wr.heap.size, 3, none⟩) hlz).trans z3; clear hb hw)
              | (go_at_call_of 11 (Value.slice A7 L.length c7); refine (same_yes A7 A8 L.length c7 c8 L _ (HW7.out.later HN8.out) HW8.out HLL.out.1).mono ?_; rintro e wb ⟨rfl, hb⟩; have HAA := Lib.hid (HZ8.out.trans (hb.mono HZ8.out.size)); have yb := (HAA.out.cell (p := ⟨wr.heap.size, 3, none⟩) hlz).trans z3; clear hb)
              | (go_at_call 13; refine (T2.out _ (HBOZ.out.later HZ7.out)).mono ?_; rintro e wa ⟨A8, c8, rfl, hw, hb⟩; have HZ8 := Lib.hid (HZ7.out.trans (hb.mono HZ7.out.size)); have HN8 := Lib.hid hb; have HW8 := Lib.hid hw; have ya := (HZ8.out.cell (p := ⟨wr.heap.size, 3, none⟩) hlz).trans z3; clear hb hw)
              | (go_at_call 12; refine (T1.out _ (HBOZ.out.later (Below.refl _ _).drew)).mono ?_; rintro e w7 ⟨A7, c7, rfl, hw, hb⟩; have HZ7 := Lib.hid ((Below.refl wz.heap.size wz).drew.trans hb); have HW7 := Lib.hid hw; have y7 := (HZ7.out.cell (p := ⟨wr.heap.size, 3, none⟩) hlz).trans z3; clear hb hw)))
          go_wp2_with fail
          go_roundw
          case rel => exact ⟨k + 1, by go_num, by omega, HBZ.out.trans (HI.out.mono HBZ.out.size)⟩
          case measure => simp [intOf]; omega
        · obtain rfl : k = 2 := by omega
          go_wp2_with fail
          go_roundw
          case rel => exact ⟨j + 1, by go_num, by omega, ⟨_, _, _, _, _, _, HBO6.out.later HBZ.out⟩, HB7.out.trans (HBZ.out.mono (by have h1 := HBO6.out.tab.lo; have h2 := HBO6.out.tab.cells.2.2; omega))⟩
          case measure => simp [intOf]; omega
    · obtain rfl : j = n := by omega
      have hjj : ¬ ((j : Int) < (j : Int)) := by omega
      go_wp2_with fail
      go_ret
      exact ⟨rfl, HB1.out.trans (HB.out.mono (by rw [HBS.out]; exact HB1.out.size))⟩
end Go.Proofs.Ytafcdclaaagdlaa.Wn
