/-
  Layer 10: Right.
-/
import Derived.Test.YtakgkocdkondhaaGreatDoorTrCd
import Derived.Test.YtakgkocdkondhaaGreatDoorFlTwo
import Derived.Deep.RegionHeld3
set_option linter.unusedVariables false
set_option maxRecDepth 100000
namespace Go.Proofs.YtakgkocdkondhaaGreatDoor
namespace Tr
open Go.RowKit Fl Pt Go.Maps

theorem run_makeMapII (w : World) : (Instr.makeMap 114 none).run Tryz.prog w = .ok (.map (some w.heap.size)) (w.alloc (.map #[] 0)) := by
  simp [Instr.makeMap, Result.andThen]
theorem run_step {near : Int → Int → Bool} {lane : Int → Bool} {dock : Int} (L : List Ac) (i : Nat) (h : i < L.length) {s0 t : Int × Int} (hr : runA near lane dock (L.take i) s0 = some t) :
    match doA near lane dock t (L.getD i (0, 0, 0)) with
    | some u => runA near lane dock (L.take (i + 1)) s0 = some u
    | none => runA near lane dock L s0 = none := by
  have h1 : runA near lane dock (L.take (i + 1)) s0 = doA near lane dock t (L.getD i (0, 0, 0)) := by
    rw [take_snoc L i (0, 0, 0) h, runA_app, hr]
    exact runA_one _ _
  cases e : doA near lane dock t (L.getD i (0, 0, 0)) with
  | some u => rw [e] at h1; exact h1
  | none =>
    rw [e] at h1
    show runA near lane dock L s0 = none
    rw [← List.take_append_drop (i + 1) L, runA_app, h1]; rfl
/-- Whether acts bring a robot from a cell to its dock. -/
def RightIs (W H : Int) (s : ByteArray) (r a : Int) (L : List Ac) : Prop :=
  ∃ d : Nat, IsRobot W H s r ∧ IsFirst s (48 + r.toNat) d ∧ (a = (d : Int) ∨ laneB s a = true) ∧ L.length ≤ 1024 ∧ runA (nearB W H s) (laneB s) (d : Int) L (a, carr L) = some ((d : Int), -1)
theorem on_dock {W H : Int} {s : ByteArray} {r x : Int} {d : Nat} (hr : Right W H s) (hd : IsFirst s (48 + r.toNat) d) (hq : r.toNat < 8) (h : x = (d : Int) ∨ laneB s x = true) : IW x ∧ OnFloor W H s x := by
  have h35 : bAt s x ≠ 35 := by
    rcases h with rfl | h
    · rw [bAt_in5 s d hd.1, hd.2.1]; omega
    · intro e
      unfold laneB at h
      rw [e] at h; revert h; decide
  obtain ⟨k, rfl, hk, _⟩ := bAt_in h35
  have := rightLe hr
  exact ⟨by unfold IW; omega, hr, h35⟩
theorem rob_lt {W H : Int} {s : ByteArray} {r : Int} (h : IsRobot W H s r) : r.toNat < 8 := by
  obtain ⟨h1, h2, h3⟩ := h
  exact (right_first h1 r.toNat (by omega)).1
theorem on_place {W H : Int} {s : ByteArray} {r a x y : Int} {d : Nat} {L : List Ac} {i : Nat} {p : Int} (hr : IsRobot W H s r) (hd : IsFirst s (48 + r.toNat) d) (ha : a = (d : Int) ∨ laneB s a = true) (h : runA (nearB W H s) (laneB s) (d : Int) (L.take i) (a, p) = some (x, y)) : IW x ∧ OnFloor W H s x :=
  on_dock hr.1 hd (rob_lt hr) ((runA_place _ h).2 ha)
/-- The robot is laid. -/
theorem mk_dr {W H : Int} {s : ByteArray} {w4 : World} {mb : Nat} {lv : Value} (hm : MapN w4 mb 0 W H s) (ho : Own w4 0 lv (lanL s)) (dock a p : Int) :
    Dr w4.heap.size mb 0 W H s lv dock a p (w4.alloc (.cells #[.int .i64 W, .int .i64 H, .string s, lv, .map (some mb), .int .i64 dock, .int .i64 a, .int .i64 p] 117)) :=
  ⟨heap_alloc_new w4 _, ho.later ((Below.refl _ _).alloc (Nat.le_refl _) _), hm.later ((Below.refl _ _).alloc (Nat.le_refl _) _)⟩
section
variable {W H : Int} {s : ByteArray} {w w1 w3 w4 : World} {lv : Value}
theorem way1 (hx : Box w W H s w1) (hb3 : Below w1.drew.heap.size w1.drew w3) (hb4 : Below (w3.alloc (.map #[] 0)).heap.size (w3.alloc (.map #[] 0)) w4) (ho : Own w3 w1.drew.heap.size lv (lanL s)) (dock a p : Int) :
    Dr w4.heap.size w3.heap.size 0 W H s lv dock a p (w4.alloc (.cells #[.int .i64 W, .int .i64 H, .string s, lv, .map (some w3.heap.size), .int .i64 dock, .int .i64 a, .int .i64 p] 117)) ∧ Below w.heap.size w (w4.alloc (.cells #[.int .i64 W, .int .i64 H, .string s, lv, .map (some w3.heap.size), .int .i64 dock, .int .i64 a, .int .i64 p] 117)) ∧ w.heap.size ≤ w4.heap.size ∧ w.heap.size ≤ w3.heap.size := by
  have x3 := Box.after hx.drew hb3
  have x3' := x3.after ((Below.refl _ _).alloc (Nat.le_refl _) (.map #[] 0))
  have x4 := x3'.after hb4
  exact ⟨mk_dr ((MapN.made w3 W H s).later hb4) (((ho.lower (Nat.zero_le _)).later ((Below.refl _ _).alloc (Nat.le_refl _) _)).later hb4) dock a p, (x4.after ((Below.refl _ _).alloc (Nat.le_refl _) _)).below, x4.below.size, x3.below.size⟩
theorem way2 (hx : Box w W H s w1) (hb3 : Below w1.drew.heap.size w1.drew w3) (hb4 : Below w3.heap.size w3 w4) (ho : Own w3 w1.drew.heap.size lv (lanL s)) (dock a p : Int) :
    Dr (w4.heap.size + 1) w4.heap.size 0 W H s lv dock a p ((w4.alloc (.map #[] 0)).alloc (.cells #[.int .i64 W, .int .i64 H, .string s, lv, .map (some w4.heap.size), .int .i64 dock, .int .i64 a, .int .i64 p] 117)) ∧ Below w.heap.size w ((w4.alloc (.map #[] 0)).alloc (.cells #[.int .i64 W, .int .i64 H, .string s, lv, .map (some w4.heap.size), .int .i64 dock, .int .i64 a, .int .i64 p] 117)) ∧ w.heap.size ≤ w4.heap.size + 1 ∧ w.heap.size ≤ w4.heap.size := by
  have x3 := Box.after hx.drew hb3
  have x4 := x3.after hb4
  have x5 := x4.after ((Below.refl _ _).alloc (Nat.le_refl _) (.map #[] 0))
  have h := mk_dr (MapN.made w4 W H s) (((ho.lower (Nat.zero_le _)).later hb4).later ((Below.refl _ _).alloc (Nat.le_refl _) (.map #[] 0))) dock a p
  rw [alloc_size] at h
  have h4 := x4.below.size
  exact ⟨h, (x5.after ((Below.refl _ _).alloc (Nat.le_refl _) _)).below, by omega, h4⟩
theorem way3 (hx : Box w W H s w1) (hb3 : Below (w1.alloc (.map #[] 0)).drew.heap.size (w1.alloc (.map #[] 0)).drew w3) (hb4 : Below w3.heap.size w3 w4) (ho : Own w3 (w1.alloc (.map #[] 0)).drew.heap.size lv (lanL s)) (dock a p : Int) :
    Dr w4.heap.size w1.heap.size 0 W H s lv dock a p (w4.alloc (.cells #[.int .i64 W, .int .i64 H, .string s, lv, .map (some w1.heap.size), .int .i64 dock, .int .i64 a, .int .i64 p] 117)) ∧ Below w.heap.size w (w4.alloc (.cells #[.int .i64 W, .int .i64 H, .string s, lv, .map (some w1.heap.size), .int .i64 dock, .int .i64 a, .int .i64 p] 117)) ∧ w.heap.size ≤ w4.heap.size ∧ w.heap.size ≤ w1.heap.size := by
  have x2 := (hx.after ((Below.refl _ _).alloc (Nat.le_refl _) (.map #[] 0))).drew
  have x3 := x2.after hb3
  have x4 := x3.after hb4
  exact ⟨mk_dr ((((MapN.made w1 W H s).later (Below.refl _ _).drew).later hb3).later hb4) ((ho.lower (Nat.zero_le _)).later hb4) dock a p, (x4.after ((Below.refl _ _).alloc (Nat.le_refl _) _)).below, x4.below.size, hx.below.size⟩
end
set_option maxHeartbeats 8000000 in
theorem right_any (W H : Int) (s : ByteArray) (hs : s.size ≤ maxLen) (r a : Int) (A : Option Addr) (n cap : Nat) (L : List Ac) (w : World) (h : Al w.heap.size w A n cap L) :
    Calls Tryz.prog 35 #[.agg #[.int .i64 W, .int .i64 H, .string s], .int .i64 r, .int .i64 a, .slice A n cap] w (Says (RightIs W H s r a L) w) := by
  have HL := Lib.hid h
  have hlen := h.len
  obtain ⟨hc1, hc2⟩ := h.size
  have HDK := Lib.hid (fun wx => dock_any W H s hs r wx)
  have HIL := Lib.hid (fun wx => isLane_any W H s hs a wx)
  have HLA := Lib.hid (fun wx => lanes_any W H s hs wx)
  have HCA := Lib.hid (fun wx (hb : Below w.heap.size w wx) => carried_any A n cap L wx ((h.below hb).raise hb.size))
  clear h
  go_enter Tryz.func35, Tryz.ntmps35
  go_wp2_with fail
  refine (HDK.out _).mono ?_
  rintro e w1 ⟨d, b, rfl, h1, h2, hb1⟩
  have HX1 := Lib.hid ((Box.start w W H s 25).after hb1)
  have c0 := HX1.out.c0
  have c1 := HX1.out.c1
  have c2 := HX1.out.c2
  have H1 := Lib.hid h1
  have H2 := Lib.hid h2
  clear h1 h2 hb1
  cases b with
  | false =>
    go_wp2_with fail
    go_ret
    exact ⟨false, rfl, iff_of_false (by decide) (fun ⟨d, q, _⟩ => by have := (H1.out q).2; cases this), HX1.out.below⟩
  | true =>
    have hrob : IsRobot W H s r := Classical.byContradiction (fun k => by have := (H2.out k).2; cases this)
    have HROB := Lib.hid hrob
    have HF := Lib.hid (H1.out hrob).1
    clear hrob H1 H2
    by_cases had : a = (d : Int)
    · have dad : (a != (d : Int)) = false := by rw [bne_eq_false_iff_eq]; exact had
      have HAD : Hid (a = (d : Int) ∨ laneB s a = true) := Lib.hid (.inl had)
      clear had
      by_cases hlong : 1024 < n
      · have hlI : (1024 : Int) < (n : Int) := by omega
        go_wp2_with fail
        go_ret
        exact ⟨false, rfl, iff_of_false (by decide) (fun ⟨d, _, _, _, q, _⟩ => by omega), HX1.out.below⟩
      · have hlI : ¬ (1024 : Int) < (n : Int) := by omega
        have hmk := run_makeMapII
        go_wp2_with fail
        go_region_held3 (fun w' => w'.cell? ⟨w.heap.size, 0, none⟩ = some (.int .i64 W) ∧ w'.cell? ⟨w.heap.size, 1, none⟩ = some (.int .i64 H) ∧ w'.cell? ⟨w.heap.size, 2, none⟩ = some (.string s)) (go_keep)
          ((first
            | (go_at_call 71; refine (HLA.out _).mono ?_; rintro e w3 ⟨A3, n3, k3, xs, rfl, hn3, hy3, _, ho3, hb3⟩; have HX3 : Hid (Box w W H s w3) := Lib.hid (Box.after (by first | exact HX1.out.drew | exact HX1.out.drew.after ((Below.refl _ _).alloc (Nat.le_refl _) _)) hb3); have e0 := HX3.out.c0; have e1 := HX3.out.c1; have e2 := HX3.out.c2; have HY3 := Lib.hid hy3; have HO3 := Lib.hid ho3; have HB3 := Lib.hid hb3; clear hn3 hy3 ho3 hb3)
            | (go_at_call 72; refine (HCA.out _ (by first | exact HX3.out.below | exact (HX3.out.after ((Below.refl _ _).alloc (Nat.le_refl _) _)).below)).mono ?_; rintro e w4 ⟨rfl, hb4⟩; have HX4 : Hid (Box w W H s w4) := Lib.hid (Box.after (by first | exact HX3.out | exact HX3.out.after ((Below.refl _ _).alloc (Nat.le_refl _) _)) hb4); have e0 := HX4.out.c0; have e1 := HX4.out.c1; have e2 := HX4.out.c2; have HB4 := Lib.hid hb4; clear hb4)))
        all_goals
          first
            | (have HDR := Lib.hid (way1 (lv := .slice A3 n3 k3) HX1.out HB3.out HB4.out (by unfold lanL; rw [← HY3.out HROB.out.1]; exact HO3.out) (d : Int) a (carr L)); generalize w4.alloc (.cells #[.int .i64 W, .int .i64 H, .string s, .slice A3 n3 k3, .map (some w3.heap.size), .int .i64 (d : Int), .int .i64 a, .int .i64 (carr L)] 117) = wz at *; clear HB3 HB4 HO3 HY3 HX3 HX4; generalize w3.heap.size = mb at *; generalize w4.heap.size = D at *)
            | (have HDR := Lib.hid (way2 (lv := .slice A3 n3 k3) HX1.out HB3.out HB4.out (by unfold lanL; rw [← HY3.out HROB.out.1]; exact HO3.out) (d : Int) a (carr L)); generalize (w4.alloc (.map #[] 0)).alloc (.cells #[.int .i64 W, .int .i64 H, .string s, .slice A3 n3 k3, .map (some w4.heap.size), .int .i64 (d : Int), .int .i64 a, .int .i64 (carr L)] 117) = wz at *; clear HB3 HB4 HO3 HY3 HX3 HX4; generalize w4.heap.size + 1 = D at *; generalize w4.heap.size = mb at *)
            | (have HDR := Lib.hid (way3 (lv := .slice A3 n3 k3) HX1.out HB3.out HB4.out (by unfold lanL; rw [← HY3.out HROB.out.1]; exact HO3.out) (d : Int) a (carr L)); generalize w4.alloc (.cells #[.int .i64 W, .int .i64 H, .string s, .slice A3 n3 k3, .map (some w1.heap.size), .int .i64 (d : Int), .int .i64 a, .int .i64 (carr L)] 117) = wz at *; clear HB3 HB4 HO3 HY3 HX3 HX4; generalize w1.heap.size = mb at *; generalize w4.heap.size = D at *)
          have HLD : Hid (w.heap.size ≤ D ∧ w.heap.size ≤ mb) := Lib.hid ⟨HDR.out.2.2.1, HDR.out.2.2.2⟩
          have HBZ := Lib.hid HDR.out.2.1
          have HDZ := Lib.hid HDR.out.1
          clear HDR hmk HLA HCA HIL HDK
          go_wp2_with fail
          go_loopw [50] (fun iv wr => ∃ (i N : Nat) (x y : Int), i ≤ n ∧ iv = .int .i64 (i : Int) ∧ Hid (runA (nearB W H s) (laneB s) (d : Int) (L.take i) (a, carr L) = some (x, y)) ∧ Hid (N ≤ i) ∧ Hid (Dr D mb N W H s (.slice A3 n3 k3) (d : Int) x y wr) ∧ Hid (Below w.heap.size w wr)) (fun iv _ => n - (intOf iv).toNat)
          case atStart => exact ⟨0, 0, a, carr L, Nat.zero_le _, rfl, Lib.hid rfl, Lib.hid (Nat.le_refl _), HDZ, HBZ⟩
          case round =>
            rename World => wr
            obtain ⟨i, N, x, y, hi, rfl, HR, HN, HDW, HB⟩ := hrel
            by_cases hlt : i < n
            · obtain ⟨g, off, rfl, hg, k0, k1, k2⟩ := (HL.out.below HB.out).cell hlt
              have hiI : (i : Int) < (n : Int) := by omega
              have hg2 : g < wr.heap.size := Nat.lt_of_lt_of_le hg HB.out.size
              have HGE := Lib.hid (run_step L i (by omega) HR.out)
              generalize L.getD i (0, 0, 0) = ac at *
              obtain ⟨k, c, p⟩ := ac
              have k0 : wr.cell? ⟨g, off + i * 3, none⟩ = some (.int .u8 (k : Int)) := k0
              have k1 : wr.cell? ⟨g, off + i * 3 + 1, none⟩ = some (.int .i64 c) := k1
              have k2 : wr.cell? ⟨g, off + i * 3 + 2, none⟩ = some (.int .i64 p) := k2
              have hal := (Below.refl wr.heap.size wr).alloc (Nat.le_refl _) (.cells #[.int .u8 (k : Int), .int .i64 c, .int .i64 p] 39)
              have HBA := Lib.hid (HB.out.trans (hal.mono HB.out.size))
              have HDA := Lib.hid (HDW.out.later hal)
              have HON := Lib.hid (on_place HROB.out HF.out HAD.out HR.out)
              clear hal
              go_wp2_with fail
              refine (do_any hs HDA.out (by have h1 := HN.out; omega) HON.out.1 HON.out.2 k c p).mono ?_
              rintro e w5 ⟨b, rfl, htw, N', hN', hm⟩
              have HBB := Lib.hid (HBA.out.trans (htw.below HBA.out.size HLD.out.1 HLD.out.2))
              have HN' := Lib.hid hN'
              cases hdo : doA (nearB W H s) (laneB s) (d : Int) (x, y) (k, c, p) with
              | none =>
                rw [hdo] at hm
                obtain rfl : b = false := hm
                have HNO : Hid (¬ RightIs W H s r a L) := Lib.hid (fun ⟨d', _, q1, _, _, q2⟩ => by
                  obtain rfl := q1.one HF.out
                  have h1 := HGE.out
                  rw [hdo] at h1
                  rw [h1] at q2; cases q2)
                clear hdo htw hN'
                go_wp2_with fail
                go_ret
                exact ⟨false, rfl, iff_of_false (by decide) HNO.out, HBB.out⟩
              | some t =>
                rw [hdo] at hm
                obtain ⟨rfl, hdr⟩ := hm
                obtain ⟨x', y'⟩ := t
                have HDW' := Lib.hid hdr
                have HR' : Hid (runA (nearB W H s) (laneB s) (d : Int) (L.take (i + 1)) (a, carr L) = some (x', y')) := Lib.hid (by
                  have h1 := HGE.out
                  rw [hdo] at h1
                  exact h1)
                clear hdo hdr htw hN'
                go_wp2_with fail
                go_roundw
                case rel => exact ⟨i + 1, N', x', y', by omega, by go_num, HR', Lib.hid (by have h1 := HN.out; have h2 := HN'.out; omega), HDW', HBB⟩
                case measure => simp [intOf]; omega
            · obtain rfl : i = n := by omega
              have HRA : Hid (runA (nearB W H s) (laneB s) (d : Int) L (a, carr L) = some (x, y)) := Lib.hid (by have h1 := HR.out; rw [List.take_of_length_le (by omega)] at h1; exact h1)
              obtain ⟨_, _, _, q5, q6, q7, _, hlt2⟩ := HDW.out.box.cells
              by_cases hxd : x = (d : Int)
              · have dxd : (x == (d : Int)) = true := by rw [beq_iff_eq]; exact hxd
                by_cases hy : y = -1
                · have dy : (y == -1) = true := by rw [beq_iff_eq]; exact hy
                  have HYES : Hid (RightIs W H s r a L) := Lib.hid ⟨d, HROB.out, HF.out, HAD.out, by omega, by rw [HRA.out, hxd, hy]⟩
                  clear hxd hy
                  go_wp2_with fail
                  go_big_quiet (fail)
                  go_wp2_with fail
                  go_ret
                  exact ⟨true, rfl, iff_of_true rfl HYES.out, HB.out.trans (below_drewN _ _ _)⟩
                · have dy : (y == -1) = false := by rw [beq_eq_false_iff_ne]; exact hy
                  have HNO : Hid (¬ RightIs W H s r a L) := Lib.hid (fun ⟨d', _, q1, _, _, q2⟩ => by
                    obtain rfl := q1.one HF.out
                    rw [HRA.out] at q2
                    injection q2 with q2
                    injection q2 with q2 q3
                    exact hy q3)
                  clear hxd hy
                  go_wp2_with fail
                  go_big_quiet (fail)
                  go_wp2_with fail
                  go_ret
                  exact ⟨false, rfl, iff_of_false (by decide) HNO.out, HB.out.trans (below_drewN _ _ _)⟩
              · have dxd : (x == (d : Int)) = false := by rw [beq_eq_false_iff_ne]; exact hxd
                have HNO : Hid (¬ RightIs W H s r a L) := Lib.hid (fun ⟨d', _, q1, _, _, q2⟩ => by
                  obtain rfl := q1.one HF.out
                  rw [HRA.out] at q2
                  injection q2 with q2
                  injection q2 with q2 q3
                  exact hxd q2)
                clear hxd
                go_wp2_with fail
                go_big_quiet (fail)
                go_wp2_with fail
                go_ret
                exact ⟨false, rfl, iff_of_false (by decide) HNO.out, HB.out.trans (below_drewN _ _ _)⟩
    · have dad : (a != (d : Int)) = true := by rw [bne_iff_ne]; exact had
      have HNA := Lib.hid had
      clear had
      go_wp2_with fail
      refine (HIL.out _).mono ?_
      rintro e w2 ⟨b, rfl, hb, hbw⟩
      have HX2 := Lib.hid (HX1.out.after hbw)
      have HBB := Lib.hid hb
      clear hb hbw c0 c1 c2 HX1
      have HX1 := HX2
      clear HX2
      have c0 := HX1.out.c0
      have c1 := HX1.out.c1
      have c2 := HX1.out.c2
      cases b with
      | false =>
        go_wp2_with fail
        go_ret
        exact ⟨false, rfl, iff_of_false (by decide) (fun ⟨d', _, q1, q2, _⟩ => by
          obtain rfl := q1.one HF.out
          rcases q2 with q2 | q2
          · exact HNA.out q2
          · have := HBB.out.2 ⟨HROB.out.1, q2⟩; cases this), HX1.out.below⟩
      | true =>
        have HAD : Hid (a = (d : Int) ∨ laneB s a = true) := Lib.hid (.inr (HBB.out.1 rfl).2)
        clear HBB HNA
        by_cases hlong : 1024 < n
        · have hlI : (1024 : Int) < (n : Int) := by omega
          go_wp2_with fail
          go_ret
          exact ⟨false, rfl, iff_of_false (by decide) (fun ⟨d, _, _, _, q, _⟩ => by omega), HX1.out.below⟩
        · have hlI : ¬ (1024 : Int) < (n : Int) := by omega
          have hmk := run_makeMapII
          go_wp2_with fail
          go_region_held3 (fun w' => w'.cell? ⟨w.heap.size, 0, none⟩ = some (.int .i64 W) ∧ w'.cell? ⟨w.heap.size, 1, none⟩ = some (.int .i64 H) ∧ w'.cell? ⟨w.heap.size, 2, none⟩ = some (.string s)) (go_keep)
            ((first
              | (go_at_call 71; refine (HLA.out _).mono ?_; rintro e w3 ⟨A3, n3, k3, xs, rfl, hn3, hy3, _, ho3, hb3⟩; have HX3 : Hid (Box w W H s w3) := Lib.hid (Box.after (by first | exact HX1.out.drew | exact HX1.out.drew.after ((Below.refl _ _).alloc (Nat.le_refl _) _)) hb3); have e0 := HX3.out.c0; have e1 := HX3.out.c1; have e2 := HX3.out.c2; have HY3 := Lib.hid hy3; have HO3 := Lib.hid ho3; have HB3 := Lib.hid hb3; clear hn3 hy3 ho3 hb3)
              | (go_at_call 72; refine (HCA.out _ (by first | exact HX3.out.below | exact (HX3.out.after ((Below.refl _ _).alloc (Nat.le_refl _) _)).below)).mono ?_; rintro e w4 ⟨rfl, hb4⟩; have HX4 : Hid (Box w W H s w4) := Lib.hid (Box.after (by first | exact HX3.out | exact HX3.out.after ((Below.refl _ _).alloc (Nat.le_refl _) _)) hb4); have e0 := HX4.out.c0; have e1 := HX4.out.c1; have e2 := HX4.out.c2; have HB4 := Lib.hid hb4; clear hb4)))
          all_goals
            first
              | (have HDR := Lib.hid (way1 (lv := .slice A3 n3 k3) HX1.out HB3.out HB4.out (by unfold lanL; rw [← HY3.out HROB.out.1]; exact HO3.out) (d : Int) a (carr L)); generalize w4.alloc (.cells #[.int .i64 W, .int .i64 H, .string s, .slice A3 n3 k3, .map (some w3.heap.size), .int .i64 (d : Int), .int .i64 a, .int .i64 (carr L)] 117) = wz at *; clear HB3 HB4 HO3 HY3 HX3 HX4; generalize w3.heap.size = mb at *; generalize w4.heap.size = D at *)
              | (have HDR := Lib.hid (way2 (lv := .slice A3 n3 k3) HX1.out HB3.out HB4.out (by unfold lanL; rw [← HY3.out HROB.out.1]; exact HO3.out) (d : Int) a (carr L)); generalize (w4.alloc (.map #[] 0)).alloc (.cells #[.int .i64 W, .int .i64 H, .string s, .slice A3 n3 k3, .map (some w4.heap.size), .int .i64 (d : Int), .int .i64 a, .int .i64 (carr L)] 117) = wz at *; clear HB3 HB4 HO3 HY3 HX3 HX4; generalize w4.heap.size + 1 = D at *; generalize w4.heap.size = mb at *)
              | (have HDR := Lib.hid (way3 (lv := .slice A3 n3 k3) HX1.out HB3.out HB4.out (by unfold lanL; rw [← HY3.out HROB.out.1]; exact HO3.out) (d : Int) a (carr L)); generalize w4.alloc (.cells #[.int .i64 W, .int .i64 H, .string s, .slice A3 n3 k3, .map (some w2.heap.size), .int .i64 (d : Int), .int .i64 a, .int .i64 (carr L)] 117) = wz at *; clear HB3 HB4 HO3 HY3 HX3 HX4; generalize w2.heap.size = mb at *; generalize w4.heap.size = D at *)
            have HLD : Hid (w.heap.size ≤ D ∧ w.heap.size ≤ mb) := Lib.hid ⟨HDR.out.2.2.1, HDR.out.2.2.2⟩
            have HBZ := Lib.hid HDR.out.2.1
            have HDZ := Lib.hid HDR.out.1
            clear HDR hmk HLA HCA HIL HDK
            go_wp2_with fail
            go_loopw [50] (fun iv wr => ∃ (i N : Nat) (x y : Int), i ≤ n ∧ iv = .int .i64 (i : Int) ∧ Hid (runA (nearB W H s) (laneB s) (d : Int) (L.take i) (a, carr L) = some (x, y)) ∧ Hid (N ≤ i) ∧ Hid (Dr D mb N W H s (.slice A3 n3 k3) (d : Int) x y wr) ∧ Hid (Below w.heap.size w wr)) (fun iv _ => n - (intOf iv).toNat)
            case atStart => exact ⟨0, 0, a, carr L, Nat.zero_le _, rfl, Lib.hid rfl, Lib.hid (Nat.le_refl _), HDZ, HBZ⟩
            case round =>
              rename World => wr
              obtain ⟨i, N, x, y, hi, rfl, HR, HN, HDW, HB⟩ := hrel
              by_cases hlt : i < n
              · obtain ⟨g, off, rfl, hg, k0, k1, k2⟩ := (HL.out.below HB.out).cell hlt
                have hiI : (i : Int) < (n : Int) := by omega
                have hg2 : g < wr.heap.size := Nat.lt_of_lt_of_le hg HB.out.size
                have HGE := Lib.hid (run_step L i (by omega) HR.out)
                generalize L.getD i (0, 0, 0) = ac at *
                obtain ⟨k, c, p⟩ := ac
                have k0 : wr.cell? ⟨g, off + i * 3, none⟩ = some (.int .u8 (k : Int)) := k0
                have k1 : wr.cell? ⟨g, off + i * 3 + 1, none⟩ = some (.int .i64 c) := k1
                have k2 : wr.cell? ⟨g, off + i * 3 + 2, none⟩ = some (.int .i64 p) := k2
                have hal := (Below.refl wr.heap.size wr).alloc (Nat.le_refl _) (.cells #[.int .u8 (k : Int), .int .i64 c, .int .i64 p] 39)
                have HBA := Lib.hid (HB.out.trans (hal.mono HB.out.size))
                have HDA := Lib.hid (HDW.out.later hal)
                have HON := Lib.hid (on_place HROB.out HF.out HAD.out HR.out)
                clear hal
                go_wp2_with fail
                refine (do_any hs HDA.out (by have h1 := HN.out; omega) HON.out.1 HON.out.2 k c p).mono ?_
                rintro e w5 ⟨b, rfl, htw, N', hN', hm⟩
                have HBB := Lib.hid (HBA.out.trans (htw.below HBA.out.size HLD.out.1 HLD.out.2))
                have HN' := Lib.hid hN'
                cases hdo : doA (nearB W H s) (laneB s) (d : Int) (x, y) (k, c, p) with
                | none =>
                  rw [hdo] at hm
                  obtain rfl : b = false := hm
                  have HNO : Hid (¬ RightIs W H s r a L) := Lib.hid (fun ⟨d', _, q1, _, _, q2⟩ => by
                    obtain rfl := q1.one HF.out
                    have h1 := HGE.out
                    rw [hdo] at h1
                    rw [h1] at q2; cases q2)
                  clear hdo htw hN'
                  go_wp2_with fail
                  go_ret
                  exact ⟨false, rfl, iff_of_false (by decide) HNO.out, HBB.out⟩
                | some t =>
                  rw [hdo] at hm
                  obtain ⟨rfl, hdr⟩ := hm
                  obtain ⟨x', y'⟩ := t
                  have HDW' := Lib.hid hdr
                  have HR' : Hid (runA (nearB W H s) (laneB s) (d : Int) (L.take (i + 1)) (a, carr L) = some (x', y')) := Lib.hid (by
                    have h1 := HGE.out
                    rw [hdo] at h1
                    exact h1)
                  clear hdo hdr htw hN'
                  go_wp2_with fail
                  go_roundw
                  case rel => exact ⟨i + 1, N', x', y', by omega, by go_num, HR', Lib.hid (by have h1 := HN.out; have h2 := HN'.out; omega), HDW', HBB⟩
                  case measure => simp [intOf]; omega
              · obtain rfl : i = n := by omega
                have HRA : Hid (runA (nearB W H s) (laneB s) (d : Int) L (a, carr L) = some (x, y)) := Lib.hid (by have h1 := HR.out; rw [List.take_of_length_le (by omega)] at h1; exact h1)
                obtain ⟨_, _, _, q5, q6, q7, _, hlt2⟩ := HDW.out.box.cells
                by_cases hxd : x = (d : Int)
                · have dxd : (x == (d : Int)) = true := by rw [beq_iff_eq]; exact hxd
                  by_cases hy : y = -1
                  · have dy : (y == -1) = true := by rw [beq_iff_eq]; exact hy
                    have HYES : Hid (RightIs W H s r a L) := Lib.hid ⟨d, HROB.out, HF.out, HAD.out, by omega, by rw [HRA.out, hxd, hy]⟩
                    clear hxd hy
                    go_wp2_with fail
                    go_big_quiet (fail)
                    go_wp2_with fail
                    go_ret
                    exact ⟨true, rfl, iff_of_true rfl HYES.out, HB.out.trans (below_drewN _ _ _)⟩
                  · have dy : (y == -1) = false := by rw [beq_eq_false_iff_ne]; exact hy
                    have HNO : Hid (¬ RightIs W H s r a L) := Lib.hid (fun ⟨d', _, q1, _, _, q2⟩ => by
                      obtain rfl := q1.one HF.out
                      rw [HRA.out] at q2
                      injection q2 with q2
                      injection q2 with q2 q3
                      exact hy q3)
                    clear hxd hy
                    go_wp2_with fail
                    go_big_quiet (fail)
                    go_wp2_with fail
                    go_ret
                    exact ⟨false, rfl, iff_of_false (by decide) HNO.out, HB.out.trans (below_drewN _ _ _)⟩
                · have dxd : (x == (d : Int)) = false := by rw [beq_eq_false_iff_ne]; exact hxd
                  have HNO : Hid (¬ RightIs W H s r a L) := Lib.hid (fun ⟨d', _, q1, _, _, q2⟩ => by
                    obtain rfl := q1.one HF.out
                    rw [HRA.out] at q2
                    injection q2 with q2
                    injection q2 with q2 q3
                    exact hxd q2)
                  clear hxd
                  go_wp2_with fail
                  go_big_quiet (fail)
                  go_wp2_with fail
                  go_ret
                  exact ⟨false, rfl, iff_of_false (by decide) HNO.out, HB.out.trans (below_drewN _ _ _)⟩
end Tr
end Go.Proofs.YtakgkocdkondhaaGreatDoor
