/-
  Layer 10: the document's trip.
  Layer 10: the document's Make.
-/
import Derived.Test.YtakgkocdkondhaaGreatDoorTrOne
import Derived.Test.YtakgkocdkondhaaGreatDoorPtThr
set_option linter.unusedVariables false
set_option maxRecDepth 100000
section
namespace Go.Proofs.YtakgkocdkondhaaGreatDoor
namespace Tr
open Go.RowKit Fl Pt
open Bk (Gt)

/-- The document's way of a map of a floor. -/
theorem mfind_way {W H : Int} {s : ByteArray} {AN AL AO : Option Addr} {n1 cN cL cO : Nat} (c t : Int) (A : Option Addr) (n cap : Nat) (f : Nat → Int) (w : World) (h : MapAt w W.toNat H.toNat s AN AL AO n1 cN cL cO) (hO : OnFloor W H s c) (hOt : OnFloor W H s t) (hi : Il w.heap.size w A n cap f) :
    Calls Tryz.prog 97 #[.agg #[.slice AN n1 cN, .slice AL n1 cL, .slice AO n1 cO], .int .i64 c, .int .i64 t, .slice A n cap] w (WayTold W H s c t (mk f n) w) := by
  have hON := hO
  have hONT := hOt
  obtain ⟨W, H, k, rfl, rfl, rfl, hk, hzk, hSd, _⟩ := onFloor_some hO
  obtain ⟨b, e, hb, hzb⟩ := bAt_in hOt.2
  subst e
  have hz35 : at_ s b ≠ 35 := by rw [← hzb]; exact hOt.2
  refine (rmfind_any (W := W) (H := H) (s := s) k b A n cap f w h hSd hk hb hzk hz35 hi).mono ?_
  rintro e w2 ⟨A2, n2, k2, P, er, rfl, hn2, hp, ho2, hb2, hway⟩
  refine ⟨A2, n2, k2, P, er, rfl, hn2, ⟨hp, ?_⟩, Own.il ho2 hn2, hb2, ?_⟩
  · rcases hway with ⟨e, _⟩ | ⟨e, _⟩
    · exact .inl e
    · exact .inr (.inr e)
  · rcases hway with ⟨e, h1, h2⟩ | ⟨e, h1, h2⟩
    · exact .inl ⟨hON, hONT, e, h1, h2⟩
    · exact .inr (.inl ⟨hON, hONT, e, h1, h2⟩)
theorem gos_succ (P : List Nat) (i : Nat) (h : i < P.length) : gos (P.take (i + 1)) = gos (P.take i) ++ [(1, ((P.getD i 0 : Nat) : Int), 0)] := by
  rw [take_snoc P i 0 h]
  simp [gos]
set_option maxHeartbeats 2000000 in
theorem rgos_any (A : Option Addr) (n cap : Nat) (P : List Nat) (w : World) (h : Il w.heap.size w A n cap (fun j => ((P.getD j 0 : Nat) : Int))) (hn : n = P.length) (hP : P.length ≤ 256) :
    Calls Tryz.prog 98 #[.slice A n cap] w fun e w' => ∃ A' n' c', e = .returned (.slice A' n' c') ∧ n' = P.length ∧ Aw w' w.heap.size (.slice A' n' c') (gos P) ∧ Below w.heap.size w w' := by
  have HI := Lib.hid h
  have HN := Lib.hid hn
  have hn256 : n ≤ 256 := by omega
  have hcap := h.le
  have hcap2 : cap ≤ 9223372036854775807 := by have := h.max; unfold maxLen at this; omega
  clear h hn hP
  go_enter Tryz.func98, Tryz.ntmps98
  go_wp2_with fail
  go_loopw [3, 4] (fun zv iv wz => ∃ (i : Nat) (A5 : Option Addr) (n5 k5 : Nat), i ≤ n ∧ zv = .slice A5 n5 k5 ∧ iv = .int .i64 (i : Int) ∧ Hid (n5 = i ∧ Aw wz w.heap.size (.slice A5 n5 k5) (gos (P.take i))) ∧ Hid (Below w.heap.size w wz)) (fun _ iv _ => n - (intOf iv).toNat)
  case atStart => exact ⟨0, none, 0, 0, Nat.zero_le _, rfl, rfl, Lib.hid ⟨rfl, Aw.nil _ _⟩, Lib.hid (Below.refl _ _)⟩
  case round =>
    rename World => wz
    obtain ⟨i, A5, n5, k5, hi, rfl, rfl, HAW, HB⟩ := hrel
    by_cases hlt : i < n
    · obtain ⟨g, off, rfl, hg, hc⟩ := (HI.out.below HB.out).cell (by omega)
      have hci := hc i hlt
      have hiI : (i : Int) < (n : Int) := by omega
      have hg2 : g < wz.heap.size := Nat.lt_of_lt_of_le hg HB.out.size
      have HGS := Lib.hid (gos_succ P i (by rw [← HN.out]; exact hlt))
      have HLEN : Hid ((gos (P.take i)).length + 1 ≤ 1000000) := Lib.hid (by rw [gos_length, List.length_take]; omega)
      clear hc
      generalize P.getD i 0 = c at *
      have hone := Al.one wz (1, (c : Int), 0)
      have HONE : Hid (Al (wz.alloc (.cells #[.int .u8 1, .int .i64 (c : Int), .int .i64 0] 39)).heap.size (wz.alloc (.cells #[.int .u8 1, .int .i64 (c : Int), .int .i64 0] 39)) (some ⟨wz.heap.size, 0, none⟩) 1 1 [(1, (c : Int), 0)]) := Lib.hid hone
      have hal := (Below.refl wz.heap.size wz).alloc (Nat.le_refl _) (.cells #[.int .u8 1, .int .i64 (c : Int), .int .i64 0] 39)
      have HAW2 := Lib.hid (HAW.out.2.later hal)
      have HB2 := Lib.hid (HB.out.trans (hal.mono HB.out.size))
      clear hone hal
      go_wp2_with (at_builtin; refine app_acts rfl _ _ rfl w.heap.size _ (gos (P.take i)) rfl HAW2.out (some ⟨wz.heap.size, 0, none⟩) 1 1 [(1, (c : Int), 0)] rfl HONE.out HLEN.out HB2.out.size ?_; intro A' n' c' w6 hn6 ho6 hb6 hg6 _; have HO6 := Lib.hid ho6; have HN6 := Lib.hid hn6; have HB6 := Lib.hid hb6; clear hn6 ho6 hb6 hg6)
      go_roundw
      case rel => exact ⟨i + 1, A', n', c', by omega, rfl, by go_num, Lib.hid ⟨by rw [HN6.out, List.length_append, gos_length, List.length_take]; have := HN.out; simp; omega, by rw [HGS.out]; exact HO6.out⟩, Lib.hid (HB2.out.trans HB6.out)⟩
      case measure => simp [intOf]; omega
    · obtain rfl : i = n := by omega
      have HF : Hid (n5 = P.length ∧ Aw wz w.heap.size (.slice A5 n5 k5) (gos P)) := Lib.hid (by have h1 := HAW.out; rw [List.take_of_length_le (by rw [HN.out]; exact Nat.le_refl _)] at h1; exact ⟨by rw [h1.1, HN.out], h1.2⟩)
      go_wp2_with fail
      go_ret
      exact ⟨A5, n5, k5, rfl, HF.out.1, HF.out.2, HB.out⟩
end Tr
end Go.Proofs.YtakgkocdkondhaaGreatDoor
end

section
namespace Go.Proofs.YtakgkocdkondhaaGreatDoor
namespace Tr
open Go.RowKit Fl Pt
open Bk (Gt)

set_option maxHeartbeats 16000000 in
theorem rmake_any (W H : Int) (s : ByteArray) (hs : s.size ≤ maxLen) (r pod a b : Int) (A : Option Addr) (n cap : Nat) (f : Nat → Int) (w : World) (h : Il w.heap.size w A n cap f) :
    Calls Tryz.prog 63 #[.agg #[.int .i64 W, .int .i64 H, .string s], .int .i64 r, .int .i64 pod, .int .i64 a, .int .i64 b, .slice A n cap] w (MakeTold W H s r pod a b (mk f n) w) := by
  have HI := Lib.hid h
  have HDK := Lib.hid (fun wx => rdock_of_any W H s hs r wx)
  have HZO := Lib.hid (fun c wx => rzone_any W H s hs c wx)
  have HOF := Lib.hid (fun wx => of_any W H s hs wx)
  clear h
  have fail1 : ∀ wx, Below w.heap.size w wx → ¬ MayTrip W H s r pod a b → MakeTold W H s r pod a b (mk f n) w (.returned (.tuple #[.slice none 0 0, .int .i64 1])) wx :=
    fun wx hb hn => ⟨none, 0, 0, [], 1, rfl, .inl ⟨hn, rfl, rfl⟩, by simp, .inr (.inl rfl), Al.nothing _ _, hb⟩
  have HF1 := Lib.hid fail1
  clear fail1
  go_enter Tryz.func63, Tryz.ntmps63
  go_wp2_with fail
  refine (HDK.out _).mono ?_
  rintro e w1 ⟨d, q, rfl, h1, h2, hb1⟩
  have HX1 := Lib.hid ((Box.start w W H s 25).after hb1)
  have c0 := HX1.out.c0
  have c1 := HX1.out.c1
  have c2 := HX1.out.c2
  have H1 := Lib.hid h1
  have H2 := Lib.hid h2
  clear h1 h2 hb1
  go_wp2_with fail
  refine (HZO.out a _).mono ?_
  rintro e w2 ⟨za, la, rfl, ha1, ha2, hb2⟩
  have HX2 := Lib.hid (HX1.out.after hb2)
  have HA1 := Lib.hid ha1
  have HA2 := Lib.hid ha2
  clear ha1 ha2 hb2 c0 c1 c2
  have c0 := HX2.out.c0
  have c1 := HX2.out.c1
  have c2 := HX2.out.c2
  go_wp2_with fail
  refine (HZO.out b _).mono ?_
  rintro e w3 ⟨zb, lb, rfl, hz1, hz2, hb3⟩
  have HX3 := Lib.hid (HX2.out.after hb3)
  have HZ1 := Lib.hid hz1
  have HZ2 := Lib.hid hz2
  clear hz1 hz2 hb3 c0 c1 c2
  have c0 := HX3.out.c0
  have c1 := HX3.out.c1
  have c2 := HX3.out.c2
  cases q with
  | false =>
    go_wp2_with fail
    go_ret2
    exact HF1.out _ HX3.out.below (fun k => by have := (H1.out k.1).2; cases this)
  | true =>
    have hrob : IsRobot W H s r := Classical.byContradiction (fun k => by have := (H2.out k).2; cases this)
    have HROB := Lib.hid hrob
    have HFD := Lib.hid (H1.out hrob).1
    clear hrob H1 H2
    cases la with
    | false =>
      go_wp2_with fail
      go_ret2
      exact HF1.out _ HX3.out.below (fun k => by have := (HA1.out ⟨k.1.1, k.2.2.1⟩).2; cases this)
    | true =>
      have HLA : Hid (laneB s a = true) := Lib.hid (Classical.byContradiction (fun k => by have := (HA2.out (fun q => k q.2)).2; cases this))
      cases lb with
      | false =>
        go_wp2_with fail
        go_ret2
        exact HF1.out _ HX3.out.below (fun k => by have := (HZ1.out ⟨k.1.1, k.2.2.2⟩).2; cases this)
      | true =>
        have HLB : Hid (laneB s b = true) := Lib.hid (Classical.byContradiction (fun k => by have := (HZ2.out (fun q => k q.2)).2; cases this))
        clear HA1 HA2 HZ1 HZ2
        by_cases hp0 : pod < 0
        · have d0 : decide (pod < 0) = true := decide_eq_true hp0
          have HNP : Hid (isP pod = false) := Lib.hid (by unfold isP; rw [Bool.and_eq_false_iff]; exact .inl (decide_eq_false (by omega)))
          clear hp0
          go_wp2_with fail
          go_ret2
          exact HF1.out _ HX3.out.below (fun k => by have h1 := k.2.1; rw [HNP.out] at h1; cases h1)
        · have d0 : decide (pod < 0) = false := decide_eq_false hp0
          by_cases hp1 : 64 ≤ pod
          · have d1 : decide (64 ≤ pod) = true := decide_eq_true hp1
            have HNP : Hid (isP pod = false) := Lib.hid (by unfold isP; rw [Bool.and_eq_false_iff]; exact .inr (decide_eq_false (by omega)))
            clear hp0 hp1
            go_wp2_with fail
            go_ret2
            exact HF1.out _ HX3.out.below (fun k => by have h1 := k.2.1; rw [HNP.out] at h1; cases h1)
          · have d1 : decide (64 ≤ pod) = false := decide_eq_false hp1
            have HMAY : Hid (MayTrip W H s r pod a b) := Lib.hid ⟨HROB.out, by unfold isP; rw [Bool.and_eq_true, decide_eq_true_eq, decide_eq_true_eq]; omega, HLA.out, HLB.out⟩
            have fail2 : ∀ wx, Below w.heap.size w wx → (WayIs W H s (d : Int) a (mk f n) [] 2 ∨ WayIs W H s a b (mk f n) [] 2 ∨ WayIs W H s b (d : Int) (mk f n) [] 2) → MakeTold W H s r pod a b (mk f n) w (.returned (.tuple #[.slice none 0 0, .int .i64 2])) wx :=
              fun wx hb hn => ⟨none, 0, 0, [], 2, rfl, .inr (.inr ⟨HMAY.out, d, HFD.out, hn, rfl, rfl⟩), by simp, .inr (.inr rfl), Al.nothing _ _, hb⟩
            have HF2 := Lib.hid fail2
            have HOD := Lib.hid (dock_on HROB.out HFD.out)
            have HOA := Lib.hid (lane_on HROB.out.1 HLA.out)
            have HOB := Lib.hid (lane_on HROB.out.1 HLB.out)
            clear fail2 HF1 HX1 HX2 HZO HDK hp0 hp1
            go_wp2_with fail
            refine (HOF.out _).mono ?_
            rintro e w4 ⟨AN, nn, cN, AL, cL, AO, cO, rfl, hb4, hmap, _⟩
            have HM4 := Lib.hid (hmap HROB.out.1)
            have HX4 := Lib.hid (HX3.out.after hb4)
            have hal5 := (Below.refl w4.heap.size w4).alloc (Nat.le_refl _) (.cells #[.slice AN nn cN, .slice AL nn cL, .slice AO nn cO] 142)
            obtain ⟨w5, hw5⟩ : ∃ w5, w5 = w4.alloc (.cells #[.slice AN nn cN, .slice AL nn cL, .slice AO nn cO] 142) := ⟨_, rfl⟩
            have hrow : w5.heap[w4.heap.size]? = some (.cells #[.slice AN nn cN, .slice AL nn cL, .slice AO nn cO] 142 (0, 0)) := by rw [hw5]; exact heap_alloc_new w4 _
            rw [← hw5] at hal5
            have HM5 := Lib.hid (HM4.out.later hal5)
            have HX5 := Lib.hid (HX4.out.after hal5)
            have HMX : Hid (MX w4.heap.size AN AL AO nn cN cL cO w5) := Lib.hid ⟨by rw [cell_of_row w5 _ 0 _ _ _ hrow]; rfl, by rw [cell_of_row w5 _ 1 _ _ _ hrow]; rfl, by rw [cell_of_row w5 _ 2 _ _ _ hrow]; rfl, lt_of_heap hrow⟩
            have m0 := HMX.out.c0
            have m1 := HMX.out.c1
            have m2 := HMX.out.c2
            rw [hw5] at m0 m1 m2
            clear hb4 hmap hal5 hrow c0 c1 c2 HX3 HM4
            go_wp2_with fail
            rw [← hw5]
            rw [← hw5] at m0 m1 m2
            obtain ⟨MB, hMB⟩ : ∃ MB, MB = w4.heap.size := ⟨_, rfl⟩
            rw [← hMB] at HMX m0 m1 m2 ⊢
            clear hw5 hMB HX4
            refine (mfind_way (d : Int) a A n cap f w5 HM5.out HOD.out HOA.out (args_il HI.out HX5.out.below)).mono ?_
            rintro e w6 ⟨A6, n6, k6, P6, e6, rfl, hn6, hp6, hil6, hb6, hw6⟩
            have HX6 := Lib.hid (HX5.out.after hb6)
            have HM6 := Lib.hid (HM5.out.later hb6)
            have HMX6 := Lib.hid (HMX.out.later hb6)
            have HI6 := Lib.hid hil6
            have HN6 := Lib.hid hn6
            have HP6 := Lib.hid hp6.1
            have HW6 := Lib.hid hw6
            have h026 := Lib.hid (way_02 hw6 HOD.out HOA.out)
            clear hn6 hp6 hil6 hb6 hw6 m0 m1 m2 HM5 HMX HX5
            have m0 := HMX6.out.c0
            have m1 := HMX6.out.c1
            have m2 := HMX6.out.c2
            go_wp2_with fail
            refine (mfind_way a b A n cap f w6 HM6.out HOA.out HOB.out (args_il HI.out HX6.out.below)).mono ?_
            rintro e w7 ⟨A7, n7, k7, P7, e7, rfl, hn7, hp7, hil7, hb7, hw7⟩
            have HX7 := Lib.hid (HX6.out.after hb7)
            have HM7 := Lib.hid (HM6.out.later hb7)
            have HMX7 := Lib.hid (HMX6.out.later hb7)
            have HI67 := Lib.hid (args_il HI6.out hb7)
            have HI7 := Lib.hid hil7
            have HN7 := Lib.hid hn7
            have HP7 := Lib.hid hp7.1
            have HW7 := Lib.hid hw7
            have h027 := Lib.hid (way_02 hw7 HOA.out HOB.out)
            clear hn7 hp7 hil7 hb7 hw7 m0 m1 m2 HM6 HMX6 HX6 HI6
            have m0 := HMX7.out.c0
            have m1 := HMX7.out.c1
            have m2 := HMX7.out.c2
            go_wp2_with fail
            refine (mfind_way b (d : Int) A n cap f w7 HM7.out HOB.out HOD.out (args_il HI.out HX7.out.below)).mono ?_
            rintro e w8 ⟨A8, n8, k8, P8, e8, rfl, hn8, hp8, hil8, hb8, hw8⟩
            have HX8 := Lib.hid (HX7.out.after hb8)
            have HI68 := Lib.hid (args_il HI67.out hb8)
            have HI78 := Lib.hid (args_il HI7.out hb8)
            have HI8 := Lib.hid hil8
            have HN8 := Lib.hid hn8
            have HP8 := Lib.hid hp8.1
            have HW8 := Lib.hid hw8
            have h028 := Lib.hid (way_02 hw8 HOB.out HOD.out)
            clear hn8 hp8 hil8 hb8 hw8 m0 m1 m2 HM7 HMX7 HX7 HI67 HI7 HOD HOA HOB
            rcases h026.out with rfl | ⟨rfl, rfl⟩
            · rcases h027.out with rfl | ⟨rfl, rfl⟩
              · rcases h028.out with rfl | ⟨rfl, rfl⟩
                · clear h026 h027 h028 HF2
                  go_wp2_with fail
                  refine (rgos_any A6 n6 k6 P6 w8 HI68.out HN6.out HP6.out).mono ?_
                  rintro e w9 ⟨A9, n9, k9, rfl, hn9, ho9, hb9⟩
                  have HBB9 := Lib.hid hb9
                  have HO9 : Hid (Aw w9 w8.heap.size (.slice A9 n9 k9) (gos P6)) := Lib.hid ho9
                  clear hn9 ho9 hb9
                  have hone := Al.one w9 (2, a, pod)
                  have HONE : Hid (Al (w9.alloc (.cells #[.int .u8 2, .int .i64 a, .int .i64 pod] 39)).heap.size (w9.alloc (.cells #[.int .u8 2, .int .i64 a, .int .i64 pod] 39)) (some ⟨w9.heap.size, 0, none⟩) 1 1 [(2, a, pod)]) := Lib.hid hone
                  have hal := (Below.refl w9.heap.size w9).alloc (Nat.le_refl _) (.cells #[.int .u8 2, .int .i64 a, .int .i64 pod] 39)
                  have HOA9 := Lib.hid (HO9.out.later hal)
                  have HBA9 := Lib.hid (HBB9.out.trans (hal.mono HBB9.out.size))
                  have HLEN : Hid ((gos P6).length + 1 ≤ 1000000) := Lib.hid (by rw [gos_length]; have := HP6.out; omega)
                  clear hone hal
                  go_wp2_with (at_builtin; refine app_acts rfl _ _ rfl w8.heap.size _ (gos P6) rfl HOA9.out (some ⟨w9.heap.size, 0, none⟩) 1 1 [(2, a, pod)] rfl HONE.out HLEN.out HBA9.out.size ?_; intro A10 n10 k10 w10 hn10 ho10 hb10 _ _; have HO10 := Lib.hid ho10; have HB10 := Lib.hid (HBA9.out.trans hb10); clear hn10 ho10 hb10)
                  clear HONE HLEN HOA9 HBA9 HO9 HBB9
                  have hi7 := args_il HI78.out (HB10.out)
                  refine (rgos_any A7 n7 k7 P7 w10 hi7 HN7.out HP7.out).mono ?_
                  rintro e w11 ⟨A11, n11, k11, rfl, hn11, ho11, hb11⟩
                  have HO11 := Lib.hid (HO10.out.later hb11)
                  have HB11 := Lib.hid (HB10.out.trans (hb11.mono HB10.out.size))
                  obtain ⟨hq11, hal11⟩ := ho11.al
                  have HAL11 := Lib.hid hal11
                  have HLEN : Hid ((gos P6 ++ [(2, a, pod)]).length + n11 ≤ 1000000) := Lib.hid (by rw [hn11, List.length_append, gos_length]; have := HP6.out; have := HP7.out; simp; omega)
                  clear hi7 hn11 ho11 hb11 hq11 hal11
                  have HLEN2 : Hid ((gos P6 ++ [(2, a, pod)] ++ gos P7).length + 1 ≤ 1000000) := Lib.hid (by rw [List.length_append, List.length_append, gos_length, gos_length]; have := HP6.out; have := HP7.out; simp; omega)
                  have HONE := Lib.hid (fun wx : World => (show Al (wx.alloc (.cells #[.int .u8 3, .int .i64 b, .int .i64 pod] 39)).heap.size (wx.alloc (.cells #[.int .u8 3, .int .i64 b, .int .i64 pod] 39)) (some ⟨wx.heap.size, 0, none⟩) 1 1 [(3, b, pod)] from Al.one wx (3, b, pod)))
                  have HALB := Lib.hid (fun wx : World => (Below.refl wx.heap.size wx).alloc (Nat.le_refl _) (.cells #[.int .u8 3, .int .i64 b, .int .i64 pod] 39))
                  go_wp2_with (first
                    | (at_builtin; refine app_acts rfl _ _ rfl w8.heap.size _ (gos P6 ++ [(2, a, pod)]) rfl HO11.out A11 n11 k11 (gos P7) rfl HAL11.out HLEN.out HB11.out.size ?_; intro A12 n12 k12 w12 hn12 ho12 hb12 _ _; have HO12 := Lib.hid ho12; have HB12 := Lib.hid (HB11.out.trans hb12); clear hn12 ho12 hb12 HO11)
                    | (at_builtin; refine app_acts rfl _ _ rfl w8.heap.size _ (gos P6 ++ [(2, a, pod)] ++ gos P7) rfl (HO12.out.later (HALB.out w12)) (some ⟨w12.heap.size, 0, none⟩) 1 1 [(3, b, pod)] rfl (HONE.out w12) HLEN2.out (HB12.out.trans ((HALB.out w12).mono HB12.out.size)).size ?_; intro A13 n13 k13 w13 hn13 ho13 hb13 _ _; have HO13 := Lib.hid ho13; have HB13 := Lib.hid ((HB12.out.trans ((HALB.out w12).mono HB12.out.size)).trans hb13); clear hn13 ho13 hb13))
                  have hi8 := args_il HI8.out (HB13.out)
                  refine (rgos_any A8 n8 k8 P8 w13 hi8 HN8.out HP8.out).mono ?_
                  rintro e w14 ⟨A14, n14, k14, rfl, hn14, ho14, hb14⟩
                  have HO14 := Lib.hid (HO13.out.later hb14)
                  have HB14 := Lib.hid (HB13.out.trans (hb14.mono HB13.out.size))
                  obtain ⟨hq14, hal14⟩ := ho14.al
                  have HAL14 := Lib.hid hal14
                  have HLEN3 : Hid ((gos P6 ++ [(2, a, pod)] ++ gos P7 ++ [(3, b, pod)]).length + n14 ≤ 1000000) := Lib.hid (by rw [hn14]; simp only [List.length_append, gos_length, List.length_singleton]; have := HP6.out; have := HP7.out; have := HP8.out; omega)
                  clear hi8 hn14 ho14 hb14 hq14 hal14
                  go_wp2_with (at_builtin; refine app_acts rfl _ _ rfl w8.heap.size _ (gos P6 ++ [(2, a, pod)] ++ gos P7 ++ [(3, b, pod)]) rfl HO14.out A14 n14 k14 (gos P8) rfl HAL14.out HLEN3.out HB14.out.size ?_; intro A15 n15 k15 w15 hn15 ho15 hb15 _ _; have HO15 := Lib.hid ho15; have HB15 := Lib.hid (HB14.out.trans hb15); clear hn15 ho15 hb15)
                  go_ret2
                  refine ⟨A15, n15, k15, tripL P6 P7 P8 a b pod, 0, rfl, .inr (.inl ⟨HMAY.out, d, P6, P7, P8, HFD.out, HW6.out, HW7.out, HW8.out, rfl, rfl⟩), ?_, .inl rfl, ?_, HX8.out.below.trans (HB15.out.mono HX8.out.below.size)⟩
                  · rw [tripL_length]; have := HP6.out; have := HP7.out; have := HP8.out; omega
                  · have h1 := HO15.out.al.2
                    rw [show gos P6 ++ [(2, a, pod)] ++ gos P7 ++ [(3, b, pod)] ++ gos P8 = tripL P6 P7 P8 a b pod by simp [tripL]] at h1
                    exact h1
                · go_wp2_with fail
                  go_ret2
                  exact HF2.out _ HX8.out.below (.inr (.inr HW8.out))
              · go_wp2_with fail
                go_ret2
                exact HF2.out _ HX8.out.below (.inr (.inl HW7.out))
            · go_wp2_with fail
              go_ret2
              exact HF2.out _ HX8.out.below (.inl HW6.out)
end Tr
end Go.Proofs.YtakgkocdkondhaaGreatDoor
end
