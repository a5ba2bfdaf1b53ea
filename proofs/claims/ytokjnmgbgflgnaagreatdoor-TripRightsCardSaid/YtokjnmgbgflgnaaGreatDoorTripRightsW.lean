/-
  TripRights: the walk.
-/
import Derived.Test.YtokjnmgbgflgnaaGreatDoorTrR
import Derived.Test.YtokjnmgbgflgnaaGreatDoorTrP
import Derived.Test.YtokjnmgbgflgnaaGreatDoorTrArgs
set_option linter.unusedVariables false
set_option maxRecDepth 100000
namespace Go.Proofs.YtokjnmgbgflgnaaGreatDoor
namespace Tr
open Go.RowKit Fl Pt
open Bk (Gt)

theorem says_is {P : Prop} {rb : Bool} (h : rb = true ↔ P) {k : Nat} {args : Array Value} {w : World} (hc : Calls Tryz.prog k args w (Says P w)) : Calls Tryz.prog k args w fun e w' => e = .returned (.bool rb) ∧ Below w.heap.size w w' :=
  hc.mono fun e w' ⟨b, h1, h2, h3⟩ => ⟨by rw [h1, show b = rb by rw [Bool.eq_iff_iff, h2, h]], h3⟩
theorem zt_same {W H : Int} {s : ByteArray} {L : List Ac} {zs zt : List Nat} (h1 : Right W H s → zs = zonL s L) (h2 : ¬ Right W H s → zs = []) (k1 : Right W H s → zt = zonL s L) (k2 : ¬ Right W H s → zt = []) : zs = zt := by
  by_cases q : Right W H s
  · rw [h1 q, k1 q]
  · rw [h2 q, k2 q]
set_option maxHeartbeats 32000000 in
theorem tripRights_walk (W H : Int) (_ : H ≤ 9223372036854775807) (s : ByteArray) (hs : s.size ≤ maxLen) (r : Int) (_ : -9223372036854775808 ≤ r ∧ r ≤ 9223372036854775807) (a : Int) (_ : -9223372036854775808 ≤ a ∧ a ≤ 9223372036854775807) (A : Option Addr) (n cap : Nat) (L : List Ac) (w : World) (h : Al w.heap.size w A n cap L)
    (hx : ∀ j, j < n → (L.getD j (0, 0, 0)).1 ≤ 255 ∧ IW (L.getD j (0, 0, 0)).2.1 ∧ IW (L.getD j (0, 0, 0)).2.2) :
    Calls Tryz.prog 4 #[.agg #[.int .i64 W, .int .i64 H, .string s], .int .i64 r, .int .i64 a, .slice A n cap] w fun e w' => e = .returned (.bool true) ∧ Below w.heap.size w w' := by
  have hsm : s.size ≤ 9223372036854775807 := by unfold maxLen at hs; omega
  obtain ⟨hc1, hc2⟩ := h.size
  obtain ⟨m, hm⟩ : ∃ m, m = min n 100 := ⟨_, rfl⟩
  have hmn : m ≤ n := by omega
  have hm100 : m ≤ 100 := by omega
  have hmin : min (n : Int) 100 = (m : Int) := by omega
  have HAM := Lib.hid (h.cut hmn)
  have hnil : A = none → n = 0 ∧ cap = 0 := fun e => by
    have h1 := Gt.nil h e
    exact ⟨by omega, h1⟩
  have HIW : Hid (∀ i, i < m → IW ((L.take m).getD i (0, 0, 0)).2.1) := Lib.hid (fun i hi => by
    have h1 := (hx i (by omega)).2.1
    rw [List.getD, List.getElem?_take, if_pos hi]
    exact h1)
  obtain ⟨rb, hrb⟩ : ∃ rb : Bool, rb = true ↔ RightIs W H s r a (L.take m) := by
    by_cases q : RightIs W H s r a (L.take m)
    · exact ⟨true, iff_of_true rfl q⟩
    · exact ⟨false, iff_of_false (by decide) q⟩
  have HR1 := Lib.hid (fun wx (hb : Below w.heap.size w wx) => says_is hrb (right_any W H s hs r a A m cap (L.take m) wx ((HAM.out.below hb).raise hb.size)))
  have HR2 := Lib.hid (fun wx (hb : Below w.heap.size w wx) => says_is hrb (rright10_any W H s hs r a A m cap (L.take m) wx ((HAM.out.below hb).raise hb.size)))
  have HK1 := Lib.hid (fun wx (hb : Below w.heap.size w wx) => cost_any A m cap (L.take m) wx ((HAM.out.below hb).raise hb.size))
  have HK2 := Lib.hid (fun wx (hb : Below w.heap.size w wx) => rcost_any A m cap (L.take m) wx ((HAM.out.below hb).raise hb.size))
  have HZ1 := Lib.hid (fun wx (hb : Below w.heap.size w wx) => zones_any W H s hs A m cap (L.take m) wx ((HAM.out.below hb).raise hb.size) (by omega) HIW.out)
  have HZ2 := Lib.hid (fun wx (hb : Below w.heap.size w wx) => rzones_any W H s hs A m cap (L.take m) wx ((HAM.out.below hb).raise hb.size))
  clear h hx hrb hm
  generalize L.take m = M at *
  obtain ⟨cc, hcc⟩ : ∃ cc, cc = costL M := ⟨_, rfl⟩
  rw [← hcc] at HK1 HK2
  have dcc : ((cc : Int) == (cc : Int)) = true := by rw [beq_iff_eq]
  clear hcc HAM HIW
  go_enter Tryz.func4, Tryz.ntmps4
  go_wp2_with fail
  refine (shown10_any _).mono ?_
  rintro e w1 ⟨rfl, hb1⟩
  have HX1 := Lib.hid ((Box.start w W H s 23).after hb1)
  have c0 := HX1.out.c0
  have c1 := HX1.out.c1
  have c2 := HX1.out.c2
  clear hb1
  by_cases h60 : s.size ≤ 60
  · have d60 : ¬ (60 : Int) < (s.size : Int) := by omega
    clear h60
    have HQ0 := Lib.hid (HX1.out.drew.below)
    cases A with
    | none =>
      obtain ⟨rfl, rfl⟩ := hnil rfl
      obtain rfl : m = 0 := by omega
      clear hnil
      cases rb with
      | true =>
        go_wp2_with fail
        go_region_held3 (fun w' => w'.cell? ⟨w.heap.size, 0, none⟩ = some (.int .i64 W) ∧ w'.cell? ⟨w.heap.size, 1, none⟩ = some (.int .i64 H) ∧ w'.cell? ⟨w.heap.size, 2, none⟩ = some (.string s)) (go_keep)
          ((first
            | (go_at_call 18; refine (sameIl_any A7 A8 n7 n8 k7 k8 _ _ _ _ _ HI78.out HI8.out (Nat.le_refl _) (Nat.le_refl _) HN7.out.1 HN8.out.1).mono ?_; rintro e w9 ⟨q, rfl, hq, hb9⟩; obtain rfl : q = true := hq.2 HSAME.out; have HX9 := Lib.hid (HX8.out.after hb9); have e0 := HX9.out.c0; have e1 := HX9.out.c1; have e2 := HX9.out.c2; clear hq hb9)
            | (go_at_call 20; refine (HZ2.out _ HX7.out.below).mono ?_; rintro e w8 ⟨A8, n8, k8, zt, rfl, hn8, hl8, hy8, hz8, hil8, hb8⟩; have HX8 := Lib.hid (HX7.out.after hb8); have e0 := HX8.out.c0; have e1 := HX8.out.c1; have e2 := HX8.out.c2; have hzz := zt_same HY7.out HZ7.out hy8 hz8; subst hzz; have HI78 := Lib.hid (args_il HI7.out hb8); have HI8 := Lib.hid hil8; have HN8 : Hid (n8 ≤ 1048576 ∧ n8 = zs.length) := Lib.hid ⟨by omega, hn8⟩; have HSAME : Hid (SameAt n7 n8 (fun j => ((zs.getD j 0 : Nat) : Int)) (fun j => ((zs.getD j 0 : Nat) : Int))) := Lib.hid ⟨by rw [HN7.out.2, HN8.out.2], fun j hj => rfl⟩; clear hn8 hl8 hy8 hz8 hil8 hb8)
            | (go_at_call 19; refine (HZ1.out _ HX6.out.below).mono ?_; rintro e w7 ⟨A7, n7, k7, zs, rfl, hn7, hl7, hy7, hz7, hil7, hb7⟩; have HX7 := Lib.hid (HX6.out.after hb7); have e0 := HX7.out.c0; have e1 := HX7.out.c1; have e2 := HX7.out.c2; have HI7 := Lib.hid hil7; have HY7 := Lib.hid hy7; have HZ7 := Lib.hid hz7; have HN7 : Hid (n7 ≤ 1048576 ∧ n7 = zs.length) := Lib.hid ⟨by omega, hn7⟩; clear hn7 hl7 hy7 hz7 hil7 hb7)
            | (go_at_call 17; refine (HK2.out _ HX5.out.below).mono ?_; rintro e w6 ⟨rfl, hb6⟩; have HX6 := Lib.hid (HX5.out.after hb6); have e0 := HX6.out.c0; have e1 := HX6.out.c1; have e2 := HX6.out.c2; clear hb6)
            | (go_at_call 16; refine (HK1.out _ HX4.out.below).mono ?_; rintro e w5 ⟨rfl, hb5⟩; have HX5 := Lib.hid (HX4.out.after hb5); have e0 := HX5.out.c0; have e1 := HX5.out.c1; have e2 := HX5.out.c2; clear hb5)
            | (go_at_call 15; refine (HR2.out _ HX3.out.below).mono ?_; rintro e w4 ⟨rfl, hb4⟩; have HX4 := Lib.hid (HX3.out.after hb4); have e0 := HX4.out.c0; have e1 := HX4.out.c1; have e2 := HX4.out.c2; clear hb4)
            | (go_at_call 14; refine (HR1.out _ HQ0.out).mono ?_; rintro e w3 ⟨rfl, hb3⟩; have HX3 := Lib.hid (HX1.out.drew.after hb3); have e0 := HX3.out.c0; have e1 := HX3.out.c1; have e2 := HX3.out.c2; clear hb3)))
        go_wp2_with fail
        go_ret
        exact ⟨by first | rfl | simp, HX9.out.below⟩
      | false =>
        go_wp2_with fail
        go_region_held3 (fun w' => w'.cell? ⟨w.heap.size, 0, none⟩ = some (.int .i64 W) ∧ w'.cell? ⟨w.heap.size, 1, none⟩ = some (.int .i64 H) ∧ w'.cell? ⟨w.heap.size, 2, none⟩ = some (.string s)) (go_keep)
          ((first
            | (go_at_call 18; refine (sameIl_any A7 A8 n7 n8 k7 k8 _ _ _ _ _ HI78.out HI8.out (Nat.le_refl _) (Nat.le_refl _) HN7.out.1 HN8.out.1).mono ?_; rintro e w9 ⟨q, rfl, hq, hb9⟩; obtain rfl : q = true := hq.2 HSAME.out; have HX9 := Lib.hid (HX8.out.after hb9); have e0 := HX9.out.c0; have e1 := HX9.out.c1; have e2 := HX9.out.c2; clear hq hb9)
            | (go_at_call 20; refine (HZ2.out _ HX7.out.below).mono ?_; rintro e w8 ⟨A8, n8, k8, zt, rfl, hn8, hl8, hy8, hz8, hil8, hb8⟩; have HX8 := Lib.hid (HX7.out.after hb8); have e0 := HX8.out.c0; have e1 := HX8.out.c1; have e2 := HX8.out.c2; have hzz := zt_same HY7.out HZ7.out hy8 hz8; subst hzz; have HI78 := Lib.hid (args_il HI7.out hb8); have HI8 := Lib.hid hil8; have HN8 : Hid (n8 ≤ 1048576 ∧ n8 = zs.length) := Lib.hid ⟨by omega, hn8⟩; have HSAME : Hid (SameAt n7 n8 (fun j => ((zs.getD j 0 : Nat) : Int)) (fun j => ((zs.getD j 0 : Nat) : Int))) := Lib.hid ⟨by rw [HN7.out.2, HN8.out.2], fun j hj => rfl⟩; clear hn8 hl8 hy8 hz8 hil8 hb8)
            | (go_at_call 19; refine (HZ1.out _ HX6.out.below).mono ?_; rintro e w7 ⟨A7, n7, k7, zs, rfl, hn7, hl7, hy7, hz7, hil7, hb7⟩; have HX7 := Lib.hid (HX6.out.after hb7); have e0 := HX7.out.c0; have e1 := HX7.out.c1; have e2 := HX7.out.c2; have HI7 := Lib.hid hil7; have HY7 := Lib.hid hy7; have HZ7 := Lib.hid hz7; have HN7 : Hid (n7 ≤ 1048576 ∧ n7 = zs.length) := Lib.hid ⟨by omega, hn7⟩; clear hn7 hl7 hy7 hz7 hil7 hb7)
            | (go_at_call 17; refine (HK2.out _ HX5.out.below).mono ?_; rintro e w6 ⟨rfl, hb6⟩; have HX6 := Lib.hid (HX5.out.after hb6); have e0 := HX6.out.c0; have e1 := HX6.out.c1; have e2 := HX6.out.c2; clear hb6)
            | (go_at_call 16; refine (HK1.out _ HX4.out.below).mono ?_; rintro e w5 ⟨rfl, hb5⟩; have HX5 := Lib.hid (HX4.out.after hb5); have e0 := HX5.out.c0; have e1 := HX5.out.c1; have e2 := HX5.out.c2; clear hb5)
            | (go_at_call 15; refine (HR2.out _ HX3.out.below).mono ?_; rintro e w4 ⟨rfl, hb4⟩; have HX4 := Lib.hid (HX3.out.after hb4); have e0 := HX4.out.c0; have e1 := HX4.out.c1; have e2 := HX4.out.c2; clear hb4)
            | (go_at_call 14; refine (HR1.out _ HQ0.out).mono ?_; rintro e w3 ⟨rfl, hb3⟩; have HX3 := Lib.hid (HX1.out.drew.after hb3); have e0 := HX3.out.c0; have e1 := HX3.out.c1; have e2 := HX3.out.c2; clear hb3)))
        go_wp2_with fail
        go_ret
        exact ⟨by first | rfl | simp, HX9.out.below⟩
    | some ad =>
      clear hnil
      cases rb with
      | true =>
        go_wp2_with fail
        go_region_held3 (fun w' => w'.cell? ⟨w.heap.size, 0, none⟩ = some (.int .i64 W) ∧ w'.cell? ⟨w.heap.size, 1, none⟩ = some (.int .i64 H) ∧ w'.cell? ⟨w.heap.size, 2, none⟩ = some (.string s)) (go_keep)
          ((first
            | (go_at_call 18; refine (sameIl_any A7 A8 n7 n8 k7 k8 _ _ _ _ _ HI78.out HI8.out (Nat.le_refl _) (Nat.le_refl _) HN7.out.1 HN8.out.1).mono ?_; rintro e w9 ⟨q, rfl, hq, hb9⟩; obtain rfl : q = true := hq.2 HSAME.out; have HX9 := Lib.hid (HX8.out.after hb9); have e0 := HX9.out.c0; have e1 := HX9.out.c1; have e2 := HX9.out.c2; clear hq hb9)
            | (go_at_call 20; refine (HZ2.out _ HX7.out.below).mono ?_; rintro e w8 ⟨A8, n8, k8, zt, rfl, hn8, hl8, hy8, hz8, hil8, hb8⟩; have HX8 := Lib.hid (HX7.out.after hb8); have e0 := HX8.out.c0; have e1 := HX8.out.c1; have e2 := HX8.out.c2; have hzz := zt_same HY7.out HZ7.out hy8 hz8; subst hzz; have HI78 := Lib.hid (args_il HI7.out hb8); have HI8 := Lib.hid hil8; have HN8 : Hid (n8 ≤ 1048576 ∧ n8 = zs.length) := Lib.hid ⟨by omega, hn8⟩; have HSAME : Hid (SameAt n7 n8 (fun j => ((zs.getD j 0 : Nat) : Int)) (fun j => ((zs.getD j 0 : Nat) : Int))) := Lib.hid ⟨by rw [HN7.out.2, HN8.out.2], fun j hj => rfl⟩; clear hn8 hl8 hy8 hz8 hil8 hb8)
            | (go_at_call 19; refine (HZ1.out _ HX6.out.below).mono ?_; rintro e w7 ⟨A7, n7, k7, zs, rfl, hn7, hl7, hy7, hz7, hil7, hb7⟩; have HX7 := Lib.hid (HX6.out.after hb7); have e0 := HX7.out.c0; have e1 := HX7.out.c1; have e2 := HX7.out.c2; have HI7 := Lib.hid hil7; have HY7 := Lib.hid hy7; have HZ7 := Lib.hid hz7; have HN7 : Hid (n7 ≤ 1048576 ∧ n7 = zs.length) := Lib.hid ⟨by omega, hn7⟩; clear hn7 hl7 hy7 hz7 hil7 hb7)
            | (go_at_call 17; refine (HK2.out _ HX5.out.below).mono ?_; rintro e w6 ⟨rfl, hb6⟩; have HX6 := Lib.hid (HX5.out.after hb6); have e0 := HX6.out.c0; have e1 := HX6.out.c1; have e2 := HX6.out.c2; clear hb6)
            | (go_at_call 16; refine (HK1.out _ HX4.out.below).mono ?_; rintro e w5 ⟨rfl, hb5⟩; have HX5 := Lib.hid (HX4.out.after hb5); have e0 := HX5.out.c0; have e1 := HX5.out.c1; have e2 := HX5.out.c2; clear hb5)
            | (go_at_call 15; refine (HR2.out _ HX3.out.below).mono ?_; rintro e w4 ⟨rfl, hb4⟩; have HX4 := Lib.hid (HX3.out.after hb4); have e0 := HX4.out.c0; have e1 := HX4.out.c1; have e2 := HX4.out.c2; clear hb4)
            | (go_at_call 14; refine (HR1.out _ HQ0.out).mono ?_; rintro e w3 ⟨rfl, hb3⟩; have HX3 := Lib.hid (HX1.out.drew.after hb3); have e0 := HX3.out.c0; have e1 := HX3.out.c1; have e2 := HX3.out.c2; clear hb3)))
        go_wp2_with fail
        go_ret
        exact ⟨by first | rfl | simp, HX9.out.below⟩
      | false =>
        go_wp2_with fail
        go_region_held3 (fun w' => w'.cell? ⟨w.heap.size, 0, none⟩ = some (.int .i64 W) ∧ w'.cell? ⟨w.heap.size, 1, none⟩ = some (.int .i64 H) ∧ w'.cell? ⟨w.heap.size, 2, none⟩ = some (.string s)) (go_keep)
          ((first
            | (go_at_call 18; refine (sameIl_any A7 A8 n7 n8 k7 k8 _ _ _ _ _ HI78.out HI8.out (Nat.le_refl _) (Nat.le_refl _) HN7.out.1 HN8.out.1).mono ?_; rintro e w9 ⟨q, rfl, hq, hb9⟩; obtain rfl : q = true := hq.2 HSAME.out; have HX9 := Lib.hid (HX8.out.after hb9); have e0 := HX9.out.c0; have e1 := HX9.out.c1; have e2 := HX9.out.c2; clear hq hb9)
            | (go_at_call 20; refine (HZ2.out _ HX7.out.below).mono ?_; rintro e w8 ⟨A8, n8, k8, zt, rfl, hn8, hl8, hy8, hz8, hil8, hb8⟩; have HX8 := Lib.hid (HX7.out.after hb8); have e0 := HX8.out.c0; have e1 := HX8.out.c1; have e2 := HX8.out.c2; have hzz := zt_same HY7.out HZ7.out hy8 hz8; subst hzz; have HI78 := Lib.hid (args_il HI7.out hb8); have HI8 := Lib.hid hil8; have HN8 : Hid (n8 ≤ 1048576 ∧ n8 = zs.length) := Lib.hid ⟨by omega, hn8⟩; have HSAME : Hid (SameAt n7 n8 (fun j => ((zs.getD j 0 : Nat) : Int)) (fun j => ((zs.getD j 0 : Nat) : Int))) := Lib.hid ⟨by rw [HN7.out.2, HN8.out.2], fun j hj => rfl⟩; clear hn8 hl8 hy8 hz8 hil8 hb8)
            | (go_at_call 19; refine (HZ1.out _ HX6.out.below).mono ?_; rintro e w7 ⟨A7, n7, k7, zs, rfl, hn7, hl7, hy7, hz7, hil7, hb7⟩; have HX7 := Lib.hid (HX6.out.after hb7); have e0 := HX7.out.c0; have e1 := HX7.out.c1; have e2 := HX7.out.c2; have HI7 := Lib.hid hil7; have HY7 := Lib.hid hy7; have HZ7 := Lib.hid hz7; have HN7 : Hid (n7 ≤ 1048576 ∧ n7 = zs.length) := Lib.hid ⟨by omega, hn7⟩; clear hn7 hl7 hy7 hz7 hil7 hb7)
            | (go_at_call 17; refine (HK2.out _ HX5.out.below).mono ?_; rintro e w6 ⟨rfl, hb6⟩; have HX6 := Lib.hid (HX5.out.after hb6); have e0 := HX6.out.c0; have e1 := HX6.out.c1; have e2 := HX6.out.c2; clear hb6)
            | (go_at_call 16; refine (HK1.out _ HX4.out.below).mono ?_; rintro e w5 ⟨rfl, hb5⟩; have HX5 := Lib.hid (HX4.out.after hb5); have e0 := HX5.out.c0; have e1 := HX5.out.c1; have e2 := HX5.out.c2; clear hb5)
            | (go_at_call 15; refine (HR2.out _ HX3.out.below).mono ?_; rintro e w4 ⟨rfl, hb4⟩; have HX4 := Lib.hid (HX3.out.after hb4); have e0 := HX4.out.c0; have e1 := HX4.out.c1; have e2 := HX4.out.c2; clear hb4)
            | (go_at_call 14; refine (HR1.out _ HQ0.out).mono ?_; rintro e w3 ⟨rfl, hb3⟩; have HX3 := Lib.hid (HX1.out.drew.after hb3); have e0 := HX3.out.c0; have e1 := HX3.out.c1; have e2 := HX3.out.c2; clear hb3)))
        go_wp2_with fail
        go_ret
        exact ⟨by first | rfl | simp, HX9.out.below⟩
  · have d60 : (60 : Int) < (s.size : Int) := by omega
    go_wp2_with fail
    go_ret
    exact ⟨by first | rfl | simp, HX1.out.below⟩
end Tr
end Go.Proofs.YtokjnmgbgflgnaaGreatDoor
