/-
  PathFinds: the walk.
-/
import Derived.Test.YtaioiobimenkfaaDoorPtR5
set_option linter.unusedVariables false
set_option maxRecDepth 100000
namespace Go.Proofs.YtaioiobimenkfaaDoor
open Go.RowKit Fl Pt

def NoWay (w : World) (e : Ending) (w' : World) : Prop := e = .returned (.tuple #[.slice none 0 0, .int .i64 1]) ∧ Below w.heap.size w w'
theorem rmfind_none (c t : Int) (A : Option Addr) (m cap : Nat) (w : World) : Calls Tryd.prog 26 #[.agg #[.slice none 0 0, .slice none 0 0, .slice none 0 0], .int .i64 c, .int .i64 t, .slice A m cap] w (NoWay w) := by
  obtain ⟨b0, b1, b2, hb⟩ := map_box w (.slice none 0 0) (.slice none 0 0) (.slice none 0 0)
  have HB1 := Lib.hid hb
  clear hb
  go_enter Tryd.func26, Tryd.ntmps26
  go_wp2_with fail
  refine (ropen_none c _).mono ?_
  rintro e w2 ⟨rfl, hb2⟩
  have HB2 := Lib.hid (HB1.out.trans (hb2.mono HB1.out.size))
  clear hb2
  go_wp2_with fail
  go_ret2
  exact ⟨rfl, HB2.out⟩
set_option maxHeartbeats 1000000 in
theorem rmfind_no {W H : Nat} {s : ByteArray} {AN AL AO : Option Addr} {n cN cL cO : Nat} (c t : Int) (A : Option Addr) (m cap : Nat) (w : World) (h : MapAt w W H s AN AL AO n cN cL cO) (h256 : s.size ≤ 256) (hz : ¬ (bAt s c ≠ 35 ∧ bAt s t ≠ 35)) :
    Calls Tryd.prog 26 #[.agg #[.slice AN n cN, .slice AL n cL, .slice AO n cO], .int .i64 c, .int .i64 t, .slice A m cap] w (NoWay w) := by
  obtain ⟨b0, b1, b2, hb⟩ := map_box w (.slice AN n cN) (.slice AL n cL) (.slice AO n cO)
  have HMX : Hid (MX w.heap.size AN AL AO n cN cL cO (w.alloc (.cells #[.slice AN n cN, .slice AL n cL, .slice AO n cO] 48))) := Lib.hid ⟨b0, b1, b2, by rw [alloc_size]; exact Nat.lt_succ_self _⟩
  have HB1 := Lib.hid hb
  have HZ := Lib.hid hz
  have HOP := Lib.hid (fun (c : Int) wx hb => ropen_map (W := W) (H := H) (s := s) (AN := AN) (AL := AL) (AO := AO) (cN := cN) (cL := cL) (cO := cO) c wx (h.later hb) h256)
  clear h hb hz b0 b1 b2
  go_enter Tryd.func26, Tryd.ntmps26
  have c0 := HMX.out.c0
  have c1 := HMX.out.c1
  have c2 := HMX.out.c2
  go_wp2_with fail
  refine (HOP.out c _ HB1.out).mono ?_
  rintro e w2 ⟨b, rfl, hb, hb2⟩
  have HMX2 := Lib.hid (HMX.out.later hb2)
  have HB2 := Lib.hid (HB1.out.trans (hb2.mono HB1.out.size))
  have HBB := Lib.hid hb
  clear hb hb2 c0 c1 c2
  cases b with
  | false =>
    go_wp2_with fail
    go_ret2
    exact ⟨rfl, HB2.out⟩
  | true =>
    have c0 := HMX2.out.c0
    have c1 := HMX2.out.c1
    have c2 := HMX2.out.c2
    go_wp2_with fail
    refine (HOP.out t _ HB2.out).mono ?_
    rintro e w3 ⟨b, rfl, hb, hb3⟩
    obtain rfl : b = false := by
      cases b with
      | false => rfl
      | true => exact absurd ⟨HBB.out.1 (by first | trivial | rfl), hb.1 (by first | trivial | rfl)⟩ HZ.out
    have HB3 := Lib.hid (HB2.out.trans (hb3.mono HB2.out.size))
    clear hb hb3 c0 c1 c2
    go_wp2_with fail
    go_ret2
    exact ⟨rfl, HB3.out⟩
set_option maxHeartbeats 1000000 in
theorem rfind_any (W H : Int) (s : ByteArray) (hs : s.size ≤ maxLen) (c t : Int) (A : Option Addr) (n cap : Nat) (f : Nat → Int) (w : World) (h : Il w.heap.size w A n cap f) :
    Calls Tryd.prog 16 #[.agg #[.int .i64 W, .int .i64 H, .string s], .int .i64 c, .int .i64 t, .slice A n cap] w (WayTold W H s c t (mk f n) w) := by
  have HI := Lib.hid h
  have HOF := Lib.hid (of_any W H s hs)
  clear h
  go_enter Tryd.func16, Tryd.ntmps16
  go_wp2_with fail
  refine (HOF.out _).mono ?_
  rintro e w1 ⟨AN, n1, cN, AL, cL, AO, cO, rfl, hb1, hyes, hno⟩
  have HX1 := Lib.hid ((Box.start w W H s 23).after hb1)
  clear hb1
  by_cases hR : Right W H s
  · have HMP := Lib.hid (hyes hR)
    have h256 := rightLe hR
    by_cases hz : bAt s c ≠ 35 ∧ bAt s t ≠ 35
    · have hO : OnFloor W H s c := ⟨hR, hz.1⟩
      have hOt : OnFloor W H s t := ⟨hR, hz.2⟩
      have HONT := Lib.hid hOt
      have HON := Lib.hid hO
      obtain ⟨W, H, k, rfl, rfl, rfl, hk, hzk, hSd, _⟩ := onFloor_some hO
      obtain ⟨b, e, hb, hzb⟩ := bAt_in hOt.2
      subst e
      have hz35 : at_ s b ≠ 35 := by rw [← hzb]; exact hOt.2
      have HC := Lib.hid (fun wx hm hi => rmfind_any (W := W) (H := H) (s := s) (AN := AN) (AL := AL) (AO := AO) (n := n1) (cN := cN) (cL := cL) (cO := cO) k b A n cap f wx hm hSd hk hb hzk hz35 hi)
      clear hyes hno hR hz hO hOt hSd hzk hzb hz35
      go_wp2_with fail
      refine (HC.out _ HMP.out (args_il HI.out HX1.out.below)).mono ?_
      rintro e w2 ⟨A2, n2, k2, P, er, rfl, hn2, hp, ho2, hb2, hway⟩
      have HX2 := Lib.hid (HX1.out.after hb2)
      have HIL := Lib.hid (Own.il ho2 hn2)
      have HN2 := Lib.hid hn2
      have HP := Lib.hid hp
      have HW := Lib.hid hway
      clear hn2 hp ho2 hb2 hway
      go_wp2_with fail
      go_ret2
      refine ⟨A2, n2, k2, P, er, rfl, HN2.out, ⟨HP.out, ?_⟩, HIL.out, HX2.out.below, ?_⟩
      · rcases HW.out with ⟨e, _⟩ | ⟨e, _⟩
        · exact .inl e
        · exact .inr (.inr e)
      · rcases HW.out with ⟨e, h1, h2⟩ | ⟨e, h1, h2⟩
        · exact .inl ⟨HON.out, HONT.out, e, h1, h2⟩
        · exact .inr (.inl ⟨HON.out, HONT.out, e, h1, h2⟩)
    · have HNO : Hid (¬ (OnFloor W H s c ∧ OnFloor W H s t)) := Lib.hid (fun h => hz ⟨h.1.2, h.2.2⟩)
      have HC := Lib.hid (fun wx hm => rmfind_no (W := W.toNat) (H := H.toNat) (s := s) (AN := AN) (AL := AL) (AO := AO) (n := n1) (cN := cN) (cL := cL) (cO := cO) c t A n cap wx hm h256 hz)
      clear hyes hno hR hz
      go_wp2_with fail
      refine (HC.out _ HMP.out).mono ?_
      rintro e w2 ⟨rfl, hb2⟩
      have HX2 := Lib.hid (HX1.out.after hb2)
      clear hb2
      go_wp2_with fail
      go_ret2
      exact ⟨none, 0, 0, [], 1, rfl, rfl, ⟨Nat.zero_le _, .inr (.inl rfl)⟩, Il.empty _ _ _, HX2.out.below, .inr (.inr ⟨HNO.out, rfl, rfl⟩)⟩
  · obtain ⟨rfl, rfl, rfl, rfl, rfl, rfl, rfl⟩ := hno hR
    have HNO : Hid (¬ (OnFloor W H s c ∧ OnFloor W H s t)) := Lib.hid (fun h => hR h.1.1)
    clear hyes hno hR
    go_wp2_with fail
    refine (rmfind_none c t A n cap _).mono ?_
    rintro e w2 ⟨rfl, hb2⟩
    have HX2 := Lib.hid (HX1.out.after hb2)
    clear hb2
    go_wp2_with fail
    go_ret2
    exact ⟨none, 0, 0, [], 1, rfl, rfl, ⟨Nat.zero_le _, .inr (.inl rfl)⟩, Il.empty _ _ _, HX2.out.below, .inr (.inr ⟨HNO.out, rfl, rfl⟩)⟩
theorem same_yes {k : Nat} {args : Array Value} {w : World} {P : Prop} (h : Calls Tryd.prog k args w (Told P w)) (hP : P) : Calls Tryd.prog k args w fun e w' => e = .returned (.bool true) ∧ Below w.heap.size w w' :=
  h.mono fun e w' ⟨b, h1, h2, h3⟩ => ⟨by rw [h1, h2.2 hP], h3⟩
set_option maxHeartbeats 4000000 in
theorem pathFinds_walk (W H : Int) (hH : H ≤ 9223372036854775807) (s : ByteArray) (hs : s.size ≤ maxLen) (a : Int) (ha : -9223372036854775808 ≤ a ∧ a ≤ 9223372036854775807) (t : Int) (ht : -9223372036854775808 ≤ t ∧ t ≤ 9223372036854775807) (A1 : Option Addr) (n1 p1 : Nat) (f : Nat → Int) (w : World) (hf : Il w.heap.size w A1 n1 p1 f) (_ : ∀ j, j < n1 → IW (f j)) :
    Calls Tryd.prog 4 #[.agg #[.int .i64 W, .int .i64 H, .string s], .int .i64 a, .int .i64 t, .slice A1 n1 p1] w fun e w' => e = .returned (.bool true) ∧ Below w.heap.size w w' := by
  have HSM := Lib.hid (small_any W H s hs)
  obtain ⟨m1, hm1⟩ : ∃ m, m = min n1 50 := ⟨_, rfl⟩
  have hm1' : m1 ≤ 50 := by omega
  have HE1 := Lib.hid (fun wx => few5_is _ _ A1 n1 p1 m1 f wx hf hm1)
  have HF1 := Lib.hid (hf.cut (k := m1) (by omega))
  have HFI := Lib.hid (fun A n cap f wx h => find_any W H s hs a t A n cap f wx h)
  have HFR := Lib.hid (fun A n cap f wx h => rfind_any W H s hs a t A n cap f wx h)
  clear hf hm1 ha hH ht
  go_enter Tryd.func4, Tryd.ntmps4
  go_wp2_with fail
  refine (shown_any _).mono ?_
  rintro e w1 ⟨rfl, hb1⟩
  have HX1 := Lib.hid ((Box.start w W H s 23).after hb1)
  have c0 := HX1.out.c0
  have c1 := HX1.out.c1
  have c2 := HX1.out.c2
  clear hb1
  go_wp2_with fail
  refine (HSM.out _).mono ?_
  rintro e w2 ⟨rfl, hb2⟩
  have HX2 := Lib.hid (HX1.out.after hb2)
  clear hb2 c0 c1 c2
  by_cases h80 : s.size ≤ 80
  · have hd : decide (s.size ≤ 80) = true := decide_eq_true h80
    rw [hd]
    clear hd h80
    have c0 := HX2.out.c0
    have c1 := HX2.out.c1
    have c2 := HX2.out.c2
    go_wp2_with fail
    go_region_held3 (fun w' => w'.cell? ⟨w.heap.size, 0, none⟩ = some (.int .i64 W) ∧ w'.cell? ⟨w.heap.size, 1, none⟩ = some (.int .i64 H) ∧ w'.cell? ⟨w.heap.size, 2, none⟩ = some (.string s)) (go_keep)
      ((first
        | (go_at_call 13; refine (HE1.out _).mono ?_; rintro e w' ⟨rfl, rfl⟩)
        | (go_at_call 15; refine (HFI.out A1 m1 _ f _ (args_il HF1.out HX2.out.drew.below)).mono ?_; rintro e w3 ⟨A3, n3, k3, P, er, rfl, hn3, hp3, hil3, hb3, hway⟩; have HX3 := Lib.hid (HX2.out.drew.after hb3); have HI3 := Lib.hid hil3; have HN3 := Lib.hid hn3; have HP3 := Lib.hid hp3; have HWAY := Lib.hid hway; have e0 := HX3.out.c0; have e1 := HX3.out.c1; have e2 := HX3.out.c2; clear hn3 hp3 hil3 hb3 hway)))
    clear c0 c1 c2
    go_wp2_with fail
    go_region_held3 (fun w' => w'.cell? ⟨w.heap.size, 0, none⟩ = some (.int .i64 W) ∧ w'.cell? ⟨w.heap.size, 1, none⟩ = some (.int .i64 H) ∧ w'.cell? ⟨w.heap.size, 2, none⟩ = some (.string s)) (go_keep)
      ((first
        | (go_at_call 13; refine (HE1.out _).mono ?_; rintro e w' ⟨rfl, rfl⟩)
        | (go_at_call 16; refine (HFR.out A1 m1 _ f _ (args_il HF1.out HX3.out.drew.below)).mono ?_; rintro e w4 ⟨A4, n4, k4, Q, er2, rfl, hn4, hp4, hil4, hb4, hway⟩; have HX4 := Lib.hid (HX3.out.drew.after hb4); have HI34 := Lib.hid (args_il (w := w3) (wx := w4) HI3.out ((Below.refl _ _).drew.trans hb4)); have HI4 := Lib.hid hil4; have HN4 := Lib.hid hn4; have HP4 := Lib.hid hp4; have HWAY2 := Lib.hid hway; have c0 := HX4.out.c0; have c1 := HX4.out.c1; have c2 := HX4.out.c2; clear hn4 hp4 hil4 hb4 hway)))
    clear e0 e1 e2
    obtain ⟨hPQ, heq⟩ := HWAY.out.uniq HWAY2.out
    subst hPQ heq
    have HS4 : Hid (SameAt n3 n4 (fun j => ((P.getD j 0 : Nat) : Int)) (fun j => ((P.getD j 0 : Nat) : Int))) := Lib.hid ⟨by rw [HN3.out, HN4.out], fun j hj => rfl⟩
    have HL3 : Hid (n3 ≤ 1048576) := Lib.hid (by have := HP3.out.1; have := HN3.out; omega)
    have HL4 : Hid (n4 ≤ 1048576) := Lib.hid (by have := HP3.out.1; have := HN4.out; omega)
    have HSAME := Lib.hid (same_yes (sameIl_any A3 A4 n3 n4 k3 k4 _ _ _ _ _ HI34.out HI4.out (Nat.le_refl _) (Nat.le_refl _) HL3.out HL4.out) HS4.out)
    go_wp2_with fail
    refine HSAME.out.mono ?_
    rintro e w5 ⟨rfl, hb5⟩
    have HX5 := Lib.hid (HX4.out.after hb5)
    clear hb5 c0 c1 c2
    go_wp2_with fail
    go_ret
    exact ⟨by first | rfl | simp, HX5.out.below⟩
  · have hd : decide (s.size ≤ 80) = false := decide_eq_false h80
    rw [hd]
    clear hd
    go_wp2_with fail
    go_ret
    exact ⟨rfl, HX2.out.below⟩
end Go.Proofs.YtaioiobimenkfaaDoor
