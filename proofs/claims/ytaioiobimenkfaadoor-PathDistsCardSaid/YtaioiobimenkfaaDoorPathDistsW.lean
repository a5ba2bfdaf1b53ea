/-
  PathDists: the walk.
-/
import Derived.Test.YtaioiobimenkfaaDoorPtR4
set_option linter.unusedVariables false
set_option maxRecDepth 100000
namespace Go.Proofs.YtaioiobimenkfaaDoor
open Go.RowKit Fl Pt

theorem rdist_any (W H : Int) (s : ByteArray) (hs : s.size ≤ maxLen) (c : Int) (A : Option Addr) (n cap : Nat) (f : Nat → Int) (w : World) (h : Il w.heap.size w A n cap f) :
    Calls Tryd.prog 14 #[.agg #[.int .i64 W, .int .i64 H, .string s], .int .i64 c, .slice A n cap] w (DistTold W H s c (mk f n) w) := by
  have HI := Lib.hid h
  have HOF := Lib.hid (of_any W H s hs)
  clear h
  go_enter Tryd.func14, Tryd.ntmps14
  go_wp2_with fail
  refine (HOF.out _).mono ?_
  rintro e w1 ⟨AN, n1, cN, AL, cL, AO, cO, rfl, hb1, hyes, hno⟩
  have HX1 := Lib.hid ((Box.start w W H s 23).after hb1)
  clear hb1
  by_cases hR : Right W H s
  · have HMP := Lib.hid (hyes hR)
    have h256 := rightLe hR
    by_cases hz : bAt s c = 35
    · have HNO : Hid (¬ OnFloor W H s c) := Lib.hid (fun h => h.2 hz)
      have HC := Lib.hid (fun wx hm => rmdist_no (W := W.toNat) (H := H.toNat) (s := s) (AN := AN) (AL := AL) (AO := AO) (n := n1) (cN := cN) (cL := cL) (cO := cO) c A n cap wx hm h256 hz)
      clear hyes hno hR hz
      go_wp2_with fail
      refine (HC.out _ HMP.out).mono ?_
      rintro e w2 ⟨rfl, hb2⟩
      have HX2 := Lib.hid (HX1.out.after hb2)
      clear hb2
      go_wp2_with fail
      go_ret
      exact ⟨none, 0, 0, [], rfl, rfl, Il.empty _ _ _, HX2.out.below, (fun h => absurd h HNO.out), fun _ => rfl⟩
    · have hO : OnFloor W H s c := ⟨hR, hz⟩
      obtain ⟨W, H, k, rfl, rfl, rfl, hk, hzk, hSd, _⟩ := onFloor_some hO
      have HON := Lib.hid hO
      have HC := Lib.hid (fun wx hm hi => rmdist_any (W := W) (H := H) (s := s) (AN := AN) (AL := AL) (AO := AO) (n := n1) (cN := cN) (cL := cL) (cO := cO) k A n cap f wx hm hSd hk hzk hi)
      clear hyes hno hR hz hO hSd hzk
      go_wp2_with fail
      refine (HC.out _ HMP.out (args_il HI.out HX1.out.below)).mono ?_
      rintro e w2 ⟨D, F, rfl, hl, hd, _, hb2, HF⟩
      have HX2 := Lib.hid (HX1.out.after hb2)
      have HIL := Lib.hid (cells_il hd h256)
      have HL := Lib.hid hl
      clear hb2 hl hd
      go_wp2_with fail
      go_ret
      exact ⟨_, s.size, s.size, F, rfl, HL.out.symm, HIL.out, HX2.out.below, (fun _ => ⟨HL.out, HF.out⟩), fun h => absurd HON.out h⟩
  · obtain ⟨rfl, rfl, rfl, rfl, rfl, rfl, rfl⟩ := hno hR
    have HNO : Hid (¬ OnFloor W H s c) := Lib.hid (fun h => hR h.1)
    clear hyes hno hR
    go_wp2_with fail
    refine (rmdist_none c A n cap _).mono ?_
    rintro e w2 ⟨rfl, hb2⟩
    have HX2 := Lib.hid (HX1.out.after hb2)
    clear hb2
    go_wp2_with fail
    go_ret
    exact ⟨none, 0, 0, [], rfl, rfl, Il.empty _ _ _, HX2.out.below, (fun h => absurd h HNO.out), fun _ => rfl⟩
theorem dist_same {W H : Int} {s : ByteArray} {c : Int} {B : Nat → Bool} {n m : Nat} {F G : List Int} (hn : n = F.length) (hm : m = G.length)
    (h1 : OnFloor W H s c → F.length = s.size ∧ ∀ x, x < s.size → IsD (nx5 W.toNat H.toNat (at_ s) c.toNat B) c.toNat x (F.getD x 0)) (h2 : ¬ OnFloor W H s c → F = [])
    (k1 : OnFloor W H s c → G.length = s.size ∧ ∀ x, x < s.size → IsD (nx5 W.toNat H.toNat (at_ s) c.toNat B) c.toNat x (G.getD x 0)) (k2 : ¬ OnFloor W H s c → G = []) :
    SameAt n m (fun j => F.getD j 0) (fun j => G.getD j 0) := by
  by_cases h : OnFloor W H s c
  · obtain ⟨a1, a2⟩ := h1 h
    obtain ⟨b1, b2⟩ := k1 h
    exact ⟨by omega, fun j hj => (a2 j (by omega)).uniq (b2 j (by omega))⟩
  · have e1 := h2 h
    have e2 := k2 h
    subst e1 e2
    exact ⟨by omega, fun j hj => rfl⟩
theorem dist_len {W H : Int} {s : ByteArray} {c : Int} {B : Nat → Bool} {n : Nat} {F : List Int} (hn : n = F.length)
    (h1 : OnFloor W H s c → F.length = s.size ∧ ∀ x, x < s.size → IsD (nx5 W.toNat H.toNat (at_ s) c.toNat B) c.toNat x (F.getD x 0)) (h2 : ¬ OnFloor W H s c → F = []) : n ≤ 1048576 := by
  by_cases h : OnFloor W H s c
  · have := (h1 h).1
    have := rightLe h.1
    omega
  · rw [h2 h] at hn; simp at hn; omega
theorem same_yes {k : Nat} {args : Array Value} {w : World} {P : Prop} (h : Calls Tryd.prog k args w (Told P w)) (hP : P) : Calls Tryd.prog k args w fun e w' => e = .returned (.bool true) ∧ Below w.heap.size w w' :=
  h.mono fun e w' ⟨b, h1, h2, h3⟩ => ⟨by rw [h1, h2.2 hP], h3⟩
set_option maxHeartbeats 4000000 in
theorem pathDists_walk (W H : Int) (hH : H ≤ 9223372036854775807) (s : ByteArray) (hs : s.size ≤ maxLen) (a : Int) (ha : -9223372036854775808 ≤ a ∧ a ≤ 9223372036854775807) (A1 : Option Addr) (n1 p1 : Nat) (f : Nat → Int) (w : World) (hf : Il w.heap.size w A1 n1 p1 f) (_ : ∀ j, j < n1 → IW (f j)) :
    Calls Tryd.prog 3 #[.agg #[.int .i64 W, .int .i64 H, .string s], .int .i64 a, .slice A1 n1 p1] w fun e w' => e = .returned (.bool true) ∧ Below w.heap.size w w' := by
  have HSM := Lib.hid (small_any W H s hs)
  obtain ⟨m1, hm1⟩ : ∃ m, m = min n1 50 := ⟨_, rfl⟩
  have hm1' : m1 ≤ 50 := by omega
  have HE1 := Lib.hid (fun wx => few5_is _ _ A1 n1 p1 m1 f wx hf hm1)
  have HF1 := Lib.hid (hf.cut (k := m1) (by omega))
  have HDI := Lib.hid (fun A n cap f wx h => dist_any W H s hs a A n cap f wx h)
  have HDR := Lib.hid (fun A n cap f wx h => rdist_any W H s hs a A n cap f wx h)
  clear hf hm1 ha hH
  go_enter Tryd.func3, Tryd.ntmps3
  go_wp2_with fail
  refine (shown_any _).mono ?_
  rintro e w1 ⟨rfl, hb1⟩
  have HX1 := Lib.hid ((Box.start w W H s 23).after hb1)
  have c0 := HX1.out.c0
  have c1 := HX1.out.c1
  have c2 := HX1.out.c2
  clear hb1
  go_wp2_with fail
  refine (HSM.out _).mono ?_
  rintro e w2 ⟨rfl, hb2⟩
  have HX2 := Lib.hid (HX1.out.after hb2)
  clear hb2 c0 c1 c2
  by_cases h80 : s.size ≤ 80
  · have hd : decide (s.size ≤ 80) = true := decide_eq_true h80
    rw [hd]
    clear hd h80
    have c0 := HX2.out.c0
    have c1 := HX2.out.c1
    have c2 := HX2.out.c2
    go_wp2_with fail
    go_region_held3 (fun w' => w'.cell? ⟨w.heap.size, 0, none⟩ = some (.int .i64 W) ∧ w'.cell? ⟨w.heap.size, 1, none⟩ = some (.int .i64 H) ∧ w'.cell? ⟨w.heap.size, 2, none⟩ = some (.string s)) (go_keep)
      ((first
        | (go_at_call 13; refine (HE1.out _).mono ?_; rintro e w' ⟨rfl, rfl⟩)
        | (go_at_call 12; refine (HDI.out A1 m1 _ f _ (args_il HF1.out HX2.out.drew.below)).mono ?_; rintro e w3 ⟨A3, n3, k3, F, rfl, hn3, hil3, hb3, hd3, hd4⟩; have HX3 := Lib.hid (HX2.out.drew.after hb3); have HI3 := Lib.hid hil3; have HN3 := Lib.hid hn3; have HD3 := Lib.hid hd3; have HD4 := Lib.hid hd4; have e0 := HX3.out.c0; have e1 := HX3.out.c1; have e2 := HX3.out.c2; clear hn3 hil3 hb3 hd3 hd4)
        | (go_at_call 14; refine (HDR.out A1 m1 _ f _ (args_il HF1.out HX3.out.below)).mono ?_; rintro e w4 ⟨A4, n4, k4, G, rfl, hn4, hil4, hb4, hd5, hd6⟩; have HX4 := Lib.hid (HX3.out.after hb4); have HI34 := Lib.hid (args_il HI3.out hb4); have HI4 := Lib.hid hil4; have HS4 := Lib.hid (dist_same HN3.out hn4 HD3.out HD4.out hd5 hd6); have HL3 := Lib.hid (dist_len HN3.out HD3.out HD4.out); have HL4 := Lib.hid (dist_len hn4 hd5 hd6); have e0 := HX4.out.c0; have e1 := HX4.out.c1; have e2 := HX4.out.c2; clear hn4 hil4 hb4 hd5 hd6)
        | (go_at_call 11; refine (same_yes (sameIl_any A3 A4 n3 n4 k3 k4 _ _ _ _ _ HI34.out HI4.out (Nat.le_refl _) (Nat.le_refl _) HL3.out HL4.out) HS4.out).mono ?_; rintro e w5 ⟨rfl, hb5⟩; have HX5 := Lib.hid (HX4.out.after hb5); have e0 := HX5.out.c0; have e1 := HX5.out.c1; have e2 := HX5.out.c2; clear hb5)))
    all_goals
      go_wp2_with fail
      go_ret
      exact ⟨rfl, HX5.out.below⟩
  · have hd : decide (s.size ≤ 80) = false := decide_eq_false h80
    rw [hd]
    clear hd
    go_wp2_with fail
    go_ret
    exact ⟨rfl, HX2.out.below⟩
end Go.Proofs.YtaioiobimenkfaaDoor
