/-
  Layer 10: Make.
-/
import Derived.Test.YtokjnmgbgflgnaaGreatDoorTrHi
import Derived.Test.YtokjnmgbgflgnaaGreatDoorTrE
set_option linter.unusedVariables false
set_option maxRecDepth 100000
namespace Go.Proofs.YtokjnmgbgflgnaaGreatDoor
namespace Tr
open Go.RowKit Fl Pt
open Bk (Gt)

/-- Whether there may be a trip. -/
def MayTrip (W H : Int) (s : ByteArray) (r pod a b : Int) : Prop := IsRobot W H s r ∧ isP pod = true ∧ laneB s a = true ∧ laneB s b = true
/-- The trip, or why there is none. -/
def MakeIs (W H : Int) (s : ByteArray) (r pod a b : Int) (B : Nat → Bool) (L : List Ac) (er : Int) : Prop :=
  (¬ MayTrip W H s r pod a b ∧ L = [] ∧ er = 1) ∨
  (MayTrip W H s r pod a b ∧ ∃ (d : Nat) (x y z : List Nat), IsFirst s (48 + r.toNat) d ∧ WayIs W H s (d : Int) a B x 0 ∧ WayIs W H s a b B y 0 ∧ WayIs W H s b (d : Int) B z 0 ∧ L = tripL x y z a b pod ∧ er = 0) ∨
  (MayTrip W H s r pod a b ∧ ∃ (d : Nat), IsFirst s (48 + r.toNat) d ∧ (WayIs W H s (d : Int) a B [] 2 ∨ WayIs W H s a b B [] 2 ∨ WayIs W H s b (d : Int) B [] 2) ∧ L = [] ∧ er = 2)
theorem MakeIs.uniq {W H : Int} {s : ByteArray} {r pod a b : Int} {B : Nat → Bool} {L M : List Ac} {e f : Int} (h : MakeIs W H s r pod a b B L e) (k : MakeIs W H s r pod a b B M f) : L = M ∧ e = f := by
  rcases h with ⟨h0, rfl, rfl⟩ | ⟨h0, d, x, y, z, hd, h1, h2, h3, rfl, rfl⟩ | ⟨h0, d, hd, h1, rfl, rfl⟩ <;> rcases k with ⟨k0, rfl, rfl⟩ | ⟨k0, d', x', y', z', kd, k1, k2, k3, rfl, rfl⟩ | ⟨k0, d', kd, k1, rfl, rfl⟩
  · exact ⟨rfl, rfl⟩
  · exact absurd k0 h0
  · exact absurd k0 h0
  · exact absurd h0 k0
  · obtain rfl := hd.one kd
    rw [(h1.uniq k1).1, (h2.uniq k2).1, (h3.uniq k3).1]
    exact ⟨rfl, rfl⟩
  · obtain rfl := hd.one kd
    rcases k1 with k1 | k1 | k1
    · have := (h1.uniq k1).2; omega
    · have := (h2.uniq k1).2; omega
    · have := (h3.uniq k1).2; omega
  · exact absurd h0 k0
  · obtain rfl := hd.one kd
    rcases h1 with h1 | h1 | h1
    · have := (h1.uniq k1).2; omega
    · have := (h1.uniq k2).2; omega
    · have := (h1.uniq k3).2; omega
  · exact ⟨rfl, rfl⟩
theorem way_02 {W H : Int} {s : ByteArray} {c t : Int} {B : Nat → Bool} {P : List Nat} {er : Int} (h : WayIs W H s c t B P er) (hc : OnFloor W H s c) (ht : OnFloor W H s t) : er = 0 ∨ (er = 2 ∧ P = []) := by
  rcases h with ⟨_, _, e, _⟩ | ⟨_, _, e, e2, _⟩ | ⟨k, _⟩
  · exact .inl e
  · exact .inr ⟨e, e2⟩
  · exact absurd ⟨hc, ht⟩ k
theorem lane_on {W H : Int} {s : ByteArray} {c : Int} (hr : Right W H s) (h : laneB s c = true) : OnFloor W H s c := ⟨hr, fun e => by unfold laneB at h; rw [e] at h; revert h; decide⟩
theorem dock_on {W H : Int} {s : ByteArray} {r : Int} {d : Nat} (hr : IsRobot W H s r) (hd : IsFirst s (48 + r.toNat) d) : OnFloor W H s (d : Int) := (on_dock hr.1 hd (rob_lt hr) (.inl rfl)).2
/-- A way's cells are cells. -/
theorem way_lt {W H : Int} {s : ByteArray} {c t : Int} {B : Nat → Bool} {P : List Nat} {er : Int} (h : WayIs W H s c t B P er) (i : Nat) (hi : i < P.length) : P.getD i 0 < s.size := by
  rcases h with ⟨hc, _, _, hg, _⟩ | ⟨_, _, _, e2, _⟩ | ⟨_, _, e2⟩
  · obtain ⟨a, b, k, rfl, rfl, rfl, hk, _, hS, _⟩ := onFloor_some hc
    have hall : ∀ i, i ≤ P.length → (k :: P).getD i 0 < a * b := by
      intro i
      induction i with
      | zero => intro _; rw [← hS.sz]; exact hk
      | succ i ih =>
        intro hi
        exact nr_lt hS.w1 (ih (by omega)) (gr_cells hg i (by omega)).2.2
    have := hall (i + 1) (by omega)
    rw [hS.sz]; exact this
  · rw [e2] at hi; simp at hi
  · rw [e2] at hi; simp at hi
theorem gos_iw {P : List Nat} {N : Nat} (hN : N ≤ 1000000) (h : ∀ i, i < P.length → P.getD i 0 < N) : ∀ a, a ∈ gos P → IW a.2.1 := by
  intro a ha
  unfold gos at ha
  obtain ⟨c, hc, rfl⟩ := List.mem_map.1 ha
  obtain ⟨i, hi, rfl⟩ := List.getElem_of_mem hc
  have := h i hi
  rw [List.getD, List.getElem?_eq_getElem hi, Option.getD_some] at this
  exact IW_nat (by omega)
theorem make_iw {W H : Int} {s : ByteArray} {r pod a b : Int} {B : Nat → Bool} {L : List Ac} {er : Int} (h : MakeIs W H s r pod a b B L er) : ∀ x, x ∈ L → IW x.2.1 := by
  intro x hx
  rcases h with ⟨_, rfl, _⟩ | ⟨h0, d, p, q, u, hd, h1, h2, h3, rfl, _⟩ | ⟨_, d, _, _, rfl, _⟩
  · cases hx
  · have hR := h0.1.1
    have h256 := rightLe hR
    have hw : ∀ {c : Int}, laneB s c = true → IW c := fun h => (on_dock hR hd (rob_lt h0.1) (.inr h)).1
    unfold tripL at hx
    rcases List.mem_append.1 hx with hx | hx
    · exact gos_iw (by omega) (way_lt h1) x hx
    · rcases List.mem_cons.1 hx with rfl | hx
      · exact hw h0.2.2.1
      · rcases List.mem_append.1 hx with hx | hx
        · exact gos_iw (by omega) (way_lt h2) x hx
        · rcases List.mem_cons.1 hx with rfl | hx
          · exact hw h0.2.2.2
          · exact gos_iw (by omega) (way_lt h3) x hx
  · cases hx
/-- A trip is told. -/
def MakeTold (W H : Int) (s : ByteArray) (r pod a b : Int) (B : Nat → Bool) (w : World) (e : Ending) (w' : World) : Prop :=
  ∃ A n cap L er, e = .returned (.tuple #[.slice A n cap, .int .i64 er]) ∧ MakeIs W H s r pod a b B L er ∧ L.length ≤ 770 ∧ (er = 0 ∨ er = 1 ∨ er = 2) ∧ Al w'.heap.size w' A n cap L ∧ Below w.heap.size w w'
theorem concat_five {w : World} {B : Nat} {A1 A2 A3 A4 A5 : Option Addr} {n1 n2 n3 n4 n5 c1 c2 c3 c4 c5 : Nat} {L1 L2 L3 L4 L5 : List Ac} (h1 : Al w.heap.size w A1 n1 c1 L1) (h2 : Al w.heap.size w A2 n2 c2 L2) (h3 : Al w.heap.size w A3 n3 c3 L3) (h4 : Al w.heap.size w A4 n4 c4 L4) (h5 : Al w.heap.size w A5 n5 c5 L5) :
    All (w.alloc (.cells #[.slice A1 n1 c1, .slice A2 n2 c2, .slice A3 n3 c3, .slice A4 n4 c4, .slice A5 n5 c5] 29)).heap.size (w.alloc (.cells #[.slice A1 n1 c1, .slice A2 n2 c2, .slice A3 n3 c3, .slice A4 n4 c4, .slice A5 n5 c5] 29)) (some ⟨w.heap.size, 0, none⟩) 5 5 [L1, L2, L3, L4, L5] := by
  have hb := (Below.refl w.heap.size w).alloc (Nat.le_refl _) (.cells #[.slice A1 n1 c1, .slice A2 n2 c2, .slice A3 n3 c3, .slice A4 n4 c4, .slice A5 n5 c5] 29)
  refine ⟨rfl, ⟨Nat.le_refl _, by omega⟩, fun j hj => ?_⟩
  rcases (by omega : j = 0 ∨ j = 1 ∨ j = 2 ∨ j = 3 ∨ j = 4) with rfl | rfl | rfl | rfl | rfl
  · exact ⟨w.heap.size, 0, A1, n1, c1, rfl, by simp, by simp [World.cell?_alloc_new], h1.later hb⟩
  · exact ⟨w.heap.size, 0, A2, n2, c2, rfl, by simp, by simp [World.cell?_alloc_new], h2.later hb⟩
  · exact ⟨w.heap.size, 0, A3, n3, c3, rfl, by simp, by simp [World.cell?_alloc_new], h3.later hb⟩
  · exact ⟨w.heap.size, 0, A4, n4, c4, rfl, by simp, by simp [World.cell?_alloc_new], h4.later hb⟩
  · exact ⟨w.heap.size, 0, A5, n5, c5, rfl, by simp, by simp [World.cell?_alloc_new], h5.later hb⟩
theorem trip_flat (x y z : List Nat) (a b p : Int) : [gos x, [((2 : Nat), a, p)], gos y, [((3 : Nat), b, p)], gos z].flatten = tripL x y z a b p := by
  simp [tripL]
set_option maxHeartbeats 8000000 in
theorem make_any (W H : Int) (s : ByteArray) (hs : s.size ≤ maxLen) (r pod a b : Int) (A : Option Addr) (n cap : Nat) (f : Nat → Int) (w : World) (h : Il w.heap.size w A n cap f) :
    Calls Tryz.prog 11 #[.agg #[.int .i64 W, .int .i64 H, .string s], .int .i64 r, .int .i64 pod, .int .i64 a, .int .i64 b, .slice A n cap] w (MakeTold W H s r pod a b (mk f n) w) := by
  have HI := Lib.hid h
  have HDK := Lib.hid (fun wx => dock_any W H s hs r wx)
  have HIL := Lib.hid (fun c wx => isLane_any W H s hs c wx)
  have HIP := Lib.hid (fun wx => isPod_any pod wx)
  have HGO := Lib.hid (fun c t wx (hb : Below w.heap.size w wx) => goes_any W H s hs c t A n cap f wx (args_il h hb))
  clear h
  have fail1 : ∀ wx, Below w.heap.size w wx → ¬ MayTrip W H s r pod a b → MakeTold W H s r pod a b (mk f n) w (.returned (.tuple #[.slice none 0 0, .int .i64 1])) wx :=
    fun wx hb hn => ⟨none, 0, 0, [], 1, rfl, .inl ⟨hn, rfl, rfl⟩, by simp, .inr (.inl rfl), Al.nothing _ _, hb⟩
  have HF1 := Lib.hid fail1
  clear fail1
  go_enter Tryz.func11, Tryz.ntmps11
  go_wp2_with fail
  refine (HDK.out _).mono ?_
  rintro e w1 ⟨d, q, rfl, h1, h2, hb1⟩
  have HX1 := Lib.hid ((Box.start w W H s 23).after hb1)
  have c0 := HX1.out.c0
  have c1 := HX1.out.c1
  have c2 := HX1.out.c2
  have H1 := Lib.hid h1
  have H2 := Lib.hid h2
  clear h1 h2 hb1
  cases q with
  | false =>
    go_wp2_with fail
    go_ret2
    exact HF1.out _ HX1.out.below (fun k => by have := (H1.out k.1).2; cases this)
  | true =>
    have hrob : IsRobot W H s r := Classical.byContradiction (fun k => by have := (H2.out k).2; cases this)
    have HROB := Lib.hid hrob
    have HFD := Lib.hid (H1.out hrob).1
    clear hrob H1 H2
    cases hp : isP pod with
    | false =>
      rw [hp] at HIP
      have HP := Lib.hid hp
      clear hp
      go_wp2_with (go_at_call 26; refine (HIP.out _).mono ?_; rintro e w' ⟨rfl, rfl⟩)
      go_ret2
      exact HF1.out _ HX1.out.below (fun k => by have h1 := k.2.1; rw [HP.out] at h1; cases h1)
    | true =>
      rw [hp] at HIP
      have HP := Lib.hid hp
      clear hp
      go_wp2_with (go_at_call 26; refine (HIP.out _).mono ?_; rintro e w' ⟨rfl, rfl⟩)
      refine (HIL.out a _).mono ?_
      rintro e w2 ⟨la, rfl, hla, hb2⟩
      have HX2 := Lib.hid (HX1.out.after hb2)
      have HLA := Lib.hid hla
      clear hla hb2 c0 c1 c2
      have c0 := HX2.out.c0
      have c1 := HX2.out.c1
      have c2 := HX2.out.c2
      cases la with
      | false =>
        go_wp2_with fail
        go_ret2
        exact HF1.out _ HX2.out.below (fun k => by have := HLA.out.2 ⟨k.1.1, k.2.2.1⟩; cases this)
      | true =>
        go_wp2_with fail
        refine (HIL.out b _).mono ?_
        rintro e w3 ⟨lb, rfl, hlb, hb3⟩
        have HX3 := Lib.hid (HX2.out.after hb3)
        have HLB := Lib.hid hlb
        clear hlb hb3 c0 c1 c2
        have c0 := HX3.out.c0
        have c1 := HX3.out.c1
        have c2 := HX3.out.c2
        cases lb with
        | false =>
          go_wp2_with fail
          go_ret2
          exact HF1.out _ HX3.out.below (fun k => by have := HLB.out.2 ⟨k.1.1, k.2.2.2⟩; cases this)
        | true =>
          have HMAY : Hid (MayTrip W H s r pod a b) := Lib.hid ⟨HROB.out, HP.out, (HLA.out.1 (by trivial)).2, (HLB.out.1 (by trivial)).2⟩
          have fail2 : ∀ wx, Below w.heap.size w wx → (WayIs W H s (d : Int) a (mk f n) [] 2 ∨ WayIs W H s a b (mk f n) [] 2 ∨ WayIs W H s b (d : Int) (mk f n) [] 2) → MakeTold W H s r pod a b (mk f n) w (.returned (.tuple #[.slice none 0 0, .int .i64 2])) wx :=
            fun wx hb hn => ⟨none, 0, 0, [], 2, rfl, .inr (.inr ⟨HMAY.out, d, HFD.out, hn, rfl, rfl⟩), by simp, .inr (.inr rfl), Al.nothing _ _, hb⟩
          have HF2 := Lib.hid fail2
          have HOD := Lib.hid (dock_on HROB.out HFD.out)
          have HOA := Lib.hid (lane_on HROB.out.1 HMAY.out.2.2.1)
          have HOB := Lib.hid (lane_on HROB.out.1 HMAY.out.2.2.2)
          clear fail2 HLA HLB HF1 HX1 HX2 HIL HIP HDK
          go_wp2_with fail
          refine (HGO.out (d : Int) a _ HX3.out.below).mono ?_
          rintro e w4 ⟨A4, n4, k4, P4, e4, rfl, hn4, hp4, hal4, hb4, hw4⟩
          have HX4 := Lib.hid (HX3.out.after hb4)
          have HW4 := Lib.hid hw4
          have HA4 := Lib.hid hal4
          have HP4 := Lib.hid hp4.1
          have h02 := way_02 hw4 HOD.out HOA.out
          clear hn4 hp4 hal4 hb4 hw4 c0 c1 c2
          rcases h02 with rfl | ⟨rfl, rfl⟩
          · have c0 := HX4.out.c0
            have c1 := HX4.out.c1
            have c2 := HX4.out.c2
            go_wp2_with fail
            refine (HGO.out a b _ HX4.out.below).mono ?_
            rintro e w5 ⟨A5, n5, k5, P5, e5, rfl, hn5, hp5, hal5, hb5, hw5⟩
            have HX5 := Lib.hid (HX4.out.after hb5)
            have HW5 := Lib.hid hw5
            have HA5 := Lib.hid hal5
            have HA45 := Lib.hid (HA4.out.later hb5)
            have HP5 := Lib.hid hp5.1
            have h02 := way_02 hw5 HOA.out HOB.out
            clear hn5 hp5 hal5 hb5 hw5 c0 c1 c2
            rcases h02 with rfl | ⟨rfl, rfl⟩
            · have c0 := HX5.out.c0
              have c1 := HX5.out.c1
              have c2 := HX5.out.c2
              go_wp2_with fail
              refine (HGO.out b (d : Int) _ HX5.out.below).mono ?_
              rintro e w6 ⟨A6, n6, k6, P6, e6, rfl, hn6, hp6, hal6, hb6, hw6⟩
              have HX6 := Lib.hid (HX5.out.after hb6)
              have HW6 := Lib.hid hw6
              have HA6 := Lib.hid hal6
              have HA46 := Lib.hid (HA45.out.later hb6)
              have HA56 := Lib.hid (HA5.out.later hb6)
              have HP6 := Lib.hid hp6.1
              have h02 := way_02 hw6 HOB.out HOD.out
              clear hn6 hp6 hal6 hb6 hw6 c0 c1 c2
              rcases h02 with rfl | ⟨rfl, rfl⟩
              · have b1 := (Below.refl w6.heap.size w6).alloc (Nat.le_refl _) (.cells #[.int .u8 2, .int .i64 a, .int .i64 pod] 44)
                have o1 := Al.one w6 (2, a, pod)
                have o1 : Al (w6.alloc (.cells #[.int .u8 2, .int .i64 a, .int .i64 pod] 44)).heap.size (w6.alloc (.cells #[.int .u8 2, .int .i64 a, .int .i64 pod] 44)) (some ⟨w6.heap.size, 0, none⟩) 1 1 [(2, a, pod)] := o1
                obtain ⟨w7, hw7⟩ : ∃ w7, w7 = w6.alloc (.cells #[.int .u8 2, .int .i64 a, .int .i64 pod] 44) := ⟨_, rfl⟩
                rw [← hw7] at b1 o1
                have b2 := (Below.refl w7.heap.size w7).alloc (Nat.le_refl _) (.cells #[.int .u8 3, .int .i64 b, .int .i64 pod] 44)
                have o2 := Al.one w7 (3, b, pod)
                have o2 : Al (w7.alloc (.cells #[.int .u8 3, .int .i64 b, .int .i64 pod] 44)).heap.size (w7.alloc (.cells #[.int .u8 3, .int .i64 b, .int .i64 pod] 44)) (some ⟨w7.heap.size, 0, none⟩) 1 1 [(3, b, pod)] := o2
                have z7 : w7.heap.size = w6.heap.size + 1 := by rw [hw7]; exact alloc_size _ _
                obtain ⟨w8, hw8⟩ : ∃ w8, w8 = w7.alloc (.cells #[.int .u8 3, .int .i64 b, .int .i64 pod] 44) := ⟨_, rfl⟩
                have z8 : w8.heap.size = w6.heap.size + 2 := by rw [hw8, alloc_size, z7]
                rw [← hw8] at b2 o2
                have five := concat_five (B := 0) ((HA46.out.later b1).later b2) (o1.later b2) ((HA56.out.later b1).later b2) o2 ((HA6.out.later b1).later b2)
                have b3 := (Below.refl w8.heap.size w8).alloc (Nat.le_refl _) (.cells #[.slice A4 n4 k4, .slice (some ⟨w6.heap.size, 0, none⟩) 1 1, .slice A5 n5 k5, .slice (some ⟨w7.heap.size, 0, none⟩) 1 1, .slice A6 n6 k6] 29)
                have hfl := trip_flat P4 P5 P6 a b pod
                have hlen : (tripL P4 P5 P6 a b pod).length ≤ 770 := by rw [tripL_length]; have h1 := HP4.out; have h2 := HP5.out; have h3 := HP6.out; omega
                have hcon := concat_any _ _ _ _ _ five (by rw [hfl, tripL_length]; omega) (by rw [hfl]; omega)
                rw [hfl, z8] at hcon
                rw [z7, hw8, hw7] at hcon
                have HCON := Lib.hid hcon
                have HBZ : Hid (Below w.heap.size w (w8.alloc (.cells #[.slice A4 n4 k4, .slice (some ⟨w6.heap.size, 0, none⟩) 1 1, .slice A5 n5 k5, .slice (some ⟨w7.heap.size, 0, none⟩) 1 1, .slice A6 n6 k6] 29))) := Lib.hid (HX6.out.below.trans ((b1.trans ((b2.mono b1.size).trans (b3.mono (Nat.le_trans b1.size b2.size)))).mono HX6.out.below.size))
                rw [z7, hw8, hw7] at HBZ
                have HLEN := Lib.hid hlen
                clear hcon five b1 b2 b3 o1 o2 hfl hlen z7 z8 hw8 hw7 HGO HA4 HA45 HA46 HA5 HA56 HA6 HF2
                go_wp2_with fail
                refine HCON.out.mono ?_
                rintro e w9 ⟨A9, n9, k9, rfl, hn9, ho9, hb9⟩
                have HO9 := Lib.hid ho9.al.2
                have HB9 := Lib.hid (HBZ.out.trans (hb9.mono HBZ.out.size))
                clear hn9 ho9 hb9
                go_wp2_with fail
                go_ret2
                exact ⟨A9, n9, k9, _, 0, rfl, .inr (.inl ⟨HMAY.out, d, P4, P5, P6, HFD.out, HW4.out, HW5.out, HW6.out, rfl, rfl⟩), HLEN.out, .inl rfl, HO9.out, HB9.out⟩
              · go_wp2_with fail
                go_ret2
                exact HF2.out _ HX6.out.below (.inr (.inr HW6.out))
            · go_wp2_with fail
              go_ret2
              exact HF2.out _ HX5.out.below (.inr (.inl HW5.out))
          · go_wp2_with fail
            go_ret2
            exact HF2.out _ HX4.out.below (.inl HW4.out)
end Tr
end Go.Proofs.YtokjnmgbgflgnaaGreatDoor
