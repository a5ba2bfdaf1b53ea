/-
  Layer 5: Find, Is.
-/
import Derived.Test.YtokjnmgbgflgnaaGreatDoorPtGb
set_option linter.unusedVariables false
set_option maxRecDepth 100000
namespace Go.Proofs.YtokjnmgbgflgnaaGreatDoor
open Go.RowKit Fl Pt

/-- The first of the shortest ways, or why there is none. -/
def WayIs (W H : Int) (s : ByteArray) (c t : Int) (B : Nat → Bool) (P : List Nat) (er : Int) : Prop :=
  (OnFloor W H s c ∧ OnFloor W H s t ∧ er = 0 ∧ Gr (nx5 W.toNat H.toNat (at_ s) c.toNat B) t.toNat c.toNat P ∧ Lv (nx5 W.toNat H.toNat (at_ s) c.toNat B) c.toNat P.length t.toNat) ∨
  (OnFloor W H s c ∧ OnFloor W H s t ∧ er = 2 ∧ P = [] ∧ ∀ m, ¬ Wk (nx5 W.toNat H.toNat (at_ s) c.toNat B) c.toNat m t.toNat) ∨
  (¬ (OnFloor W H s c ∧ OnFloor W H s t) ∧ er = 1 ∧ P = [])
theorem WayIs.uniq {W H : Int} {s : ByteArray} {c t : Int} {B : Nat → Bool} {P Q : List Nat} {e f : Int} (h : WayIs W H s c t B P e) (k : WayIs W H s c t B Q f) : P = Q ∧ e = f := by
  rcases h with ⟨h1, h2, rfl, h3, h4⟩ | ⟨h1, h2, rfl, rfl, h3⟩ | ⟨h1, rfl, rfl⟩ <;> rcases k with ⟨k1, k2, rfl, k3, k4⟩ | ⟨k1, k2, rfl, rfl, k3⟩ | ⟨k1, rfl, rfl⟩
  · exact ⟨h3.uniq k3 (h4.uniq k4), rfl⟩
  · exact absurd h4.1 (k3 _)
  · exact absurd ⟨h1, h2⟩ k1
  · exact absurd k4.1 (h3 _)
  · exact ⟨rfl, rfl⟩
  · exact absurd ⟨h1, h2⟩ k1
  · exact absurd ⟨k1, k2⟩ h1
  · exact absurd ⟨k1, k2⟩ h1
  · exact ⟨rfl, rfl⟩
def WayTold (W H : Int) (s : ByteArray) (c t : Int) (B : Nat → Bool) (w : World) (e : Ending) (w' : World) : Prop :=
  ∃ A n cap P er, e = .returned (.tuple #[.slice A n cap, .int .i64 er]) ∧ n = P.length ∧ (P.length ≤ 256 ∧ (er = 0 ∨ er = 1 ∨ er = 2)) ∧ Il w'.heap.size w' A n cap (fun j => ((P.getD j 0 : Nat) : Int)) ∧ Below w.heap.size w w' ∧ WayIs W H s c t B P er

/-- So much of the way is told, from its end. -/
structure Bk (A : List Int) (n t : Nat) (i : Nat) (c : Nat) (f : Nat → Value) : Prop where
  tl : ∀ x, i ≤ x → x < n → f x = .int .i64 (((back A n t).getD x 0 : Nat) : Int)
  hd : ∃ q, back A n t = back A i c ++ q
theorem back_last (A : List Int) (i c : Nat) (q : List Nat) : (back A (i + 1) c ++ q).getD i 0 = c := by
  have h : (back A (i + 1) c).length = i + 1 := back_length A _ _
  rw [List.getD, List.getElem?_append_left (by omega)]
  show (back A i (A.getD c 0).toNat ++ [c])[i]?.getD 0 = c
  rw [List.getElem?_append_right (by rw [back_length]; exact Nat.le_refl _), back_length, Nat.sub_self]; rfl
theorem Bk.step {A : List Int} {n t i c : Nat} {f : Nat → Value} (h : Bk A n t (i + 1) c f) : Bk A n t i (A.getD c 0).toNat (fun x => if x = i then .int .i64 (c : Int) else f x) := by
  obtain ⟨h1, q, hq⟩ := h
  refine ⟨fun x hx hn => ?_, [c] ++ q, by rw [hq, ← List.append_assoc]; rfl⟩
  show (if x = i then _ else f x) = _
  by_cases e : x = i
  · subst e
    rw [if_pos rfl, hq, back_last]
  · rw [if_neg e]; exact h1 x (by omega) hn
/-- The cells on the way back are cells, and what is ahead of each is told. -/
theorem ahead_nat {nx : Nat → List Nat} {N a j : Nat} {R : List Nd} {A : List Int} {F : List Int} (h : Bf nx N a R R.length j) (hA : Ahd R N A) (hF : Far R N F) : ∀ n c, c < N → F.getD c 0 = ((n + 1 : Nat) : Int) → ∃ d : Nat, A.getD c 0 = (d : Int) ∧ d < N ∧ F.getD d 0 = (n : Int) := by
  intro n c hc hn
  have hd : Pt.Fd R c := by
    by_cases e : Pt.Fd R c
    · exact e
    · rw [hF.no c hc e] at hn; omega
  obtain ⟨i, hi, rfl⟩ := hd
  have e := hF.at_ i hi
  have h0 : 0 < i := by
    rcases Nat.eq_zero_or_pos i with e2 | e2
    · subst e2
      rw [h.h0] at e hn
      have e' : F.getD a 0 = 0 := e
      have hn' : F.getD a 0 = ((n + 1 : Nat) : Int) := hn
      omega
    · exact e2
  obtain ⟨p1, p2⟩ := h.par i h0 hi
  refine ⟨(nd R (nd R i).p).c, hA.at_ i h0 hi, h.lt _ (by omega), ?_⟩
  rw [hF.at_ _ (by omega)]
  omega

/-- The way, as it is laid from its end; z: the next place. -/
structure Lay (w0 : World) (A F : List Int) (N n t gw ga : Nat) (z : Int) (c : Nat) (wr : World) : Prop where
  lo : -1 ≤ z
  hi : z < n
  cN : c < N
  fc : F.getD c 0 = z + 1
  cells : ∃ f, Cells gw n f wr ∧ Bk A n t (z + 1).toNat c f
  ah : Cells ga N (ci A) wr
  below : Below w0.heap.size w0 wr
theorem Lay.step {nx : Nat → List Nat} {w0 : World} {A F : List Int} {N n t gw ga a j m c : Nat} {R : List Nd} {wr : World} (hb : Bf nx N a R R.length j) (hA : Ahd R N A) (hF : Far R N F) (hne : ga ≠ gw) (hw : w0.heap.size ≤ gw) (h : Lay w0 A F N n t gw ga (m : Int) c wr) :
    ∃ d : Nat, A.getD c 0 = (d : Int) ∧ Lay w0 A F N n t gw ga ((m : Int) - 1) d (wr.setCell ⟨gw, m, none⟩ (.int .i64 (c : Int))) := by
  obtain ⟨d, h1, h2, h3⟩ := ahead_nat hb hA hF m c h.cN (by rw [h.fc]; rfl)
  obtain ⟨f, hc, hk⟩ := h.cells
  have hlt : m < n := by have := h.hi; omega
  refine ⟨d, h1, by omega, by omega, h2, by rw [h3]; omega, ⟨_, hc.put m _ hlt (fun x _ => rfl), ?_⟩, h.ah.turn (Turn.setCell (F := fun k => k = gw) wr ⟨gw, m, none⟩ _ rfl) hne, h.below.setCell (p := ⟨gw, m, none⟩) hw _⟩
  have hk' : Bk A n t (m + 1) c f := hk
  have := hk'.step
  rw [h1] at this
  rw [show ((m : Int) - 1 + 1).toNat = m by omega]
  exact this
theorem Lay.later {w0 : World} {A F : List Int} {N n t gw ga c : Nat} {z : Int} {wr w' : World} (h : Lay w0 A F N n t gw ga z c wr) (hb : Below wr.heap.size wr w') : Lay w0 A F N n t gw ga z c w' := by
  obtain ⟨f, hc, hk⟩ := h.cells
  exact ⟨h.lo, h.hi, h.cN, h.fc, ⟨f, hc.later hb, hk⟩, h.ah.later hb, h.below.trans (hb.mono h.below.size)⟩

set_option maxHeartbeats 4000000 in
theorem find_any (W H : Int) (s : ByteArray) (hs : s.size ≤ maxLen) (c t : Int) (A : Option Addr) (n cap : Nat) (f : Nat → Int) (w : World) (h : Il w.heap.size w A n cap f) :
    Calls Tryz.prog 25 #[.agg #[.int .i64 W, .int .i64 H, .string s], .int .i64 c, .int .i64 t, .slice A n cap] w (WayTold W H s c t (mk f n) w) := by
  have HI := Lib.hid h
  have HST := Lib.hid (stands_any W H s hs c)
  have HSU := Lib.hid (stands_any W H s hs t)
  clear h
  by_cases hO : OnFloor W H s c
  · by_cases hT : OnFloor W H s t
    · obtain ⟨W, H, a, rfl, rfl, rfl, ha, hz, _⟩ := onFloor_some hO
      obtain ⟨b, rfl, hb⟩ : ∃ b : Nat, t = (b : Int) ∧ b < s.size := by
        obtain ⟨_, _, b, _, _, e, hb, _⟩ := onFloor_some hT
        exact ⟨b, e, hb⟩
      have HO := Lib.hid hO
      have HT := Lib.hid hT
      have HRE := Lib.hid (fun wx h => reach_any W H a s A n cap f wx hO.1 hz ha h)
      have h256 := rightLe hO.1
      obtain ⟨i0, hi, hz0, hz1, hz2⟩ := info_parts Tryz.infoInt
      clear hO hT ha hz
      go_enter Tryz.func25, Tryz.ntmps25
      go_wp2_with fail
      refine (HST.out _).mono ?_
      rintro e w1 ⟨b1, rfl, hb1, hB1⟩
      obtain rfl : b1 = true := hb1.2 HO.out
      have HX := Lib.hid ((Box.start w (W : Int) (H : Int) s 23).after hB1)
      have c0 := HX.out.c0
      have c1 := HX.out.c1
      have c2 := HX.out.c2
      clear hb1 hB1
      go_wp2_with fail
      refine (HSU.out _).mono ?_
      rintro e w2 ⟨b2, rfl, hb2, hB2⟩
      obtain rfl : b2 = true := hb2.2 HT.out
      have HX2 := Lib.hid (HX.out.after hB2)
      clear hb2 hB2 c0 c1 c2 HX
      have c0 := HX2.out.c0
      have c1 := HX2.out.c1
      have c2 := HX2.out.c2
      go_wp2_with fail
      refine (HRE.out _ (args_il HI.out HX2.out.below)).mono ?_
      rintro e w3 ⟨gf, ga, F, A', R, j, rfl, h1, h2, h3, h4, h5, h6, h7⟩
      have H1 := Lib.hid h1
      have H2 := Lib.hid h2
      have H3 := Lib.hid h3
      have H4 := Lib.hid h4
      have H5 := Lib.hid h5
      have H7 := Lib.hid (HX2.out.below.trans (h7.mono HX2.out.below.size))
      have f1 := (h1.2 b hb).1
      unfold ci at f1
      have HD := Lib.hid (h4.isD h3 b hb)
      have HBN := Lib.hid hb
      clear h1 h2 h3 h4 h5 h6 h7 c0 c1 c2 hb
      rcases HD.out with ⟨hm, hno⟩ | ⟨d, hm, hlv⟩
      · have HNO := Lib.hid hno
        rw [hm] at f1
        clear hm hno
        go_wp2_with fail
        go_ret2
        exact ⟨none, 0, 0, [], 2, rfl, rfl, ⟨Nat.zero_le _, .inr (.inr rfl)⟩, Il.empty _ _ _, H7.out, .inr (.inl ⟨HO.out, HT.out, rfl, rfl, HNO.out⟩)⟩
      · have HLV := Lib.hid hlv
        have HFM := Lib.hid hm
        have hd : d ≤ 256 := by
          have := H3.out.way H5.out H4.out HBN.out hm
          have hF := this.2
          obtain ⟨W', H', e1, e2, hSd, _⟩ := rightNat HO.out.1
          obtain rfl : W = W' := by omega
          obtain rfl : H = H' := by omega
          have hsz := hSd.sz
          have := lv_lt (N := s.size) (H3.out.lt 0 H3.out.r0 |> fun h => by have e := H3.out.h0; rw [e] at h; exact h) (fun x y hx hy => by rw [hsz] at hx ⊢; exact nx5_lt hSd.w1 x y hx hy) hF
          omega
        have hne : ((d : Int) == -1) = false := by rw [beq_eq_false_iff_ne]; omega
        rw [hm] at f1
        clear hm hlv
        go_wp2_with (at_make; refine wpList_make_full _ rfl _ _ 24 rfl w3.heap.size 3 i0 (.int .i64 0) 1 Tryz.underlying24 hi hz0 hz1 .i64 .i64 _ _ d rfl rfl rfl rfl (by rw [hz2]; omega) (by unfold maxLen; omega) (Nat.le_refl _) ?_; intro w4 ho1 hg1; have HW4 := Lib.hid (Cells.made rfl ho1); have HB4 := Lib.hid (Below.grown (Below.refl w3.heap.size w3) hg1 (Nat.le_refl _) (fun k hk => by cases hk)); clear ho1 hg1)
        clear hi hz0 hz1 hz2 f1 hne
        have hga := H2.out.1
        go_loopw [13, 14] (fun a13 a14 wr => ∃ (z : Int) (q : Nat), a13 = .int .i64 z ∧ a14 = .int .i64 (q : Int) ∧ Hid (Lay w A' F s.size d b w3.heap.size ga z q wr)) (fun a13 _ _ => (intOf a13 + 1).toNat)
        case atStart =>
          refine ⟨(d : Int) - 1, b, rfl, rfl, Lib.hid ⟨by omega, by omega, HBN.out, by rw [HFM.out]; omega, ⟨_, HW4.out, ⟨fun x h1 h2 => by omega, [], ?_⟩⟩, H2.out.later HB4.out, H7.out.trans (HB4.out.mono H7.out.size)⟩⟩
          rw [show ((d : Int) - 1 + 1).toNat = d by omega, List.append_nil]
        case round =>
          rename World => wr
          obtain ⟨z, q, rfl, rfl, HL⟩ := hrel
          have hlo := HL.out.lo
          have hhi := HL.out.hi
          by_cases h0 : 0 ≤ z
          · obtain ⟨m, rfl⟩ := Int.eq_ofNat_of_zero_le h0
            obtain ⟨d2, hd2, hst⟩ := HL.out.step H3.out H5.out H4.out (Nat.ne_of_lt hga) H7.out.size
            obtain ⟨fw, hfw, _⟩ := HL.out.cells
            have y1 := (hfw.2 m (by omega)).1
            have y2 := (hfw.2 m (by omega)).2
            have y3 := (hst.ah.2 q HL.out.cN).1
            unfold ci at y3
            rw [hd2] at y3
            have HSTP := Lib.hid hst
            have hqN : q < s.size := HL.out.cN
            clear hd2 hst hfw h0
            go_wp2_with fail
            clear y1 y2
            generalize wr.setCell ⟨w3.heap.size, m, none⟩ (.int .i64 (q : Int)) = wz at *
            go_quiet (fail)
            go_wp2_with fail
            go_roundw
            case rel => exact ⟨(m : Int) - 1, d2, rfl, rfl, Lib.hid (HSTP.out.later (below_drewN _ _ _))⟩
            case measure => simp [intOf]
          · obtain rfl : z = -1 := by omega
            have hd0 : decide (0 ≤ (-1 : Int)) = false := rfl
            go_wp2
            go_ret2
            obtain ⟨fw, hfw, hk⟩ := HL.out.cells
            refine ⟨some ⟨w3.heap.size, 0, none⟩, d, _, back A' d b, 0, rfl, (back_length _ _ _).symm, ⟨by rw [back_length]; omega, .inl rfl⟩, ⟨Nat.le_refl _, by unfold maxLen; omega, (fun e => by cases e), fun _ => ⟨_, 0, rfl, hfw.1, fun x hx => ?_⟩⟩, HL.out.below, .inl ⟨HO.out, HT.out, rfl, (H3.out.way H5.out H4.out HBN.out HFM.out).1, by rw [back_length]; exact HLV.out⟩⟩
            rw [Nat.zero_add, (hfw.2 x hx).1, hk.tl x (by simp) hx]
    · have HO := Lib.hid hO
      have HT := Lib.hid hT
      clear hO hT
      go_enter Tryz.func25, Tryz.ntmps25
      go_wp2_with fail
      refine (HST.out _).mono ?_
      rintro e w1 ⟨b1, rfl, hb1, hB1⟩
      obtain rfl : b1 = true := hb1.2 HO.out
      have HX := Lib.hid ((Box.start w W H s 23).after hB1)
      have c0 := HX.out.c0
      have c1 := HX.out.c1
      have c2 := HX.out.c2
      clear hb1 hB1
      go_wp2_with fail
      refine (HSU.out _).mono ?_
      rintro e w2 ⟨b2, rfl, hb2, hB2⟩
      obtain rfl : b2 = false := by rw [Bool.eq_false_iff]; exact fun e => HT.out (hb2.1 e)
      have HX2 := Lib.hid (HX.out.after hB2)
      clear hb2 hB2 c0 c1 c2 HX
      go_wp2_with fail
      go_ret2
      exact ⟨none, 0, 0, [], 1, rfl, rfl, ⟨Nat.zero_le _, .inr (.inl rfl)⟩, Il.empty _ _ _, HX2.out.below, .inr (.inr ⟨fun h => HT.out h.2, rfl, rfl⟩)⟩
  · have HO := Lib.hid hO
    clear hO
    go_enter Tryz.func25, Tryz.ntmps25
    go_wp2_with fail
    refine (HST.out _).mono ?_
    rintro e w1 ⟨b1, rfl, hb1, hB1⟩
    obtain rfl : b1 = false := by rw [Bool.eq_false_iff]; exact fun e => HO.out (hb1.1 e)
    have HX := Lib.hid ((Box.start w W H s 23).after hB1)
    clear hb1 hB1
    go_wp2_with fail
    go_ret2
    exact ⟨none, 0, 0, [], 1, rfl, rfl, ⟨Nat.zero_le _, .inr (.inl rfl)⟩, Il.empty _ _ _, HX.out.below, .inr (.inr ⟨fun h => HO.out h.1, rfl, rfl⟩)⟩
end Go.Proofs.YtokjnmgbgflgnaaGreatDoor
