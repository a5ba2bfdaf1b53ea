/-
  SippWays: the walk.
-/
import Derived.Test.YtnjlngcahhkmcaaGreatDoorSpLaw
import Derived.Deep.RegionHeld3
import Derived.BigQuiet
set_option linter.unusedVariables false
set_option maxRecDepth 100000
namespace Go.Proofs.YtnjlngcahhkmcaaGreatDoor
open Go.RowKit Fl Pt
open Sp
open Wn (Tab TF frees isT Ordw IW Wt wcl plc Rising RT Rt R3 tkn rtk tk upd)

/-- The case's box, and all that was there before. -/
structure Cw (w : World) (W H : Int) (s : ByteArray) (A : Option Addr) (n cap : Nat) (fr tz st ah : Int) (w' : World) : Prop where
  box : Cb w.heap.size W H s A n cap fr tz st ah w'
  below : Below w.heap.size w w'
theorem Cw.after {w w1 w2 : World} {W H : Int} {s : ByteArray} {A : Option Addr} {n cap : Nat} {fr tz st ah : Int} (h : Cw w W H s A n cap fr tz st ah w1) (hb : Below w1.heap.size w1 w2) : Cw w W H s A n cap fr tz st ah w2 :=
  ⟨h.box.later hb, h.below.trans (hb.mono h.below.size)⟩
theorem Cw.start (w : World) (W H : Int) (s : ByteArray) (A : Option Addr) (n cap : Nat) (fr tz st ah : Int) : Cw w W H s A n cap fr tz st ah (w.alloc (.cells #[.int .i64 W, .int .i64 H, .string s, .slice A n cap, .int .i64 fr, .int .i64 tz, .int .i64 st, .int .i64 ah] 26)) :=
  ⟨Cb.new w W H s A n cap fr tz st ah, (Below.refl _ _).alloc (Nat.le_refl _) _⟩
theorem two_tk {w0 wr : World} {tb rb j : Nat} (h : Two7 w0 tb rb j wr) : ∃ tN mv T tg, Tk wr tb tb tN mv T tg ∧ (∀ y, Ordw 0 (T y)) ∧ ∀ y, (T y).length ≤ 2000 := by
  obtain ⟨tN, mv, T, tg, A, c, R, h1, h2, h3, h4, h5⟩ := h.ex
  exact ⟨tN, mv, T, tg, h1, h1.ord, fun y => by have := h1.tab.small y; have h6 := h1.few; omega⟩
theorem il_at {B : Nat} {w : World} {A : Option Addr} {n cap : Nat} {F : List Int} (h : Il B w A n cap (fun j => F.getD j 0)) {k : Nat} (hk : k < n) : ∃ g off, A = some ⟨g, off, none⟩ ∧ g < B ∧ w.cell? ⟨g, off + k, none⟩ = some (.int .i64 (F.getD k 0)) := by
  obtain ⟨g, off, e, hg, hc⟩ := h.cell (by omega)
  exact ⟨g, off, e, hg, hc k hk⟩

set_option maxHeartbeats 4000000 in
theorem sippWays_walk (W H : Int) (s : ByteArray) (hs : s.size ≤ maxLen) (A : Option Addr) (n cap : Nat) (L : List R3) (fr tz st ah : Int) (w : World) (hL : Rt w.heap.size w A n cap L) (hx : ∀ j, j < n → IW (L.getD j (0, 0, 0)).1) :
    Calls Tryz.prog 6 #[caseV W H s A n cap fr tz st ah] w fun e w' => e = .returned (.bool true) ∧ Below w.heap.size w w' := by
  have HSM := Lib.hid (fun wx => small7_any W H s hs A n cap fr tz st ah wx)
  have HTB := Lib.hid (fun wx (hb : Below w.heap.size w wx) => tables7_any A n cap L wx ((hL.below hb).raise hb.size) hx)
  have HPL := Lib.hid (fun tb tN mv T tg wx hT => plan_any W H s hs fr st tz ah tb tb tN mv T tg wx hT)
  have HSO := Lib.hid (fun tb tN mv T tg wx hT => soon_any W H s hs fr st ah tb tb tN mv T tg wx hT)
  have HIS := Lib.hid (fun tb tN mv T tg A n cap L wx hT hL hn => is7_any W H s hs fr st tb tb tN mv T tg A n cap L wx hT hL hn)
  have HDI := Lib.hid (fun wx => dist_any W H s hs fr none 0 0 (fun _ => 0) wx (Il.empty _ _ _))
  have HX0 := Lib.hid (Cw.start w W H s A n cap fr tz st ah)
  clear hL hx
  unfold caseV
  go_enter Tryz.func6, Tryz.ntmps6
  go_wp2_with fail
  refine (shown7_any _).mono ?_
  rintro e w1 ⟨rfl, hb1⟩
  have HX1 := Lib.hid (HX0.out.after hb1)
  have c3 := HX1.out.box.c3
  clear hb1
  go_wp2_with fail
  refine (HTB.out _ HX1.out.below).mono ?_
  rintro e w2 ⟨tb, rb, rfl, h2⟩
  have HX2 := Lib.hid (HX1.out.after h2.below)
  have H2 := Lib.hid h2
  have c0 := HX2.out.box.c0
  have c1 := HX2.out.box.c1
  have c2 := HX2.out.box.c2
  have c3 := HX2.out.box.c3
  have c4 := HX2.out.box.c4
  have c5 := HX2.out.box.c5
  have c6 := HX2.out.box.c6
  have c7 := HX2.out.box.c7
  clear h2
  have HSM2 : Hid (∀ wx, Calls Tryz.prog 12 #[.agg #[.int .i64 W, .int .i64 H, .string s, .slice A n cap, .int .i64 fr, .int .i64 tz, .int .i64 st, .int .i64 ah]] wx fun e w' => e = .returned (.bool (smallB s ah)) ∧ Below wx.heap.size wx w') := HSM
  go_wp2_with fail
  refine (HSM2.out _).mono ?_
  rintro e w3 ⟨rfl, hb3⟩
  have HX3 := Lib.hid (HX2.out.after hb3)
  have H3 := Lib.hid (H2.out.later hb3)
  clear hb3 c0 c1 c2 c3 c4 c5 c6 c7
  by_cases hsm : smallB s ah = true
  · rw [hsm]
    clear hsm
    obtain ⟨tN, mv, T, tg, hT, hO, hS⟩ := two_tk H3.out
    have HT := Lib.hid hT
    have HOS := Lib.hid (And.intro hO hS)
    have c0 := HX3.out.box.c0
    have c1 := HX3.out.box.c1
    have c2 := HX3.out.box.c2
    have c4 := HX3.out.box.c4
    have c5 := HX3.out.box.c5
    have c6 := HX3.out.box.c6
    have c7 := HX3.out.box.c7
    clear hT hO hS
    go_wp2_with fail
    refine (HPL.out _ _ _ _ _ _ HT.out).mono ?_
    rintro e w4 ⟨A4, n4, k4, P, er, rfl, hn4, hs4, hb4, hp4, hl4, her⟩
    have HX4 := Lib.hid (HX3.out.after hb4)
    have HT4 := Lib.hid (HT.out.later hb4)
    have HP4 := Lib.hid hs4
    have HPI := Lib.hid hp4
    have HL4 := Lib.hid (And.intro hn4 hl4)
    have c0 := HX4.out.box.c0
    have c1 := HX4.out.box.c1
    have c2 := HX4.out.box.c2
    have c4 := HX4.out.box.c4
    have c5 := HX4.out.box.c5
    have c6 := HX4.out.box.c6
    have c7 := HX4.out.box.c7
    clear hs4 hb4 hp4 hn4 hl4
    go_wp2_with fail
    refine (HSO.out _ _ _ _ _ _ HT4.out).mono ?_
    rintro e w5 ⟨A5, n5, k5, F, rfl, hn5, hi5, hb5, hf5, hl5⟩
    have HX5 := Lib.hid (HX4.out.after hb5)
    have HT5 := Lib.hid (HT4.out.later hb5)
    have HP5 := Lib.hid (HP4.out.later hb5)
    have HF5 := Lib.hid hi5
    have HW := Lib.hid (wf_of HOS.out.1 HOS.out.2 HPI.out hf5)
    subst hn5
    have HER := Lib.hid her
    have c0 := HX5.out.box.c0
    have c1 := HX5.out.box.c1
    have c2 := HX5.out.box.c2
    have c4 := HX5.out.box.c4
    have c5 := HX5.out.box.c5
    have c6 := HX5.out.box.c6
    have c7 := HX5.out.box.c7
    clear hi5 hb5 hf5 her
    have hFn : ((F.length : Nat) : Int) ≤ 256 := by omega
    by_cases hlo : tz < 0
    · have hd1 : decide (tz < 0) = true := decide_eq_true hlo
      obtain rfl := HW.out.out (.inl hlo)
      obtain ⟨rfl, _⟩ := HW.out.none (by decide)
      obtain rfl : n4 = 0 := HL4.out.1
      go_wp2_with fail
      go_ret
      exact ⟨rfl, HX5.out.below⟩
    · have hd1 : decide (tz < 0) = false := decide_eq_false hlo
      by_cases hhi : (F.length : Int) ≤ tz
      · have hd2 : decide ((F.length : Int) ≤ tz) = true := decide_eq_true hhi
        obtain rfl := HW.out.out (.inr hhi)
        obtain ⟨rfl, _⟩ := HW.out.none (by decide)
        obtain rfl : n4 = 0 := HL4.out.1
        go_wp2_with fail
        go_ret
        exact ⟨rfl, HX5.out.below⟩
      · have hd2 : decide ((F.length : Int) ≤ tz) = false := decide_eq_false hhi
        obtain ⟨k, rfl⟩ := Int.eq_ofNat_of_zero_le (Int.not_lt.1 hlo)
        have hk : k < F.length := by omega
        obtain ⟨g5, o5, rfl, hg5, q5⟩ := il_at HF5.out hk
        obtain ⟨fv, hfv⟩ : ∃ fv, fv = F.getD k 0 := ⟨_, rfl⟩
        rw [← hfv] at q5
        have HFV := Lib.hid hfv
        clear hfv
        by_cases h0 : er = 0
        · subst h0
          have hok := HW.out.ok rfl
          have HOK := Lib.hid hok
          obtain ⟨_, _, ho1, ho2, _, _, _, ho3, ho4, ho5, ho6, ho7, _⟩ := hok
          rw [Int.toNat_natCast, ← HFV.out] at ho3 ho6 ho7
          have HON := Lib.hid ho1
          have HSZ := Lib.hid ho2
          have HW1 : Hid (IntKind.i64.wrap (fv - st) = fv - st) := Lib.hid (IntWalk.i64_in _ (by omega))
          clear ho1 ho2
          go_wp2_with fail
          refine (HDI.out _).mono ?_
          rintro e w6 ⟨A6, n6, k6, D, rfl, hn6, hi6, hb6, hd6, _⟩
          have HX6 := Lib.hid (HX5.out.after hb6)
          have HT6 := Lib.hid (HT5.out.later hb6)
          have HP6 := Lib.hid (HP5.out.later hb6)
          have HD6 := Lib.hid hi6
          obtain ⟨hd7, hd8⟩ := hd6 HON.out
          obtain rfl : n6 = F.length := by rw [HSZ.out, ← hd7]; exact hn6
          have HDK := Lib.hid (hd8 k (by rw [← HSZ.out]; exact hk))
          have q5 := (hb6.cell (p := ⟨g5, o5 + k, none⟩) hg5).trans q5
          have HQ5 := Lib.hid q5
          have HG5 := Lib.hid (Nat.lt_of_lt_of_le hg5 hb6.size)
          have HIS6 := Lib.hid (HIS.out _ _ _ _ _ A4 n4 k4 P w6 HT6.out (by obtain ⟨_, _, e⟩ := HP6.out.form; injection e with e1 e2 e3; subst e2; exact HP6.out.wt) (by have := HL4.out.2; omega))
          have c0 := HX6.out.box.c0
          have c1 := HX6.out.box.c1
          have c2 := HX6.out.box.c2
          have c4 := HX6.out.box.c4
          have c5 := HX6.out.box.c5
          have c6 := HX6.out.box.c6
          have c7 := HX6.out.box.c7
          clear hi6 hb6 hd6 hd7 hd8 hn6
          go_wp2_with fail
          refine (HIS6.out).mono ?_
          rintro e w7 ⟨b7, rfl, hb7, hB7⟩
          obtain rfl : b7 = true := hb7.2 HOK.out.2.2.2.2.1
          have HX7 := Lib.hid (HX6.out.after hB7)
          have HP7 := Lib.hid (HP6.out.later hB7)
          have HD7 := Lib.hid ((HD6.out.below hB7).raise hB7.size)
          have q5 := (hB7.cell (p := ⟨g5, o5 + k, none⟩) HG5.out).trans HQ5.out
          have HQ7 := Lib.hid q5
          have HG7 := Lib.hid (Nat.lt_of_lt_of_le HG5.out hB7.size)
          clear hb7 hB7 c0 c1 c2 c4 c5 c6 c7
          have c4 := HX7.out.box.c4
          have c5 := HX7.out.box.c5
          have c6 := HX7.out.box.c6
          have c7 := HX7.out.box.c7
          rcases List.eq_nil_or_concat P with rfl | ⟨l, q, hqc⟩
          · obtain rfl : n4 = 0 := HL4.out.1
            obtain rfl : (k : Int) = fr := HOK.out.2.2.2.2.2.1 rfl
            go_wp2_with fail
            go_ret
            exact ⟨rfl, HX7.out.below⟩
          · have hq : P = l ++ [q] := by simpa using hqc
            clear hqc
            have hqe := HOK.out.2.2.2.2.2.2.1 l q hq
            rw [Int.toNat_natCast, ← HFV.out] at hqe
            obtain ⟨m, hm⟩ : ∃ m, l.length = m := ⟨_, rfl⟩
            have hln := HL4.out.1
            rw [hq, List.length_append, hm] at hln
            obtain rfl : n4 = m + 1 := hln
            obtain ⟨Ax, kx, hax⟩ := HP7.out.form
            injection hax with hax1 hax2 hax3
            subst hax1 hax3
            obtain ⟨g7, hg7, _⟩ := HP7.out.ad (by rw [hq]; simp)
            subst hg7
            obtain ⟨r1, r2, _, _⟩ := Sow.cells (t := m) HP7.out (by rw [hq]; simp; omega)
            have hge : P.getD m (0, 0) = ((k : Int), fv) := by rw [hq, ← hm]; simp [List.getD, hqe]
            rw [hge] at r1 r2
            have r1 : w7.cell? ⟨g7, m * 2, none⟩ = some (.int .i64 (k : Int)) := r1
            have r2 : w7.cell? ⟨g7, m * 2 + 1, none⟩ = some (.int .i64 fv) := r2
            have hw1 : IntKind.i64.wrap (((m + 1 : Nat) : Int) - 1) = (m : Int) := by
              have := HL4.out.2
              rw [IntWalk.i64_in _ (by omega)]; omega
            have hm1 : m + 1 ≤ 1024 := HL4.out.2
            have hyw : wrap64 ((m : Nat) : Int) = (m : Int) := by unfold wrap64; omega
            obtain ⟨g6, o6, rfl, hg6, q6⟩ := il_at HD7.out hk
            have hdv : D.getD k 0 ≤ fv - st := by
              have := HOK.out.2.2.2.2.2.2.2.2.2.2.2.2 (D.getD k 0) HDK.out
              rw [Int.toNat_natCast, ← HFV.out] at this
              exact this
            obtain ⟨dv, hdve⟩ : ∃ dv, dv = D.getD k 0 := ⟨_, rfl⟩
            rw [← hdve] at q6 hdv
            clear hdve
            have hW := HW1.out
            have hd8 : decide (dv ≤ fv - st) = true := decide_eq_true hdv
            have hd9 : decide (fv - st ≤ ah) = true := decide_eq_true ho3
            clear hqe hq hge hm hax2
            have hA8 := (Below.refl w7.heap.size w7).alloc (Nat.le_refl _) (.cells #[.int .i64 (k : Int), .int .i64 fv] 56)
            have HX8 := Lib.hid (HX7.out.after hA8)
            have HQ8 := Lib.hid ((hA8.cell (p := ⟨g5, o5 + k, none⟩) HG7.out).trans HQ7.out)
            have HR8 := Lib.hid ((hA8.cell (p := ⟨g6, o6 + k, none⟩) hg6).trans q6)
            have HB8 := Lib.hid (Bs.new w7 (k : Int) fv)
            have HYW := Lib.hid hyw
            clear hA8 q6 hm1 hw1 hyw
            go_upto_region 16 with (fail)
            have hyw := HYW.out
            go_wp2_with fail
            generalize w7.alloc (.cells #[.int .i64 (k : Int), .int .i64 fv] 56) = w8 at *
            clear c0 c1 c2 c4 c5 c6 c7 q5 r1 r2
            have c4 := HX8.out.box.c4
            have c5 := HX8.out.box.c5
            have c6 := HX8.out.box.c6
            have c7 := HX8.out.box.c7
            have q5 := HQ8.out
            have q6 := HR8.out
            obtain ⟨d1, d2, _⟩ := HB8.out.cells
            have HBF := Lib.hid HX8.out.below
            clear HSM HSM2 HTB HPL HSO HIS HDI HX0 HX1 HX2 HX3 HX4 HX5 HX6 HX7 HX8 H2 H3 HT HT4 HT5 HT6 HOS HP4 HP5 HP6 HP7 HPI HF5 HW HOK HON HSZ HD6 HD7 HDK HQ5 HQ7 HQ8 HR8 HB8 HIS6 HL4 HFV
            as_aux_lemma =>
              go_big_quiet (fail)
              rename_i nq _
              go_wp2_with fail
              go_ret
              exact ⟨rfl, HBF.out.trans (below_drewN _ _ nq)⟩
        · have hneg : fv < 0 := by rw [HFV.out]; exact (HW.out.none h0).2 (Int.not_lt.1 hlo) (by omega)
          have hd3 : decide (fv < 0) = true := decide_eq_true hneg
          obtain ⟨rfl, _⟩ := HW.out.none h0
          obtain rfl : n4 = 0 := HL4.out.1
          rcases HER.out with e | rfl | rfl
          · exact absurd e h0
          · go_wp2_with fail
            go_ret
            exact ⟨rfl, HX5.out.below⟩
          · go_wp2_with fail
            go_ret
            exact ⟨rfl, HX5.out.below⟩
  · have hsm : smallB s ah = false := by simpa using hsm
    rw [hsm]
    go_wp2_with fail
    go_ret
    exact ⟨rfl, HX3.out.below⟩
end Go.Proofs.YtnjlngcahhkmcaaGreatDoor
