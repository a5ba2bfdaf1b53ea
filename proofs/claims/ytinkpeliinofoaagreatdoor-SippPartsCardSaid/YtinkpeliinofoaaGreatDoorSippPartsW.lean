/-
  SippParts: the parts of a way through time, and its steps; the walk.
-/
import Derived.Test.YtinkpeliinofoaaGreatDoorSpLaw
import Derived.Deep.RegionHeld3
import Derived.BigQuiet
set_option linter.unusedVariables false
namespace Go.Proofs.YtinkpeliinofoaaGreatDoor
namespace Sp
open Go.RowKit Fl Pt
open Wn (Tab TF frees isT Ordw IW Wt wcl plc Rising)

theorem WyT.here {e : Env} {c : Nat} {m : Int} : ∀ {L : List (Int × Int)}, WyT e c m L → In (e.O c) m
  | [], h => h
  | _ :: _, ⟨k, h, _⟩ => ⟨k, h⟩
theorem WyT.take {e : Env} : ∀ {L : List (Int × Int)} {c : Nat} {m : Int}, WyT e c m L → ∀ i, WyT e c m (L.take i)
  | [], _, _, h, i => by rw [List.take_nil]; exact h
  | _ :: _, _, _, h, 0 => h.here
  | q :: r, c, m, ⟨k, h1, h2, h3, h4, d, h5, h6, h7⟩, i + 1 => ⟨k, h1, h2, h3, h4, d, h5, h6, h7.take i⟩
theorem WyT.step {e : Env} (hE : e.Ok) : ∀ {L : List (Int × Int)} {c : Nat} {m : Int}, c < e.N → WyT e c m L → ∀ i, i < L.length → ∃ d : Nat, d < e.N ∧ (L.getD i (0, 0)).1 = (d : Int) ∧ In (e.O d) (L.getD i (0, 0)).2 ∧ m < (L.getD i (0, 0)).2
  | [], _, _, _, _, i, hi => by cases hi
  | q :: r, c, m, hc, ⟨k, h1, h2, h3, h4, d, h5, h6, h7⟩, 0, _ => ⟨d, hE.nrlt c hc d h6, h5, h7.here, h2⟩
  | q :: r, c, m, hc, ⟨k, h1, h2, h3, h4, d, h5, h6, h7⟩, i + 1, hi => by
    obtain ⟨d', k1, k2, k3, k4⟩ := h7.step hE (hE.nrlt c hc d h6) i (by simpa using hi)
    exact ⟨d', k1, k2, k3, by have := k4; show m < (r.getD i (0, 0)).2; omega⟩
theorem WyT.rise {e : Env} : ∀ {L : List (Int × Int)} {c : Nat} {m : Int}, WyT e c m L → ∀ i, i + 1 < L.length → (L.getD i (0, 0)).2 < (L.getD (i + 1) (0, 0)).2
  | [], _, _, _, i, hi => by cases hi
  | [_], _, _, _, i, hi => by simp at hi
  | q :: q' :: r, c, m, ⟨k, h1, h2, h3, h4, d, h5, h6, h7⟩, 0, _ => by
    obtain ⟨_, _, g, _⟩ := h7
    exact g
  | q :: q' :: r, c, m, ⟨k, h1, h2, h3, h4, d, h5, h6, h7⟩, i + 1, hi => h7.rise i (by simpa using hi)
/-- All that SippParts asks of a plan. -/
structure Pt7 (W H : Int) (s : ByteArray) (fr st : Int) (T : Int → List (Int × Int)) (P : List (Int × Int)) (er : Int) : Prop where
  none : er ≠ 0 → P = []
  part : er = 0 → ∀ i, IsOk W H s fr st T (P.take i)
  step : er = 0 → ∀ i, i < P.length → IW (P.getD i (0, 0)).1 ∧ isT (T (P.getD i (0, 0)).1) (P.getD i (0, 0)).2 = true
  rise : er = 0 → ∀ i, i + 1 < P.length → (P.getD i (0, 0)).2 < (P.getD (i + 1) (0, 0)).2
theorem pt_of {W H : Int} {s : ByteArray} (hz : s.size ≤ maxLen) {fr st tz ah : Int} {T : Int → List (Int × Int)} {P : List (Int × Int)} {er : Int} (ho : ∀ y, Ordw 0 (T y)) (hs : ∀ y, (T y).length ≤ 2000) (hP : PlanIs W H s fr st tz ah T P er) : Pt7 W H s fr st T P er := by
  by_cases h0 : er = 0
  · have hh : Rc7 W H s fr st ah ∧ WyT (envOf W.toNat H.toNat fr.toNat s st T) fr.toNat st P := by
      rcases hP with ⟨_, _, e⟩ | ⟨h1, h2, ⟨_, e, _⟩ | ⟨_, N, cn, h3, h4, h5, h6⟩⟩
      · rw [h0] at e; cases e
      · rw [h0] at e; cases e
      · refine ⟨h1, ?_⟩
        have hr : (envOf W.toNat H.toNat fr.toNat s st T).R (st + N) tz.toNat := by
          rcases h4 with ⟨r, _, h⟩ | ⟨h, _⟩
          · exact r
          · have := h1.1.2.1
            omega
        obtain ⟨m, w, hm, j, j1, _⟩ := h5.way N tz.toNat (by show st + (N : Int) ≤ _; omega) hr
        rw [h6]
        exact w.wyT ⟨j, j1⟩
    obtain ⟨hR, hw⟩ := hh
    have hE := envOk hR.1 ho hs
    refine ⟨fun h => absurd h0 h, fun _ i => ⟨hR.1, hw.take i⟩, fun _ i hi => ?_, fun _ => hw.rise⟩
    obtain ⟨d, k1, k2, k3, k4⟩ := hw.step hE hE.alt i hi
    rw [k2]
    refine ⟨?_, ?_⟩
    · have k1 : d < s.size := k1
      unfold IW
      unfold maxLen at hz
      omega
    · have k3 : In (opn (d == fr.toNat) st (frees (T (d : Int)))) (P.getD i (0, 0)).2 := k3
      rw [opn_in k4] at k3
      exact (in_frees (ho _)).1 k3
  · refine ⟨fun _ => ?_, fun h => absurd h h0, fun h => absurd h h0, fun h => absurd h h0⟩
    rcases hP with ⟨_, e, _⟩ | ⟨_, _, ⟨e, _, _⟩ | ⟨e, _⟩⟩
    · exact e
    · exact e
    · exact absurd e h0
theorem wt_take {B : Nat} {w : World} {A : Option Addr} {n cap : Nat} {L : List (Int × Int)} (h : Wt B w A n cap L) {i : Nat} (hi : i < n) : Wt B w A i cap (L.take i) := by
  have hl := h.len
  refine ⟨by rw [List.length_take]; omega, by have := h.le; omega, h.max, h.nil, fun h0 => ?_⟩
  obtain ⟨g, off, e, hg, hc⟩ := h.cell (by omega)
  refine ⟨g, off, e, hg, fun j hj => ?_⟩
  have hg : (L.take i).getD j (0, 0) = L.getD j (0, 0) := by
    rw [List.getD, List.getD, List.getElem?_take_of_lt hj]
  rw [hg]
  exact hc j (by omega)
end Sp
end Go.Proofs.YtinkpeliinofoaaGreatDoor
set_option maxRecDepth 100000
namespace Go.Proofs.YtinkpeliinofoaaGreatDoor
open Go.RowKit Fl Pt
open Sp
open Wn (Tab TF frees isT Ordw IW Wt wcl plc Rising RT Rt R3 tkn rtk tk upd)

/-- The case's box, and all that was there before. -/
structure Cx (w : World) (W H : Int) (s : ByteArray) (A : Option Addr) (n cap : Nat) (fr tz st ah : Int) (w' : World) : Prop where
  box : Cb w.heap.size W H s A n cap fr tz st ah w'
  below : Below w.heap.size w w'
theorem Cx.after {w w1 w2 : World} {W H : Int} {s : ByteArray} {A : Option Addr} {n cap : Nat} {fr tz st ah : Int} (h : Cx w W H s A n cap fr tz st ah w1) (hb : Below w1.heap.size w1 w2) : Cx w W H s A n cap fr tz st ah w2 :=
  ⟨h.box.later hb, h.below.trans (hb.mono h.below.size)⟩
theorem Cx.start (w : World) (W H : Int) (s : ByteArray) (A : Option Addr) (n cap : Nat) (fr tz st ah : Int) : Cx w W H s A n cap fr tz st ah (w.alloc (.cells #[.int .i64 W, .int .i64 H, .string s, .slice A n cap, .int .i64 fr, .int .i64 tz, .int .i64 st, .int .i64 ah] 26)) :=
  ⟨Cb.new w W H s A n cap fr tz st ah, (Below.refl _ _).alloc (Nat.le_refl _) _⟩
theorem two_tx {w0 wr : World} {tb rb j : Nat} (h : Two7 w0 tb rb j wr) : ∃ tN mv T tg, Tk wr tb tb tN mv T tg ∧ (∀ y, Ordw 0 (T y)) ∧ ∀ y, (T y).length ≤ 2000 := by
  obtain ⟨tN, mv, T, tg, A, c, R, h1, h2, h3, h4, h5⟩ := h.ex
  exact ⟨tN, mv, T, tg, h1, h1.ord, fun y => by have := h1.tab.small y; have h6 := h1.few; omega⟩
/-- All that a round keeps. -/
structure Ps (w : World) (W H : Int) (s : ByteArray) (A : Option Addr) (n cap : Nat) (fr tz st ah : Int) (tb tN : Nat) (mv : Option Nat) (T : Int → List (Int × Int)) (tg : Int → Nat) (A4 : Option Addr) (n4 k4 : Nat) (P : List (Int × Int)) (w' : World) : Prop where
  cx : Cx w W H s A n cap fr tz st ah w'
  tk : Tk w' tb tb tN mv T tg
  wt : Wt w'.heap.size w' A4 n4 k4 P
theorem Ps.after {w w1 w2 : World} {W H : Int} {s : ByteArray} {A : Option Addr} {n cap : Nat} {fr tz st ah : Int} {tb tN : Nat} {mv : Option Nat} {T : Int → List (Int × Int)} {tg : Int → Nat} {A4 : Option Addr} {n4 k4 : Nat} {P : List (Int × Int)} (h : Ps w W H s A n cap fr tz st ah tb tN mv T tg A4 n4 k4 P w1) (hb : Below w1.heap.size w1 w2) : Ps w W H s A n cap fr tz st ah tb tN mv T tg A4 n4 k4 P w2 :=
  ⟨h.cx.after hb, h.tk.later hb, h.wt.later hb⟩

set_option maxHeartbeats 4000000 in
theorem sippParts_walk (W H : Int) (s : ByteArray) (hs : s.size ≤ maxLen) (A : Option Addr) (n cap : Nat) (L : List R3) (fr tz st ah : Int) (w : World) (hL : Rt w.heap.size w A n cap L) (hx : ∀ j, j < n → IW (L.getD j (0, 0, 0)).1) :
    Calls Tryz.prog 8 #[caseV W H s A n cap fr tz st ah] w fun e w' => e = .returned (.bool true) ∧ Below w.heap.size w w' := by
  have HSM := Lib.hid (fun wx => small7_any W H s hs A n cap fr tz st ah wx)
  have HTB := Lib.hid (fun wx (hb : Below w.heap.size w wx) => tables7_any A n cap L wx ((hL.below hb).raise hb.size) hx)
  have HPL := Lib.hid (fun tb tN mv T tg wx hT => plan_any W H s hs fr st tz ah tb tb tN mv T tg wx hT)
  have HIS := Lib.hid (fun tb tN mv T tg A n cap L wx hT hL hn => is7_any W H s hs fr st tb tb tN mv T tg A n cap L wx hT hL hn)
  have HWI := Lib.hid (fun tb tN mv T tg x m wx (hT : Tab wx tb tb tN mv T tg) hx => Wn.is_any tb tb tN mv T tg x m wx hT hx)
  have HX0 := Lib.hid (Cx.start w W H s A n cap fr tz st ah)
  have HSZ := Lib.hid hs
  clear hL hx hs
  unfold caseV
  go_enter Tryz.func8, Tryz.ntmps8
  go_wp2_with fail
  refine (shown7_any _).mono ?_
  rintro e w1 ⟨rfl, hb1⟩
  have HX1 := Lib.hid (HX0.out.after hb1)
  have c3 := HX1.out.box.c3
  clear hb1
  go_wp2_with fail
  refine (HTB.out _ HX1.out.below).mono ?_
  rintro e w2 ⟨tb, rb, rfl, h2⟩
  have HX2 := Lib.hid (HX1.out.after h2.below)
  have H2 := Lib.hid h2
  have c0 := HX2.out.box.c0
  have c1 := HX2.out.box.c1
  have c2 := HX2.out.box.c2
  have c3 := HX2.out.box.c3
  have c4 := HX2.out.box.c4
  have c5 := HX2.out.box.c5
  have c6 := HX2.out.box.c6
  have c7 := HX2.out.box.c7
  clear h2
  have HSM2 : Hid (∀ wx, Calls Tryz.prog 12 #[.agg #[.int .i64 W, .int .i64 H, .string s, .slice A n cap, .int .i64 fr, .int .i64 tz, .int .i64 st, .int .i64 ah]] wx fun e w' => e = .returned (.bool (smallB s ah)) ∧ Below wx.heap.size wx w') := HSM
  go_wp2_with fail
  refine (HSM2.out _).mono ?_
  rintro e w3 ⟨rfl, hb3⟩
  have HX3 := Lib.hid (HX2.out.after hb3)
  have H3 := Lib.hid (H2.out.later hb3)
  clear hb3 c0 c1 c2 c3 c4 c5 c6 c7
  by_cases hsm : smallB s ah = true
  · rw [hsm]
    clear hsm
    obtain ⟨tN, mv, T, tg, hT, hO, hS⟩ := two_tx H3.out
    have HT := Lib.hid hT
    have HOS := Lib.hid (And.intro hO hS)
    have c0 := HX3.out.box.c0
    have c1 := HX3.out.box.c1
    have c2 := HX3.out.box.c2
    have c4 := HX3.out.box.c4
    have c5 := HX3.out.box.c5
    have c6 := HX3.out.box.c6
    have c7 := HX3.out.box.c7
    clear hT hO hS
    go_wp2_with fail
    refine (HPL.out _ _ _ _ _ _ HT.out).mono ?_
    rintro e w4 ⟨A4, n4, k4, P, er, rfl, hn4, hs4, hb4, hp4, hl4, her⟩
    have HPT := Lib.hid (pt_of HSZ.out HOS.out.1 HOS.out.2 hp4)
    have HN4 := Lib.hid hn4
    have HST : Hid (Ps w W H s A n cap fr tz st ah tb tN mv T tg A4 n4 k4 P w4) := Lib.hid ⟨HX3.out.after hb4, HT.out.later hb4, hs4.wt⟩
    have hz1 := hs4.wt.le
    have hz2 := hs4.wt.max
    clear hs4 hb4 hp4 hn4 HX0 HX1 HX2 HX3 H2 H3 HT HOS HTB HSM HSM2 HPL c0 c1 c2 c4 c5 c6 c7
    by_cases h0 : er = 0
    · subst h0
      clear her
      go_wp2_with fail
      go_loopw [54] (fun iv wr => ∃ i : Nat, i ≤ n4 ∧ iv = .int .i64 (i : Int) ∧ Hid (Ps w W H s A n cap fr tz st ah tb tN mv T tg A4 n4 k4 P wr)) (fun iv _ => n4 - (intOf iv).toNat)
      case atStart => exact ⟨0, Nat.zero_le _, rfl, HST⟩
      case round =>
        rename World => wr
        obtain ⟨i, hi, rfl, HR⟩ := hrel
        by_cases hlt : i < n4
        · obtain ⟨g, off, rfl, hg, hcs⟩ := HR.out.wt.cell (by omega)
          have HIP : Hid (i < P.length) := Lib.hid (by rw [← HN4.out]; exact hlt)
          have hst := HPT.out.step rfl i HIP.out
          have HPA := Lib.hid (HPT.out.part rfl i)
          obtain ⟨q1, q2⟩ := hcs i hlt
          have HA : Hid (∀ wx, Below wr.heap.size wr wx → Calls Tryz.prog 23 #[.agg #[.int .i64 W, .int .i64 H, .string s], .pointer (some ⟨tb, 0, none⟩), .int .i64 fr, .int .i64 st, .slice (some ⟨g, off, none⟩) i k4] wx fun e w' => e = .returned (.bool true) ∧ Below wx.heap.size wx w') := Lib.hid (fun wx hb => by
            have h1 := HR.out.after hb
            refine (HIS.out _ _ _ _ _ _ i k4 (P.take i) wx h1.tk (wt_take h1.wt hlt) (by omega)).mono ?_
            rintro e w' ⟨b, rfl, hb1, hb2⟩
            exact ⟨by rw [hb1.2 HPA.out], hb2⟩)
          have HB : Hid (∀ wx, Below wr.heap.size wr wx → Calls Tryz.prog 27 #[.pointer (some ⟨tb, 0, none⟩), .int .i64 (P.getD i (0, 0)).1, .int .i64 (P.getD i (0, 0)).2] wx fun e w' => e = .returned (.bool true) ∧ Below wx.heap.size wx w') := Lib.hid (fun wx hb => by
            have := HWI.out _ _ _ _ _ _ (P.getD i (0, 0)).2 wx (HR.out.after hb).tk.tab hst.1
            rw [hst.2] at this
            exact this)
          have c0 := HR.out.cx.box.c0
          have c1 := HR.out.cx.box.c1
          have c2 := HR.out.cx.box.c2
          have c4 := HR.out.cx.box.c4
          have c6 := HR.out.cx.box.c6
          have HG := Lib.hid hg
          clear hg hst
          by_cases hi0 : i = 0
          · clear hcs
            have hy0 : (0 : Int) ≤ (i : Int) := by omega
            have hy1 : (i : Int) ≤ (k4 : Int) := by omega
            have hy2 : (i : Int) ≤ (n4 : Int) := by omega
            have hd2 : decide ((0 : Int) < (i : Int)) = false := decide_eq_false (by omega)
            have hd3 : decide (0 < i) = false := decide_eq_false (by omega)
            clear hi0
            generalize P.getD i (0, 0) = q at *
            obtain ⟨x, t⟩ := q
            have hic : (0 : Int) ≤ (k4 : Int) := by omega
            have hnk : (n4 : Int) ≤ (k4 : Int) := by omega
            have HC0 : Hid (∀ wx, Below wr.heap.size wr wx → wx.cell? ⟨w.heap.size, 0, none⟩ = some (.int .i64 W) ∧ wx.cell? ⟨w.heap.size, 1, none⟩ = some (.int .i64 H) ∧ wx.cell? ⟨w.heap.size, 2, none⟩ = some (.string s) ∧ wx.cell? ⟨w.heap.size, 4, none⟩ = some (.int .i64 fr) ∧ wx.cell? ⟨w.heap.size, 6, none⟩ = some (.int .i64 st)) := Lib.hid (fun wx hb => by
              have h := (HR.out.after hb).cx.box
              exact ⟨h.c0, h.c1, h.c2, h.c4, h.c6⟩)
            go_wp2_with fail
            refine wp_region_held_drew (S := fun w' => w'.cell? ⟨w.heap.size, 0, none⟩ = some (.int .i64 W) ∧ w'.cell? ⟨w.heap.size, 1, none⟩ = some (.int .i64 H) ∧ w'.cell? ⟨w.heap.size, 2, none⟩ = some (.string s) ∧ w'.cell? ⟨w.heap.size, 4, none⟩ = some (.int .i64 fr) ∧ w'.cell? ⟨w.heap.size, 6, none⟩ = some (.int .i64 st) ∧ w'.cell? ⟨g, off + i * 2, none⟩ = some (.int .i64 x) ∧ w'.cell? ⟨g, off + i * 2 + 1, none⟩ = some (.int .i64 t)) (by kernel_rfl) (by simp; exact ⟨c0, c1, c2, c4, c6, q1, q2⟩) (fun hS0 => ?_)
            (refine wpAnyH_take (i := 0) (oi := ⟨some 57, _, _, _, _, _⟩) (v := .pointer (some ⟨w.heap.size, 0, none⟩)) rfl (by kernel_rfl) (by kernel_rfl) (by kernel_rfl) (fun _ _ _ h => h) (Or.inl ⟨by rfl, ?_⟩) (by assumption) ?_; (intro w hSw; (try dsimp only at hSw); go_simp); (try simp only [Act.put, List.setIfInBounds_toArray, List.set_cons_zero, List.set_cons_succ]))
            (refine wpAnyH_take (i := 1) (oi := ⟨some 58, _, _, _, _, _⟩) (v := .agg #[.int .i64 W, .int .i64 H, .string s]) rfl (by kernel_rfl) (by kernel_rfl) (by kernel_rfl) (fun _ _ _ h => h) (Or.inl ⟨by rfl, ?_⟩) (by assumption) ?_; (intro w hSw; (try dsimp only at hSw); go_simp); (try simp only [Act.put, List.setIfInBounds_toArray, List.set_cons_zero, List.set_cons_succ]))
            (refine wpAnyH_take (i := 2) (oi := ⟨some 59, _, _, _, _, _⟩) (v := .pointer (some ⟨tb, 0, none⟩)) rfl (by kernel_rfl) (by kernel_rfl) (by kernel_rfl) (fun _ _ _ h => h) (Or.inl ⟨by rfl, ?_⟩) (by assumption) ?_; (intro w hSw; (try dsimp only at hSw); go_simp); (try simp only [Act.put, List.setIfInBounds_toArray, List.set_cons_zero, List.set_cons_succ]))
            (refine wpAnyH_take (i := 3) (oi := ⟨some 60, _, _, _, _, _⟩) (v := .pointer (some ⟨w.heap.size, 4, none⟩)) rfl (by kernel_rfl) (by kernel_rfl) (by kernel_rfl) (fun _ _ _ h => h) (Or.inl ⟨by rfl, ?_⟩) (by assumption) ?_; (intro w hSw; (try dsimp only at hSw); go_simp); (try simp only [Act.put, List.setIfInBounds_toArray, List.set_cons_zero, List.set_cons_succ]))
            (refine wpAnyH_take (i := 4) (oi := ⟨some 61, _, _, _, _, _⟩) (v := .int .i64 fr) rfl (by kernel_rfl) (by kernel_rfl) (by kernel_rfl) (fun _ _ _ h => h) (Or.inl ⟨by rfl, ?_⟩) (by assumption) ?_; (intro w hSw; (try dsimp only at hSw); go_simp); (try simp only [Act.put, List.setIfInBounds_toArray, List.set_cons_zero, List.set_cons_succ]))
            (refine wpAnyH_take (i := 5) (oi := ⟨some 62, _, _, _, _, _⟩) (v := .pointer (some ⟨w.heap.size, 6, none⟩)) rfl (by kernel_rfl) (by kernel_rfl) (by kernel_rfl) (fun _ _ _ h => h) (Or.inl ⟨by rfl, ?_⟩) (by assumption) ?_; (intro w hSw; (try dsimp only at hSw); go_simp); (try simp only [Act.put, List.setIfInBounds_toArray, List.set_cons_zero, List.set_cons_succ]))
            (refine wpAnyH_take (i := 6) (oi := ⟨some 63, _, _, _, _, _⟩) (v := .int .i64 st) rfl (by kernel_rfl) (by kernel_rfl) (by kernel_rfl) (fun _ _ _ h => h) (Or.inl ⟨by rfl, ?_⟩) (by assumption) ?_; (intro w hSw; (try dsimp only at hSw); go_simp); (try simp only [Act.put, List.setIfInBounds_toArray, List.set_cons_zero, List.set_cons_succ]))
            (refine wpAnyH_take (i := 7) (oi := ⟨some 64, _, _, _, _, _⟩) (v := .slice (some ⟨g, off, none⟩) n4 k4) rfl (by kernel_rfl) (by kernel_rfl) (by kernel_rfl) (fun _ _ _ h => h) (Or.inl ⟨by rfl, ?_⟩) (by assumption) ?_; (intro w hSw; (try dsimp only at hSw); go_simp); (try simp only [Act.put, List.setIfInBounds_toArray, List.set_cons_zero, List.set_cons_succ]))
            (refine wpAnyH_take (i := 8) (oi := ⟨some 65, _, _, _, _, _⟩) (v := .int .i64 (i : Int)) rfl (by kernel_rfl) (by kernel_rfl) (by kernel_rfl) (fun _ _ _ h => h) (Or.inl ⟨by rfl, ?_⟩) (by assumption) ?_; (intro w hSw; (try dsimp only at hSw); go_simp); (try simp only [Act.put, List.setIfInBounds_toArray, List.set_cons_zero, List.set_cons_succ]))
            (refine wpAnyH_take (i := 9) (oi := ⟨some 66, _, _, _, _, _⟩) (v := .slice (some ⟨g, off, none⟩) i k4) rfl (by kernel_rfl) (by kernel_rfl) (by kernel_rfl) (fun _ _ _ h => h) (Or.inl ⟨by rfl, ?_⟩) (by assumption) ?_; (intro w hSw; (try dsimp only at hSw); go_simp); (try simp only [Act.put, List.setIfInBounds_toArray, List.set_cons_zero, List.set_cons_succ]))
            refine wpAnyH_ready (rs := [10]) (by kernel_rfl) (by simp) ?_
            refine AllReadyH.cons (o := ⟨some 67, _, _, _, _, _⟩) rfl (fun K hK => ?_) AllReadyH.nil
            go_simp
            refine (HA.out _ (Below.refl _ _).drew).mono ?_
            rintro e w5 ⟨rfl, hb5⟩
            have HB5 := Lib.hid ((Below.refl wr.heap.size wr).drew.trans (hb5.mono (by exact (Below.refl wr.heap.size wr).drew.size)))
            obtain ⟨e0, e1, e2, e4, e6⟩ := HC0.out _ HB5.out
            have f1 := (HB5.out.cell (p := ⟨g, off + i * 2, none⟩) HG.out).trans q1
            have f2 := (HB5.out.cell (p := ⟨g, off + i * 2 + 1, none⟩) HG.out).trans q2
            clear hb5
            refine hK.out _ _ ⟨e0, e1, e2, e4, e6, f1, f2⟩ (fun hS1 => ?_)
            clear hK e0 e1 e2 e4 e6 f1 f2
            (try simp only [Act.put, List.setIfInBounds_toArray, List.set_cons_zero, List.set_cons_succ])
            (refine wpAnyH_take (i := 11) (oi := ⟨some 68, _, _, _, _, _⟩) (v := .bool false) rfl (by kernel_rfl) (by kernel_rfl) (by kernel_rfl) (fun _ _ _ h => h) (Or.inl ⟨by rfl, ?_⟩) (by assumption) ?_; (intro w hSw; (try dsimp only at hSw); go_simp); (try simp only [Act.put, List.setIfInBounds_toArray, List.set_cons_zero, List.set_cons_succ]))
            (refine wpAnyH_take (i := 12) (oi := ⟨some 69, _, _, _, _, _⟩) (v := .bool false) rfl (by kernel_rfl) (by kernel_rfl) (by kernel_rfl) (fun _ _ _ h => h) (Or.inl ⟨by rfl, ?_⟩) (by assumption) ?_; (intro w hSw; (try dsimp only at hSw); go_simp); (try simp only [Act.put, List.setIfInBounds_toArray, List.set_cons_zero, List.set_cons_succ]))
            (refine wpAnyH_take (i := 13) (oi := ⟨some 70, _, _, _, _, _⟩) (v := .pointer (some ⟨tb, 0, none⟩)) rfl (by kernel_rfl) (by kernel_rfl) (by kernel_rfl) (fun _ _ _ h => h) (Or.inl ⟨by rfl, ?_⟩) (by assumption) ?_; (intro w hSw; (try dsimp only at hSw); go_simp); (try simp only [Act.put, List.setIfInBounds_toArray, List.set_cons_zero, List.set_cons_succ]))
            (refine wpAnyH_take (i := 14) (oi := ⟨some 71, _, _, _, _, _⟩) (v := .slice (some ⟨g, off, none⟩) n4 k4) rfl (by kernel_rfl) (by kernel_rfl) (by kernel_rfl) (fun _ _ _ h => h) (Or.inl ⟨by rfl, ?_⟩) (by assumption) ?_; (intro w hSw; (try dsimp only at hSw); go_simp); (try simp only [Act.put, List.setIfInBounds_toArray, List.set_cons_zero, List.set_cons_succ]))
            (refine wpAnyH_take (i := 15) (oi := ⟨some 72, _, _, _, _, _⟩) (v := .int .i64 (i : Int)) rfl (by kernel_rfl) (by kernel_rfl) (by kernel_rfl) (fun _ _ _ h => h) (Or.inl ⟨by rfl, ?_⟩) (by assumption) ?_; (intro w hSw; (try dsimp only at hSw); go_simp); (try simp only [Act.put, List.setIfInBounds_toArray, List.set_cons_zero, List.set_cons_succ]))
            (refine wpAnyH_take (i := 16) (oi := ⟨some 73, _, _, _, _, _⟩) (v := .pointer (some ⟨g, off + i * 2, none⟩)) rfl (by kernel_rfl) (by kernel_rfl) (by kernel_rfl) (fun _ _ _ h => h) (Or.inl ⟨by rfl, ?_⟩) (by assumption) ?_; (intro w hSw; (try dsimp only at hSw); go_simp); (try simp only [Act.put, List.setIfInBounds_toArray, List.set_cons_zero, List.set_cons_succ]))
            (refine wpAnyH_take (i := 17) (oi := ⟨some 74, _, _, _, _, _⟩) (v := .pointer (some ⟨g, off + i * 2, none⟩)) rfl (by kernel_rfl) (by kernel_rfl) (by kernel_rfl) (fun _ _ _ h => h) (Or.inl ⟨by rfl, ?_⟩) (by assumption) ?_; (intro w hSw; (try dsimp only at hSw); go_simp); (try simp only [Act.put, List.setIfInBounds_toArray, List.set_cons_zero, List.set_cons_succ]))
            (refine wpAnyH_take (i := 18) (oi := ⟨some 75, _, _, _, _, _⟩) (v := .int .i64 x) rfl (by kernel_rfl) (by kernel_rfl) (by kernel_rfl) (fun _ _ _ h => h) (Or.inl ⟨by rfl, ?_⟩) (by assumption) ?_; (intro w hSw; (try dsimp only at hSw); go_simp); (try simp only [Act.put, List.setIfInBounds_toArray, List.set_cons_zero, List.set_cons_succ]))
            (refine wpAnyH_take (i := 19) (oi := ⟨some 76, _, _, _, _, _⟩) (v := .slice (some ⟨g, off, none⟩) n4 k4) rfl (by kernel_rfl) (by kernel_rfl) (by kernel_rfl) (fun _ _ _ h => h) (Or.inl ⟨by rfl, ?_⟩) (by assumption) ?_; (intro w hSw; (try dsimp only at hSw); go_simp); (try simp only [Act.put, List.setIfInBounds_toArray, List.set_cons_zero, List.set_cons_succ]))
            (refine wpAnyH_take (i := 20) (oi := ⟨some 77, _, _, _, _, _⟩) (v := .int .i64 (i : Int)) rfl (by kernel_rfl) (by kernel_rfl) (by kernel_rfl) (fun _ _ _ h => h) (Or.inl ⟨by rfl, ?_⟩) (by assumption) ?_; (intro w hSw; (try dsimp only at hSw); go_simp); (try simp only [Act.put, List.setIfInBounds_toArray, List.set_cons_zero, List.set_cons_succ]))
            (refine wpAnyH_take (i := 21) (oi := ⟨some 78, _, _, _, _, _⟩) (v := .pointer (some ⟨g, off + i * 2, none⟩)) rfl (by kernel_rfl) (by kernel_rfl) (by kernel_rfl) (fun _ _ _ h => h) (Or.inl ⟨by rfl, ?_⟩) (by assumption) ?_; (intro w hSw; (try dsimp only at hSw); go_simp); (try simp only [Act.put, List.setIfInBounds_toArray, List.set_cons_zero, List.set_cons_succ]))
            (refine wpAnyH_take (i := 22) (oi := ⟨some 79, _, _, _, _, _⟩) (v := .pointer (some ⟨g, off + i * 2 + 1, none⟩)) rfl (by kernel_rfl) (by kernel_rfl) (by kernel_rfl) (fun _ _ _ h => h) (Or.inl ⟨by rfl, ?_⟩) (by assumption) ?_; (intro w hSw; (try dsimp only at hSw); go_simp); (try simp only [Act.put, List.setIfInBounds_toArray, List.set_cons_zero, List.set_cons_succ]))
            (refine wpAnyH_take (i := 23) (oi := ⟨some 80, _, _, _, _, _⟩) (v := .int .i64 t) rfl (by kernel_rfl) (by kernel_rfl) (by kernel_rfl) (fun _ _ _ h => h) (Or.inl ⟨by rfl, ?_⟩) (by assumption) ?_; (intro w hSw; (try dsimp only at hSw); go_simp); (try simp only [Act.put, List.setIfInBounds_toArray, List.set_cons_zero, List.set_cons_succ]))
            refine wpAnyH_ready (rs := [24]) (by kernel_rfl) (by simp) ?_
            refine AllReadyH.cons (o := ⟨some 81, _, _, _, _, _⟩) rfl (fun K hK => ?_) AllReadyH.nil
            go_simp
            refine (HB.out _ HB5.out).mono ?_
            rintro e w6 ⟨rfl, hb6⟩
            have HB6 := Lib.hid (HB5.out.trans (hb6.mono HB5.out.size))
            obtain ⟨e0, e1, e2, e4, e6⟩ := HC0.out _ HB6.out
            have f1 := (HB6.out.cell (p := ⟨g, off + i * 2, none⟩) HG.out).trans q1
            have f2 := (HB6.out.cell (p := ⟨g, off + i * 2 + 1, none⟩) HG.out).trans q2
            clear hb6
            refine hK.out _ _ ⟨e0, e1, e2, e4, e6, f1, f2⟩ (fun hS2 => ?_)
            clear hK e0 e1 e2 e4 e6 f1 f2
            (try simp only [Act.put, List.setIfInBounds_toArray, List.set_cons_zero, List.set_cons_succ])
            (refine wpAnyH_take (i := 25) (oi := ⟨some 82, _, _, _, _, _⟩) (v := .bool false) rfl (by kernel_rfl) (by kernel_rfl) (by kernel_rfl) (fun _ _ _ h => h) (Or.inl ⟨by rfl, ?_⟩) (by assumption) ?_; (intro w hSw; (try dsimp only at hSw); go_simp); (try simp only [Act.put, List.setIfInBounds_toArray, List.set_cons_zero, List.set_cons_succ]))
            (refine wpAnyH_take (i := 26) (oi := ⟨some 83, _, _, _, _, _⟩) (v := .bool false) rfl (by kernel_rfl) (by kernel_rfl) (by kernel_rfl) (fun _ _ _ h => h) (Or.inl ⟨by rfl, ?_⟩) (by assumption) ?_; (intro w hSw; (try dsimp only at hSw); go_simp); (try simp only [Act.put, List.setIfInBounds_toArray, List.set_cons_zero, List.set_cons_succ]))
            (refine wpAnyH_take (i := 27) (oi := ⟨some 84, _, _, _, _, _⟩) (v := .bool false) rfl (by kernel_rfl) (by kernel_rfl) (by kernel_rfl) (fun _ _ _ h => h) (Or.inl ⟨by rfl, ?_⟩) (by assumption) ?_; (intro w hSw; (try dsimp only at hSw); go_simp); (try simp only [Act.put, List.setIfInBounds_toArray, List.set_cons_zero, List.set_cons_succ]))
            (refine wpAnyH_take (i := 28) (oi := ⟨some 85, _, _, _, _, _⟩) (v := .int .i64 (i : Int)) rfl (by kernel_rfl) (by kernel_rfl) (by kernel_rfl) (fun _ _ _ h => h) (Or.inl ⟨by rfl, ?_⟩) (by assumption) ?_; (intro w hSw; (try dsimp only at hSw); go_simp); (try simp only [Act.put, List.setIfInBounds_toArray, List.set_cons_zero, List.set_cons_succ]))
            (refine wpAnyH_take (i := 29) (oi := ⟨some 86, _, _, _, _, _⟩) (v := .bool false) rfl (by kernel_rfl) (by kernel_rfl) (by kernel_rfl) (fun _ _ _ h => h) (Or.inl ⟨by rfl, ?_⟩) (by assumption) ?_; (intro w hSw; (try dsimp only at hSw); go_simp); (try simp only [Act.put, List.setIfInBounds_toArray, List.set_cons_zero, List.set_cons_succ]))
            (refine wpAnyH_take (i := 30) (oi := ⟨some 87, _, _, _, _, _⟩) (v := .bool false) rfl (by kernel_rfl) (by kernel_rfl) (by kernel_rfl) (fun _ _ _ h => h) (Or.inl ⟨by rfl, ?_⟩) (by assumption) ?_; (intro w hSw; (try dsimp only at hSw); go_simp); (try simp only [Act.put, List.setIfInBounds_toArray, List.set_cons_zero, List.set_cons_succ]))
            (refine wpAnyH_take (i := 31) (oi := ⟨some 88, _, _, _, _, _⟩) (v := undef) rfl (by kernel_rfl) (by kernel_rfl) (by kernel_rfl) (fun _ _ _ h => h) (Or.inr ⟨by rfl, rfl⟩) (by assumption) ?_; (try simp only [Act.put, List.setIfInBounds_toArray, List.set_cons_zero, List.set_cons_succ]))
            (refine wpAnyH_take (i := 32) (oi := ⟨some 89, _, _, _, _, _⟩) (v := undef) rfl (by kernel_rfl) (by kernel_rfl) (by kernel_rfl) (fun _ _ _ h => h) (Or.inr ⟨by rfl, rfl⟩) (by assumption) ?_; (try simp only [Act.put, List.setIfInBounds_toArray, List.set_cons_zero, List.set_cons_succ]))
            (refine wpAnyH_take (i := 33) (oi := ⟨some 90, _, _, _, _, _⟩) (v := undef) rfl (by kernel_rfl) (by kernel_rfl) (by kernel_rfl) (fun _ _ _ h => h) (Or.inr ⟨by rfl, rfl⟩) (by assumption) ?_; (try simp only [Act.put, List.setIfInBounds_toArray, List.set_cons_zero, List.set_cons_succ]))
            (refine wpAnyH_take (i := 34) (oi := ⟨some 91, _, _, _, _, _⟩) (v := undef) rfl (by kernel_rfl) (by kernel_rfl) (by kernel_rfl) (fun _ _ _ h => h) (Or.inr ⟨by rfl, rfl⟩) (by assumption) ?_; (try simp only [Act.put, List.setIfInBounds_toArray, List.set_cons_zero, List.set_cons_succ]))
            (refine wpAnyH_take (i := 35) (oi := ⟨some 92, _, _, _, _, _⟩) (v := undef) rfl (by kernel_rfl) (by kernel_rfl) (by kernel_rfl) (fun _ _ _ h => h) (Or.inr ⟨by rfl, rfl⟩) (by assumption) ?_; (try simp only [Act.put, List.setIfInBounds_toArray, List.set_cons_zero, List.set_cons_succ]))
            (refine wpAnyH_take (i := 36) (oi := ⟨some 93, _, _, _, _, _⟩) (v := undef) rfl (by kernel_rfl) (by kernel_rfl) (by kernel_rfl) (fun _ _ _ h => h) (Or.inr ⟨by rfl, rfl⟩) (by assumption) ?_; (try simp only [Act.put, List.setIfInBounds_toArray, List.set_cons_zero, List.set_cons_succ]))
            (refine wpAnyH_take (i := 37) (oi := ⟨some 94, _, _, _, _, _⟩) (v := undef) rfl (by kernel_rfl) (by kernel_rfl) (by kernel_rfl) (fun _ _ _ h => h) (Or.inr ⟨by rfl, rfl⟩) (by assumption) ?_; (try simp only [Act.put, List.setIfInBounds_toArray, List.set_cons_zero, List.set_cons_succ]))
            (refine wpAnyH_take (i := 38) (oi := ⟨some 95, _, _, _, _, _⟩) (v := undef) rfl (by kernel_rfl) (by kernel_rfl) (by kernel_rfl) (fun _ _ _ h => h) (Or.inr ⟨by rfl, rfl⟩) (by assumption) ?_; (try simp only [Act.put, List.setIfInBounds_toArray, List.set_cons_zero, List.set_cons_succ]))
            (refine wpAnyH_take (i := 39) (oi := ⟨some 96, _, _, _, _, _⟩) (v := undef) rfl (by kernel_rfl) (by kernel_rfl) (by kernel_rfl) (fun _ _ _ h => h) (Or.inr ⟨by rfl, rfl⟩) (by assumption) ?_; (try simp only [Act.put, List.setIfInBounds_toArray, List.set_cons_zero, List.set_cons_succ]))
            (refine wpAnyH_take (i := 40) (oi := ⟨some 97, _, _, _, _, _⟩) (v := undef) rfl (by kernel_rfl) (by kernel_rfl) (by kernel_rfl) (fun _ _ _ h => h) (Or.inr ⟨by rfl, rfl⟩) (by assumption) ?_; (try simp only [Act.put, List.setIfInBounds_toArray, List.set_cons_zero, List.set_cons_succ]))
            (refine wpAnyH_take (i := 41) (oi := ⟨some 98, _, _, _, _, _⟩) (v := undef) rfl (by kernel_rfl) (by kernel_rfl) (by kernel_rfl) (fun _ _ _ h => h) (Or.inr ⟨by rfl, rfl⟩) (by assumption) ?_; (try simp only [Act.put, List.setIfInBounds_toArray, List.set_cons_zero, List.set_cons_succ]))
            (refine wpAnyH_take (i := 42) (oi := ⟨some 99, _, _, _, _, _⟩) (v := undef) rfl (by kernel_rfl) (by kernel_rfl) (by kernel_rfl) (fun _ _ _ h => h) (Or.inr ⟨by rfl, rfl⟩) (by assumption) ?_; (try simp only [Act.put, List.setIfInBounds_toArray, List.set_cons_zero, List.set_cons_succ]))
            (refine wpAnyH_take (i := 43) (oi := ⟨some 100, _, _, _, _, _⟩) (v := .bool false) rfl (by kernel_rfl) (by kernel_rfl) (by kernel_rfl) (fun _ _ _ h => h) (Or.inl ⟨by rfl, ?_⟩) (by assumption) ?_; (intro w hSw; (try dsimp only at hSw); go_simp); (try simp only [Act.put, List.setIfInBounds_toArray, List.set_cons_zero, List.set_cons_succ]))
            (refine wpAnyH_take (i := 44) (oi := ⟨some 101, _, _, _, _, _⟩) (v := .bool false) rfl (by kernel_rfl) (by kernel_rfl) (by kernel_rfl) (fun _ _ _ h => h) (Or.inl ⟨by rfl, ?_⟩) (by assumption) ?_; (intro w hSw; (try dsimp only at hSw); go_simp); (try simp only [Act.put, List.setIfInBounds_toArray, List.set_cons_zero, List.set_cons_succ]))
            refine wpAnyH_done (by kernel_rfl) ?_ _
            all_goals
              have HEND := Lib.hid (HR.out.after HB6.out)
              go_wp2_with fail
              go_roundw
              case rel =>
                first
                | exact ⟨i + 1, by omega, by go_num, HEND⟩
                | ((repeat apply Exists.intro); exact ⟨⟨i + 1, by omega, by go_num, HEND⟩, rfl⟩)
              case measure => simp [intOf]; omega
          · obtain ⟨m, hm⟩ : ∃ m, m + 1 = i := ⟨i - 1, by omega⟩
            have hri := HPT.out.rise rfl m (by rw [hm]; exact HIP.out)
            rw [hm] at hri
            obtain ⟨_, q3⟩ := hcs m (by omega)
            clear hcs
            generalize P.getD i (0, 0) = q at *
            generalize P.getD m (0, 0) = q' at *
            obtain ⟨x, t⟩ := q
            obtain ⟨x', t'⟩ := q'
            have hri : t' < t := hri
            have hd1 : decide (t ≤ t') = false := decide_eq_false (by omega)
            have hic : (0 : Int) ≤ (k4 : Int) := by omega
            have hnk : (n4 : Int) ≤ (k4 : Int) := by omega
            have HC0 : Hid (∀ wx, Below wr.heap.size wr wx → wx.cell? ⟨w.heap.size, 0, none⟩ = some (.int .i64 W) ∧ wx.cell? ⟨w.heap.size, 1, none⟩ = some (.int .i64 H) ∧ wx.cell? ⟨w.heap.size, 2, none⟩ = some (.string s) ∧ wx.cell? ⟨w.heap.size, 4, none⟩ = some (.int .i64 fr) ∧ wx.cell? ⟨w.heap.size, 6, none⟩ = some (.int .i64 st)) := Lib.hid (fun wx hb => by
              have h := (HR.out.after hb).cx.box
              exact ⟨h.c0, h.c1, h.c2, h.c4, h.c6⟩)
            have hyw : IntKind.i64.wrap ((i : Int) - 1) = (m : Int) := by rw [IntWalk.i64_in _ (by omega)]; omega
            have hy0 : (0 : Int) ≤ (i : Int) := by omega
            have hy1 : (i : Int) ≤ (k4 : Int) := by omega
            have hy2 : (i : Int) ≤ (n4 : Int) := by omega
            have hy3 : (0 : Int) ≤ (m : Int) := by omega
            have hy4 : (m : Int) < (n4 : Int) := by omega
            have hd2 : decide ((0 : Int) < (i : Int)) = true := decide_eq_true (by omega)
            have hd3 : decide (0 < i) = true := decide_eq_true (by omega)
            go_wp2_with fail
            go_region_held3 (fun w' => w'.cell? ⟨w.heap.size, 0, none⟩ = some (.int .i64 W) ∧ w'.cell? ⟨w.heap.size, 1, none⟩ = some (.int .i64 H) ∧ w'.cell? ⟨w.heap.size, 2, none⟩ = some (.string s) ∧ w'.cell? ⟨w.heap.size, 4, none⟩ = some (.int .i64 fr) ∧ w'.cell? ⟨w.heap.size, 6, none⟩ = some (.int .i64 st) ∧ w'.cell? ⟨g, off + i * 2, none⟩ = some (.int .i64 x) ∧ w'.cell? ⟨g, off + i * 2 + 1, none⟩ = some (.int .i64 t) ∧ w'.cell? ⟨g, off + m * 2 + 1, none⟩ = some (.int .i64 t')) (go_keep)
              ((first
                | (go_at_call 23; refine (HA.out _ (Below.refl _ _).drew).mono ?_; rintro e w5 ⟨rfl, hb5⟩; have HB5 := Lib.hid ((Below.refl wr.heap.size wr).drew.trans (hb5.mono (by exact (Below.refl wr.heap.size wr).drew.size))); obtain ⟨e0, e1, e2, e4, e6⟩ := HC0.out _ HB5.out; have f1 := (HB5.out.cell (p := ⟨g, off + i * 2, none⟩) HG.out).trans q1; have f2 := (HB5.out.cell (p := ⟨g, off + i * 2 + 1, none⟩) HG.out).trans q2; have f3 := (HB5.out.cell (p := ⟨g, off + m * 2 + 1, none⟩) HG.out).trans q3; clear hb5)
                | (go_at_call 27; refine (HB.out _ HB5.out).mono ?_; rintro e w6 ⟨rfl, hb6⟩; have HB6 := Lib.hid (HB5.out.trans (hb6.mono HB5.out.size)); obtain ⟨e0, e1, e2, e4, e6⟩ := HC0.out _ HB6.out; have f1 := (HB6.out.cell (p := ⟨g, off + i * 2, none⟩) HG.out).trans q1; have f2 := (HB6.out.cell (p := ⟨g, off + i * 2 + 1, none⟩) HG.out).trans q2; have f3 := (HB6.out.cell (p := ⟨g, off + m * 2 + 1, none⟩) HG.out).trans q3; clear hb6)))
            all_goals
              have HEND := Lib.hid (HR.out.after HB6.out)
              go_wp2_with fail
              go_roundw
              case rel =>
                first
                | exact ⟨i + 1, by omega, by go_num, HEND⟩
                | ((repeat apply Exists.intro); exact ⟨⟨i + 1, by omega, by go_num, HEND⟩, rfl⟩)
              case measure => simp [intOf]; omega
        · have hii : i = n4 := by omega
          subst hii
          have HEND := Lib.hid HR.out.cx.below
          go_wp2_with fail
          go_ret
          exact ⟨rfl, HEND.out⟩
    · obtain rfl := HPT.out.none h0
      obtain rfl : n4 = 0 := HN4.out
      have HEND := Lib.hid HST.out.cx.below
      rcases her with e | rfl | rfl
      · exact absurd e h0
      · go_wp2_with fail
        go_ret
        exact ⟨rfl, HEND.out⟩
      · go_wp2_with fail
        go_ret
        exact ⟨rfl, HEND.out⟩
  · have hsm : smallB s ah = false := by simpa using hsm
    rw [hsm]
    go_wp2_with fail
    go_ret
    exact ⟨rfl, HX3.out.below⟩
end Go.Proofs.YtinkpeliinofoaaGreatDoor
