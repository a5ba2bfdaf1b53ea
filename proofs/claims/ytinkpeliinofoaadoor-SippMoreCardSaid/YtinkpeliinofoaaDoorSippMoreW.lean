/-
  SippMore: with more taken nothing is reached sooner; the walk.
-/
import Derived.Test.YtinkpeliinofoaaDoorSpLaw
import Derived.Deep.RegionHeld3
import Derived.BigQuiet
set_option linter.unusedVariables false
set_option maxRecDepth 100000
namespace Go.Proofs.YtinkpeliinofoaaDoor
namespace Sp
open Go.RowKit Fl Pt
open Wn (Tab TF frees isT Ordw IW Wt wcl plc Rising)

/-- As SoonTold; and the list is new. -/
def SoonFresh (W H : Int) (s : ByteArray) (c t0 ahead : Int) (T : Int → List (Int × Int)) (w : World) (e : Ending) (w' : World) : Prop :=
  ∃ A n cap F, e = .returned (.slice A n cap) ∧ n = F.length ∧ Il w'.heap.size w' A n cap (fun j => F.getD j 0) ∧ Below w.heap.size w w' ∧ SoonIs W H s c t0 ahead T F ∧ n ≤ 256 ∧ ∀ p, A = some p → w.heap.size ≤ p.block ∧ p.block < w'.heap.size
set_option maxHeartbeats 4000000 in
theorem soon_fresh (W H : Int) (s : ByteArray) (hs : s.size ≤ maxLen) (c t0 ahead : Int) (tB tb tN : Nat) (mv : Option Nat) (T : Int → List (Int × Int)) (tg : Int → Nat) (w : World) (hT : Tk w tB tb tN mv T tg) :
    Calls Tryd.prog 9 #[.agg #[.int .i64 W, .int .i64 H, .string s], .pointer (some ⟨tb, 0, none⟩), .int .i64 c, .int .i64 t0, .int .i64 ahead] w (SoonFresh W H s c t0 ahead T w) := by
  have HRE := Lib.hid (fun wx hk => reach7_any W H s hs c t0 ahead tB tb tN mv T tg wx hk)
  have HT := Lib.hid hT
  have HX0 := Lib.hid (Box.start w W H s 23)
  obtain ⟨i0, hi, hz0, hz1, hz2⟩ := info_parts Tryd.infoInt
  clear hT
  go_enter Tryd.func9, Tryd.ntmps9
  go_wp2_with fail
  refine (HRE.out _ (HT.out.later HX0.out.below)).mono ?_
  rintro e w1 (⟨hRc, p, nv, sv, S, rfl, hg, hd, hf, hb⟩ | ⟨hRc, rfl, hb⟩)
  · have HRC := Lib.hid hRc
    have HX := Lib.hid (HX0.out.after hb)
    have c2 := HX.out.c2
    have hs7 : p.s = s := hf.2.2.2.1
    have HG := Lib.hid hg
    have HD := Lib.hid hd
    have HE := Lib.hid hf.env
    have HSZ := Lib.hid hs7
    have n256 := hg.fit.n256
    rw [hs7] at n256
    clear hRc hg hd hf hb hs7
    go_wp2_with (at_make; refine wpList_make_full _ rfl _ _ 33 rfl w1.heap.size 3 i0 (.int .i64 0) 1 Tryd.underlying33 hi hz0 hz1 .i64 .i64 _ _ s.size rfl rfl rfl rfl (by rw [hz2]; omega) (by unfold maxLen; omega) (Nat.le_refl _) ?_; intro w2 ho2 hg2; have HC2 := Lib.hid (Cells.made rfl ho2); have HB2 := Lib.hid (Below.grown (Below.refl w1.heap.size w1) hg2 (Nat.le_refl _) (fun k hk => by cases hk)); clear ho2 hg2)
    clear hi hz0 hz1 hz2 c2
    have HW := Lib.hid HB2.out
    go_loopw [28] (fun iv wr => ∃ F : List Int, F.length ≤ s.size ∧ iv = .int .i64 (F.length : Int) ∧ Hid (Cells w1.heap.size s.size (ci F) wr ∧ Below w1.heap.size w1 wr ∧ ∀ x, x < F.length → Sn p S x (F.getD x 0))) (fun iv _ => s.size - (intOf iv).toNat)
    case atStart =>
      refine ⟨[], Nat.zero_le _, rfl, Lib.hid ⟨HC2.out.congr fun x hx => rfl, HW.out, fun x hx => by simp at hx⟩⟩
    case round =>
      rename World => wr
      obtain ⟨F, hF, rfl, HK⟩ := hrel
      obtain ⟨a1, a3, a4⟩ := HK.out
      have A1 := Lib.hid a1
      have A3 := Lib.hid a3
      have A2 := Lib.hid (HG.out.later a3)
      have A4 := Lib.hid a4
      clear a1 a3 a4 HK
      obtain ⟨j, hj⟩ : ∃ j, j = F.length := ⟨_, rfl⟩
      have HJ := Lib.hid hj
      rw [← hj] at hF ⊢
      clear hj
      by_cases hlt : j < s.size
      · have HSO := Lib.hid (soon7_any A2.out (c := j) (by rw [HSZ.out]; exact hlt))
        have hjI : (j : Int) < (s.size : Int) := by omega
        go_wp2_with fail
        refine HSO.out.mono ?_
        rintro e w3 ⟨m, rfl, hm, hb3⟩
        have HM := Lib.hid hm
        have C3 := Lib.hid (A1.out.later hb3)
        have W3 := Lib.hid (A3.out.trans (hb3.mono A3.out.size))
        have x1 := (C3.out.2 j hlt).1
        have x2 := (C3.out.2 j hlt).2
        have HN : Hid (Cells w1.heap.size s.size (ci (F ++ [m])) (w3.setCell ⟨w1.heap.size, j, none⟩ (.int .i64 m)) ∧ Below w1.heap.size w1 (w3.setCell ⟨w1.heap.size, j, none⟩ (.int .i64 m))) := Lib.hid
          ⟨C3.out.put j _ hlt (fun x hx => by rw [ci_grow m (by rw [← HJ.out]; exact hF) x hx, HJ.out]), W3.out.setCell (p := ⟨w1.heap.size, j, none⟩) (Nat.le_refl _) _⟩
        clear hm hb3
        go_wp2_with fail
        go_roundw
        case rel =>
          have hj := HJ.out
          refine ⟨F ++ [m], by simp; omega, by simp; go_num, Lib.hid ⟨HN.out.1, HN.out.2, fun x hx => ?_⟩⟩
          by_cases e : x = F.length
          · have : (F ++ [m]).getD F.length 0 = m := by simp [List.getD]
            rw [e, this, ← hj]
            exact HM.out
          · have hx2 : x < F.length := by simp at hx; omega
            have : (F ++ [m]).getD x 0 = F.getD x 0 := by simp [List.getD, List.getElem?_append_left hx2]
            rw [this]
            exact A4.out x hx2
        case measure => simp [intOf]; omega
      · obtain rfl : j = s.size := by omega
        go_wp2_with fail
        go_ret
        have hl := HJ.out
        refine ⟨_, s.size, _, F, rfl, hl, cells_il7 A1.out (by omega), HX.out.below.trans (A3.out.mono HX.out.below.size), .inl ⟨HRC.out, hl.symm, fun x hx => ?_⟩, by omega, fun p hp => by injection hp with hp; rw [← hp]; exact ⟨HX.out.below.size, A1.out.1⟩⟩
        rw [← HE.out]
        exact sn_is A2.out.fit HD.out (by rw [HSZ.out]; exact hx) (A4.out x (by omega))
  · have HRC := Lib.hid hRc
    have HX := Lib.hid (HX0.out.after hb)
    clear hRc hb
    go_wp2_with fail
    go_ret
    exact ⟨none, 0, 0, [], rfl, rfl, Il.empty _ _ _, HX.out.below, .inr ⟨HRC.out, rfl⟩, Nat.zero_le _, fun p hp => by cases hp⟩

theorem inW_ins {m : Int} {L : List (Int × Int)} {i : Nat} {p : Int × Int} (h : Wn.inW m L = true) : Wn.inW m (Wn.insAt L i p) = true := by
  rw [← List.take_append_drop i L] at h
  unfold Wn.inW Wn.insAt at *
  rw [List.any_append] at h
  rw [List.any_append, List.any_append]
  rw [Bool.or_eq_true] at h
  rcases h with h | h
  · rw [h]; rfl
  · rw [h, Bool.or_true]
/-- What is free when more is taken was free. -/
theorem tk_less {L : List (Int × Int)} {a b m : Int} (hL : Ordw 0 L) (h : isT (Wn.tk L a b).2 m = true) : isT L m = true := by
  rw [Wn.isT_in (Wn.tk_ord hL)] at h
  rw [Wn.isT_in hL]
  simp only [Bool.and_eq_true, Bool.not_eq_true'] at h ⊢
  refine ⟨h.1, ?_⟩
  have h2 := h.2
  rw [Bool.eq_false_iff] at h2 ⊢
  intro e
  apply h2
  unfold Wn.tk
  split
  · exact e
  · split
    · exact e
    · split
      · exact e
      · exact inW_ins e
theorem more_sn {W H : Int} {s : ByteArray} {c t0 ah : Int} {T T' : Int → List (Int × Int)} (ho : ∀ y, Ordw 0 (T y)) (ho' : ∀ y, Ordw 0 (T' y)) (hm : ∀ y m, isT (T' y) m = true → isT (T y) m = true) {F F' : List Int}
    (hF : SoonIs W H s c t0 ah T F) (hF' : SoonIs W H s c t0 ah T' F') : F'.length = F.length ∧ ∀ i, i < F.length → 0 ≤ F'.getD i 0 → 0 ≤ F.getD i 0 ∧ F.getD i 0 ≤ F'.getD i 0 := by
  rcases hF with ⟨hR, hl, hF⟩ | ⟨hR, rfl⟩
  · rcases hF' with ⟨_, hl', hF'⟩ | ⟨hn, _⟩
    · refine ⟨by omega, fun i hi h0 => ?_⟩
      have h1 := hF i (by omega)
      have h2 := hF' i (by omega)
      have ht : 0 ≤ t0 := hR.1.2.1
      rcases h2 with ⟨r, k1, _⟩ | ⟨e, _⟩
      · have r' : (envOf W.toNat H.toNat c.toNat s t0 T).R (F'.getD i 0) i := Env.R.more (e := envOf W.toNat H.toNat c.toNat s t0 T) (e' := envOf W.toNat H.toNat c.toNat s t0 T') rfl rfl rfl rfl (fun d m hd hi => by
          have hd : t0 < m := hd
          have hi : In (opn (d == c.toNat) t0 (frees (T' (d : Int)))) m := hi
          show In (opn (d == c.toNat) t0 (frees (T (d : Int)))) m
          rw [opn_in hd, in_frees (ho' _)] at hi
          rw [opn_in hd, in_frees (ho _)]
          exact hm _ _ hi) r
        rcases h1 with ⟨r1, _, k2⟩ | ⟨_, k2⟩
        · have := r1.ge
          have e : (envOf W.toNat H.toNat c.toNat s t0 T).t0 = t0 := rfl
          exact ⟨by omega, k2 _ r'⟩
        · exact absurd r' (k2 _ k1)
      · omega
    · exact absurd hR hn
  · rcases hF' with ⟨h, _⟩ | ⟨_, rfl⟩
    · exact absurd h hR
    · exact ⟨rfl, fun i hi => by cases hi⟩
theorem il_turn {w w' : World} {A : Option Addr} {n cap : Nat} {f : Nat → Int} {F F' : Nat → Prop} (h : Il w.heap.size w A n cap f) (ht : Turn F F' w w') (hA : ∀ p, A = some p → ¬ F p.block) : Il w'.heap.size w' A n cap f :=
  ⟨h.le, h.max, h.nil, fun hn => by
    obtain ⟨g, off, e, hg, hc⟩ := h.cell hn
    exact ⟨g, off, e, Nat.lt_of_lt_of_le hg ht.size, fun j hj => (World.cell?_of_block (w := w) (a := ⟨g, off + j, none⟩) (ht.block g hg (hA _ e))).trans (hc j hj)⟩⟩
end Sp
end Go.Proofs.YtinkpeliinofoaaDoor
namespace Go.Proofs.YtinkpeliinofoaaDoor
open Go.RowKit Fl Pt
open Sp
open Wn (Tab TF frees isT Ordw IW Wt wcl plc Rising RT Rt R3 tkn rtk tk upd)

/-- The case's box, and all that was there before. -/
structure Cx (w : World) (W H : Int) (s : ByteArray) (A : Option Addr) (n cap : Nat) (fr tz st ah : Int) (w' : World) : Prop where
  box : Cb w.heap.size W H s A n cap fr tz st ah w'
  below : Below w.heap.size w w'
theorem Cx.after {w w1 w2 : World} {W H : Int} {s : ByteArray} {A : Option Addr} {n cap : Nat} {fr tz st ah : Int} (h : Cx w W H s A n cap fr tz st ah w1) (hb : Below w1.heap.size w1 w2) : Cx w W H s A n cap fr tz st ah w2 :=
  ⟨h.box.later hb, h.below.trans (hb.mono h.below.size)⟩
theorem Cx.start (w : World) (W H : Int) (s : ByteArray) (A : Option Addr) (n cap : Nat) (fr tz st ah : Int) : Cx w W H s A n cap fr tz st ah (w.alloc (.cells #[.int .i64 W, .int .i64 H, .string s, .slice A n cap, .int .i64 fr, .int .i64 tz, .int .i64 st, .int .i64 ah] 26)) :=
  ⟨Cb.new w W H s A n cap fr tz st ah, (Below.refl _ _).alloc (Nat.le_refl _) _⟩
theorem il_at7 {B : Nat} {w : World} {A : Option Addr} {n cap : Nat} {F : List Int} (h : Il B w A n cap (fun j => F.getD j 0)) {k : Nat} (hk : k < n) : ∃ g off, A = some ⟨g, off, none⟩ ∧ g < B ∧ w.cell? ⟨g, off + k, none⟩ = some (.int .i64 (F.getD k 0)) := by
  obtain ⟨g, off, e, hg, hc⟩ := h.cell (by omega)
  exact ⟨g, off, e, hg, hc k hk⟩
theorem two_tn {w0 wr : World} {tb rb j : Nat} (h : Two7 w0 tb rb j wr) : w0.heap.size ≤ tb ∧ ∃ tN mv T tg, Tk wr tb tb tN mv T tg ∧ tN ≤ j := by
  obtain ⟨tN, mv, T, tg, A, c, R, h1, h2, h3, h4, h5⟩ := h.ex
  exact ⟨h.lo.1, tN, mv, T, tg, h1, h2⟩
/-- All that a round keeps. -/
structure Mz (w : World) (W H : Int) (s : ByteArray) (A : Option Addr) (n cap : Nat) (fr tz st ah : Int) (tb : Nat) (T : Int → List (Int × Int)) (A5 : Option Addr) (n5 k5 : Nat) (F : List Int) (j : Nat) (w' : World) : Prop where
  cx : Cx w W H s A n cap fr tz st ah w'
  f : Il w'.heap.size w' A5 n5 k5 (fun j => F.getD j 0)
  tab : ∃ tN mv T' tg, Tk w' tb tb tN mv T' tg ∧ tN ≤ 60 + j ∧ (∀ y m, isT (T' y) m = true → isT (T y) m = true) ∧ ∀ p, A5 = some p → ¬ TF tb mv T' tg p.block ∧ p.block < w'.heap.size
  lo : w.heap.size < tb
theorem Mz.later {w : World} {W H : Int} {s : ByteArray} {A : Option Addr} {n cap : Nat} {fr tz st ah : Int} {tb : Nat} {T : Int → List (Int × Int)} {A5 : Option Addr} {n5 k5 : Nat} {F : List Int} {j : Nat} {w1 w2 : World} (h : Mz w W H s A n cap fr tz st ah tb T A5 n5 k5 F j w1) (hb : Below w1.heap.size w1 w2) : Mz w W H s A n cap fr tz st ah tb T A5 n5 k5 F j w2 := by
  obtain ⟨tN, mv, T', tg, h1, h2, h3, h4⟩ := h.tab
  exact ⟨h.cx.after hb, (h.f.below hb).raise hb.size, ⟨tN, mv, T', tg, h1.later hb, h2, h3, fun p hp => ⟨(h4 p hp).1, Nat.lt_of_lt_of_le (h4 p hp).2 hb.size⟩⟩, h.lo⟩
theorem Mz.more {w : World} {W H : Int} {s : ByteArray} {A : Option Addr} {n cap : Nat} {fr tz st ah : Int} {tb : Nat} {T : Int → List (Int × Int)} {A5 : Option Addr} {n5 k5 : Nat} {F : List Int} {j j' : Nat} {w1 : World} (h : Mz w W H s A n cap fr tz st ah tb T A5 n5 k5 F j w1) (hj : j ≤ j') : Mz w W H s A n cap fr tz st ah tb T A5 n5 k5 F j' w1 := by
  obtain ⟨tN, mv, T', tg, h1, h2, h3, h4⟩ := h.tab
  exact ⟨h.cx, h.f, ⟨tN, mv, T', tg, h1, by omega, h3, h4⟩, h.lo⟩
/-- Take, of the program's table. -/
theorem Mz.take {w : World} {W H : Int} {s : ByteArray} {A : Option Addr} {n cap : Nat} {fr tz st ah : Int} {tb : Nat} {T : Int → List (Int × Int)} {A5 : Option Addr} {n5 k5 : Nat} {F : List Int} {j : Nat} {wr : World} (h : Mz w W H s A n cap fr tz st ah tb T A5 n5 k5 F j wr) (hj : j < 100) {x a b : Int} (hx : IW x) :
    Calls Tryd.prog 10 #[.pointer (some ⟨tb, 0, none⟩), .int .i64 x, .agg #[.int .i64 a, .int .i64 b]] wr fun e w1 => (∃ n, e = .returned (.int .i64 n)) ∧ Mz w W H s A n cap fr tz st ah tb T A5 n5 k5 F (j + 1) w1 := by
  obtain ⟨tN, mv, T', tg, h1, h2, h3, h4⟩ := h.tab
  refine (Wn.take_any tb tb tN mv T' tg x a b wr h1.tab hx (by omega) (h1.ord x)).mono ?_
  rintro e w1 ⟨rfl, mv', gb', ht, hu⟩
  have hft := fun k hk => (h1.tab.foot k hk).1
  have hlo := h.lo
  have hB : Below (w.heap.size + 1) wr w1 := hu.below _ (by have := lt_of_heap h.cx.box.row; omega) (fun k hk => by have := hft k hk; omega)
  refine ⟨⟨_, rfl⟩, ⟨h.cx.box.low hB (Nat.lt_succ_self _), h.cx.below.trans (hB.mono (Nat.le_succ _))⟩, il_turn h.f hu (fun p hp => (h4 p hp).1), ⟨tN + 1, mv', _, gb', ⟨ht, fun y => Wn.upd_ord h1.ord (Wn.tk_ord (h1.ord x)) y, by omega⟩, by omega, fun y m hm => ?_, fun p hp => ⟨fun hF => ?_, Nat.lt_of_lt_of_le (h4 p hp).2 hu.size⟩⟩, h.lo⟩
  · apply h3
    by_cases e : y = x
    · subst e
      rw [Wn.upd_same] at hm
      exact tk_less (h1.ord y) hm
    · rw [Wn.upd_other _ _ e] at hm
      exact hm
  · rcases hu.foot _ hF with k | k
    · exact (h4 p hp).1 k
    · exact absurd (h4 p hp).2 (by omega)

set_option maxHeartbeats 4000000 in
theorem sippMore_walk (W H : Int) (s : ByteArray) (hs : s.size ≤ maxLen) (A : Option Addr) (n cap : Nat) (L : List R3) (fr tz st ah : Int) (Am : Option Addr) (nm cm : Nat) (M : List R3) (w : World) (hL : Rt w.heap.size w A n cap L) (hx : ∀ j, j < n → IW (L.getD j (0, 0, 0)).1) (hM : Rt w.heap.size w Am nm cm M) (hy : ∀ j, j < nm → IW (M.getD j (0, 0, 0)).1) :
    Calls Tryd.prog 3 #[caseV W H s A n cap fr tz st ah, .slice Am nm cm] w fun e w' => e = .returned (.bool true) ∧ Below w.heap.size w w' := by
  have HSM : Hid (∀ wx, Calls Tryd.prog 8 #[.agg #[.int .i64 W, .int .i64 H, .string s, .slice A n cap, .int .i64 fr, .int .i64 tz, .int .i64 st, .int .i64 ah]] wx fun e w' => e = .returned (.bool (smallB s ah)) ∧ Below wx.heap.size wx w') := Lib.hid (fun wx => small7_any W H s hs A n cap fr tz st ah wx)
  have HTB := Lib.hid (fun wx (hb : Below w.heap.size w wx) => tables7_any A n cap L wx ((hL.below hb).raise hb.size) hx)
  have HSO := Lib.hid (fun tb tN mv T tg wx hT => soon_fresh W H s hs fr st ah tb tb tN mv T tg wx hT)
  have HX0 := Lib.hid (Cx.start w W H s A n cap fr tz st ah)
  have HM := Lib.hid hM
  have HY := Lib.hid hy
  have hsz := hM.size
  have hnm : nm ≤ 9223372036854775807 := by omega
  clear hL hx hs hM hy hsz
  unfold caseV
  go_enter Tryd.func3, Tryd.ntmps3
  go_wp2_with fail
  refine (shown7_any _).mono ?_
  rintro e w1 ⟨rfl, hb1⟩
  have HX1 := Lib.hid (HX0.out.after hb1)
  have HZ1 : Hid (w.heap.size < w1.heap.size) := Lib.hid (Nat.lt_of_lt_of_le (lt_of_heap HX0.out.box.row) hb1.size)
  have c3 := HX1.out.box.c3
  clear hb1
  go_wp2_with fail
  refine (HTB.out _ HX1.out.below).mono ?_
  rintro e w2 ⟨tb, rb, rfl, h2⟩
  have HX2 := Lib.hid (HX1.out.after h2.below)
  have H2 := Lib.hid h2
  have c0 := HX2.out.box.c0
  have c1 := HX2.out.box.c1
  have c2 := HX2.out.box.c2
  have c3 := HX2.out.box.c3
  have c4 := HX2.out.box.c4
  have c5 := HX2.out.box.c5
  have c6 := HX2.out.box.c6
  have c7 := HX2.out.box.c7
  clear h2
  go_wp2_with fail
  refine (HSM.out _).mono ?_
  rintro e w3 ⟨rfl, hb3⟩
  have HX3 := Lib.hid (HX2.out.after hb3)
  have H3 := Lib.hid (H2.out.later hb3)
  clear hb3 c0 c1 c2 c3 c4 c5 c6 c7
  by_cases hsm : smallB s ah = true
  · rw [hsm]
    clear hsm
    obtain ⟨hlo, tN, mv, T, tg, hT, hN⟩ := two_tn H3.out
    have HLO : Hid (w.heap.size < tb) := Lib.hid (Nat.lt_of_lt_of_le HZ1.out hlo)
    have HT := Lib.hid hT
    have HN := Lib.hid hN
    have c0 := HX3.out.box.c0
    have c1 := HX3.out.box.c1
    have c2 := HX3.out.box.c2
    have c4 := HX3.out.box.c4
    have c6 := HX3.out.box.c6
    have c7 := HX3.out.box.c7
    clear hT hN hlo
    go_wp2_with fail
    refine (HSO.out _ _ _ _ _ _ HT.out).mono ?_
    rintro e w4 ⟨A5, n5, k5, F, rfl, hn5, hi5, hb5, hf5, hl5, hp5⟩
    have HMZ : Hid (Mz w W H s A n cap fr tz st ah tb T A5 n5 k5 F 0 w4) := Lib.hid ⟨HX3.out.after hb5, hi5, ⟨tN, mv, T, tg, HT.out.later hb5, HN.out, fun y m h => h, fun p hp => ⟨fun hF => by have := (HT.out.tab.foot _ hF).2; have := (hp5 p hp).1; omega, (hp5 p hp).2⟩⟩, HLO.out⟩
    have HN5 := Lib.hid hn5
    have HF5 := Lib.hid hf5
    have hz5 := hl5
    have hz6 := hi5.le
    have hz7 := hi5.max
    clear hn5 hi5 hb5 hf5 hl5 hp5 c0 c1 c2 c4 c6 c7 HX0 HX1 HX2 HX3 H2 H3 HSM HTB
    go_wp2_with fail
    go_loopw [45] (fun iv wr => ∃ j : Nat, j ≤ nm ∧ iv = .int .i64 (j : Int) ∧ Hid (Mz w W H s A n cap fr tz st ah tb T A5 n5 k5 F (min j 60) wr)) (fun iv _ => nm - (intOf iv).toNat)
    case atStart => exact ⟨0, Nat.zero_le _, rfl, HMZ⟩
    case round =>
      rename World => wr
      obtain ⟨j, hj, rfl, HK⟩ := hrel
      by_cases hlt : j < nm
      · obtain ⟨gl, off, rfl, hgl, hcell⟩ := (HM.out.below HK.out.cx.below).cell (by omega)
        obtain ⟨e1, e2, e3⟩ := hcell j hlt
        have hjI : (j : Int) < (nm : Int) := by omega
        have hix := HY.out j hlt
        generalize M.getD j (0, 0, 0) = q at *
        obtain ⟨x, y, z⟩ := q
        have HA := Lib.hid ((Below.refl wr.heap.size wr).alloc (Nat.le_refl _) (.cells #[.int .i64 x, .int .i64 y, .int .i64 z] 38))
        have HBQ := Lib.hid (Br.new wr x y z)
        have HKQ := Lib.hid (HK.out.later HA.out)
        obtain ⟨b1, b2, b3, b4⟩ := HBQ.out.cells
        by_cases h60 : j < 60
        · have hd : decide ((j : Int) < 60) = true := decide_eq_true (by omega)
          have HTK := Lib.hid (HKQ.out.take (x := x) (a := y) (b := z) (by omega) hix)
          have HJ2 : Hid (min j 60 + 1 ≤ min (j + 1) 60) := Lib.hid (by omega)
          clear hcell
          go_wp2_with fail
          generalize wr.alloc (.cells #[.int .i64 x, .int .i64 y, .int .i64 z] 38) = wq at *
          refine HTK.out.mono ?_
          rintro e w6 ⟨⟨nn, rfl⟩, hk6⟩
          have HK6 := Lib.hid (hk6.more HJ2.out)
          clear hk6
          go_wp2_with fail
          go_roundw
          case rel =>
            first
            | exact ⟨j + 1, by omega, by go_num, HK6⟩
            | ((repeat apply Exists.intro); exact ⟨⟨j + 1, by omega, by go_num, HK6⟩, rfl⟩)
          case measure => simp [intOf]; omega
        · have hd : decide ((j : Int) < 60) = false := decide_eq_false (by omega)
          have HK6 : Hid (Mz w W H s A n cap fr tz st ah tb T A5 n5 k5 F (min (j + 1) 60) (wr.alloc (.cells #[.int .i64 x, .int .i64 y, .int .i64 z] 38))) := Lib.hid (HKQ.out.more (by omega))
          clear hcell
          go_wp2_with fail
          go_roundw
          case rel =>
            first
            | exact ⟨j + 1, by omega, by go_num, HK6⟩
            | ((repeat apply Exists.intro); exact ⟨⟨j + 1, by omega, by go_num, HK6⟩, rfl⟩)
          case measure => simp [intOf]; omega
      · obtain rfl : j = nm := by omega
        obtain ⟨uN, mu, T', ug, hT', _, hmo, hpo⟩ := HK.out.tab
        have HT7 := Lib.hid hT'
        have HMO := Lib.hid hmo
        have c0 := HK.out.cx.box.c0
        have c1 := HK.out.cx.box.c1
        have c2 := HK.out.cx.box.c2
        have c4 := HK.out.cx.box.c4
        have c6 := HK.out.cx.box.c6
        have c7 := HK.out.cx.box.c7
        clear hT' hmo hpo
        go_wp2_with fail
        refine (HSO.out _ _ _ _ _ _ HT7.out).mono ?_
        rintro e w8 ⟨A6, n6, k6, G, rfl, hn6, hi6, hb6, hf6, hl6, _⟩
        obtain ⟨hml, hms⟩ := more_sn HT.out.ord HT7.out.ord HMO.out HF5.out hf6
        have HMS := Lib.hid hms
        obtain rfl : n6 = n5 := by rw [hn6, HN5.out, hml]
        have HX8 := Lib.hid (HK.out.cx.below.trans (hb6.mono HK.out.cx.below.size))
        have HI5 := Lib.hid ((HK.out.f.below hb6).raise hb6.size)
        have HI6 := Lib.hid hi6
        have hy6 := hi6.le
        clear hn6 hi6 hb6 hf6 hl6 hml hms c0 c1 c2 c4 c6 c7 HMZ HK
        go_wp2_with fail
        go_loopw [76] (fun iv wr => ∃ i : Nat, i ≤ n6 ∧ iv = .int .i64 (i : Int) ∧ Hid (Below w8.heap.size w8 wr)) (fun iv _ => n6 - (intOf iv).toNat)
        case atStart => exact ⟨0, Nat.zero_le _, rfl, Lib.hid (Below.refl _ _)⟩
        case round =>
          rename World => wy
          obtain ⟨i, hi, rfl, HB⟩ := hrel
          by_cases hlt : i < n6
          · obtain ⟨g5, o5, rfl, hg5, q5⟩ := il_at7 (HI5.out.below HB.out) hlt
            obtain ⟨g6, o6, rfl, hg6, q6⟩ := il_at7 (HI6.out.below HB.out) hlt
            have hse := HMS.out i (by rw [← HN5.out]; exact hlt)
            generalize F.getD i 0 = av at *
            generalize G.getD i 0 = bv at *
            have hy0 : (0 : Int) ≤ (i : Int) := by omega
            have hy1 : (i : Int) < (n6 : Int) := by omega
            by_cases hp : 0 ≤ bv
            · obtain ⟨t1, t2⟩ := hse hp
              have hd1 : decide (0 ≤ bv) = true := decide_eq_true hp
              have hd2 : decide (av < 0) = false := decide_eq_false (by omega)
              have hd3 : decide (bv < av) = false := decide_eq_false (by omega)
              clear hse t1 t2 hp
              go_wp2_with fail
              go_big_quiet (fail)
              go_wp2_with fail
              go_roundw
              case rel =>
                first
                | exact ⟨i + 1, by omega, by go_num, Lib.hid (HB.out.trans ((below_drewN _ _ _)))⟩
                | ((repeat apply Exists.intro); exact ⟨⟨i + 1, by omega, by go_num, Lib.hid (HB.out.trans ((below_drewN _ _ _)))⟩, rfl⟩)
              case measure => simp [intOf]; omega
            · have hd1 : decide (0 ≤ bv) = false := decide_eq_false hp
              clear hse hp
              go_wp2_with fail
              go_big_quiet (fail)
              go_wp2_with fail
              go_roundw
              case rel =>
                first
                | exact ⟨i + 1, by omega, by go_num, Lib.hid (HB.out.trans ((below_drewN _ _ _)))⟩
                | ((repeat apply Exists.intro); exact ⟨⟨i + 1, by omega, by go_num, Lib.hid (HB.out.trans ((below_drewN _ _ _)))⟩, rfl⟩)
              case measure => simp [intOf]; omega
          · obtain rfl : i = n6 := by omega
            have HEND := Lib.hid (HX8.out.trans (HB.out.mono HX8.out.size))
            go_wp2_with fail
            go_ret
            exact ⟨rfl, HEND.out⟩
  · have hsm : smallB s ah = false := by simpa using hsm
    rw [hsm]
    go_wp2_with fail
    go_ret
    exact ⟨rfl, HX3.out.below⟩
end Go.Proofs.YtinkpeliinofoaaDoor
