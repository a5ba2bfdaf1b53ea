/-
  SippFree: on a floor that is free; the walk.
-/
import Derived.Test.YtinkpeliinofoaaGreatDoorSpLaw
import Derived.Deep.RegionHeld3
import Derived.BigQuiet
set_option linter.unusedVariables false
namespace Go.Proofs.YtinkpeliinofoaaGreatDoor
namespace Sp
open Go.RowKit Fl Pt
open Wn (Tab TF frees isT Ordw IW Wt wcl plc Rising)

/-- In a free cell a robot can be at each moment to come. -/
theorem in_free {fs : Bool} {t0 m : Int} (h0 : 0 ≤ t0) (h : t0 < m) (h1 : m < 1048576) {c : Nat} : In (opn fs t0 (frees (T0 (c : Int)))) m := by
  rw [opn_in h, in_frees (ord0 _), Wn.isT_in (ord0 _)]
  have : T0 (c : Int) = [] := rfl
  rw [this]
  simp [Wn.inW, show 0 ≤ m by omega, h1]
theorem free_go {W H a : Nat} {s : ByteArray} {t0 : Int} (h0 : 0 ≤ t0) {k c : Nat} (w : Wk (nx5 W H (at_ s) a fun _ => false) a k c) : t0 + (k : Int) < 1048576 → (envOf W H a s t0 T0).R (t0 + (k : Int)) c := by
  induction w with
  | zero =>
    intro _
    rw [show t0 + ((0 : Nat) : Int) = t0 by omega]
    exact Env.R.start (e := envOf W H a s t0 T0)
  | @step n b c w hb ih =>
    intro h1
    rw [mem_nx5] at hb
    have r := ih (by omega)
    rw [show t0 + ((n + 1 : Nat) : Int) = (t0 + (n : Int)) + 1 by omega]
    refine .go r ?_ hb.2.1 ?_
    · exact outB_iff.2 hb.1
    · exact in_free h0 (by omega) (by omega)
theorem free_stay {W H a : Nat} {s : ByteArray} {t0 : Int} (h0 : 0 ≤ t0) {c : Nat} : ∀ (j : Nat) {m : Int}, t0 ≤ m → (envOf W H a s t0 T0).R m c → m + (j : Int) < 1048576 → (envOf W H a s t0 T0).R (m + (j : Int)) c
  | 0, m, _, r, _ => by simpa using r
  | j + 1, m, hm, r, h1 => by
    have := free_stay h0 j hm r (by omega)
    rw [show m + ((j + 1 : Nat) : Int) = (m + (j : Int)) + 1 by omega]
    exact .stay this (in_free h0 (by omega) (by omega))
/-- When each cell is reached on a free floor. -/
theorem sn_free {W H : Int} {s : ByteArray} {fr t0 : Int} (hR : Rt7 W H s fr t0) (hS : t0 ≤ 524288) {ah : Int} (ha0 : 0 ≤ ah) (ha : ah ≤ 60) {c : Nat} {m d : Int} (hd : IsD (nx5 W.toNat H.toNat (at_ s) fr.toNat fun _ => false) fr.toNat c d)
    (h : IsSn (envOf W.toNat H.toNat fr.toNat s t0 T0) (t0 + ah) c m) : m = if 0 ≤ d ∧ d ≤ ah then t0 + d else -1 := by
  obtain ⟨p, pf, pe, ps, pT, pt, pa, pW, pH⟩ := fit_of hR ord0 few0
  have h0 : 0 ≤ t0 := hR.2.1
  have hw : ∀ t, (envOf W.toNat H.toNat fr.toNat s t0 T0).R t c → ∃ k : Nat, t0 + (k : Int) ≤ t ∧ Wk (nx5 W.toNat H.toNat (at_ s) fr.toNat fun _ => false) fr.toNat k c := fun t r => by
    rw [← pe] at r
    have := pf.walk r
    rwa [pW, pH, ps, pa, pt] at this
  rcases hd with ⟨rfl, hn⟩ | ⟨n, rfl, hn⟩
  · rw [if_neg (by omega)]
    rcases h with ⟨r, _⟩ | ⟨e, _⟩
    · obtain ⟨k, _, k2⟩ := hw m r
      exact absurd k2 (hn k)
    · exact e
  · by_cases hna : (n : Int) ≤ ah
    · rw [if_pos ⟨by omega, hna⟩]
      have r := free_go h0 hn.1 (by omega)
      rcases h with ⟨r1, h1, h2⟩ | ⟨e, h1⟩
      · obtain ⟨k, k1, k2⟩ := hw m r1
        have := hn.2 k k2
        have := h2 _ r
        omega
      · exact absurd r (h1 _ (by omega))
    · rw [if_neg (by omega)]
      rcases h with ⟨r1, h1, h2⟩ | ⟨e, _⟩
      · obtain ⟨k, k1, k2⟩ := hw m r1
        have := hn.2 k k2
        omega
      · exact e
/-- A shortest way on a free floor waits nowhere. -/
theorem bk_free {W H : Int} {s : ByteArray} {fr t0 : Int} (hR : Rt7 W H s fr t0) (hS : t0 ≤ 524288) {last : Int} (hl : last ≤ 600000) {cn : Int → Nat → Bool} (h : (envOf W.toNat H.toNat fr.toNat s t0 T0).Cn last cn) :
    ∀ (n c : Nat), t0 + (n : Int) ≤ last → Lv (nx5 W.toNat H.toNat (at_ s) fr.toNat fun _ => false) fr.toNat n c → ((envOf W.toNat H.toNat fr.toNat s t0 T0).bk cn n c).length = n ∧ ∀ i, i < n → (((envOf W.toNat H.toNat fr.toNat s t0 T0).bk cn n c).getD i (0, 0)).2 = t0 + (i : Int) + 1 := by
  obtain ⟨p, pf, pe, ps, pT, pt, pa, pW, pH⟩ := fit_of hR ord0 few0
  have h0 : 0 ≤ t0 := hR.2.1
  have hw : ∀ t c, (envOf W.toNat H.toNat fr.toNat s t0 T0).R t c → ∃ k : Nat, t0 + (k : Int) ≤ t ∧ Wk (nx5 W.toNat H.toNat (at_ s) fr.toNat fun _ => false) fr.toNat k c := fun t c r => by
    rw [← pe] at r
    have := pf.walk r
    rwa [pW, pH, ps, pa, pt] at this
  intro n
  induction n with
  | zero => intro c _ _; exact ⟨rfl, fun i hi => by omega⟩
  | succ n ih =>
    intro c hl1 hv
    have r : (envOf W.toNat H.toNat fr.toNat s t0 T0).R (t0 + ((n + 1 : Nat) : Int)) c := free_go h0 hv.1 (by omega)
    have hc := r.lt h.ok
    have e1 : t0 + ((n + 1 : Nat) : Int) - 1 = t0 + (n : Int) := by omega
    have hm : (envOf W.toNat H.toNat fr.toNat s t0 T0).t0 < t0 + ((n + 1 : Nat) : Int) := by show t0 < _; omega
    have hst : (envOf W.toNat H.toNat fr.toNat s t0 T0).stl (t0 + ((n + 1 : Nat) : Int)) c = false := by
      unfold Env.stl
      have : (c == (envOf W.toNat H.toNat fr.toNat s t0 T0).a) = false := by
        rw [beq_eq_false_iff_ne]
        intro e
        have e : c = fr.toNat := e
        subst e
        have := hv.2 0 .zero
        omega
      rw [this]; rfl
    cases ho : (envOf W.toNat H.toNat fr.toNat s t0 T0).org cn (t0 + ((n + 1 : Nat) : Int)) c with
    | none =>
      have r1 := h.org_none hm hl1 hc ho r
      rw [e1] at r1
      obtain ⟨k, k1, k2⟩ := hw _ _ r1
      have := hv.2 k k2
      omega
    | some d =>
      obtain ⟨hd, hdn, hlv, rd⟩ := h.org_some hm hl1 hc ho
      rw [e1] at rd
      have hcd := h.sym _ c d r hdn
      obtain ⟨k, k1, k2⟩ := hw _ _ rd
      have hstep : ∀ j, Wk (nx5 W.toNat H.toNat (at_ s) fr.toNat fun _ => false) fr.toNat j d → n ≤ j := fun j w => by
        have := hv.2 (j + 1) (.step w (mem_nx5.2 ⟨outB_iff.1 hlv, hcd, rfl⟩))
        omega
      have hk := hstep k k2
      obtain rfl : k = n := by omega
      obtain ⟨i1, i2⟩ := ih d (by omega) ⟨k2, hstep⟩
      have hb : (envOf W.toNat H.toNat fr.toNat s t0 T0).bk cn (k + 1) c = (envOf W.toNat H.toNat fr.toNat s t0 T0).bk cn k d ++ [(c, t0 + ((k + 1 : Nat) : Int))] := by
        rw [Env.bk]
        have hst' : (envOf W.toNat H.toNat fr.toNat s t0 T0).stl ((envOf W.toNat H.toNat fr.toNat s t0 T0).t0 + ((k + 1 : Nat) : Int)) c = false := hst
        have ho' : (envOf W.toNat H.toNat fr.toNat s t0 T0).org cn ((envOf W.toNat H.toNat fr.toNat s t0 T0).t0 + ((k + 1 : Nat) : Int)) c = some d := ho
        rw [hst', ho']
        rfl
      rw [hb]
      refine ⟨by rw [List.length_append, i1]; rfl, fun i hi => ?_⟩
      by_cases hik : i < k
      · rw [List.getD_eq_getElem?_getD, List.getElem?_append_left (by omega), ← List.getD_eq_getElem?_getD]
        exact i2 i hik
      · obtain rfl : i = k := by omega
        rw [List.getD_eq_getElem?_getD, List.getElem?_append_right (by omega), i1, Nat.sub_self]
        show t0 + ((i + 1 : Nat) : Int) = _
        omega
/-- All that SippFree asks. -/
structure Fr7 (W H : Int) (s : ByteArray) (fr st tz ah : Int) (P : List (Int × Int)) (er : Int) (F D : List Int) : Prop where
  len : F.length = D.length
  same : ∀ i, i < F.length → F.getD i 0 = if 0 ≤ D.getD i 0 ∧ D.getD i 0 ≤ ah then st + D.getD i 0 else -1
  none : er ≠ 0 → P = []
  time : ∀ i, i < P.length → (P.getD i (0, 0)).2 = st + (i : Int) + 1
  last : er = 0 → 0 ≤ tz ∧ tz < (D.length : Int) ∧ D.getD tz.toNat 0 = (P.length : Int)
theorem castS_get (l : List (Nat × Int)) (i : Nat) : ((castS l).getD i (0, 0)).2 = (l.getD i (0, 0)).2 := by
  unfold castS
  rw [List.getD_eq_getElem?_getD, List.getD_eq_getElem?_getD, List.getElem?_map]
  cases l[i]? <;> rfl
theorem fr_of {W H : Int} {s : ByteArray} {fr st tz ah : Int} {P : List (Int × Int)} {er : Int} {F D : List Int} (h0 : 0 ≤ st) (hS : st ≤ 524288) (ha0 : 0 ≤ ah) (ha : ah ≤ 60) (hP : PlanIs W H s fr st tz ah T0 P er) (hF : SoonIs W H s fr st ah T0 F)
    (hD1 : OnFloor W H s fr → D.length = s.size ∧ ∀ x, x < s.size → IsD (nx5 W.toNat H.toNat (at_ s) fr.toNat fun _ => false) fr.toNat x (D.getD x 0)) (hD2 : ¬ OnFloor W H s fr → D = []) : Fr7 W H s fr st tz ah P er F D := by
  by_cases hO : OnFloor W H s fr
  · have hR : Rc7 W H s fr st ah := ⟨⟨hO, h0, by omega⟩, ha0, by omega⟩
    obtain ⟨hl, hDi⟩ := hD1 hO
    rcases hF with ⟨_, hfl, hF⟩ | ⟨hn, _⟩
    · have hpl : er = 0 → ∃ k : Nat, tz = (k : Int) ∧ k < s.size ∧ ∃ N : Nat, ∃ l : List (Nat × Int), D.getD k 0 = (N : Int) ∧ P = castS l ∧ l.length = N ∧ ∀ i, i < N → (l.getD i (0, 0)).2 = st + (i : Int) + 1 := fun he => by
        rcases hP with ⟨_, _, e⟩ | ⟨_, h2, ⟨_, e, _⟩ | ⟨_, N, cn, h3, h4, h5, h6⟩⟩
        · rw [he] at e; cases e
        · rw [he] at e; cases e
        · obtain ⟨_, _, k, _, _, e, hk, _⟩ := onFloor_some h2
          subst e
          rw [Int.toNat_natCast] at h4 h6
          have hdk := hDi k hk
          have hs := sn_free hR.1 hS ha0 ha hdk h4
          have hdN : D.getD k 0 = (N : Int) := by
            split at hs
            · omega
            · omega
          rw [hdN] at hdk
          have hlv : Lv (nx5 W.toNat H.toNat (at_ s) fr.toNat fun _ => false) fr.toNat N k := by
            rcases hdk with ⟨e, _⟩ | ⟨n, e, hn⟩
            · omega
            · obtain rfl : N = n := by omega
              exact hn
          obtain ⟨b1, b2⟩ := bk_free hR.1 hS (last := st + ah) (by omega) h5 N k (by omega) hlv
          exact ⟨k, rfl, hk, N, _, hdN, h6, b1, b2⟩
      refine ⟨by omega, fun i hi => ?_, fun he => ?_, fun i hi => ?_, fun he => ?_⟩
      · exact sn_free hR.1 hS ha0 ha (hDi i (by omega)) (hF i (by omega))
      · rcases hP with ⟨_, e, _⟩ | ⟨_, _, ⟨e, _, _⟩ | ⟨e, _⟩⟩
        · exact e
        · exact e
        · exact absurd e he
      · by_cases he : er = 0
        · obtain ⟨k, _, _, N, l, _, rfl, hl1, hl2⟩ := hpl he
          rw [castS_get]
          exact hl2 i (by rw [← hl1]; simpa [castS] using hi)
        · rcases hP with ⟨_, e, _⟩ | ⟨_, _, ⟨e, _, _⟩ | ⟨e, _⟩⟩
          · rw [e] at hi; cases hi
          · rw [e] at hi; cases hi
          · exact absurd e he
      · obtain ⟨k, rfl, hk, N, l, hd, rfl, hl1, hl2⟩ := hpl he
        refine ⟨by omega, by omega, ?_⟩
        rw [Int.toNat_natCast, hd]
        simp [castS, hl1]
    · exact absurd hR hn
  · have hR : ¬ Rc7 W H s fr st ah := fun h => hO h.1.1
    obtain rfl := hD2 hO
    rcases hF with ⟨h, _⟩ | ⟨_, rfl⟩
    · exact absurd h hR
    · rcases hP with ⟨_, rfl, rfl⟩ | ⟨h, _⟩
      · refine ⟨rfl, fun i hi => ?_, fun _ => rfl, fun i hi => ?_, fun e => ?_⟩
        · cases hi
        · cases hi
        · cases e
      · exact absurd h hR
theorem so_free {W H : Int} {s : ByteArray} {fr st ah : Int} {F D : List Int} (h0 : 0 ≤ st) (hS : st ≤ 524288) (ha0 : 0 ≤ ah) (ha : ah ≤ 60) (hF : SoonIs W H s fr st ah T0 F)
    (hD1 : OnFloor W H s fr → D.length = s.size ∧ ∀ x, x < s.size → IsD (nx5 W.toNat H.toNat (at_ s) fr.toNat fun _ => false) fr.toNat x (D.getD x 0)) (hD2 : ¬ OnFloor W H s fr → D = []) : F.length = D.length ∧ ∀ i, i < F.length → F.getD i 0 = if 0 ≤ D.getD i 0 ∧ D.getD i 0 ≤ ah then st + D.getD i 0 else -1 := by
  by_cases hO : OnFloor W H s fr
  · have hR : Rc7 W H s fr st ah := ⟨⟨hO, h0, by omega⟩, ha0, by omega⟩
    have := fr_of h0 hS ha0 ha (tz := -1) (P := []) (er := 1) (.inl ⟨fun h => by obtain ⟨_, _, _, _, _, e, _⟩ := onFloor_some h.2; omega, rfl, rfl⟩) hF hD1 hD2
    exact ⟨this.len, this.same⟩
  · have := fr_of h0 hS ha0 ha (tz := -1) (P := []) (er := 1) (.inl ⟨fun h => hO h.1.1.1, rfl, rfl⟩) hF hD1 hD2
    exact ⟨this.len, this.same⟩
end Sp
end Go.Proofs.YtinkpeliinofoaaGreatDoor
set_option maxRecDepth 100000
namespace Go.Proofs.YtinkpeliinofoaaGreatDoor
open Go.RowKit Fl Pt
open Sp
open Wn (Tab TF frees isT Ordw IW Wt wcl plc Rising RT Rt R3 tkn rtk tk upd)

/-- The case's box, and all that was there before. -/
structure Cx (w : World) (W H : Int) (s : ByteArray) (A : Option Addr) (n cap : Nat) (fr tz st ah : Int) (w' : World) : Prop where
  box : Cb w.heap.size W H s A n cap fr tz st ah w'
  below : Below w.heap.size w w'
theorem Cx.after {w w1 w2 : World} {W H : Int} {s : ByteArray} {A : Option Addr} {n cap : Nat} {fr tz st ah : Int} (h : Cx w W H s A n cap fr tz st ah w1) (hb : Below w1.heap.size w1 w2) : Cx w W H s A n cap fr tz st ah w2 :=
  ⟨h.box.later hb, h.below.trans (hb.mono h.below.size)⟩
theorem Cx.start (w : World) (W H : Int) (s : ByteArray) (A : Option Addr) (n cap : Nat) (fr tz st ah : Int) : Cx w W H s A n cap fr tz st ah (w.alloc (.cells #[.int .i64 W, .int .i64 H, .string s, .slice A n cap, .int .i64 fr, .int .i64 tz, .int .i64 st, .int .i64 ah] 26)) :=
  ⟨Cb.new w W H s A n cap fr tz st ah, (Below.refl _ _).alloc (Nat.le_refl _) _⟩
theorem il_at7 {B : Nat} {w : World} {A : Option Addr} {n cap : Nat} {F : List Int} (h : Il B w A n cap (fun j => F.getD j 0)) {k : Nat} (hk : k < n) : ∃ g off, A = some ⟨g, off, none⟩ ∧ g < B ∧ w.cell? ⟨g, off + k, none⟩ = some (.int .i64 (F.getD k 0)) := by
  obtain ⟨g, off, e, hg, hc⟩ := h.cell (by omega)
  exact ⟨g, off, e, hg, hc k hk⟩
/-- All that a round keeps. -/
structure Fs (w : World) (W H : Int) (s : ByteArray) (A : Option Addr) (n cap : Nat) (fr tz st ah : Int) (tb : Nat) (A5 : Option Addr) (n5 k5 : Nat) (F : List Int) (A6 : Option Addr) (k6 : Nat) (D : List Int) (w' : World) : Prop where
  cx : Cx w W H s A n cap fr tz st ah w'
  tk : Tk w' tb tb 0 none T0 (fun _ => 0)
  f : Il w'.heap.size w' A5 n5 k5 (fun j => F.getD j 0)
  d : Il w'.heap.size w' A6 n5 k6 (fun j => D.getD j 0)
theorem Fs.after {w w1 w2 : World} {W H : Int} {s : ByteArray} {A : Option Addr} {n cap : Nat} {fr tz st ah : Int} {tb : Nat} {A5 : Option Addr} {n5 k5 : Nat} {F : List Int} {A6 : Option Addr} {k6 : Nat} {D : List Int} (h : Fs w W H s A n cap fr tz st ah tb A5 n5 k5 F A6 k6 D w1) (hb : Below w1.heap.size w1 w2) : Fs w W H s A n cap fr tz st ah tb A5 n5 k5 F A6 k6 D w2 :=
  ⟨h.cx.after hb, h.tk.later hb, (h.f.below hb).raise hb.size, (h.d.below hb).raise hb.size⟩
structure Gz (w : World) (W H : Int) (s : ByteArray) (A : Option Addr) (n cap : Nat) (fr tz st ah : Int) (A6 : Option Addr) (n5 k6 : Nat) (D : List Int) (A4 : Option Addr) (n4 k4 : Nat) (P : List (Int × Int)) (w' : World) : Prop where
  cx : Cx w W H s A n cap fr tz st ah w'
  d : Il w'.heap.size w' A6 n5 k6 (fun j => D.getD j 0)
  wt : Wt w'.heap.size w' A4 n4 k4 P
theorem Gz.after {w w1 w2 : World} {W H : Int} {s : ByteArray} {A : Option Addr} {n cap : Nat} {fr tz st ah : Int} {A6 : Option Addr} {n5 k6 : Nat} {D : List Int} {A4 : Option Addr} {n4 k4 : Nat} {P : List (Int × Int)} (h : Gz w W H s A n cap fr tz st ah A6 n5 k6 D A4 n4 k4 P w1) (hb : Below w1.heap.size w1 w2) : Gz w W H s A n cap fr tz st ah A6 n5 k6 D A4 n4 k4 P w2 :=
  ⟨h.cx.after hb, (h.d.below hb).raise hb.size, h.wt.later hb⟩

set_option maxHeartbeats 4000000 in
theorem sippFree_walk (W H : Int) (s : ByteArray) (hs : s.size ≤ maxLen) (A : Option Addr) (n cap : Nat) (L : List R3) (fr tz st ah : Int) (w : World) (hL : Rt w.heap.size w A n cap L) (hx : ∀ j, j < n → IW (L.getD j (0, 0, 0)).1) :
    Calls Tryz.prog 7 #[caseV W H s A n cap fr tz st ah] w fun e w' => e = .returned (.bool true) ∧ Below w.heap.size w w' := by
  have HSM : Hid (∀ wx, Calls Tryz.prog 12 #[.agg #[.int .i64 W, .int .i64 H, .string s, .slice A n cap, .int .i64 fr, .int .i64 tz, .int .i64 st, .int .i64 ah]] wx fun e w' => e = .returned (.bool (smallB s ah)) ∧ Below wx.heap.size wx w') := Lib.hid (fun wx => small7_any W H s hs A n cap fr tz st ah wx)
  have HPL := Lib.hid (fun tb tN mv T tg wx hT => plan_any W H s hs fr st tz ah tb tb tN mv T tg wx hT)
  have HSO := Lib.hid (fun tb tN mv T tg wx hT => soon_any W H s hs fr st ah tb tb tN mv T tg wx hT)
  have HDI := Lib.hid (fun wx => dist_any W H s hs fr none 0 0 (fun _ => 0) wx (Il.empty _ _ _))
  have HX0 := Lib.hid (Cx.start w W H s A n cap fr tz st ah)
  clear hL hx hs
  unfold caseV
  go_enter Tryz.func7, Tryz.ntmps7
  go_wp2_with fail
  refine (shown7_any _).mono ?_
  rintro e w1 ⟨rfl, hb1⟩
  have HX1 := Lib.hid (HX0.out.after hb1)
  clear hb1
  have c0 := HX1.out.box.c0
  have c1 := HX1.out.box.c1
  have c2 := HX1.out.box.c2
  have c3 := HX1.out.box.c3
  have c4 := HX1.out.box.c4
  have c5 := HX1.out.box.c5
  have c6 := HX1.out.box.c6
  have c7 := HX1.out.box.c7
  go_wp2_with fail
  refine (HSM.out _).mono ?_
  rintro e w2 ⟨rfl, hb2⟩
  have HX2 := Lib.hid (HX1.out.after hb2)
  clear hb2 c0 c1 c2 c3 c4 c5 c6 c7
  have c0 := HX2.out.box.c0
  have c1 := HX2.out.box.c1
  have c2 := HX2.out.box.c2
  have c4 := HX2.out.box.c4
  have c5 := HX2.out.box.c5
  have c6 := HX2.out.box.c6
  have c7 := HX2.out.box.c7
  by_cases hq : smallB s ah = true ∧ 0 ≤ st ∧ st ≤ 524288 ∧ 0 ≤ ah ∧ ah ≤ 60
  · obtain ⟨hsm, h1, h2, h3, h4⟩ := hq
    rw [hsm]
    have hd1 : decide (st < 0) = false := decide_eq_false (by omega)
    have hd2 : decide (524288 < st) = false := decide_eq_false (by omega)
    have hd3 : decide (ah < 0) = false := decide_eq_false (by omega)
    have hd4 : decide (60 < ah) = false := decide_eq_false (by omega)
    go_wp2_with fail
    refine (Wn.new_any _).mono ?_
    rintro e w3 ⟨rfl, rfl⟩
    have HT3 := Lib.hid (tab0 w2)
    obtain ⟨tb, htb⟩ : ∃ tb, tb = w2.heap.size := ⟨_, rfl⟩
    have HA3 := Lib.hid ((Below.refl w2.heap.size w2).alloc (Nat.le_refl _) (.cells #[.map none] 92))
    have HX3 := Lib.hid (HX2.out.after HA3.out)
    rw [← htb] at HT3 ⊢
    clear HA3 htb c0 c1 c2 c4 c5 c6 c7 hd1 hd2 hd3 hd4
    generalize w2.alloc (.cells #[.map none] 92) = w3 at *
    have c0 := HX3.out.box.c0
    have c1 := HX3.out.box.c1
    have c2 := HX3.out.box.c2
    have c4 := HX3.out.box.c4
    have c6 := HX3.out.box.c6
    have c7 := HX3.out.box.c7
    have HC0 : Hid (∀ wx, Below w3.heap.size w3 wx → wx.cell? ⟨w.heap.size, 0, none⟩ = some (.int .i64 W) ∧ wx.cell? ⟨w.heap.size, 1, none⟩ = some (.int .i64 H) ∧ wx.cell? ⟨w.heap.size, 2, none⟩ = some (.string s) ∧ wx.cell? ⟨w.heap.size, 4, none⟩ = some (.int .i64 fr) ∧ wx.cell? ⟨w.heap.size, 6, none⟩ = some (.int .i64 st) ∧ wx.cell? ⟨w.heap.size, 7, none⟩ = some (.int .i64 ah)) := Lib.hid (fun wx hb => by
      have h := (HX3.out.after hb).box
      exact ⟨h.c0, h.c1, h.c2, h.c4, h.c6, h.c7⟩)
    have HTD := Lib.hid (HT3.out.later (Below.refl w3.heap.size w3).drew)
    go_wp2_with fail
    go_region_held3 (fun w' => w'.cell? ⟨w.heap.size, 0, none⟩ = some (.int .i64 W) ∧ w'.cell? ⟨w.heap.size, 1, none⟩ = some (.int .i64 H) ∧ w'.cell? ⟨w.heap.size, 2, none⟩ = some (.string s) ∧ w'.cell? ⟨w.heap.size, 4, none⟩ = some (.int .i64 fr) ∧ w'.cell? ⟨w.heap.size, 6, none⟩ = some (.int .i64 st) ∧ w'.cell? ⟨w.heap.size, 7, none⟩ = some (.int .i64 ah)) (go_keep)
      ((first
        | (go_at_call 15; refine (HSO.out _ _ _ _ _ _ HTD.out).mono ?_; rintro e w5 ⟨A5, n5, k5, F, rfl, hn5, hi5, hb5, hf5, hl5⟩; have HB5 := Lib.hid ((Below.refl w3.heap.size w3).drew.trans (hb5.mono (by exact (Below.refl w3.heap.size w3).drew.size))); obtain ⟨e0, e1, e2, e4, e6, e7⟩ := HC0.out _ HB5.out; have HF5 := Lib.hid hi5; have HN5 := Lib.hid hn5; have HSI := Lib.hid hf5; have HL5 := Lib.hid hl5; clear hb5 hi5 hn5 hf5 hl5)
        | (go_at_call 25; refine (HDI.out _).mono ?_; rintro e w6 ⟨A6, n6, k6, D, rfl, hn6, hi6, hb6, hd6, hd7⟩; have HB6 := Lib.hid (HB5.out.trans (hb6.mono HB5.out.size)); have HF6 := Lib.hid ((HF5.out.below hb6).raise hb6.size); obtain ⟨e0, e1, e2, e4, e6, e7⟩ := HC0.out _ HB6.out; have HD6 := Lib.hid hi6; have HN6 := Lib.hid hn6; have HDA := Lib.hid hd6; have HDB := Lib.hid hd7; clear hb6 hi6 hn6 hd6 hd7)))
    obtain ⟨hl, hsm⟩ := so_free h1 h2 h3 h4 HSI.out HDA.out HDB.out
    obtain rfl : n6 = n5 := by rw [HN6.out, HN5.out, hl]
    have HSM2 := Lib.hid hsm
    have HDN := Lib.hid HN6.out
    have HT6 := Lib.hid (HT3.out.later HB6.out)
    have HFS : Hid (Fs w W H s A n cap fr tz st ah tb A5 n6 k5 F A6 k6 D w6) := Lib.hid ⟨HX3.out.after HB6.out, HT6.out, HF6.out, HD6.out⟩
    have hz5 := HL5.out
    have hz6 := HD6.out.le
    have hz7 := HF6.out.le
    clear hl hsm HX0 HX1 HX2 HX3 HT3 HTD HB5 HB6 HF5 HF6 HD6 HN6 HT6 HC0 HSM HSO HDI c0 c1 c2 c4 c6 c7 e0 e1 e2 e4 e6 e7
    go_wp2_with fail
    go_loopw [60] (fun iv wr => ∃ i : Nat, i ≤ n6 ∧ iv = .int .i64 (i : Int) ∧ Hid (Fs w W H s A n cap fr tz st ah tb A5 n6 k5 F A6 k6 D wr)) (fun iv _ => n6 - (intOf iv).toNat)
    case atStart => exact ⟨0, Nat.zero_le _, rfl, HFS⟩
    case round =>
      rename World => wr
      obtain ⟨i, hi, rfl, HR⟩ := hrel
      by_cases hlt : i < n6
      · have c6 := HR.out.cx.box.c6
        have c7 := HR.out.cx.box.c7
        obtain ⟨g5, o5, rfl, hg5, q5⟩ := il_at7 HR.out.f hlt
        obtain ⟨g6, o6, rfl, hg6, q6⟩ := il_at7 HR.out.d hlt
        have hse := HSM2.out i (by rw [← HN5.out]; exact hlt)
        generalize F.getD i 0 = fv at *
        generalize D.getD i 0 = dv at *
        have hy0 : (0 : Int) ≤ (i : Int) := by omega
        have hy1 : (i : Int) < (n6 : Int) := by omega
        by_cases hp : 0 ≤ dv
        · by_cases hq : dv ≤ ah
          · rw [if_pos ⟨hp, hq⟩] at hse
            subst hse
            have hw : IntKind.i64.wrap (st + dv) = st + dv := IntWalk.i64_in _ (by omega)
            have hd1 : decide (0 ≤ dv) = true := decide_eq_true hp
            have hd2 : decide (dv ≤ ah) = true := decide_eq_true hq
            go_wp2_with fail
            go_big_quiet (fail)
            go_wp2_with fail
            go_big_quiet (fail)
            go_wp2_with fail
            go_roundw
            case rel =>
              exact ⟨i + 1, by omega, by go_num, Lib.hid (HR.out.after (below_drewN _ _ _))⟩
            case measure => simp [intOf]; omega
          · rw [if_neg (by omega)] at hse
            subst hse
            have hd1 : decide (0 ≤ dv) = true := decide_eq_true hp
            have hd2 : decide (dv ≤ ah) = false := decide_eq_false hq
            go_wp2_with fail
            go_big_quiet (fail)
            go_wp2_with fail
            go_roundw
            case rel =>
              first
              | exact ⟨i + 1, by omega, by go_num, Lib.hid (HR.out.after (below_drewN _ _ _))⟩
              | ((repeat apply Exists.intro); exact ⟨⟨i + 1, by omega, by go_num, Lib.hid (HR.out.after (below_drewN _ _ _))⟩, rfl⟩)
            case measure => simp [intOf]; omega
        · rw [if_neg (by omega)] at hse
          subst hse
          have hd1 : decide (0 ≤ dv) = false := decide_eq_false hp
          go_wp2_with fail
          go_big_quiet (fail)
          go_wp2_with fail
          go_roundw
          case rel =>
            first
            | exact ⟨i + 1, by omega, by go_num, Lib.hid (HR.out.after (below_drewN _ _ _))⟩
            | ((repeat apply Exists.intro); exact ⟨⟨i + 1, by omega, by go_num, Lib.hid (HR.out.after (below_drewN _ _ _))⟩, rfl⟩)
          case measure => simp [intOf]; omega
      · have hii : i = n6 := by omega
        subst hii
        have HX7 := Lib.hid HR.out.cx
        have HD7 := Lib.hid HR.out.d
        have c0 := HX7.out.box.c0
        have c1 := HX7.out.box.c1
        have c2 := HX7.out.box.c2
        have c4 := HX7.out.box.c4
        have c5 := HX7.out.box.c5
        have c6 := HX7.out.box.c6
        have c7 := HX7.out.box.c7
        have HT7 := Lib.hid HR.out.tk
        clear HR HFS
        go_wp2_with fail
        refine (HPL.out _ _ _ _ _ _ HT7.out).mono ?_
        rintro e w8 ⟨A4, n4, k4, P, er, rfl, hn4, hs4, hb4, hp4, hl4, her⟩
        have HFR := Lib.hid (fr_of h1 h2 h3 h4 hp4 HSI.out HDA.out HDB.out)
        have HN4 := Lib.hid hn4
        have HG : Hid (Gz w W H s A n cap fr tz st ah A6 i k6 D A4 n4 k4 P w8) := Lib.hid ⟨HX7.out.after hb4, (HD7.out.below hb4).raise hb4.size, hs4.wt⟩
        have hz1 := hs4.wt.le
        have hz2 := hs4.wt.max
        clear hs4 hb4 hp4 hn4 HX7 HD7 HT7 c0 c1 c2 c4 c5 c6 c7 HPL HSI HSM2
        go_wp2_with fail
        go_loopw [108] (fun iv wr => ∃ j : Nat, j ≤ n4 ∧ iv = .int .i64 (j : Int) ∧ Hid (Gz w W H s A n cap fr tz st ah A6 i k6 D A4 n4 k4 P wr)) (fun iv _ => n4 - (intOf iv).toNat)
        case atStart => exact ⟨0, Nat.zero_le _, rfl, HG⟩
        case round =>
          rename World => wy
          obtain ⟨j, hj, rfl, HR⟩ := hrel
          by_cases hlt : j < n4
          · have c6 := HR.out.cx.box.c6
            obtain ⟨g, off, rfl, hg, hcs⟩ := HR.out.wt.cell (by omega)
            obtain ⟨_, q2⟩ := hcs j hlt
            rw [HFR.out.time j (by rw [← HN4.out]; exact hlt)] at q2
            have hy0 : (0 : Int) ≤ (j : Int) := by omega
            have hy1 : (j : Int) < (n4 : Int) := by omega
            have hw1 : IntKind.i64.wrap (st + (j : Int)) = st + (j : Int) := IntWalk.i64_in _ (by omega)
            have hw2 : IntKind.i64.wrap (st + (j : Int) + 1) = st + (j : Int) + 1 := IntWalk.i64_in _ (by omega)
            clear hcs hg
            go_wp2_with fail
            go_big_quiet (fail)
            go_wp2_with fail
            go_roundw
            case rel =>
              first
              | exact ⟨j + 1, by omega, by go_num, Lib.hid (HR.out.after (below_drewN _ _ _))⟩
              | ((repeat apply Exists.intro); exact ⟨⟨j + 1, by omega, by go_num, Lib.hid (HR.out.after (below_drewN _ _ _))⟩, rfl⟩)
            case measure => simp [intOf]; omega
          · have hjj : j = n4 := by omega
            subst hjj
            have HEND := Lib.hid HR.out.cx.below
            by_cases h0 : er = 0
            · subst h0
              obtain ⟨t1, t2, t3⟩ := HFR.out.last rfl
              obtain ⟨k, rfl⟩ := Int.eq_ofNat_of_zero_le t1
              rw [Int.toNat_natCast] at t3
              have hk : k < i := by rw [HDN.out]; omega
              obtain ⟨g6, o6, rfl, hg6, q6⟩ := il_at7 HR.out.d hk
              rw [t3, ← HN4.out] at q6
              have c5 := HR.out.cx.box.c5
              have hy0 : (0 : Int) ≤ (k : Int) := by omega
              have hy1 : (k : Int) < (i : Int) := by omega
              clear t1 t2 t3
              go_wp2_with fail
              go_ret
              exact ⟨rfl, HEND.out⟩
            · have hne : (er == 0) = false := by rw [beq_eq_false_iff_ne]; exact h0
              rcases her with e | rfl | rfl
              · exact absurd e h0
              · go_wp2_with fail
                go_ret
                exact ⟨rfl, HEND.out⟩
              · go_wp2_with fail
                go_ret
                exact ⟨rfl, HEND.out⟩
  · by_cases hsm : smallB s ah = true
    · rw [hsm]
      by_cases h1 : st < 0
      · have hd1 : decide (st < 0) = true := decide_eq_true h1
        go_wp2_with fail
        go_ret
        exact ⟨rfl, HX2.out.below⟩
      · have hd1 : decide (st < 0) = false := decide_eq_false h1
        by_cases h2 : 524288 < st
        · have hd2 : decide (524288 < st) = true := decide_eq_true h2
          go_wp2_with fail
          go_ret
          exact ⟨rfl, HX2.out.below⟩
        · have hd2 : decide (524288 < st) = false := decide_eq_false h2
          by_cases h3 : ah < 0
          · have hd3 : decide (ah < 0) = true := decide_eq_true h3
            go_wp2_with fail
            go_ret
            exact ⟨rfl, HX2.out.below⟩
          · have hd3 : decide (ah < 0) = false := decide_eq_false h3
            have hd4 : decide (60 < ah) = true := decide_eq_true (Classical.byContradiction fun h => hq ⟨hsm, by omega, by omega, by omega, by omega⟩)
            go_wp2_with fail
            go_ret
            exact ⟨rfl, HX2.out.below⟩
    · have hsm : smallB s ah = false := by simpa using hsm
      rw [hsm]
      go_wp2_with fail
      go_ret
      exact ⟨rfl, HX2.out.below⟩
end Go.Proofs.YtinkpeliinofoaaGreatDoor
