/-
  The document's waits of layer 7.
  The document's Plan of layer 7.
  SippPlans: the way through time that comes to a cell as soon as can be is the document's; the walk.
-/
import Derived.Test.YtcdclghmebgpnaaGreatDoorSpLaw
import Derived.Test.YtcdclghmebgpnaaGreatDoorSpRr
set_option linter.unusedVariables false
set_option maxRecDepth 100000
section
namespace Go.Proofs.YtcdclghmebgpnaaGreatDoor
namespace Sp
open Go.RowKit Fl Pt
open Wn (Tab TF frees isT Ordw IW Wt wcl plc Rising RT Rt R3 tkn rtk tk upd)

set_option maxHeartbeats 2000000 in
theorem r7waits_any {w : World} {rb : Nat} {A : Option Addr} {cc : Nat} {R : List R3} (hT : RT w rb A cc R) (hO : ∀ y, Ordw 0 (tkn R y)) (c st : Int) (n : Nat) (h0 : 0 ≤ st) (h1 : st < 1048576) (hn : n ≤ 100000) :
    Calls Tryz.prog 34 #[.pointer (some ⟨rb, 0, none⟩), .int .i64 c, .int .i64 st, .int .i64 (n : Int)] w (Told (∀ u, st < u → u ≤ st + (n : Int) → isT (tkn R c) u = true) w) := by
  have HT := Lib.hid hT
  have HST : Hid (Below w.heap.size w w ∧ ∀ u, st < u → u < st + ((1 : Nat) : Int) → isT (tkn R c) u = true) := Lib.hid ⟨Below.refl _ _, fun u u1 u2 => by omega⟩
  clear hT
  go_enter Tryz.func34, Tryz.ntmps34
  go_wp2_with fail
  go_loopw [9] (fun iv wr => ∃ i : Nat, 1 ≤ i ∧ i ≤ n + 1 ∧ iv = .int .i64 (i : Int) ∧ Hid (Below w.heap.size w wr ∧ ∀ u, st < u → u < st + (i : Int) → isT (tkn R c) u = true)) (fun iv _ => n + 1 - (intOf iv).toNat)
  case atStart => exact ⟨1, Nat.le_refl _, by omega, rfl, HST⟩
  case round =>
    rename World => wr
    obtain ⟨i, hi1, hi, rfl, HR⟩ := hrel
    by_cases hlt : i ≤ n
    · have hw : IntKind.i64.wrap (st + (i : Int)) = st + (i : Int) := IntWalk.i64_in _ (by omega)
      have hd : decide ((i : Int) ≤ (n : Int)) = true := decide_eq_true (by omega)
      have hd' : decide (i ≤ n) = true := decide_eq_true hlt
      have HTr := Lib.hid (HT.out.later HR.out.1)
      go_wp2_with fail
      refine (Wn.r6is_any rb A cc R c (st + (i : Int)) _ HTr.out (hO _)).mono ?_
      rintro e w3 ⟨rfl, hb3⟩
      have HB3 := Lib.hid (HR.out.1.trans (hb3.mono HR.out.1.size))
      clear hb3
      cases hb : isT (tkn R c) (st + (i : Int)) with
      | true =>
        have HN : Hid (Below w.heap.size w w3 ∧ ∀ u, st < u → u < st + ((i + 1 : Nat) : Int) → isT (tkn R c) u = true) := Lib.hid ⟨HB3.out, fun u u1 u2 => by
          by_cases e : u = st + (i : Int)
          · rw [e]; exact hb
          · exact HR.out.2 u u1 (by omega)⟩
        clear hb
        go_wp2_with fail
        go_roundw
        case rel =>
          first
          | exact ⟨i + 1, by omega, by omega, by go_num, HN⟩
          | ((repeat apply Exists.intro); exact ⟨⟨i + 1, by omega, by omega, by go_num, HN⟩, rfl⟩)
        case measure => simp [intOf]; omega
      | false =>
        have HNO : Hid (¬ ∀ u, st < u → u ≤ st + (n : Int) → isT (tkn R c) u = true) := Lib.hid (fun h => by
          have := h (st + (i : Int)) (by omega) (by omega)
          rw [hb] at this
          cases this)
        clear hb
        go_wp2_with fail
        go_ret
        exact ⟨false, rfl, ⟨fun h => (by cases h), fun h => absurd h HNO.out⟩, HB3.out⟩
    · have hd : decide ((i : Int) ≤ (n : Int)) = false := decide_eq_false (by omega)
      have hd' : decide (i ≤ n) = false := decide_eq_false hlt
      have HY : Hid (∀ u, st < u → u ≤ st + (n : Int) → isT (tkn R c) u = true) := Lib.hid (fun u u1 u2 => HR.out.2 u u1 (by omega))
      go_wp2_with fail
      go_ret
      exact ⟨true, rfl, ⟨fun _ => HY.out, fun _ => rfl⟩, HR.out.1⟩
end Sp
end Go.Proofs.YtcdclghmebgpnaaGreatDoor
end

section
namespace Go.Proofs.YtcdclghmebgpnaaGreatDoor
namespace Sp
open Go.RowKit Fl Pt
open Wn (Tab TF frees isT Ordw IW Wt wcl plc Rising RT Rt R3 tkn rtk tk upd inW)

/-- What is told by layers is told rightly. -/
theorem cnL_ok {W H : Int} {s : ByteArray} {c t0 : Int} {T : Int → List (Int × Int)} (hR : Rt7 W H s c t0) (ho : ∀ y, Ordw 0 (T y)) (hs : ∀ y, (T y).length ≤ 2000) (last : Int) : (envOf W.toNat H.toNat c.toNat s t0 T).Cn last (cnL (envOf W.toNat H.toNat c.toNat s t0 T)) := by
  have hOk := envOk hR ho hs
  obtain ⟨hO, h0, h1⟩ := hR
  obtain ⟨W, H, a, rfl, rfl, rfl, ha, hz, _⟩ := onFloor_some hO
  have hF : Pm.Fit ⟨W, H, s, a, t0, 1, 0, 0, 0, 0, 0, 0, 2000, none, T, fun _ => 0⟩ :=
    ⟨hO.1, ha, hz, ⟨h0, h1⟩, ho, Nat.le_refl _, hs, fun k hk => by
      show k < 1
      rcases hk with e | e | ⟨x, _, _, e⟩
      · have e : k = 0 := e; omega
      · cases e
      · have e : 0 = k := e; omega⟩
  refine ⟨hOk, hF.first, fun m c d r hd => ?_, fun m c hc h1 h2 => ?_⟩
  · exact mem_nr.2 ⟨side_sym hF.sides.1.w1 (by have e : s.size = W * H := hF.sides.1.sz; show c < W * H; rw [← e]; exact r.lt hF.ok) (mem_nr.1 hd).1, hF.noWall r⟩
  · unfold cnL
    rw [ly_iff hOk _ c hc]
    have e : (envOf ((W : Int)).toNat ((H : Int)).toNat ((a : Int)).toNat s t0 T).t0 + ((m - (envOf ((W : Int)).toNat ((H : Int)).toNat ((a : Int)).toNat s t0 T).t0).toNat : Int) = m := by omega
    rw [e]
theorem PlanIs.uniq {W H : Int} {s : ByteArray} {c t0 tz ahead : Int} {T : Int → List (Int × Int)} {P P' : List (Int × Int)} {er er' : Int} (h : PlanIs W H s c t0 tz ahead T P er) (k : PlanIs W H s c t0 tz ahead T P' er') : P = P' ∧ er = er' := by
  rcases h with ⟨h1, rfl, rfl⟩ | ⟨h1, h2, h3⟩ <;> rcases k with ⟨k1, rfl, rfl⟩ | ⟨k1, k2, k3⟩
  · exact ⟨rfl, rfl⟩
  · exact absurd ⟨k1, k2⟩ h1
  · exact absurd ⟨h1, h2⟩ k1
  · have h0 : (0 : Int) ≤ (envOf W.toNat H.toNat c.toNat s t0 T).t0 := h1.1.2.1
    have e0 : (envOf W.toNat H.toNat c.toNat s t0 T).t0 = t0 := rfl
    obtain ⟨_, _, z, _, _, hz, hzN, _⟩ := onFloor_some h2
    have hzn : tz.toNat < (envOf W.toNat H.toNat c.toNat s t0 T).N := by rw [hz, Int.toNat_natCast]; exact hzN
    rcases h3 with ⟨rfl, rfl, h4⟩ | ⟨rfl, N, cn, h4, h5, h6, h7⟩ <;> rcases k3 with ⟨rfl, rfl, k4⟩ | ⟨rfl, N', cn', k4, k5, k6, k7⟩
    · exact ⟨rfl, rfl⟩
    · have := IsSn.uniq h0 h4 k5; omega
    · have := IsSn.uniq h0 h5 k4; omega
    · have := IsSn.uniq h0 h5 k5
      obtain rfl : N = N' := by omega
      exact ⟨by rw [h7, k7, h6.bk_ly hzn (by rw [e0]; omega), k6.bk_ly hzn (by rw [e0]; omega)], rfl⟩
/-- The cell from which a robot came. -/
def prv (E : Env) (k d : Nat) : Bool := E.lv d && (LY E k).getD d false
theorem bk_step (E : Env) (k c : Nat) : E.bk (cnL E) (k + 1) c = if E.stl (E.t0 + ((k + 1 : Nat) : Int)) c = true then [] else match (E.nr c).find? (prv E k) with | some d => E.bk (cnL E) k d ++ [(c, E.t0 + ((k + 1 : Nat) : Int))] | none => E.bk (cnL E) k c := by
  rw [Env.bk]
  have : E.org (cnL E) (E.t0 + ((k + 1 : Nat) : Int)) c = (E.nr c).find? (prv E k) := by
    unfold Env.org cnL
    congr 1
    funext d
    unfold prv
    rw [show (E.t0 + ((k + 1 : Nat) : Int) - 1 - E.t0).toNat = k by omega]
  rw [this]
  by_cases hs : E.stl (E.t0 + ((k + 1 : Nat) : Int)) c = true
  · rw [if_pos hs, if_pos hs]
  · rw [if_neg hs, if_neg hs]
    cases (E.nr c).find? (prv E k) <;> rfl
theorem bk_len7 (e : Env) (cn : Int → Nat → Bool) : ∀ n c, (e.bk cn n c).length ≤ n
  | 0, c => Nat.le_refl _
  | n + 1, c => by
    rw [Env.bk]
    split
    · exact Nat.zero_le _
    · split
      · rw [List.length_append]
        exact Nat.succ_le_succ (bk_len7 e cn n _)
      · exact Nat.le_succ_of_le (bk_len7 e cn n _)
/-- It has been there since the start, just where it may stay there so long. -/
theorem stl_waits {W H a : Nat} {s : ByteArray} {t0 : Int} {T : Int → List (Int × Int)} (hC : At ((envOf W H a s t0 T).O a) 0 t0) (hE : (envOf W H a s t0 T).Ok) (ho : ∀ y, Ordw 0 (T y)) (n : Nat) : (envOf W H a s t0 T).stl (t0 + (n : Int)) a = true ↔ ∀ u, t0 < u → u ≤ t0 + (n : Int) → isT (T (a : Int)) u = true := by
  unfold Env.stl
  rw [Bool.and_eq_true, decide_eq_true_iff]
  have ha : (a == (envOf W H a s t0 T).a) = true := beq_self_eq_true a
  have hin : ∀ u, t0 < u → (In ((envOf W H a s t0 T).O a) u ↔ isT (T (a : Int)) u = true) := fun u hu => by
    rw [in_inW, inR_isT ho hu]
  constructor
  · rintro ⟨_, h⟩ u u1 u2
    refine (hin u u1).1 ⟨0, hC.1, by have := hC.2.1; omega, ?_⟩
    have h : t0 + (n : Int) < (((envOf W H a s t0 T).O a).getD 0 (0, 0)).2 := h
    omega
  · intro h
    refine ⟨ha, ?_⟩
    show t0 + (n : Int) < (((envOf W H a s t0 T).O a).getD 0 (0, 0)).2
    have key : ∀ k : Nat, k ≤ n → At ((envOf W H a s t0 T).O a) 0 (t0 + (k : Int)) := by
      intro k
      induction k with
      | zero => intro _; simpa using hC
      | succ k ih =>
        intro hk
        have h1 := ih (by omega)
        have e : t0 + ((k + 1 : Nat) : Int) = (t0 + (k : Int)) + 1 := by omega
        obtain ⟨j, hj⟩ := (hin (t0 + ((k + 1 : Nat) : Int)) (by omega)).2 (h _ (by omega) (by omega))
        rw [e] at hj ⊢
        obtain rfl := h1.next (hE.seps a) hj
        exact hj
    exact (key n (Nat.le_refl _)).2.2
/-- Of what is found first, from one on. -/
theorem find_step {p : Nat → Bool} {L : List Nat} {j : Nat} (hj : j < L.length) : (L.drop j).find? p = if p (L.getD j 0) = true then some (L.getD j 0) else (L.drop (j + 1)).find? p := by
  rw [List.drop_eq_getElem_cons hj, List.getD, List.getElem?_eq_getElem hj, List.find?_cons]
  cases h : p L[j] <;> simp [h]
def oI : Option Nat → Int
  | none => -1
  | some d => (d : Int)
theorem prev_none {E : Env} {last : Int} (hC : E.Cn last (cnL E)) {k c : Nat} (hl : E.t0 + ((k + 1 : Nat) : Int) ≤ last) (hc : c < E.N) (hf : (E.nr c).find? (prv E k) = none) (hy : (LY E (k + 1)).getD c false = true) : (LY E k).getD c false = true := by
  have ho : E.org (cnL E) (E.t0 + ((k + 1 : Nat) : Int)) c = none := by
    rw [← hf]
    unfold Env.org cnL
    congr 1
    funext d
    unfold prv
    rw [show (E.t0 + ((k + 1 : Nat) : Int) - 1 - E.t0).toNat = k by omega]
  have := hC.org_none (m := E.t0 + ((k + 1 : Nat) : Int)) (by omega) hl hc ho ((ly_iff hC.ok _ c hc).1 hy)
  rw [show E.t0 + ((k + 1 : Nat) : Int) - 1 = E.t0 + (k : Int) by omega] at this
  exact (ly_iff hC.ok _ c hc).2 this
theorem prev_some {E : Env} {k c d : Nat} (hN : ∀ c, c < E.N → ∀ d ∈ E.nr c, d < E.N) (hc : c < E.N) (hf : (E.nr c).find? (prv E k) = some d) : d < E.N ∧ (LY E k).getD d false = true := by
  have h1 := List.mem_of_find?_eq_some hf
  have h2 := List.find?_some hf
  unfold prv at h2
  simp only [Bool.and_eq_true] at h2
  exact ⟨hN c hc d h1, h2.2⟩
theorem _root_.Go.Proofs.YtcdclghmebgpnaaGreatDoor.Il.later7 {w w' : World} {A : Option Addr} {n cap : Nat} {f : Nat → Int} (h : Il w.heap.size w A n cap f) (hb : Below w.heap.size w w') : Il w'.heap.size w' A n cap f := (h.below hb).raise hb.size
/-- One step, in a list of its own. -/
theorem Sow.lit (w : World) (base : Nat) (hb : base ≤ w.heap.size) (x t : Int) : Sow (w.alloc (.cells #[.int .i64 x, .int .i64 t] 64)) base (.slice (some ⟨w.heap.size, 0, none⟩) 1 1) [(x, t)] := by
  have := World.ownsRow_lit (base := base) (e := 64) (size := 2) w #[.int .i64 x, .int .i64 t] 1 hb (by unfold maxLen; omega) rfl
  simpa [Sow, wcl] using this
set_option maxHeartbeats 16000000 in
theorem r7plan_any {W H : Int} {s : ByteArray} {AN AL AO : Option Addr} {n cN cL cO : Nat} {w : World} (hM : Right W H s → MapAt w W.toNat H.toNat s AN AL AO n cN cL cO) (hM0 : ¬ Right W H s → n = 0) {rb : Nat} {A : Option Addr} {cc : Nat} {R : List R3} (hT : RT w rb A cc R) {T : Int → List (Int × Int)} (hTR : ∀ y, tkn R y = T y) (hO : ∀ y, Ordw 0 (T y)) (hS : ∀ y, (T y).length ≤ 2000) (fr st tz ah : Int) :
    Calls Tryz.prog 14 #[.agg #[.slice AN n cN, .slice AL n cL, .slice AO n cO], .pointer (some ⟨rb, 0, none⟩), .int .i64 fr, .int .i64 st, .int .i64 tz, .int .i64 ah] w (PlanTold W H s fr st tz ah T w) := by
  obtain ⟨b0, b1, b2, hb⟩ := map_box w (.slice AN n cN) (.slice AL n cL) (.slice AO n cO)
  have HB0 := Lib.hid hb
  have HEO := Lib.hid (fun (h : Rc7 W H s fr st ah) => envOk h.1 hO hS)
  have HCO := Lib.hid (fun (h : Rc7 W H s fr st ah) => cnL_ok h.1 hO hS (st + ah))
  have HRE := Lib.hid (fun wx (hx : Below w.heap.size w wx) => r7reach_any (w := wx) (fun h => (hM h).later hx) hM0 (hT.later hx) hTR hO hS fr st ah)
  have HWA := Lib.hid (fun wx (hx : Below w.heap.size w wx) (c : Int) (k : Nat) (h0 : 0 ≤ st) (h1 : st < 1048576) (hk : k ≤ 100000) => r7waits_any (hT.later hx) (fun y => by rw [hTR y]; exact hO y) c st k h0 h1 hk)
  have HTR := Lib.hid hTR
  have HOO := Lib.hid hO
  have HMM := Lib.hid hM
  have H256 : Hid (Rc7 W H s fr st ah → s.size ≤ 256) := Lib.hid (fun h => by
    obtain ⟨W, H, rfl, rfl, hSd, hN⟩ := rightNat h.1.1.1
    exact hSd.le)
  have HCE : Hid (∀ wx, Below (w.heap.size + 1) (w.alloc (.cells #[.slice AN n cN, .slice AL n cL, .slice AO n cO] 36)) wx → wx.cell? ⟨w.heap.size, 0, none⟩ = some (.slice AN n cN) ∧ wx.cell? ⟨w.heap.size, 1, none⟩ = some (.slice AL n cL) ∧ wx.cell? ⟨w.heap.size, 2, none⟩ = some (.slice AO n cO)) := Lib.hid (fun wx h => ⟨(h.cell (p := ⟨w.heap.size, 0, none⟩) (Nat.lt_succ_self _)).trans b0, (h.cell (p := ⟨w.heap.size, 1, none⟩) (Nat.lt_succ_self _)).trans b1, (h.cell (p := ⟨w.heap.size, 2, none⟩) (Nat.lt_succ_self _)).trans b2⟩)
  have HSB : Hid ((w.alloc (.cells #[.slice AN n cN, .slice AL n cL, .slice AO n cO] 36)).heap.size = w.heap.size + 1) := Lib.hid (alloc_size _ _)
  clear hM hM0 hT hTR hO hS hb
  go_enter Tryz.func14, Tryz.ntmps14
  go_wp2_with fail
  refine (HRE.out _ HB0.out).mono ?_
  rintro e w1 (⟨hRc, hns, A1, c1, G, rfl, hal, hgl, hb1⟩ | ⟨hRc, rfl, hb1⟩)
  · have HRc := Lib.hid hRc
    have HNS := Lib.hid hns
    have hn256 : n ≤ 256 := by rw [hns]; exact H256.out hRc
    have HB1 := Lib.hid (HB0.out.trans (hb1.mono HB0.out.size))
    obtain ⟨h, hh⟩ : ∃ h : Nat, ah = (h : Int) := Int.eq_ofNat_of_zero_le hRc.2.1
    subst hh
    rw [Int.toNat_natCast] at hal hgl ⊢
    have hh2 : h ≤ 1024 := by have := hRc.2.2; omega
    have hst0 : 0 ≤ st := hRc.1.2.1
    have hst1 : st < 1048576 := hRc.1.2.2
    have HEK := Lib.hid (HEO.out hRc)
    have HCK := Lib.hid (HCO.out hRc)
    obtain ⟨W', H', a, hW', hH', hfa, haN, hza, hSd, hRn, _⟩ := onFloor_some hRc.1.1
    subst hW' hH' hfa
    have hM0 := HMM.out hRc.1.1.1
    rw [Int.toNat_natCast, Int.toNat_natCast] at hM0
    rw [Int.toNat_natCast, Int.toNat_natCast, Int.toNat_natCast] at HEK HCK hal
    have HM1 := Lib.hid (hM0.later HB1.out)
    obtain ⟨gN, eN, hgN, hcNn⟩ := HM1.out.near
    obtain ⟨gL, eL, hgL, hcLn⟩ := HM1.out.lane
    obtain ⟨gO, eO, hgO, hcOn⟩ := HM1.out.opn
    have hcap := hM0.caps
    unfold maxLen at hcap
    subst eN eL eO
    obtain ⟨g, cg, eg, hg1, hg2, hg3, hgc⟩ := hal.form (by omega)
    injection eg with eg1 eg2 eg3
    subst eg1 eg3
    have HAL := Lib.hid hal
    have HGL := Lib.hid hgl
    have HG3 := Lib.hid hg3
    have HGC : Hid (∀ i, i < h + 1 → w1.cell? ⟨g, i, none⟩ = some (rowV n (G.getD i 0))) := Lib.hid (fun i hi => hgc i (by rw [hgl]; exact hi))
    have hc1 : h + 1 ≤ c1 := by rw [← hgl]; exact hg1
    have hc2 := hg2
    unfold maxLen at hc2
    have HB1W2 := Lib.hid hb1
    have HB1W := Lib.hid (by rw [HSB.out] at hb1; exact hb1 : Below (w.heap.size + 1) _ w1)
    obtain ⟨hn, hhn⟩ : ∃ hn, hn = h + 1 := ⟨_, rfl⟩
    rw [← hhn] at hc1 HGC ⊢
    have HHN := Lib.hid hhn
    have hhn1 : 1 ≤ hn := by omega
    have hhn2 : hn ≤ 1025 := by omega
    have hdz : ((hn : Int) == 0) = false := by rw [beq_eq_false_iff_ne]; omega
    have han : a < n := by rw [hns]; exact haN
    obtain ⟨z0, z1, z2⟩ := HCE.out w1 HB1W.out
    have HNX := Lib.hid (And.intro hgN hcNn)
    have HLX := Lib.hid (And.intro hgL hcLn)
    have HCAP := Lib.hid hcap
    have hcapO := hcap.2.2
    have hcO1 := hcapO.1
    have hcO2 := hcapO.2
    by_cases htz : 0 ≤ tz ∧ tz < (n : Int)
    · obtain ⟨z, rfl⟩ := Int.eq_ofNat_of_zero_le htz.1
      have hzn : z < n := by omega
      have y0 := hcOn z hzn
      have ht0 : decide ((z : Int) < 0) = false := decide_eq_false (by omega)
      have ht1 : decide ((n : Int) ≤ (z : Int)) = false := decide_eq_false (by omega)
      have ht1' : decide (n ≤ z) = false := decide_eq_false (by omega)
      have htI : (z : Int) < (n : Int) := by omega
      have htI0 : (0 : Int) ≤ (z : Int) := by omega
      by_cases hzw : at_ s z = 35
      · have hop : (at_ s z != 35) = false := by simp [hzw]
        rw [hop] at y0
        have HEND : Hid (PlanIs (W' : Int) (H' : Int) s (a : Int) st (z : Int) (h : Int) T [] 1) := Lib.hid (.inl ⟨fun q => by
          obtain ⟨_, _, k, _, _, e, hk, hz2, _⟩ := onFloor_some q.2
          obtain rfl : z = k := by omega
          exact hz2 hzw, rfl, rfl⟩)
        clear hRc hns hal hgl hb1 hg1 hg2 hg3 hgc b0 b1 b2 hhn hM0 hcNn hcLn hcOn hcap
        go_wp2_with fail
        go_ret2
        exact ⟨none, 0, 0, [], 1, rfl, rfl, Sow.nil _ _, HB1.out, HEND.out, Nat.zero_le _, by omega⟩
      · have hop : (at_ s z != 35) = true := by simpa using hzw
        rw [hop] at y0
        have HOZ : Hid (OnFloor (W' : Int) (H' : Int) s (z : Int)) := Lib.hid ⟨hRc.1.1.1, by rw [bAt_in5 s z (by rw [← hns]; exact hzn)]; exact hzw⟩
        have HSZ : Hid (s.size = W' * H' ∧ 1 ≤ W') := Lib.hid ⟨hSd.sz, hSd.w1⟩
        by_cases hza2 : z = a
        · subst hza2
          have hda : ((z : Int) == (z : Int)) = true := beq_self_eq_true _
          have HEND : Hid (PlanIs (W' : Int) (H' : Int) s (z : Int) st (z : Int) (h : Int) T [] 0) := Lib.hid (.inr ⟨HRc.out, HOZ.out, .inr ⟨rfl, 0, cnL (envOf ((W' : Int)).toNat ((H' : Int)).toNat ((z : Int)).toNat s st T), by omega, .inl ⟨by
              rw [show st + ((0 : Nat) : Int) = st by omega]
              exact Env.R.start, by omega, fun t r => by have := r.ge; have e : (envOf ((W' : Int)).toNat ((H' : Int)).toNat ((z : Int)).toNat s st T).t0 = st := rfl; omega⟩, HCO.out HRc.out, rfl⟩⟩)
          clear hRc hns hal hgl hb1 hg1 hg2 hg3 hgc b0 b1 b2 hhn hM0 hcNn hcLn hcOn hcap
          go_wp2_with fail
          go_ret2
          exact ⟨none, 0, 0, [], 0, rfl, rfl, Sow.nil _ _, HB1.out, HEND.out, Nat.zero_le _, by omega⟩
        · have hda : ((z : Int) == (a : Int)) = false := by rw [beq_eq_false_iff_ne]; omega
          obtain ⟨E, hE⟩ : ∃ E, E = envOf W' H' a s st T := ⟨_, rfl⟩
          have HE := Lib.hid hE
          have HFIN : Hid (∀ (P : List (Int × Int)) (m : Nat), m ≤ h → (LY E m).getD z false = true → (∀ n', n' < m → (LY E n').getD z false = false) → P = castS (E.bk (cnL E) m z) → PlanIs (W' : Int) (H' : Int) s (a : Int) st (z : Int) (h : Int) T P 0) := Lib.hid (fun P m hm h1 h2 h3 => .inr ⟨HRc.out, HOZ.out, .inr ⟨rfl, m, cnL E, by omega, by
            rw [Int.toNat_natCast, Int.toNat_natCast, Int.toNat_natCast, Int.toNat_natCast]
            have := isSn_ly (last := st + (h : Int)) (by rw [hE]; exact HEK.out) (show z < E.N by rw [hE]; show z < s.size; omega) (by rw [hE]; show st + _ ≤ st + _; omega) h1 h2
            rw [hE] at this
            exact this, by
            rw [Int.toNat_natCast, Int.toNat_natCast, Int.toNat_natCast, hE]
            exact HCK.out, by
            rw [Int.toNat_natCast, Int.toNat_natCast, Int.toNat_natCast, Int.toNat_natCast, ← hE]
            exact h3⟩⟩)
          have HNON : Hid ((∀ n', n' < h + 1 → (LY E n').getD z false = false) → PlanIs (W' : Int) (H' : Int) s (a : Int) st (z : Int) (h : Int) T [] 2) := Lib.hid (fun h1 => .inr ⟨HRc.out, HOZ.out, .inl ⟨rfl, rfl, by
            rw [Int.toNat_natCast, Int.toNat_natCast, Int.toNat_natCast, Int.toNat_natCast]
            have hk := HEK.out
            rw [← hE] at hk
            have := FsP.isSn hk (h := h) (x := z) (v := -1) (show z < E.N by rw [hE]; show z < s.size; omega) (.inl ⟨rfl, fun n' _ q => h1 n' (by omega)⟩)
            rw [hE] at this
            exact this⟩⟩)
          rw [← hE] at HAL HEK HCK
          have HA1 := Lib.hid (show (E.nr = nr W' H' (at_ s)) ∧ E.lv = outB (at_ s) a ∧ E.N = n ∧ E.t0 = st by rw [hE]; exact ⟨rfl, rfl, hns.symm, rfl⟩)
          have HLW : Hid (∀ k c, c < n → (LY E k).getD c false = true → at_ s c ≠ 35) := Lib.hid (fun k c hc hy => by
            rw [hE] at hy
            have hk := HEK.out
            rw [hE] at hk
            exact ly_wall hk hza (by rw [← hns]; exact hc) hy)
          have HSTL : Hid (∀ k : Nat, E.stl (st + (k : Int)) a = true ↔ ∀ u, st < u → u ≤ st + (k : Int) → isT (T (a : Int)) u = true) := Lib.hid (fun k => by
            have hc := HCK.out.first
            have hk := HEK.out
            rw [hE] at hc hk ⊢
            exact stl_waits hc hk HOO.out k)
          have HSTN : Hid (∀ (k c : Nat), c ≠ a → E.stl (st + (k : Int)) c = false) := Lib.hid (fun k c hc => by
            rw [hE]
            unfold Env.stl
            rw [show (c == (envOf W' H' a s st T).a) = false by show (c == a) = false; simpa using hc]
            rfl)
          have HLY0 : Hid (∀ c, c < n → (LY E 0).getD c false = true → c = a) := Lib.hid (fun c hc hy => by
            have r := (ly_iff HEK.out 0 c (by rw [HA1.out.2.2.1]; exact hc)).1 hy
            have := r.first (by omega)
            rw [hE] at this
            exact this)
          clear hRc hns hal hgl hb1 hg1 hg2 hg3 hgc b0 b1 b2 hhn hM0 hcNn hcLn hcOn hcap hE hSd hRn
          go_wp2_with fail
          go_loopw [15] (fun mv wz => ∃ m : Nat, m ≤ hn ∧ mv = .int .i64 (m : Int) ∧ w1 = wz ∧ Hid (∀ n', n' < m → (LY E n').getD z false = false)) (fun mv _ => hn - (intOf mv).toNat)
          case atStart => exact ⟨0, Nat.zero_le _, rfl, rfl, Lib.hid (fun n' hn' => by omega)⟩
          case round =>
            rename World => wz
            obtain ⟨m, hm, rfl, rfl, HF⟩ := hrel
            by_cases hmn : m < hn
            · have hmI : (m : Int) < (hn : Int) := by omega
              have hm0 : (0 : Int) ≤ (m : Int) := by omega
              have hmh : m < h + 1 := by rw [← HHN.out]; exact hmn
              have HRW := Lib.hid (HAL.out.rows m (by rw [HGL.out]; exact hmh))
              have y1 := HGC.out m hmn
              unfold rowV at y1
              have y2 : w1.cell? ⟨G.getD m 0, z, none⟩ = some (.bool ((LY E m).getD z false)) := (HRW.out.2 z hzn).1
              cases hly : (LY E m).getD z false with
              | false =>
                rw [hly] at y2
                have HN : Hid (∀ n', n' < m + 1 → (LY E n').getD z false = false) := Lib.hid (fun n' q => by
                  rcases (by omega : n' < m ∨ n' = m) with q | q
                  · exact HF.out n' q
                  · rw [q]; exact hly)
                clear hly
                generalize G.getD m 0 = gm at *
                go_wp2_with fail
                go_roundw
                case rel => exact ⟨m + 1, by omega, by go_num, trivial, HN⟩
                case measure => simp [intOf]; omega
              | true =>
                rw [hly] at y2
                have HLYM := Lib.hid hly
                have hme : ((m : Int) == (hn : Int)) = false := by rw [beq_eq_false_iff_ne]; omega
                have HPI : Hid (∀ P, P = castS (E.bk (cnL E) m z) → PlanIs (W' : Int) (H' : Int) s (a : Int) st (z : Int) (h : Int) T P 0) := Lib.hid (fun P hP => HFIN.out P m (by omega) hly HF.out hP)
                have hm1024 : m ≤ 1024 := by omega
                clear hly
                generalize G.getD m 0 = gm at *
                go_wp2_with fail
                go_loopw [15, 16, 17] (fun nv ov av wr => ∃ (k c nl : Nat) (Lo : List (Int × Int)) (A2 : Option Addr) (c2 : Nat), k ≤ m ∧ c < n ∧ nl + k ≤ m ∧ nv = .int .i64 (k : Int) ∧ ov = .slice A2 nl c2 ∧ av = .int .i64 (c : Int) ∧ Hid (nl = Lo.length ∧ (LY E k).getD c false = true ∧ castS (E.bk (cnL E) m z) = castS (E.bk (cnL E) k c) ++ Lo ∧ Sow wr w1.heap.size (.slice A2 nl c2) Lo ∧ Below w1.heap.size w1 wr)) (fun nv _ _ _ => (intOf nv).toNat)
                case atStart => exact ⟨m, z, 0, [], none, 0, Nat.le_refl _, hzn, by omega, rfl, rfl, rfl, Lib.hid ⟨rfl, HLYM.out, by rw [List.append_nil], Sow.nil _ _, Below.refl _ _⟩⟩
                case round =>
                  rename World => wr
                  obtain ⟨k, c, nl, Lo, A2, c2, hk, hcn, hnl, rfl, rfl, rfl, HI⟩ := hrel
                  obtain ⟨sb, hsb⟩ : ∃ sb, sb = E.stl (st + (k : Int)) c := ⟨_, rfl⟩
                  have HSBB := Lib.hid hsb
                  clear hsb
                  go_upto_region 13 with (fail)
                  go_cut [83] (fun bv wc => bv = .bool (!sb) ∧ Hid (Below wr.heap.size wr wc))
                  case first =>
                    by_cases hca : c = a
                    · subst hca
                      have hcc : ((c : Int) == (c : Int)) = true := beq_self_eq_true _
                      have HW := Lib.hid (HWA.out wr (HB1.out.trans (HI.out.2.2.2.2.mono HB1.out.size)) (c : Int) k hst0 hst1 (by omega))
                      go_wp2_with fail
                      refine HW.out.mono ?_
                      rintro e w5 ⟨b5, rfl, hb5, hB5⟩
                      have HB5 := Lib.hid hB5
                      have hbs : b5 = sb := by
                        rw [Bool.eq_iff_iff, hb5, HSBB.out, HSTL.out k, HTR.out]
                      subst hbs
                      clear hb5 hB5
                      cases b5 <;> (go_wp2_with fail; go_meet; exact ⟨rfl, HB5⟩)
                    · have hcc : ((c : Int) == (a : Int)) = false := by rw [beq_eq_false_iff_ne]; omega
                      have hsf : sb = false := by rw [HSBB.out]; exact HSTN.out k c hca
                      subst hsf
                      clear hca
                      go_wp2_with fail
                      go_meet
                      exact ⟨rfl, Lib.hid (Below.refl _ _)⟩
                  case rest =>
                    obtain ⟨rfl, HBC⟩ := hcut
                    rename World => wc
                    have HWC := Lib.hid (HI.out.2.2.2.2.trans (HBC.out.mono HI.out.2.2.2.2.size))
                    have HLO := Lib.hid (HI.out.2.2.2.1.later HBC.out)
                    cases sb with
                    | true =>
                      have HP : Hid (castS (E.bk (cnL E) m z) = Lo) := Lib.hid (by
                        rw [HI.out.2.2.1]
                        have : E.bk (cnL E) k c = [] := by
                          cases k with
                          | zero => rfl
                          | succ k => rw [bk_step, if_pos (by rw [HA1.out.2.2.2]; exact HSBB.out.symm)]
                        rw [this]; rfl)
                      have HEND := Lib.hid (HPI.out Lo HP.out.symm)
                      go_wp2_with fail
                      go_ret2
                      exact ⟨A2, nl, c2, Lo, 0, rfl, HI.out.1, HLO.out.lower HB1.out.size, HB1.out.trans (HWC.out.mono HB1.out.size), HEND.out, by omega, by omega⟩
                    | false =>
                      have hk0 : k ≠ 0 := fun e => by
                        subst e
                        have := HLY0.out c hcn HI.out.2.1
                        subst this
                        have h1 := (HSTL.out 0).2 (fun u u1 u2 => by omega)
                        rw [← HSBB.out] at h1
                        cases h1
                      obtain ⟨k', hkk⟩ : ∃ k', k = k' + 1 := ⟨k - 1, by omega⟩
                      have HKK := Lib.hid hkk
                      have HCW := Lib.hid (HLW.out k c hcn HI.out.2.1)
                      have hw1 : IntKind.i64.wrap ((k : Int) - 1) = (k' : Int) := by rw [IntWalk.i64_in _ (by omega)]; omega
                      have hk'0 : (0 : Int) ≤ (k' : Int) := by omega
                      have hk'1 : (k' : Int) < (hn : Int) := by omega
                      have hk'h : k' < h + 1 := by omega
                      have hk'm : k' < hn := by omega
                      have HCX := Lib.hid (HCE.out wc (HB1W.out.trans (HWC.out.mono (by rw [← HSB.out]; exact HB1W2.out.size))))
                      have x0 := HCX.out.1
                      have x1 := HCX.out.2.1
                      obtain ⟨AS, cS, q1, q2⟩ := HNX.out.2 c hcn
                      have q1 := (HWC.out.cell (p := ⟨gN, c, none⟩) HNX.out.1).trans q1
                      have HSI := Lib.hid (q2.later7 HWC.out)
                      rw [show nrw W' H' (at_ s) c = nr W' H' (at_ s) c by unfold nrw; rw [if_pos HCW.out]] at q1 HSI
                      obtain ⟨S, hS⟩ : ∃ S, S = nr W' H' (at_ s) c := ⟨_, rfl⟩
                      rw [← hS] at q1 HSI
                      have HS := Lib.hid hS
                      obtain ⟨ns, hns⟩ : ∃ ns, ns = S.length := ⟨_, rfl⟩
                      rw [← hns] at q1 HSI
                      have HNSL := Lib.hid hns
                      have hns4 : ns ≤ 4 := by rw [hns, hS]; exact nr_len W' H' c (at_ s)
                      have HSD : Hid (∀ d ∈ S, d < n) := Lib.hid (fun d hd => by
                        have := HEK.out.nrlt c (by rw [HA1.out.2.2.1]; exact hcn) d (by rw [HA1.out.1, ← hS]; exact hd)
                        rwa [HA1.out.2.2.1] at this)
                      have hcI : (c : Int) < (n : Int) := by omega
                      have hc0 : (0 : Int) ≤ (c : Int) := by omega
                      have hcapN := HCAP.out.1
                      have hcN1 := hcapN.1
                      have hcN2 := hcapN.2
                      have hcapL := HCAP.out.2.1
                      have hcL1 := hcapL.1
                      have hcL2 := hcapL.2
                      have HS0 := HSI.out.size
                      have HS1 := HSI.out.le
                      have HS2 := HSI.out.max
                      unfold maxLen at HS2
                      have HRW := Lib.hid ((HAL.out.later HWC.out).rows k' (by rw [HGL.out]; exact hk'h))
                      have y1 := (HWC.out.cell (p := ⟨g, k', none⟩) HG3.out).trans (HGC.out k' hk'm)
                      unfold rowV at y1
                      have HRWL : Hid (∀ d, d < n → wc.cell? ⟨G.getD k' 0, d, none⟩ = some (.bool ((LY E k').getD d false))) := Lib.hid (fun d hd => (HRW.out.2 d hd).1)
                      have HLWL : Hid (∀ d, d < n → wc.cell? ⟨gL, d, none⟩ = some (.bool (isL (at_ s d)))) := Lib.hid (fun d hd => (HWC.out.cell (p := ⟨gL, d, none⟩) HLX.out.1).trans (HLX.out.2 d hd))
                      generalize G.getD k' 0 = gm at *
                      clear hk0 q2 hS hns hcapN hcapL hkk
                      have hwn : IntKind.i64.wrap ((ns : Int) - 1) = (ns : Int) - 1 := IntWalk.i64_in _ (by omega)
                      go_wp2_with fail
                      go_loopw [18, 20] (fun pv jv wz => ∃ (jj : Nat) (p : Option Nat), jj ≤ ns ∧ pv = .int .i64 (oI p) ∧ jv = .int .i64 ((jj : Int) - 1) ∧ Hid (p = (S.drop jj).find? (prv E k') ∧ Below wc.heap.size wc wz)) (fun _ jv _ => (intOf jv + 1).toNat)
                      case atStart => exact ⟨ns, none, Nat.le_refl _, rfl, rfl, Lib.hid ⟨by rw [List.drop_of_length_le (by rw [HNSL.out]; exact Nat.le_refl _)]; rfl, Below.refl _ _⟩⟩
                      case round =>
                        rename World => wz
                        obtain ⟨jj, p, hjj, rfl, rfl, HJ⟩ := hrel
                        by_cases hj0 : jj = 0
                        · subst hj0
                          rw [show (((0 : Nat) : Int) - 1) = -1 by decide]
                          have HPF := Lib.hid HJ.out.1
                          rw [List.drop_zero] at HPF
                          have HBK := Lib.hid HJ.out.2
                          have HWZ := Lib.hid (HWC.out.trans (HBK.out.mono HWC.out.size))
                          cases p with
                          | none =>
                            have HNX2 : Hid ((LY E k').getD c false = true ∧ castS (E.bk (cnL E) m z) = castS (E.bk (cnL E) k' c) ++ Lo) := Lib.hid (by
                              have hf : (E.nr c).find? (prv E k') = none := by rw [HA1.out.1, ← HS.out]; exact HPF.out.symm
                              have hy := HI.out.2.1
                              have hb := HI.out.2.2.1
                              rw [HKK.out] at hy hb
                              refine ⟨prev_none HCK.out (by rw [HA1.out.2.2.2]; have := HKK.out; omega) (by rw [HA1.out.2.2.1]; exact hcn) hf hy, ?_⟩
                              rw [hb, bk_step, if_neg (by rw [HA1.out.2.2.2, ← HKK.out, ← HSBB.out]; decide), hf])
                            have HLO2 := Lib.hid (HLO.out.later HBK.out)
                            rw [show oI none = -1 from rfl]
                            go_wp2_with fail
                            go_roundw
                            case rel =>
                              first
                              | exact ⟨k', c, nl, Lo, A2, c2, by have := HKK.out; omega, hcn, by have := HKK.out; omega, rfl, rfl, rfl, Lib.hid ⟨HI.out.1, HNX2.out.1, HNX2.out.2, HLO2.out, HWZ.out⟩⟩
                              | ((repeat apply Exists.intro); exact ⟨⟨k', c, nl, Lo, A2, c2, by have := HKK.out; omega, hcn, by have := HKK.out; omega, rfl, rfl, rfl, Lib.hid ⟨HI.out.1, HNX2.out.1, HNX2.out.2, HLO2.out, HWZ.out⟩⟩, rfl⟩)
                            case measure => have := HKK.out; simp [intOf]; omega
                          | some d =>
                            have HNX2 : Hid (d < n ∧ (LY E k').getD d false = true ∧ castS (E.bk (cnL E) m z) = castS (E.bk (cnL E) k' d) ++ ([((c : Int), st + (k' : Int) + 1)] ++ Lo)) := Lib.hid (by
                              have hf : (E.nr c).find? (prv E k') = some d := by rw [HA1.out.1, ← HS.out]; exact HPF.out.symm
                              have hb := HI.out.2.2.1
                              rw [HKK.out] at hb
                              obtain ⟨h1, h2⟩ := prev_some HEK.out.nrlt (by rw [HA1.out.2.2.1]; exact hcn) hf
                              refine ⟨by rw [← HA1.out.2.2.1]; exact h1, h2, ?_⟩
                              rw [hb, bk_step, if_neg (by rw [HA1.out.2.2.2, ← HKK.out, ← HSBB.out]; decide), hf, HA1.out.2.2.2]
                              show castS (E.bk (cnL E) k' d ++ [(c, st + ((k' + 1 : Nat) : Int))]) ++ Lo = _
                              rw [castS_app, List.append_assoc, show st + ((k' + 1 : Nat) : Int) = st + (k' : Int) + 1 by omega]
                              rfl)
                            have HLO2 := Lib.hid (HLO.out.later HBK.out)
                            have hdn := HNX2.out.1
                            have hd0 : (0 : Int) ≤ (d : Int) := by omega
                            have hdd : decide ((0 : Int) ≤ (d : Int)) = true := decide_eq_true hd0
                            have hwa : IntKind.i64.wrap (st + (k' : Int)) = st + (k' : Int) := IntWalk.i64_in _ (by omega)
                            have hwb : IntKind.i64.wrap (st + (k' : Int) + 1) = st + (k' : Int) + 1 := IntWalk.i64_in _ (by omega)
                            have HAX := Lib.hid ((Below.refl wz.heap.size wz).alloc (Nat.le_refl _) (.cells #[.int .i64 (c : Int), .int .i64 (st + (k' : Int) + 1)] 64))
                            have HSL := Lib.hid (Sow.lit wz w1.heap.size HWZ.out.size (c : Int) (st + (k' : Int) + 1))
                            have HLO3 := Lib.hid ((HLO2.out.later HAX.out).wt)
                            have HZX : Hid (w1.heap.size ≤ (wz.alloc (.cells #[.int .i64 (c : Int), .int .i64 (st + (k' : Int) + 1)] 64)).heap.size) := Lib.hid (Nat.le_trans HWZ.out.size HAX.out.size)
                            have hln : ([((c : Int), st + (k' : Int) + 1)] : List (Int × Int)).length + nl ≤ 1000000 := by simp; omega
                            rw [show oI (some d) = (d : Int) from rfl]
                            go_wp2_with (at_builtin; refine app_steps rfl _ _ rfl w1.heap.size _ [((c : Int), st + (k' : Int) + 1)] rfl HSL.out A2 nl c2 Lo rfl HLO3.out hln HZX.out ?_; intro A9 c9 w9 h91 h92 h93; have HK9 := Lib.hid (And.intro h91 h92); clear h91 h92 h93)
                            have HNL : Hid (([((c : Int), st + (k' : Int) + 1)] ++ Lo).length = nl + 1) := Lib.hid (by rw [List.length_append, ← HI.out.1]; simp; omega)
                            rw [HNL.out] at HK9
                            have HFIN2 : Hid (nl + 1 = ([((c : Int), st + (k' : Int) + 1)] ++ Lo).length ∧ (LY E k').getD d false = true ∧ castS (E.bk (cnL E) m z) = castS (E.bk (cnL E) k' d) ++ ([((c : Int), st + (k' : Int) + 1)] ++ Lo) ∧ Sow w9 w1.heap.size (.slice A9 (nl + 1) c9) ([((c : Int), st + (k' : Int) + 1)] ++ Lo) ∧ Below w1.heap.size w1 w9) := Lib.hid ⟨HNL.out.symm, HNX2.out.2.1, HNX2.out.2.2, HK9.out.1, (HWZ.out.trans (HAX.out.mono HWZ.out.size)).trans HK9.out.2⟩
                            go_roundw
                            case rel =>
                              first
                              | exact ⟨k', d, nl + 1, _, A9, c9, by have := HKK.out; omega, hdn, by have := HKK.out; omega, rfl, by rw [HI.out.1], rfl, HFIN2⟩
                              | ((repeat apply Exists.intro); exact ⟨⟨k', d, nl + 1, _, A9, c9, by have := HKK.out; omega, hdn, by have := HKK.out; omega, rfl, by rw [HI.out.1], rfl, HFIN2⟩, rfl⟩)
                            case measure => have := HKK.out; simp [intOf]; omega
                        · obtain ⟨j', rfl⟩ : ∃ j', jj = j' + 1 := ⟨jj - 1, by omega⟩
                          rw [show (((j' + 1 : Nat) : Int) - 1) = (j' : Int) by omega]
                          have HPP := Lib.hid HJ.out.1
                          have HBK := Lib.hid HJ.out.2
                          have hjn : j' < ns := by omega
                          have hjl : j' < S.length := by rw [← HNSL.out]; exact hjn
                          have HFS := Lib.hid (find_step (p := prv E k') hjl)
                          obtain ⟨g8, o8, e8, hg8, hc8⟩ := (HSI.out.later7 HBK.out).cell (by omega)
                          subst e8
                          have q5 : wz.cell? ⟨g8, o8 + j', none⟩ = some (.int .i64 ((S.getD j' 0 : Nat) : Int)) := hc8 j' hjn
                          have hdn : S.getD j' 0 < n := HSD.out _ (by rw [List.getD, List.getElem?_eq_getElem hjl]; exact List.getElem_mem hjl)
                          generalize S.getD j' 0 = d at *
                          have y1' := (HBK.out.cell (p := ⟨g, k', none⟩) (Nat.lt_of_lt_of_le HG3.out HWC.out.size)).trans y1
                          have y2' := (HBK.out.cell (p := ⟨gm, d, none⟩) HRW.out.1).trans (HRWL.out d hdn)
                          have y3' := (HBK.out.cell (p := ⟨gL, d, none⟩) (Nat.lt_of_lt_of_le HLX.out.1 HWC.out.size)).trans (HLWL.out d hdn)
                          have HXX := Lib.hid (HCE.out wz (HB1W.out.trans ((HWC.out.trans (HBK.out.mono HWC.out.size)).mono (by rw [← HSB.out]; exact HB1W2.out.size))))
                          have x0' := HXX.out.1
                          have x1' := HXX.out.2.1
                          have HBQ0 : Hid (∀ nq, (wz.drewN nq).cell? ⟨g8, o8 + j', none⟩ = some (.int .i64 (d : Int)) ∧ True) := Lib.hid (fun nq => ⟨((below_drewN wz.heap.size wz nq).cell (p := ⟨g8, o8 + j', none⟩) hg8).trans q5, trivial⟩)
                          have hjI : (j' : Int) < (ns : Int) := by omega
                          have hjI0 : (0 : Int) ≤ (j' : Int) := by omega
                          have hdI : (d : Int) < (n : Int) := by omega
                          have hdI0 : (0 : Int) ≤ (d : Int) := by omega
                          have hw2 : IntKind.i64.wrap ((j' : Int) - 1) = (j' : Int) - 1 := IntWalk.i64_in _ (by omega)
                          have HPRV : Hid (prv E k' d = ((d == a || isL (at_ s d)) && (LY E k').getD d false)) := Lib.hid (by unfold prv; rw [HA1.out.2.1]; rfl)
                          clear hc8 hjl hj0 HJ
                          generalize (LY E k').getD d false = b1 at *
                          generalize isL (at_ s d) = b2 at *
                          cases b1 with
                          | false =>
                            have HPR : Hid (prv E k' d = false) := Lib.hid (by rw [HPRV.out, Bool.and_false])
                            clear HPRV
                            go_wp2_with fail
                            go_big_quiet (fail)
                            rename_i nq _
                            have HBQ := Lib.hid (HBK.out.trans (below_drewN _ _ nq))
                            have q5' := (HBQ0.out nq).1
                            clear x0' x1' y1' y2' y3' q5
                            go_wp2_with fail
                            go_roundw
                            case rel => exact ⟨j', p, by omega, rfl, rfl, Lib.hid ⟨by rw [HFS.out, if_neg (by rw [HPR.out]; decide)]; exact HPP.out, HBQ.out⟩⟩
                            case measure => first | (simp [intOf]; omega) | simp [intOf]
                          | true =>
                            cases b2 with
                            | true =>
                              have HPR : Hid (prv E k' d = true) := Lib.hid (by rw [HPRV.out, Bool.or_true]; rfl)
                              clear HPRV
                              go_wp2_with fail
                              go_big_quiet (fail)
                              rename_i nq _
                              have HBQ := Lib.hid (HBK.out.trans (below_drewN _ _ nq))
                              have q5' := (HBQ0.out nq).1
                              clear x0' x1' y1' y2' y3' q5
                              go_wp2_with fail
                              go_roundw
                              case rel => exact ⟨j', some d, by omega, rfl, rfl, Lib.hid ⟨by rw [HFS.out, if_pos HPR.out], HBQ.out⟩⟩
                              case measure => first | (simp [intOf]; omega) | simp [intOf]
                            | false =>
                              by_cases hda3 : d = a
                              · have hdq : ((d : Int) == (a : Int)) = true := by rw [beq_iff_eq]; omega
                                have HPR : Hid (prv E k' d = true) := Lib.hid (by rw [HPRV.out, show (d == a) = true by simpa using hda3]; rfl)
                                clear HPRV hda3
                                go_wp2_with fail
                                go_big_quiet (fail)
                                rename_i nq _
                                have HBQ := Lib.hid (HBK.out.trans (below_drewN _ _ nq))
                                have q5' := (HBQ0.out nq).1
                                clear x0' x1' y1' y2' y3' q5
                                go_wp2_with fail
                                go_roundw
                                case rel => exact ⟨j', some d, by omega, rfl, rfl, Lib.hid ⟨by rw [HFS.out, if_pos HPR.out], HBQ.out⟩⟩
                                case measure => first | (simp [intOf]; omega) | simp [intOf]
                              · have hdq : ((d : Int) == (a : Int)) = false := by rw [beq_eq_false_iff_ne]; omega
                                have HPR : Hid (prv E k' d = false) := Lib.hid (by rw [HPRV.out, show (d == a) = false by simpa using hda3]; rfl)
                                clear HPRV hda3
                                go_wp2_with fail
                                go_big_quiet (fail)
                                rename_i nq _
                                have HBQ := Lib.hid (HBK.out.trans (below_drewN _ _ nq))
                                have q5' := (HBQ0.out nq).1
                                clear x0' x1' y1' y2' y3' q5
                                go_wp2_with fail
                                go_roundw
                                case rel => exact ⟨j', p, by omega, rfl, rfl, Lib.hid ⟨by rw [HFS.out, if_neg (by rw [HPR.out]; decide)]; exact HPP.out, HBQ.out⟩⟩
                                case measure => first | (simp [intOf]; omega) | simp [intOf]
            · have hmq : m = hn := by omega
              have hme : ((m : Int) == (hn : Int)) = true := by rw [beq_iff_eq]; omega
              have HEND := Lib.hid (HNON.out (by rw [← HHN.out, ← hmq]; exact HF.out))
              clear hmq
              go_wp2_with fail
              go_ret2
              exact ⟨none, 0, 0, [], 2, rfl, rfl, Sow.nil _ _, HB1.out, HEND.out, Nat.zero_le _, by omega⟩
    · have HEND : Hid (PlanIs (W' : Int) (H' : Int) s (a : Int) st tz (h : Int) T [] 1) := Lib.hid (.inl ⟨fun q => by
        obtain ⟨_, _, k, _, _, e, hk, hz2, _⟩ := onFloor_some q.2
        exact htz ⟨by omega, by omega⟩, rfl, rfl⟩)
      clear hRc hns hal hgl hb1 hg1 hg2 hg3 hgc b0 b1 b2 hhn hM0 hcNn hcLn hcOn hcap
      by_cases ht0 : tz < 0
      · have hd0 : decide (tz < 0) = true := decide_eq_true ht0
        clear htz
        go_wp2_with fail
        go_ret2
        exact ⟨none, 0, 0, [], 1, rfl, rfl, Sow.nil _ _, HB1.out, HEND.out, Nat.zero_le _, by omega⟩
      · have hd0 : decide (tz < 0) = false := decide_eq_false ht0
        have hd1 : decide ((n : Int) ≤ tz) = true := decide_eq_true (by omega)
        clear htz
        go_wp2_with fail
        go_ret2
        exact ⟨none, 0, 0, [], 1, rfl, rfl, Sow.nil _ _, HB1.out, HEND.out, Nat.zero_le _, by omega⟩
  · have HRc := Lib.hid hRc
    have HB1 := Lib.hid (HB0.out.trans (hb1.mono HB0.out.size))
    clear hRc hb1
    go_wp2_with fail
    go_ret2
    exact ⟨none, 0, 0, [], 1, rfl, rfl, Sow.nil _ _, HB1.out, .inl ⟨fun q => HRc.out q.1, rfl, rfl⟩, Nat.zero_le _, by omega⟩
end Sp
end Go.Proofs.YtcdclghmebgpnaaGreatDoor
end

section
namespace Go.Proofs.YtcdclghmebgpnaaGreatDoor
open Go.RowKit Fl Pt
open Sp
open Wn (Tab TF frees isT Ordw IW Wt wcl plc Rising RT Rt R3 tkn rtk tk upd)

theorem same6_yes (A A' : Option Addr) (n c c' : Nat) (L : List (Int × Int)) (w : World) (h1 : Wt w.heap.size w A n c L) (h2 : Wt w.heap.size w A' n c' L) (hn : n ≤ 1000000) :
    Calls Tryz.prog 16 #[.slice A n c, .slice A' n c'] w fun e w' => e = .returned (.bool true) ∧ Below w.heap.size w w' := by
  have := Wn.same_any A A' n n c c' L L w h1 h2 hn
  rw [decide_eq_true (rfl : L = L)] at this
  exact this
set_option maxHeartbeats 8000000 in
theorem sippPlans_walk (W H : Int) (s : ByteArray) (hs : s.size ≤ maxLen) (A : Option Addr) (n cap : Nat) (L : List R3) (fr tz st ah : Int) (w : World) (hL : Rt w.heap.size w A n cap L) (hx : ∀ j, j < n → IW (L.getD j (0, 0, 0)).1) :
    Calls Tryz.prog 4 #[caseV W H s A n cap fr tz st ah] w fun e w' => e = .returned (.bool true) ∧ Below w.heap.size w w' := by
  have HSM : Hid (∀ wx, Calls Tryz.prog 8 #[.agg #[.int .i64 W, .int .i64 H, .string s, .slice A n cap, .int .i64 fr, .int .i64 tz, .int .i64 st, .int .i64 ah]] wx fun e w' => e = .returned (.bool (smallB s ah)) ∧ Below wx.heap.size wx w') := Lib.hid (fun wx => small7_any W H s hs A n cap fr tz st ah wx)
  have HTB := Lib.hid (fun wx (hb : Below w.heap.size w wx) => tables7_any A n cap L wx ((hL.below hb).raise hb.size) hx)
  have HPL := Lib.hid (fun tb tN mv T tg wx hT => plan_any W H s hs fr st tz ah tb tb tN mv T tg wx hT)
  have HLL := Lib.hid hL
  have HXX := Lib.hid hx
  have hLc := hL.le
  have hLm := hL.size
  have HOF := Lib.hid (fun wx => of_any W H s hs wx)
  have HX0 := Lib.hid (Cx8.start w W H s A n cap fr tz st ah)
  clear hL hx hs
  unfold caseV
  go_enter Tryz.func4, Tryz.ntmps4
  go_wp2_with fail
  refine (shown7_any _).mono ?_
  rintro e w1 ⟨rfl, hb1⟩
  have HX1 := Lib.hid (HX0.out.after hb1)
  have c3 := HX1.out.box.c3
  clear hb1
  go_wp2_with fail
  refine (HTB.out _ HX1.out.below).mono ?_
  rintro e w2 ⟨tb, rb, rfl, h2⟩
  have HX2 := Lib.hid (HX1.out.after h2.below)
  have H2 := Lib.hid h2
  have c0 := HX2.out.box.c0
  have c1 := HX2.out.box.c1
  have c2 := HX2.out.box.c2
  have c3 := HX2.out.box.c3
  have c4 := HX2.out.box.c4
  have c5 := HX2.out.box.c5
  have c6 := HX2.out.box.c6
  have c7 := HX2.out.box.c7
  clear h2
  go_wp2_with fail
  refine (HSM.out _).mono ?_
  rintro e w3 ⟨rfl, hb3⟩
  have HX3 := Lib.hid (HX2.out.after hb3)
  have H3 := Lib.hid (H2.out.later hb3)
  clear hb3 c0 c1 c2 c3 c4 c5 c6 c7
  by_cases hsm : smallB s ah = true
  · rw [hsm]
    clear hsm
    obtain ⟨tN, mv, T, tg, A3, k3, R, hT, hRT, hTR, hO, hS⟩ := two_all8 H3.out
    have HT := Lib.hid hT
    have HRT := Lib.hid hRT
    have HTO := Lib.hid (And.intro hTR (And.intro hO hS))
    have c0 := HX3.out.box.c0
    have c1 := HX3.out.box.c1
    have c2 := HX3.out.box.c2
    have c4 := HX3.out.box.c4
    have c5 := HX3.out.box.c5
    have c6 := HX3.out.box.c6
    have c7 := HX3.out.box.c7
    clear hT hRT hTR hO hS HX0 HX1 HX2 H2 H3 HSM HTB
    go_wp2_with fail
    refine (HPL.out tb tN mv T tg _ HT.out).mono ?_
    rintro e w4 ⟨Aa, na, ca, Pa, ea, rfl, hna, hsa, hba, hpa, hla, hea⟩
    have HB4 := Lib.hid hba
    have HSA := Lib.hid hsa
    have HPA := Lib.hid (And.intro hna (And.intro hpa (And.intro hla hea)))
    have HX4 := Lib.hid (HX3.out.after hba)
    have HT4 := Lib.hid (HT.out.later hba)
    have HRT4 := Lib.hid (HRT.out.later hba)
    have HC0 : Hid (∀ wx, Below w4.heap.size w4 wx → (wx.cell? ⟨w.heap.size, 0, none⟩ = some (.int .i64 W) ∧ wx.cell? ⟨w.heap.size, 1, none⟩ = some (.int .i64 H) ∧ wx.cell? ⟨w.heap.size, 2, none⟩ = some (.string s)) ∧ (wx.cell? ⟨w.heap.size, 4, none⟩ = some (.int .i64 fr) ∧ wx.cell? ⟨w.heap.size, 5, none⟩ = some (.int .i64 tz) ∧ wx.cell? ⟨w.heap.size, 6, none⟩ = some (.int .i64 st) ∧ wx.cell? ⟨w.heap.size, 7, none⟩ = some (.int .i64 ah))) := Lib.hid (fun wx hb => by
      have h := (HX4.out.after hb).box
      exact ⟨⟨h.c0, h.c1, h.c2⟩, h.c4, h.c5, h.c6, h.c7⟩)
    clear hna hsa hba hpa hla hea c0 c1 c2 c4 c5 c6 c7
    obtain ⟨⟨c0, c1, c2⟩, c4, c5, c6, c7⟩ := HC0.out w4 (Below.refl _ _)
    go_wp2_with fail
    go_region_held3 (fun w' => w'.cell? ⟨w.heap.size, 0, none⟩ = some (.int .i64 W) ∧ w'.cell? ⟨w.heap.size, 1, none⟩ = some (.int .i64 H) ∧ w'.cell? ⟨w.heap.size, 2, none⟩ = some (.string s) ∧ w'.cell? ⟨w.heap.size, 4, none⟩ = some (.int .i64 fr) ∧ w'.cell? ⟨w.heap.size, 5, none⟩ = some (.int .i64 tz) ∧ w'.cell? ⟨w.heap.size, 6, none⟩ = some (.int .i64 st) ∧ w'.cell? ⟨w.heap.size, 7, none⟩ = some (.int .i64 ah)) (go_keep)
      ((first
        | (go_at_call 14; refine (r7plan_any (fun h => HM5.out h) (fun h => (HN5.out h).1) (HRT4.out.later HBb.out) HTO.out.1 HTO.out.2.1 HTO.out.2.2 fr st tz ah).mono ?_; rintro e w6 ⟨Ac, nc, cc, Pc, ec, rfl, hnc, hsc, hbc, hpc, hlc, hec⟩; have HBc := Lib.hid (HBb.out.trans (hbc.mono HBb.out.size)); have HPQ := Lib.hid (HPA.out.2.1.uniq hpc); have HNC := Lib.hid (And.intro hnc hlc); have HSC := Lib.hid hsc; obtain ⟨⟨x0, x1, x2⟩, x4, x5, x6, x7⟩ := HC0.out _ HBc.out; clear hnc hsc hbc hpc hlc hec)
        | (go_at_call 9; refine (HOF.out _).mono ?_; rintro e w5 ⟨AN, n5, cN, AL, cL, AO, cO, rfl, hB5, hM5, hN5⟩; have HBb := Lib.hid ((Below.refl w4.heap.size w4).drew.trans hB5); have HM5 := Lib.hid hM5; have HN5 := Lib.hid hN5; obtain ⟨⟨x0, x1, x2⟩, x4, x5, x6, x7⟩ := HC0.out _ HBb.out; clear hB5 hM5 hN5)))
    obtain ⟨rfl, rfl⟩ := HPQ.out
    clear x0 x1 x2 x4 x5 x6 x7
    have HX6 := Lib.hid (HX4.out.after HBc.out)
    have HT6 := Lib.hid (HT4.out.later HBc.out)
    have HRT6 := Lib.hid (HRT4.out.later HBc.out)
    have HWA := Lib.hid (HSA.out.later HBc.out).wt
    have HWC := Lib.hid (HSC.out).wt
    have hna2 : na ≤ 1000000 := by have := HPA.out.2.2.1; omega
    have hee : (ea != ea) = false := bne_self_eq_false ea
    have HSM7 := Lib.hid (same7_any Aa Ac na nc ca cc Pa Pa w6 HWA.out HWC.out hna2)
    rw [decide_eq_true (rfl : Pa = Pa)] at HSM7
    clear hna2 c0 c1 c2 c4 c5 c6 c7
    go_wp2_with fail
    refine HSM7.out.mono ?_
    rintro e w7 ⟨rfl, hb7⟩
    have HX7 := Lib.hid (HX6.out.after hb7)
    have HT7 := Lib.hid (HT6.out.later hb7)
    have HRT7 := Lib.hid (HRT6.out.later hb7)
    have c3 := HX7.out.box.c3
    clear hb7
    go_wp2_with fail
    go_loopw [74] (fun iv wr => ∃ i : Nat, i ≤ n ∧ iv = .int .i64 (i : Int) ∧ Hid (Below w7.heap.size w7 wr)) (fun iv _ => n - (intOf iv).toNat)
    case atStart => exact ⟨0, Nat.zero_le _, rfl, Lib.hid (Below.refl _ _)⟩
    case round =>
      rename World => wr
      obtain ⟨i, hi, rfl, HI⟩ := hrel
      have HXr := Lib.hid (HX7.out.after HI.out)
      by_cases hin : i < n
      · obtain ⟨g, off, eA, hg, hc⟩ := (HLL.out.below HXr.out.below).cell (by omega)
        subst eA
        obtain ⟨q0, _, _⟩ := hc i hin
        have HIW := Lib.hid (HXX.out i hin)
        have hiI : (i : Int) < (n : Int) := by omega
        have hi0 : (0 : Int) ≤ (i : Int) := by omega
        have hgr : g < wr.heap.size := Nat.lt_of_lt_of_le hg HXr.out.below.size
        have hlm1 := hLm.1
        have hlm2 := hLm.2
        clear hc
        generalize (L.getD i (0, 0, 0)).1 = x at *
        have HTr := Lib.hid (HT7.out.later HI.out)
        have HRTr := Lib.hid (HRT7.out.later HI.out)
        have r3 := HXr.out.box.c3
        have HB3 : Hid (∀ wx, Below wr.heap.size wr wx → wx.cell? ⟨w.heap.size, 3, none⟩ = some (.slice (some ⟨g, off, none⟩) n cap) ∧ wx.cell? ⟨g, off + i * 3, none⟩ = some (.int .i64 x)) := Lib.hid (fun wx hb => ⟨((HXr.out.after hb).box).c3, (hb.cell (p := ⟨g, off + i * 3, none⟩) hgr).trans q0⟩)
        have HTT := Lib.hid (HTO.out.1 x)
        have HSMA := Lib.hid (HTO.out.2.2 x)
        have HTK := Lib.hid (fun wx (h : Tk wx tb tb tN mv T tg) => Wn.taken_any tb tb tN mv T tg x wx h.tab HIW.out)
        have HRK := Lib.hid (fun wx (h : RT wx rb A3 k3 R) => Wn.r6taken_any rb A3 k3 R x wx h)
        rw [HTT.out] at HRK
        generalize T x = Lx at *
        clear q0
        obtain ⟨r3, q0⟩ := HB3.out wr (Below.refl _ _)
        go_wp2_with fail
        go_region_held3 (fun w' => w'.cell? ⟨w.heap.size, 3, none⟩ = some (.slice (some ⟨g, off, none⟩) n cap) ∧ w'.cell? ⟨g, off + i * 3, none⟩ = some (.int .i64 x)) (go_keep)
          ((first
            | (go_at_call_of 16 (Value.slice Ad Lx.length cd); refine HSS.out.mono ?_; rintro e wf ⟨rfl, hbf⟩; have HBf := Lib.hid (HBe.out.trans (hbf.mono HBe.out.size)); obtain ⟨u3, u0⟩ := HB3.out wf HBf.out; clear hbf)
            | (go_at_call 18; refine (HRK.out _ (HRTr.out.later HBd.out)).mono ?_; rintro e we ⟨Ae, ce, rfl, hwe, hbe⟩; have HBe := Lib.hid (HBd.out.trans (hbe.mono HBd.out.size)); have HSS := Lib.hid (same6_yes Ad Ae Lx.length cd ce Lx we (HWD.out.later hbe) hwe.wt (by have := HSMA.out; omega)); obtain ⟨u3, u0⟩ := HB3.out we HBe.out; clear hwe hbe)
            | (go_at_call 17; refine (HTK.out _ (HTr.out.later (Below.refl _ _).drew)).mono ?_; rintro e wd ⟨Ad, cd, rfl, hwd, hbd⟩; have HBd := Lib.hid ((Below.refl wr.heap.size wr).drew.trans hbd); have HWD := Lib.hid hwd.wt; obtain ⟨u3, u0⟩ := HB3.out wd HBd.out; clear hwd hbd)))
        have HEND := Lib.hid (HI.out.trans (HBf.out.mono HI.out.size))
        go_wp2_with fail
        go_roundw
        case rel => exact ⟨i + 1, by omega, by go_num, HEND⟩
        case measure => simp [intOf]; omega
      · obtain rfl : i = n := by omega
        go_wp2_with fail
        go_ret
        exact ⟨rfl, HXr.out.below⟩
  · have hsm : smallB s ah = false := by simpa using hsm
    rw [hsm]
    go_wp2_with fail
    go_ret
    exact ⟨rfl, HX3.out.below⟩
end Go.Proofs.YtcdclghmebgpnaaGreatDoor
end
