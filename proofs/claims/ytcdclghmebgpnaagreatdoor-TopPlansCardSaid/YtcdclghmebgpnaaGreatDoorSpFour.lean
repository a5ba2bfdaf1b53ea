/-
  Layer 7: reach, soon, can, origin, settled.
  Layer 7: can, origin, settled.
  Layer 7: steps of one's own; Reverse.
-/
import Derived.Test.YtcdclghmebgpnaaGreatDoorSpThree
import Derived.Test.YtcdclghmebgpnaaGreatDoorWnS
set_option linter.unusedVariables false
set_option maxRecDepth 100000
section
namespace Go.Proofs.YtcdclghmebgpnaaGreatDoor
namespace Sp
open Go.RowKit Fl Pt
open Wn (Tab TF frees isT Ordw IW Wt Wow Bk wcl plc Rising)

/-- May it be asked where a robot can be? -/
def Rc7 (W H : Int) (s : ByteArray) (c t0 ahead : Int) : Prop := Rt7 W H s c t0 ∧ 0 ≤ ahead ∧ ahead ≤ 1024
def ReachTold7 (W H : Int) (s : ByteArray) (c t0 ahead : Int) (T : Int → List (Int × Int)) (tb : Nat) (w : World) (e : Ending) (w' : World) : Prop :=
  (Rc7 W H s c t0 ahead ∧ ∃ p nv sv S, e = .returned (.pointer (some ⟨Pm.gb p, 0, none⟩)) ∧ Gr p nv sv S w' ∧ Done p.env (t0 + ahead) S ∧ p.For W.toNat H.toNat c.toNat s t0 T tb w ∧ Below w.heap.size w w') ∨
  (¬ Rc7 W H s c t0 ahead ∧ e = .returned (.pointer none) ∧ Below w.heap.size w w')
set_option maxHeartbeats 2000000 in
theorem reach7_any (W H : Int) (s : ByteArray) (hs : s.size ≤ maxLen) (c t0 ahead : Int) (tB tb tN : Nat) (mv : Option Nat) (T : Int → List (Int × Int)) (tg : Int → Nat) (w : World) (hT : Tk w tB tb tN mv T tg) :
    Calls Tryz.prog 29 #[.agg #[.int .i64 W, .int .i64 H, .string s], .pointer (some ⟨tb, 0, none⟩), .int .i64 c, .int .i64 t0, .int .i64 ahead] w (ReachTold7 W H s c t0 ahead T tb w) := by
  have HRI := Lib.hid (right7_any W H s hs tb c t0)
  have HT := Lib.hid hT
  clear hT
  by_cases hR : Rt7 W H s c t0
  · have HR := Lib.hid hR
    obtain ⟨hO, h0, h1⟩ := hR
    obtain ⟨W, H, a, rfl, rfl, rfl, ha, hz, _⟩ := onFloor_some hO
    by_cases hA : 0 ≤ ahead ∧ ahead ≤ 1024
    · obtain ⟨hA0, hA1⟩ := hA
      have HG := Lib.hid (fun wx hk => groundOf7_any W H a s t0 tB tb tN mv T tg wx hk hO.1 ha hz ⟨h0, h1⟩)
      have d0 : decide (ahead < 0) = false := decide_eq_false (by omega)
      have d1 : decide (1024 < ahead) = false := decide_eq_false (by omega)
      clear hO ha hz
      go_enter Tryz.func29, Tryz.ntmps29
      go_wp2_with fail
      refine (HRI.out _).mono ?_
      rintro e w1 ⟨b1, rfl, hb1, hB1⟩
      obtain rfl : b1 = true := hb1.2 HR.out
      have HX := Lib.hid ((Box.start w (W : Int) (H : Int) s 23).after hB1)
      have c0 := HX.out.c0
      have c1 := HX.out.c1
      have c2 := HX.out.c2
      clear hb1 hB1
      go_wp2_with fail
      refine (HG.out w1 (HT.out.later HX.out.below)).mono ?_
      rintro e w2 ⟨p, nv, sv, rfl, hg, hf, hB2⟩
      have ht0 : p.t0 = t0 := hf.2.2.2.2.1
      have HSP := Lib.hid (spread7_any hg (last := t0 + ahead) (by rw [ht0]; omega))
      have HF := Lib.hid hf
      have HB2 := Lib.hid hB2
      clear hg hf hB2 c0 c1 c2 ht0
      go_wp2_with fail
      refine HSP.out.mono ?_
      rintro e w3 ⟨rfl, nv3, sv3, S, hg3, hd3, hb3⟩
      have HG3 := Lib.hid hg3
      have HD3 := Lib.hid hd3
      have HB3 := Lib.hid hb3
      clear hg3 hd3 hb3
      go_wp2_with fail
      go_ret
      have hs1 := HX.out.below.size
      obtain ⟨f1, f2, f3, f4, f5, f6, f7, f8⟩ := HF.out
      refine .inl ⟨⟨HR.out, hA0, hA1⟩, p, nv3, sv3, S, rfl, HG3.out, HD3.out, ⟨f1, f2, f3, f4, f5, f6, f7, Nat.le_trans hs1 f8⟩, ?_⟩
      exact (HX.out.below.trans (HB2.out.mono hs1)).trans (HB3.out.mono (Nat.le_trans hs1 f8))
    · have HNA := Lib.hid hA
      have HN : Hid (¬ Rc7 (W : Int) (H : Int) s (a : Int) t0 ahead) := Lib.hid (fun h => hA h.2)
      clear hO ha hz
      by_cases hA0 : ahead < 0
      · have d0 : decide (ahead < 0) = true := decide_eq_true hA0
        go_enter Tryz.func29, Tryz.ntmps29
        go_wp2_with fail
        refine (HRI.out _).mono ?_
        rintro e w1 ⟨b1, rfl, hb1, hB1⟩
        obtain rfl : b1 = true := hb1.2 HR.out
        have HX := Lib.hid ((Box.start w (W : Int) (H : Int) s 23).after hB1)
        clear hb1 hB1
        go_wp2_with fail
        go_ret
        exact .inr ⟨HN.out, rfl, HX.out.below⟩
      · have d0 : decide (ahead < 0) = false := decide_eq_false hA0
        have d1 : decide (1024 < ahead) = true := decide_eq_true (by omega)
        go_enter Tryz.func29, Tryz.ntmps29
        go_wp2_with fail
        refine (HRI.out _).mono ?_
        rintro e w1 ⟨b1, rfl, hb1, hB1⟩
        obtain rfl : b1 = true := hb1.2 HR.out
        have HX := Lib.hid ((Box.start w (W : Int) (H : Int) s 23).after hB1)
        clear hb1 hB1
        go_wp2_with fail
        go_ret
        exact .inr ⟨HN.out, rfl, HX.out.below⟩
  · have HR := Lib.hid hR
    clear hR
    go_enter Tryz.func29, Tryz.ntmps29
    go_wp2_with fail
    refine (HRI.out _).mono ?_
    rintro e w1 ⟨b1, rfl, hb1, hB1⟩
    obtain rfl : b1 = false := by
      rw [Bool.eq_false_iff]
      exact fun e => HR.out (hb1.1 e)
    have HX := Lib.hid ((Box.start w W H s 23).after hB1)
    clear hb1 hB1
    go_wp2_with fail
    go_ret
    exact .inr ⟨fun h => HR.out h.1, rfl, HX.out.below⟩
theorem reach7_nil (W H : Int) (s : ByteArray) (c t0 ahead : Int) (w : World) :
    Calls Tryz.prog 29 #[.agg #[.int .i64 W, .int .i64 H, .string s], .pointer none, .int .i64 c, .int .i64 t0, .int .i64 ahead] w fun e w' => e = .returned (.pointer none) ∧ Below w.heap.size w w' := by
  have HRI := Lib.hid (right7_nil W H s c t0)
  go_enter Tryz.func29, Tryz.ntmps29
  go_wp2_with fail
  refine (HRI.out _).mono ?_
  rintro e w1 ⟨rfl, hB1⟩
  have HX := Lib.hid ((Box.start w W H s 23).after hB1)
  clear hB1
  go_wp2_with fail
  go_ret
  exact ⟨rfl, HX.out.below⟩
/-- The first moment that was found for a cell, or -1. -/
def Sn (p : Pm) (S : Nat → Nat → Int) (c : Nat) (m : Int) : Prop :=
  (∃ k, k < (p.O c).length ∧ S c k ≠ 1048576 ∧ (∀ j, j < k → S c j = 1048576) ∧ m = S c k) ∨ ((∀ k, k < (p.O c).length → S c k = 1048576) ∧ m = -1)
theorem Gr.slot {p : Pm} {nv sv : Nat → Value} {S : Nat → Nat → Int} {w : World} (h : Gr p nv sv S w) {c : Nat} (hc : c < p.s.size) : w.cell? ⟨p.sb, c, none⟩ = some (sv c) := (h.sc.2 c hc).1
set_option maxHeartbeats 2000000 in
theorem soon7_any {p : Pm} {nv sv : Nat → Value} {S : Nat → Nat → Int} {w : World} (h : Gr p nv sv S w) {c : Nat} (hc : c < p.s.size) :
    Calls Tryz.prog 30 #[.pointer (some ⟨p.gb, 0, none⟩), .int .i64 (c : Int)] w fun e w' => ∃ m, e = .returned (.int .i64 m) ∧ Sn p S c m ∧ Below w.heap.size w w' := by
  have hcI : (c : Int) < (p.s.size : Int) := by omega
  have n256 := h.fit.n256
  have k8 := h.g8
  have kc := h.slot hc
  have hol := h.fit.olen c
  rcases h.sm c hc with ⟨hm, hno⟩ | ⟨g, hm, _, hst⟩
  · have HNO := Lib.hid hno
    rw [hm] at kc
    unfold nil7 at kc
    clear h hm hno
    go_enter Tryz.func30, Tryz.ntmps30
    go_wp2_with fail
    refine wp_loop_rounds 1 ?_
    rw [rounds_succ]
    go_wp2_with fail
    go_ret
    exact ⟨-1, rfl, .inr ⟨fun k _ => HNO.out k, rfl⟩, Below.refl _ _⟩
  · have HST := Lib.hid hst
    rw [hm] at kc
    clear h hm hst
    unfold Sn
    obtain ⟨n, hn⟩ : ∃ n, n = (p.O c).length := ⟨_, rfl⟩
    rw [← hn] at kc hol ⊢
    have HN := Lib.hid hn
    clear hn
    go_enter Tryz.func30, Tryz.ntmps30
    go_wp2_with fail
    go_loopw [15] (fun iv wr => ∃ j : Nat, j ≤ n ∧ iv = .int .i64 (j : Int) ∧ Hid ((∀ i, i < j → S c i = 1048576) ∧ Below w.heap.size w wr)) (fun iv _ => n - (intOf iv).toNat)
    case atStart => exact ⟨0, Nat.zero_le _, rfl, Lib.hid ⟨fun i hi => by omega, Below.refl _ _⟩⟩
    case round =>
      rename World => wr
      obtain ⟨j, hj, rfl, HK⟩ := hrel
      by_cases hlt : j < n
      · obtain ⟨a0, a1, a2, _⟩ := HST.out.at (k := j) (by rw [← HN.out]; exact hlt)
        have hb := HK.out.2
        have a0 := (hb.cell (p := ⟨g, j * 3, none⟩) HST.out.cells.1).trans a0
        have a1 := (hb.cell (p := ⟨g, j * 3 + 1, none⟩) HST.out.cells.1).trans a1
        have a2 := (hb.cell (p := ⟨g, j * 3 + 2, none⟩) HST.out.cells.1).trans a2
        have hjI : (j : Int) < (n : Int) := by omega
        generalize ((p.O c).getD j (0, 0)).1 = x at *
        generalize ((p.O c).getD j (0, 0)).2 = y at *
        have HA := Lib.hid (hb.trans (((Below.refl wr.heap.size wr).alloc (Nat.le_refl _) (.cells #[.int .i64 x, .int .i64 y, .int .i64 (S c j)] 113)).mono hb.size))
        clear hb
        by_cases hS : S c j = 1048576
        · have HS := Lib.hid hS
          rw [hS] at a2 HA
          clear hS
          go_wp2_with fail
          go_roundw
          case rel =>
            refine ⟨j + 1, by omega, by go_num, Lib.hid ⟨fun i hi => ?_, HA.out⟩⟩
            by_cases e : i = j
            · subst e; exact HS.out
            · exact HK.out.1 i (by omega)
          case measure => simp [intOf]; omega
        · have HS := Lib.hid hS
          have dne : (S c j != 1048576) = true := by simp [hS]
          have HSX : Hid (∃ z, z = S c j) := Lib.hid ⟨_, rfl⟩
          obtain ⟨z, hz⟩ := HSX.out
          rw [← hz] at a2 dne HA
          have HZ := Lib.hid hz
          clear hS hz HSX
          go_wp2_with fail
          go_ret
          exact ⟨z, rfl, .inl ⟨j, hlt, HS.out, HK.out.1, HZ.out⟩, HA.out⟩
      · obtain rfl : j = n := by omega
        go_wp2_with fail
        go_ret
        exact ⟨-1, rfl, .inr ⟨HK.out.1, rfl⟩, HK.out.2⟩
end Sp
end Go.Proofs.YtcdclghmebgpnaaGreatDoor
end

section
namespace Go.Proofs.YtcdclghmebgpnaaGreatDoor
namespace Sp
open Go.RowKit Fl Pt
open Wn (Tab TF frees isT Ordw IW Wt Wow Bk wcl plc Rising)

/-- Can the robot be in a cell at a moment, by what was found? -/
def Pm.cn (p : Pm) (S : Nat → Nat → Int) (m : Int) (c : Nat) : Bool :=
  decide (plc (p.O c) m < (p.O c).length) && decide (((p.O c).getD (plc (p.O c) m) (0, 0)).1 ≤ m) && decide (S c (plc (p.O c) m) ≤ m)
theorem Pm.Fit.cn_iff {p : Pm} (h : p.Fit) {S : Nat → Nat → Int} {m : Int} {c : Nat} : p.cn S m c = true ↔ ∃ k, At (p.O c) k m ∧ S c k ≤ m := by
  unfold Pm.cn
  simp only [Bool.and_eq_true, decide_eq_true_eq]
  constructor
  · rintro ⟨⟨h1, h2⟩, h3⟩
    exact ⟨_, (at_plc (h.sepO c)).2 ⟨rfl, h1, h2⟩, h3⟩
  · rintro ⟨k, h1, h2⟩
    obtain ⟨rfl, h3, h4⟩ := (at_plc (h.sepO c)).1 h1
    exact ⟨⟨h3, h4⟩, h2⟩
theorem Pm.Fit.cnIff {p : Pm} (h : p.Fit) {last : Int} {S : Nat → Nat → Int} (D : Done p.env last S) {m : Int} {c : Nat} (hc : c < p.s.size) (hm : m ≤ last) : p.cn S m c = true ↔ p.env.R m c := by
  rw [h.cn_iff]
  exact (D.iff h.ok hc hm).symm
def CanTold (p : Pm) (nv sv : Nat → Value) (S : Nat → Nat → Int) (c : Nat) (m : Int) (w : World) (e : Ending) (w' : World) : Prop :=
  e = .returned (.bool (p.cn S m c)) ∧ ∃ sv', Gr p nv sv' S w' ∧ Went p w w'
set_option maxHeartbeats 2000000 in
theorem can_any {p : Pm} {nv sv : Nat → Value} {S : Nat → Nat → Int} {w : World} (h : Gr p nv sv S w) {c : Nat} (hc : c < p.s.size) (m : Int) :
    Calls Tryz.prog 86 #[.pointer (some ⟨p.gb, 0, none⟩), .int .i64 (c : Int), .int .i64 m] w (CanTold p nv sv S c m w) := by
  have HS := Lib.hid (stayAt_any h hc m)
  have HF := Lib.hid h.fit
  clear h
  go_enter Tryz.func86, Tryz.ntmps86
  go_wp2_with fail
  refine HS.out.mono ?_
  rintro e w2 ⟨sv', hg, hw, _, ⟨k, g, hat, hsv, rfl⟩ | ⟨hno, rfl⟩⟩
  · obtain ⟨_, _, q, _⟩ := (hg.sts hc hsv).at hat.1
    have HG := Lib.hid hg
    have HW := Lib.hid hw
    have HC : Hid (p.cn S m c = decide (S c k ≤ m)) := Lib.hid (by
      rw [Bool.eq_iff_iff, HF.out.cn_iff, decide_eq_true_eq]
      constructor
      · rintro ⟨k', h1, h2⟩
        obtain rfl := h1.uniq (HF.out.sepO c).seps hat
        exact h2
      · intro h
        exact ⟨k, hat, h⟩)
    clear hg hw hat hsv
    unfold CanTold
    go_wp2_with fail
    go_ret
    exact ⟨by rw [HC.out]; rfl, sv', HG.out, HW.out⟩
  · have HC : Hid (p.cn S m c = false) := Lib.hid (by
      rw [Bool.eq_false_iff]
      intro h
      obtain ⟨k, h1, _⟩ := HF.out.cn_iff.1 h
      exact hno ⟨k, h1⟩)
    have HG := Lib.hid hg
    have HW := Lib.hid hw
    clear hg hw hno
    go_wp2_with fail
    go_ret
    exact ⟨by rw [HC.out]; rfl, sv', HG.out, HW.out⟩
/-- Out of which cell it came. -/
def Pm.og (p : Pm) (S : Nat → Nat → Int) (m : Int) (c : Nat) : Option Nat := p.env.org (fun m d => p.cn S m d) m c
def OgV : Option Nat → Value
  | some d => .tuple #[.int .i64 (d : Int), .bool true]
  | none => .tuple #[.int .i64 0, .bool false]
def OrgTold (p : Pm) (S : Nat → Nat → Int) (c : Nat) (m : Int) (w : World) (e : Ending) (w' : World) : Prop :=
  e = .returned (OgV (p.og S m c)) ∧ ∃ nv' sv', Gr p nv' sv' S w' ∧ Went p w w'
theorem find_at {P : Nat → Bool} : ∀ {l : List Nat} {j : Nat}, j < l.length → P (l.getD j 0) = true → (∀ i, i < j → P (l.getD i 0) = false) → l.find? P = some (l.getD j 0)
  | [], j, h, _, _ => by simp at h
  | x :: l, 0, _, h, _ => by
    have h : P x = true := h
    rw [List.find?_cons, h]; rfl
  | x :: l, j + 1, hj, h, hb => by
    have h0 : P x = false := hb 0 (by omega)
    rw [List.find?_cons, h0]
    exact find_at (l := l) (by simpa using hj) h (fun i hi => hb (i + 1) (by omega))
theorem find_none {P : Nat → Bool} {l : List Nat} (h : ∀ i, i < l.length → P (l.getD i 0) = false) : l.find? P = none := by
  rw [List.find?_eq_none]
  intro x hx
  obtain ⟨i, hi, rfl⟩ := List.getElem_of_mem hx
  have := h i hi
  rw [List.getD, List.getElem?_eq_getElem hi] at this
  have this : P l[i] = false := this
  rw [this]; simp
set_option maxHeartbeats 4000000 in
theorem origin_any {p : Pm} {nv sv : Nat → Value} {S : Nat → Nat → Int} {w : World} (h : Gr p nv sv S w) {c : Nat} (hc : c < p.s.size) (hz : at_ p.s c ≠ 35) (m : Int) (hm : 0 ≤ m ∧ m ≤ 2000000) :
    Calls Tryz.prog 60 #[.pointer (some ⟨p.gb, 0, none⟩), .int .i64 (c : Int), .int .i64 m] w (OrgTold p S c m w) := by
  have HN := Lib.hid (nearTo_any h hc hz)
  have HF := Lib.hid h.fit
  have HNL := Lib.hid (fun d hd => h.fit.nrlt hc (d := d) hd)
  have hl4 : (p.near c).length ≤ 4 := nr_len _ _ _ _
  clear h hz
  unfold OrgTold
  have HOG : Hid (p.og S m c = (p.near c).find? fun d => p.lv d && p.cn S (m - 1) d) := Lib.hid rfl
  have h256 := HF.out.n256
  go_enter Tryz.func60, Tryz.ntmps60
  go_wp2_with fail
  refine HN.out.mono ?_
  rintro e w2 ⟨nv2, g, cap, rfl, hnr, hg, hw⟩
  have HNR := Lib.hid hnr
  have HCAP := Lib.hid hnr.cap
  have HG := Lib.hid hg
  have HW := Lib.hid hw
  obtain ⟨n, hn⟩ : ∃ n, n = (p.near c).length := ⟨_, rfl⟩
  rw [← hn] at hl4 ⊢
  have HNN := Lib.hid hn
  clear hnr hg hw hn
  go_wp2_with fail
  go_loopw [14] (fun iv wr => ∃ j : Nat, j ≤ n ∧ iv = .int .i64 (j : Int) ∧ Hid ((∀ i, i < j → (p.lv ((p.near c).getD i 0) && p.cn S (m - 1) ((p.near c).getD i 0)) = false) ∧ Nrs g cap (p.near c) wr ∧ ∃ sv', Gr p nv2 sv' S wr ∧ Went p w wr)) (fun iv _ => n - (intOf iv).toNat)
  case atStart => exact ⟨0, Nat.zero_le _, rfl, Lib.hid ⟨fun i hi => by omega, HNR.out, sv, HG.out, HW.out⟩⟩
  case round =>
    rename World => wr
    obtain ⟨j, hj, rfl, HK⟩ := hrel
    obtain ⟨a1, a2, sv', a3, a4⟩ := HK.out
    have A1 := Lib.hid a1
    have A2 := Lib.hid a2
    have A3 := Lib.hid a3
    have A4 := Lib.hid a4
    have k6 := a3.g6
    clear a1 a2 a3 a4 HK
    by_cases hlt : j < n
    · have hjx : j < (p.near c).length := by rw [← HNN.out]; exact hlt
      have hcx := (A2.out.cells.2 j hjx).1
      unfold iv at hcx
      have hdN := HNL.out _ (getD_mem hjx)
      have hjI : (j : Int) < (n : Int) := by omega
      have HD : Hid (∃ d, d = (p.near c).getD j 0) := Lib.hid ⟨_, rfl⟩
      obtain ⟨d, hd⟩ := HD.out
      rw [← hd] at hcx hdN
      have HDD := Lib.hid hd
      have hdI : (d : Int) < (p.s.size : Int) := by omega
      have kd := A3.out.lvc hdN
      have HCN := Lib.hid (can_any A3.out hdN (m - 1))
      clear hd HD hjx
      have HNX : Hid ((p.lv d && p.cn S (m - 1) d) = false → ∀ i, i < j + 1 → (p.lv ((p.near c).getD i 0) && p.cn S (m - 1) ((p.near c).getD i 0)) = false) := Lib.hid (fun h i hi => by
        by_cases e : i = j
        · subst e; rw [← HDD.out]; exact h
        · exact A1.out i (by omega))
      cases hlv : p.lv d with
      | false =>
        rw [hlv] at kd
        have HX := Lib.hid (HNX.out (by rw [hlv]; rfl))
        clear hlv HCN
        go_wp2_with fail
        go_roundw
        case rel => exact ⟨j + 1, by omega, by go_num, Lib.hid ⟨HX.out, A2.out, sv', A3.out, A4.out⟩⟩
        case measure => simp [intOf]; omega
      | true =>
        rw [hlv] at kd
        have HLV := Lib.hid hlv
        clear hlv
        go_wp2_with fail
        refine HCN.out.mono ?_
        rintro e w3 ⟨rfl, sv3, hg3, hw3⟩
        have HG3 := Lib.hid hg3
        have HW3 := Lib.hid (A4.out.trans hw3)
        have HN3 : Hid (Nrs g cap (p.near c) w3) := Lib.hid (A2.out.same hw3.below.size (by
          obtain ⟨cs, fz, hk⟩ := A2.out.kind
          rw [hk]
          exact hw3.kept g _ hk (notW_cells (by decide) (by decide) (by decide))))
        clear hg3 hw3
        cases hcn : p.cn S (m - 1) d with
        | false =>
          have HX := Lib.hid (HNX.out (by rw [hcn, Bool.and_false]))
          clear hcn
          go_wp2_with fail
          go_roundw
          case rel => exact ⟨j + 1, by omega, by go_num, Lib.hid ⟨HX.out, HN3.out, sv3, HG3.out, HW3.out⟩⟩
          case measure => simp [intOf]; omega
        | true =>
          have HX : Hid (p.og S m c = some d) := Lib.hid (by
            rw [HOG.out]
            have := find_at (P := fun d => p.lv d && p.cn S (m - 1) d) (l := p.near c) (j := j) (by rw [← HNN.out]; exact hlt) (by show (p.lv _ && p.cn S (m - 1) _) = true; rw [← HDD.out, HLV.out, hcn]; rfl) A1.out
            rw [this, ← HDD.out])
          clear hcn
          go_wp2_with fail
          go_ret2
          exact ⟨by rw [HX.out]; rfl, nv2, sv3, HG3.out, HW3.out⟩
    · obtain rfl : j = n := by omega
      have HX : Hid (p.og S m c = none) := Lib.hid (by
        rw [HOG.out]
        exact find_none (fun i hi => A1.out i (by rw [HNN.out]; exact hi)))
      go_wp2_with fail
      go_ret2
      exact ⟨by rw [HX.out]; rfl, nv2, sv', A3.out, A4.out⟩
def SetTold (p : Pm) (nv sv : Nat → Value) (S : Nat → Nat → Int) (c : Nat) (m : Int) (w : World) (e : Ending) (w' : World) : Prop :=
  e = .returned (.bool (p.env.stl m c)) ∧ ∃ sv', Gr p nv sv' S w' ∧ Went p w w'
set_option maxHeartbeats 2000000 in
theorem settled_any {p : Pm} {nv sv : Nat → Value} {S : Nat → Nat → Int} {w : World} (h : Gr p nv sv S w) {c : Nat} (hc : c < p.s.size) (m : Int) :
    Calls Tryz.prog 59 #[.pointer (some ⟨p.gb, 0, none⟩), .int .i64 (c : Int), .int .i64 m] w (SetTold p nv sv S c m w) := by
  have k4 := h.g4
  have HS := Lib.hid (staysIn_any h h.fit.on)
  have HG := Lib.hid h
  have hfirst := h.fit.first
  clear h
  by_cases hca : c = p.a
  · subst hca
    have HST : Hid (p.env.stl m p.a = decide (m < ((p.O p.a).getD 0 (0, 0)).2)) := Lib.hid (by
      unfold Env.stl
      rw [show (p.a == p.env.a) = true from beq_self_eq_true p.a, Bool.true_and]
      rfl)
    unfold SetTold
    generalize ha : p.a = a at *
    have hlen := hfirst.1
    have hlenI : (0 : Int) < ((p.O a).length : Int) := by omega
    clear hfirst
    go_enter Tryz.func59, Tryz.ntmps59
    go_wp2_with fail
    refine HS.out.mono ?_
    rintro e w2 ⟨sv', g, rfl, hv, hst, hg, hw, _⟩
    have q := (hst.at (k := 0) hlen).2.1
    rw [Nat.zero_mul, Nat.zero_add] at q
    have HG2 := Lib.hid hg
    have HW2 := Lib.hid hw
    generalize ((p.O a).getD 0 (0, 0)).2 = y at *
    clear hv hst hg hw
    go_wp2_with fail
    go_ret
    exact ⟨by rw [HST.out]; rfl, sv', HG2.out, HW2.out⟩
  · have HST : Hid (p.env.stl m c = false) := Lib.hid (by
      unfold Env.stl
      rw [show (c == p.env.a) = false from beq_eq_false_iff_ne.2 hca, Bool.false_and])
    have hne : ((c : Int) == (p.a : Int)) = false := by rw [beq_eq_false_iff_ne]; omega
    go_enter Tryz.func59, Tryz.ntmps59
    go_wp2_with fail
    go_ret
    exact ⟨by rw [HST.out]; rfl, sv, HG.out, Went.same _ _⟩
end Sp
end Go.Proofs.YtcdclghmebgpnaaGreatDoor
end

section
namespace Go.Proofs.YtcdclghmebgpnaaGreatDoor
namespace Sp
open Go.RowKit Fl Pt
open Wn (Tab TF frees isT Ordw IW Wt wcl plc Rising)

theorem Tryz.infoStep : (Tryz.prog.info? 64).map (fun i => (i.zero, i.size, i.bytes)) = some (some (.agg #[.int .i64 0, .int .i64 0]), 2, 16) := by kernel_rfl
/-- Steps that the call owns. -/
def Sow (w : World) (base : Nat) (v : Value) (L : List (Int × Int)) : Prop := w.ownsRow base 64 2 v L.length (wcl L)
theorem Sow.wt {w : World} {base : Nat} {A : Option Addr} {n cap : Nat} {L : List (Int × Int)} (h : Sow w base (.slice A n cap) L) : Wt w.heap.size w A n cap L := by
  unfold Sow at h
  rcases h.2 with ⟨q, h0⟩ | ⟨g, cap', cur, q, hg, hh, h1, h2, _⟩
  · injection q with q1 q2 q3
    subst q1 q2 q3
    exact ⟨h0.symm, Nat.le_refl _, by unfold maxLen; omega, fun _ => rfl, fun h => by omega⟩
  · injection q with q1 q2 q3
    subst q1 q2 q3
    refine ⟨rfl, h1, h2, fun h => (by cases h), fun _ => ⟨g, 0, rfl, (h.lt g rfl).2, fun j hj => ?_⟩⟩
    have := Wn.wcl_get L j hj
    rw [Nat.zero_add, h.cellAt _ (by omega), h.cellAt _ (by omega)]
    exact this
theorem Sow.form {w : World} {base : Nat} {v : Value} {L : List (Int × Int)} (h : Sow w base v L) : ∃ A cap, v = .slice A L.length cap := by
  rcases h.2 with ⟨q, h0⟩ | ⟨g, cap', cur, q, _⟩
  · exact ⟨none, 0, by rw [q, h0]⟩
  · exact ⟨_, _, q⟩
theorem Sow.later {w w' : World} {base : Nat} {v : Value} {L : List (Int × Int)} (h : Sow w base v L) (hb : Below w.heap.size w w') : Sow w' base v L := ownsRow_same h (fun k hk => hb.block k (h.lt k hk).2)
theorem Sow.nil (w : World) (base : Nat) : Sow w base (.slice none 0 0) [] := World.ownsRow_nil _ _ _ _
theorem Sow.lower {w : World} {base base' : Nat} {v : Value} {L : List (Int × Int)} (h : Sow w base v L) (hb : base' ≤ base) : Sow w base' v L := by
  obtain ⟨h1, h2⟩ := h
  refine ⟨h1, ?_⟩
  rcases h2 with h2 | ⟨g, cap, cur, rfl, hg, r⟩
  · exact .inl h2
  · exact .inr ⟨g, cap, cur, rfl, by omega, r⟩
theorem run_apps {w : World} (ty : TypeId) (base : Nat) (v : Value) (xs : List (Int × Int)) (hown : Sow w base v xs) (A : Option Addr) (m c : Nat) (ys : List (Int × Int)) (hr : Wt w.heap.size w A m c ys) (hb : xs.length + m ≤ 1000000) (hbase : base ≤ w.heap.size) :
    ∃ v' w', (Builtin.append_ #[42, 42] ty #[v, .slice A m c]).run Tryz.prog w = .ok v' w' ∧ Sow w' base v' (xs ++ ys) ∧ w.grownBy w' v.ownBlock ∧ (v'.ownBlock = v.ownBlock ∨ v'.ownBlock = some w.heap.size) := by
  obtain ⟨i0, hi, hz0, hz1, hz2⟩ := info_parts Tryz.infoStep
  cases A with
  | none =>
    have hc0 := hr.nil rfl
    have hm0 : m = 0 := by have := hr.le; omega
    subst hm0 hc0
    obtain rfl : ys = [] := List.eq_nil_of_length_eq_zero hr.len.symm
    exact ⟨v, w, run_append_owned_none (P := Tryz.prog) (w := w) base 42 ty 64 i0 2 Tryz.underlying42 hi v xs.length (wcl xs) hown, by simpa using hown, ⟨rfl, rfl, rfl, Nat.le_refl _, fun _ _ _ => rfl⟩, .inl rfl⟩
  | some ad =>
    obtain ⟨v', w', hrun, h2, h3, _, h5⟩ := run_append_own_at (P := Tryz.prog) w base 42 ty 64 i0 (.agg #[.int .i64 0, .int .i64 0]) 2 16 Tryz.underlying42 hi hz0 hz1 hz2 rfl (by decide) v xs.length (wcl xs) hown ad m c (wcl ys) (by rw [Wn.wcl_length, hr.len]) (Wn.wcl_cells hr ad rfl) (Wn.wcl_one ys) (by unfold maxLen; omega) (by omega) hbase
    exact ⟨v', w', hrun, by unfold Sow; rw [Wn.wcl_app, List.length_append, ← hr.len]; exact h2, h3, h5⟩
theorem app_steps {w : World} {ops : Array Oper} {rest : List Oper} {o : Oper} {a : Act} {Q : Exit → Act → World → Prop} (hgd : o.guard = none) (s x : Operand)
    (ho : o.op = .call { callee := .builtin .append, args := #[s, x], argTypes := #[42, 42] })
    (base : Nat) (v : Value) (xs : List (Int × Int)) (hs : a.eval s = v) (hown : Sow w base v xs)
    (A : Option Addr) (m c : Nat) (ys : List (Int × Int)) (hx : a.eval x = .slice A m c) (hr : Wt w.heap.size w A m c ys) (hb : xs.length + m ≤ 1000000) (hbase : base ≤ w.heap.size)
    (h : ∀ A' c' w', Sow w' base (.slice A' (xs ++ ys).length c') (xs ++ ys) → Below base w w' → w.grownBy w' v.ownBlock → wpList Tryz.prog ops Q rest (a.put o.dst (.slice A' (xs ++ ys).length c')) w') : wpList Tryz.prog ops Q (o :: rest) a w := by
  obtain ⟨v', w', hrun, h1, h2, h3⟩ := run_apps o.type base v xs hown A m c ys hr hb hbase
  obtain ⟨A', c', rfl⟩ := h1.form
  refine wpList_plain hgd fun K hK => ?_
  unfold Oper.wp execOp
  simp only [ho, resolve, invoke, builtin, Sem.run_bind, Sem.run_pure, Result.andThen_ok, List.map_toArray, List.map_cons, List.map_nil, hs, hx, hrun]
  exact hK _ _ (h A' c' w' h1 (Below.grown (Below.refl _ _) h2 hbase (fun k hk => (hown.lt k hk).1)) h2)
/-- The ground is kept where steps are written. -/
theorem Gr.steps {p : Pm} {nv sv : Nat → Value} {S : Nat → Nat → Int} {w w' : World} (h : Gr p nv sv S w) {base : Nat} {v : Value} {L : List (Int × Int)} (hs : Sow w base v L) (hB : p.B ≤ base) (hbw : base ≤ w.heap.size) (ht : Turn (fun k => v.ownBlock = some k) (fun k => v.ownBlock = some k) w w') : Gr p nv sv S w' ∧ Below p.B w w' := by
  have hb : Below p.B w w' := ht.below _ (Nat.le_trans hB hbw) (fun k hk => Nat.le_trans hB (hs.lt k hk).1)
  refine ⟨h.same hb fun k o hk hg => ?_, hb⟩
  rw [ht.block k (lt_of_heap hk) (fun e => ?_)]
  · exact hk
  · obtain ⟨c, fz, hc⟩ := row_kind hs k e
    obtain ⟨cs, e2, fz2, ho, ht2⟩ := hg
    rw [hk, ho] at hc
    injection hc with hc
    injection hc with _ hc _
    rw [hc] at ht2
    revert ht2
    decide
theorem Sow.went {w w' : World} {base : Nat} {v : Value} {L : List (Int × Int)} (h : Sow w base v L) (hk : KeptG w w') : Sow w' base v L := by
  refine ownsRow_same h (fun k hk2 => ?_)
  obtain ⟨c, fz, hc⟩ := row_kind h k hk2
  rw [hc]
  exact hk k _ hc (notW_cells (by decide) (by decide) (by decide))
theorem st_one (w : World) (x y : Int) : Wt (w.alloc (.cells #[.int .i64 x, .int .i64 y] 64)).heap.size (w.alloc (.cells #[.int .i64 x, .int .i64 y] 64)) (some ⟨w.heap.size, 0, none⟩) 1 1 [(x, y)] := by
  refine ⟨rfl, Nat.le_refl _, by unfold maxLen; omega, fun h => (by cases h), fun _ => ⟨w.heap.size, 0, rfl, by simp, fun j hj => ?_⟩⟩
  obtain rfl : j = 0 := by omega
  exact ⟨by simp [World.cell?_alloc_new], by simp [World.cell?_alloc_new]⟩
theorem wcl_set : ∀ (L : List (Int × Int)) (t : Nat) (q : Int × Int), t < L.length → wcl (L.set t q) = ((wcl L).set (t * 2) (.int .i64 q.1)).set (t * 2 + 1) (.int .i64 q.2)
  | [], t, q, h => by simp at h
  | x :: L, 0, q, _ => by simp [wcl]
  | x :: L, t + 1, q, h => by
    have ih := wcl_set L t q (by simpa using h)
    have e1 : (t + 1) * 2 = t * 2 + 1 + 1 := by omega
    have e2 : (t + 1) * 2 + 1 = t * 2 + 1 + 1 + 1 := by omega
    rw [e2, e1]
    simp [wcl, ih]
/-- A step is stored. -/
theorem Sow.put {w : World} {base g n c : Nat} {L : List (Int × Int)} (h : Sow w base (.slice (some ⟨g, 0, none⟩) n c) L) {t : Nat} (ht : t < L.length) (q : Int × Int) :
    Sow ((w.setCell ⟨g, t * 2, none⟩ (.int .i64 q.1)).setCell ⟨g, t * 2 + 1, none⟩ (.int .i64 q.2)) base (.slice (some ⟨g, 0, none⟩) n c) (L.set t q) := by
  obtain ⟨h0, h⟩ := h
  rcases h with ⟨e, _⟩ | ⟨g', c', cur, e, hg, hh, h1, h2, h3, h4⟩
  · cases e
  · injection e with e1 e2 e3
    injection e1 with e1
    injection e1 with e1
    subst e1 e3
    have k1 := heap_setCell_same w g (t * 2) _ _ (.int .i64 q.1) hh
    have k2 := heap_setCell_same _ g (t * 2 + 1) _ _ (.int .i64 q.2) k1
    refine ⟨by rw [Wn.wcl_length, List.length_set], .inr ⟨g, c, _, by rw [List.length_set, e2], hg, k2, by rw [List.length_set]; exact h1, h2, by simpa using h3, ?_⟩⟩
    rw [List.length_set, wcl_set L t q ht, ← h4]
    simp only [Array.toList_setIfInBounds]
    rw [List.take_set, List.take_set]
theorem Sow.ad {w : World} {base n c : Nat} {A : Option Addr} {L : List (Int × Int)} (h : Sow w base (.slice A n c) L) (hL : L ≠ []) : ∃ g, A = Option.some ⟨g, 0, Option.none⟩ ∧ base ≤ g := by
  unfold Sow at h
  rcases h.2 with ⟨q, h0⟩ | ⟨g', cap', cur, q, hg, hh, h1, h2, _⟩
  · exact absurd (List.eq_nil_of_length_eq_zero h0) hL
  · injection q with q1 q2 q3
    exact ⟨g', q1, hg⟩
theorem Sow.cells {w : World} {base g n c : Nat} {L : List (Int × Int)} (h : Sow w base (.slice (some ⟨g, 0, none⟩) n c) L) {t : Nat} (ht : t < L.length) :
    w.cell? ⟨g, t * 2, none⟩ = some (.int .i64 (L.getD t (0, 0)).1) ∧ w.cell? ⟨g, t * 2 + 1, none⟩ = some (.int .i64 (L.getD t (0, 0)).2) ∧ w.frozen? ⟨g, t * 2, none⟩ = false ∧ w.frozen? ⟨g, t * 2 + 1, none⟩ = false := by
  have hw := h.wt
  have hl := hw.len
  subst hl
  obtain ⟨g', off, e1, _, hc⟩ := hw.cell (by omega)
  simp only [Option.some.injEq, Addr.mk.injEq, and_true] at e1
  obtain ⟨rfl, rfl⟩ := e1
  have := hc t ht
  rw [Nat.zero_add] at this
  exact ⟨this.1, this.2, World.ownsRow.frozenAt h _, World.ownsRow.frozenAt h _⟩
/-- So many were changed with those from the end. -/
structure Rv (L : List (Int × Int)) (i : Nat) (M : List (Int × Int)) : Prop where
  len : M.length = L.length
  at_ : ∀ t, t < L.length → M.getD t (0, 0) = if t < i ∨ L.length ≤ t + i then L.getD (L.length - 1 - t) (0, 0) else L.getD t (0, 0)
theorem Rv.start (L : List (Int × Int)) : Rv L 0 L := ⟨rfl, fun t ht => by rw [if_neg (by omega)]⟩
theorem getD_setW (M : List (Int × Int)) (i t : Nat) (x : Int × Int) (hi : i < M.length) : (M.set i x).getD t (0, 0) = if t = i then x else M.getD t (0, 0) := by
  by_cases e : t = i
  · subst e
    rw [if_pos rfl, List.getD, List.getElem?_set_self hi]; rfl
  · rw [if_neg e, List.getD, List.getD, List.getElem?_set_ne (fun h => e h.symm)]
theorem Rv.step {L M : List (Int × Int)} {i : Nat} (h : Rv L i M) (hi : i < L.length - 1 - i) : Rv L (i + 1) ((M.set i (M.getD (L.length - 1 - i) (0, 0))).set (L.length - 1 - i) (M.getD i (0, 0))) := by
  have hl := h.len
  have q1 := h.at_ i (by omega)
  have q2 := h.at_ (L.length - 1 - i) (by omega)
  rw [if_neg (by omega)] at q1 q2
  refine ⟨by simp [hl], fun t ht => ?_⟩
  rw [getD_setW _ _ _ _ (by simp; omega), getD_setW _ _ _ _ (by omega), q1, q2]
  by_cases e1 : t = L.length - 1 - i
  · rw [if_pos e1, if_pos (by omega)]
    congr 1
    omega
  · rw [if_neg e1]
    by_cases e2 : t = i
    · rw [if_pos e2, if_pos (by omega), e2]
    · rw [if_neg e2, h.at_ t ht]
      by_cases e3 : t < i ∨ L.length ≤ t + i
      · rw [if_pos e3, if_pos (by omega)]
      · rw [if_neg e3, if_neg (by omega)]
theorem Rv.done {L M : List (Int × Int)} {i : Nat} (h : Rv L i M) (hi : ¬ i < L.length - 1 - i) : M = L.reverse := by
  have hl := h.len
  refine Wn.ext_getD (by rw [List.length_reverse]; exact hl) (fun t ht => ?_)
  rw [hl] at ht
  have e : L.reverse.getD t (0, 0) = L.getD (L.length - 1 - t) (0, 0) := by
    rw [List.getD, List.getD, List.getElem?_reverse ht]
  rw [h.at_ t ht, e]
  split
  · rfl
  · rw [show L.length - 1 - t = t by omega]
set_option maxHeartbeats 4000000 in
theorem reverse_any (base : Nat) (A : Option Addr) (n c : Nat) (L : List (Int × Int)) (w : World) (h : Sow w base (.slice A n c) L) (hn : n = L.length) (hl : n ≤ 100000) (hB : base ≤ w.heap.size) :
    Calls Tryz.prog 61 #[.slice A n c] w fun e w' => e = .returned (.tuple #[]) ∧ Sow w' base (.slice A n c) L.reverse ∧ Turn (fun k => (Value.slice A n c).ownBlock = some k) (fun k => (Value.slice A n c).ownBlock = some k) w w' := by
  have HS := Lib.hid h
  have HN := Lib.hid hn
  clear h hn
  go_enter Tryz.func61, Tryz.ntmps61
  go_wp2_with fail
  go_loopw [2, 3] (fun a2 a3 wr => ∃ (i : Nat) (j : Int), i ≤ n ∧ j = (n : Int) - 1 - i ∧ a2 = .int .i64 (i : Int) ∧ a3 = .int .i64 j ∧ Hid (∃ M, Rv L i M ∧ Sow wr base (.slice A n c) M ∧ Turn (fun k => (Value.slice A n c).ownBlock = some k) (fun k => (Value.slice A n c).ownBlock = some k) w wr)) (fun a2 _ _ => n - (intOf a2).toNat)
  case atStart => exact ⟨0, (n : Int) - 1, Nat.zero_le _, by omega, rfl, by go_num, Lib.hid ⟨L, Rv.start L, HS.out, Turn.refl _ _⟩⟩
  case round =>
    rename World => wr
    obtain ⟨i, j, hi, hj, rfl, rfl, HK⟩ := hrel
    obtain ⟨M, m1, m2, m3⟩ := HK.out
    by_cases hlt : (i : Int) < j
    · have hML := m1.len
      have hMn : M.length = n := by rw [hML, HN.out]
      obtain ⟨g, rfl, hbg⟩ := m2.ad (fun e => by rw [e] at hMn; simp at hMn; omega)
      obtain ⟨jn, hjn⟩ : ∃ jn : Nat, jn = n - 1 - i := ⟨_, rfl⟩
      obtain rfl : j = (jn : Int) := by omega
      have hir : i < M.length := by omega
      have hjr : jn < M.length := by omega
      obtain ⟨i1, i2, i3, i4⟩ := m2.cells hir
      obtain ⟨j1, j2, j3, j4⟩ := m2.cells hjr
      have p1 := m2.put hir (M.getD jn (0, 0))
      have p2 := m2.put hjr (M.getD i (0, 0))
      obtain ⟨s1, s2, s3, s4⟩ := p1.cells (t := jn) (by rw [List.length_set]; exact hjr)
      obtain ⟨t1, t2, t3, t4⟩ := p2.cells (t := i) (by rw [List.length_set]; exact hir)
      have hne : jn ≠ i := by omega
      rw [getD_setW _ _ _ _ hir, if_neg hne] at s1 s2
      rw [getD_setW _ _ _ _ hjr, if_neg (fun e => hne e.symm)] at t1 t2
      have hst := m1.step (by rw [← HN.out]; omega)
      rw [← HN.out, ← hjn] at hst
      have HA := Lib.hid (p1.put (t := jn) (by rw [List.length_set]; exact hjr) (M.getD i (0, 0)))
      have HBB := Lib.hid (p2.put (t := i) (by rw [List.length_set]; exact hir) (M.getD jn (0, 0)))
      have HST := Lib.hid hst
      have HCM : Hid ((M.set jn (M.getD i (0, 0))).set i (M.getD jn (0, 0)) = (M.set i (M.getD jn (0, 0))).set jn (M.getD i (0, 0))) := Lib.hid (List.set_comm _ _ (fun e => hne e))
      have HT := Lib.hid m3
      have HJN := Lib.hid hjn
      have HJI := Lib.hid hj
      have hirI : (i : Int) < (n : Int) := by omega
      have hjrI : (jn : Int) < (n : Int) := by omega
      clear m1 m2 m3 HK p1 p2 hst hjn hj
      generalize M.getD i (0, 0) = qi at *
      generalize M.getD jn (0, 0) = qj at *
      obtain ⟨a1, b1⟩ := qi
      obtain ⟨a2, b2⟩ := qj
      go_wp2_with fail
      go_region
      have HTT := Lib.hid ((((HT.out.put (o := i * 2) (.int .i64 a2) rfl).put (o := i * 2 + 1) (.int .i64 b2) rfl).put (o := jn * 2) (.int .i64 a1) rfl).put (o := jn * 2 + 1) (.int .i64 b1) rfl).drew
      have HSA := Lib.hid (HA.out.later (Below.refl _ _).drew)
      clear HA HBB HT s1 s2 s3 s4 t1 t2 t3 t4 i1 i2 i3 i4 j1 j2 j3 j4
      generalize (World.setCell _ _ _).drew = wz at *
      go_wp2_with fail
      go_roundw
      case rel => exact ⟨i + 1, (jn : Int) - 1, by omega, by have := HJI.out; omega, by go_num, by go_num, Lib.hid ⟨_, HST.out, HSA.out, HTT.out⟩⟩
      case measure => simp [intOf]; omega
    · have HR := Lib.hid (m1.done (by have := HN.out; omega))
      have HM := Lib.hid m2
      have HT := Lib.hid m3
      clear m1 m2 m3 HK
      go_wp2_with fail
      go_end0
      exact ⟨rfl, by rw [← HR.out]; exact HM.out, HT.out⟩
end Sp
end Go.Proofs.YtcdclghmebgpnaaGreatDoor
end
