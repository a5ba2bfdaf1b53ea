/-
  BankerGoes: the walk.
-/
import Derived.Test.YtljmigomhoefpaaBkK
set_option linter.unusedVariables false
set_option maxRecDepth 100000
namespace Go.Proofs.Ytljmigomhoefpaa.Bk
open Go.RowKit

/-- No element of a list lies in this block. -/
def Off (gx : Nat) (A : Option Addr) (n : Nat) : Prop := 0 < n → ∀ a, A = some a → a.block ≠ gx
theorem Lt.other {B : Nat} {w : World} {A : Option Addr} {n c gx x : Nat} {L : List Int} {v : Value} (h : Lt B w A n c L) (hne : Off gx A n) : Lt B (w.setCell ⟨gx, x, none⟩ v) A n c L := by
  refine ⟨Gt.len h, Gt.le h, Gt.max h, Gt.nil h, fun hn => ?_⟩
  obtain ⟨g, off, e, hg, hc⟩ := Gt.cell h hn
  refine ⟨g, off, e, hg, fun j hj => ?_⟩
  rw [World.cell?_setCell_other (h := (fun e2 => hne hn _ e (by have := congrArg Addr.block e2; exact this.symm)))]
  exact hc j hj
/-- A slice with these numbers, none of them in the block gx. -/
def SlA (w : World) (gx : Nat) (v : Value) (L : List Int) : Prop := ∃ A n c, v = .slice A n c ∧ Lt w.heap.size w A n c L ∧ Off gx A n
def RdA (w : World) (gx : Nat) (P : List (Value × Value)) (C : Cm) : Prop := P.length = C.length ∧ ∀ j p, P[j]? = some p → SlA w gx p.1 (hold C j) ∧ SlA w gx p.2 (need C j)
theorem SlA.later {w w' : World} {gx : Nat} {v : Value} {L : List Int} (h : SlA w gx v L) (hb : Below w.heap.size w w') : SlA w' gx v L := by
  obtain ⟨A, n, c, e, h1, h2⟩ := h
  exact ⟨A, n, c, e, Gt.later h1 hb, h2⟩
theorem SlA.other {w : World} {gx x : Nat} {u v : Value} {L : List Int} (h : SlA w gx v L) : SlA (w.setCell ⟨gx, x, none⟩ u) gx v L := by
  obtain ⟨A, n, c, e, h1, h2⟩ := h
  exact ⟨A, n, c, e, Gt.raise (Lt.other h1 h2) (by simp [World.setCell]), h2⟩
theorem SlA.of {B : Nat} {w : World} {gx : Nat} {v : Value} {L : List Int} (h : Sl B w v L) (hB : B ≤ gx) (hw : B ≤ w.heap.size) : SlA w gx v L := by
  obtain ⟨A, n, c, e, h1⟩ := h
  refine ⟨A, n, c, e, Gt.raise h1 hw, fun hn a ha => ?_⟩
  obtain ⟨g, off, e2, hg, _⟩ := Gt.cell h1 hn
  rw [ha] at e2
  injection e2 with e2
  subst e2
  exact fun e => by simp at e; omega
theorem SlA.sl {w : World} {gx : Nat} {v : Value} {L : List Int} (h : SlA w gx v L) : Sl w.heap.size w v L := by obtain ⟨A, n, c, e, h1, _⟩ := h; exact ⟨A, n, c, e, h1⟩
theorem RdA.later {w w' : World} {gx : Nat} {P : List (Value × Value)} {C : Cm} (h : RdA w gx P C) (hb : Below w.heap.size w w') : RdA w' gx P C := ⟨h.1, fun j p e => ⟨(h.2 j p e).1.later hb, (h.2 j p e).2.later hb⟩⟩
theorem RdA.other {w : World} {gx x : Nat} {u : Value} {P : List (Value × Value)} {C : Cm} (h : RdA w gx P C) : RdA (w.setCell ⟨gx, x, none⟩ u) gx P C := ⟨h.1, fun j p e => ⟨(h.2 j p e).1.other, (h.2 j p e).2.other⟩⟩
theorem RdA.of {B : Nat} {w : World} {gx : Nat} {P : List (Value × Value)} {C : Cm} (h : Rd B w P C) (hB : B ≤ gx) (hw : B ≤ w.heap.size) : RdA w gx P C := ⟨h.1, fun j p e => ⟨SlA.of (h.2 j p e).1 hB hw, SlA.of (h.2 j p e).2 hB hw⟩⟩
theorem RdA.rd {w : World} {gx : Nat} {P : List (Value × Value)} {C : Cm} (h : RdA w gx P C) : Rd w.heap.size w P C := ⟨h.1, fun j p e => ⟨(h.2 j p e).1.sl, (h.2 j p e).2.sl⟩⟩
theorem RdA.set {w : World} {gx : Nat} {P : List (Value × Value)} {C : Cm} (h : RdA w gx P C) {i : Nat} (hi : i < C.length) (p : Value × Value) (c : List Int × List Int) (h1 : SlA w gx p.1 c.1) (h2 : SlA w gx p.2 c.2) : RdA w gx (P.set i p) (C.set i c) := by
  refine ⟨by rw [List.length_set, List.length_set, h.1], fun j q e => ?_⟩
  rw [List.getElem?_set] at e
  rw [hold_set hi, need_set hi]
  by_cases hj : i = j
  · subst hj
    rw [if_pos rfl, if_pos (by rw [h.1]; exact hi)] at e
    injection e with e
    subst e
    rw [if_pos rfl, if_pos rfl]
    exact ⟨h1, h2⟩
  · rw [if_neg hj] at e
    rw [if_neg (fun e => hj e.symm), if_neg (fun e => hj e.symm)]
    exact h.2 j q e
/-- The claims so far. -/
structure Gst (w0 : World) (gx m cx who : Nat) (L : List Int) (a2 : Option Addr) (n2 c2 k : Nat) (wy : World) : Prop where
  below : Below w0.heap.size w0 wy
  ge : w0.heap.size ≤ gx ∧ gx < wy.heap.size
  nl : SlA wy gx (.slice a2 n2 c2) L
  ex : ∃ Q E, Cw wy w0.heap.size (.slice (some ⟨gx, 0, none⟩) m cx) Q ∧ RdA wy gx Q E ∧ Goes E who ∧ need E who = L ∧ (hold E who).length ≤ 40 + k ∧ E.length = m
theorem Gst.later {w0 wy wz : World} {gx m cx who : Nat} {L : List Int} {a2 : Option Addr} {n2 c2 k : Nat} (h : Gst w0 gx m cx who L a2 n2 c2 k wy) (hb : Below wy.heap.size wy wz) : Gst w0 gx m cx who L a2 n2 c2 k wz := by
  obtain ⟨h1, h2, h3, Q, E, h4, h5, h6⟩ := h
  exact ⟨h1.trans (hb.mono h1.size), ⟨h2.1, Nat.lt_of_lt_of_le h2.2 hb.size⟩, h3.later hb, Q, E, h4.later hb, h5.later hb, h6⟩
theorem Gst.more {w0 wy : World} {gx m cx who : Nat} {L : List Int} {a2 : Option Addr} {n2 c2 k : Nat} (h : Gst w0 gx m cx who L a2 n2 c2 k wy) : Gst w0 gx m cx who L a2 n2 c2 (k + 1) wy := by
  obtain ⟨h1, h2, h3, Q, E, h4, h5, h6, h7, h8, h9⟩ := h
  exact ⟨h1, h2, h3, Q, E, h4, h5, h6, h7, by omega, h9⟩
theorem cl_few {w : World} {A : Option Addr} {n cap : Nat} {C : Cm} (h : Cl w.heap.size w A n cap C) {m : Nat} (hm : FewIs C m) : Cl w.heap.size w A m cap (C.take m) := h.cut (by rw [← h.len]; exact hm.le)
theorem few_short {C : Cm} {m : Nat} (hm : FewIs C m) : ∀ i, i < m → (hold (C.take m) i).length ≤ 40 ∧ (need (C.take m) i).length ≤ 40 := fun i hi => by
  have := hm.ok i hi
  rw [(hold_take hi).1, (hold_take hi).2]
  exact this.2
set_option maxHeartbeats 4000000 in
theorem bankerGoes_walk (A : Option Addr) (n cap : Nat) (C : Cm) (w : World) (h : Cl w.heap.size w A n cap C) (_ : True) : Calls Try.prog 8 #[.slice A n cap] w fun e w' => e = .returned (.bool true) ∧ Below w.heap.size w w' := by
  have HC := Lib.hid h
  clear h
  go_enter Try.func8, Try.ntmps8
  go_wp2_with fail
  refine (shown_any _).mono ?_
  rintro e w1 ⟨rfl, hb1⟩
  have HB1 := Lib.hid hb1
  have HC1 := Lib.hid (HC.out.later hb1)
  have HA := (Below.refl w1.heap.size w1).alloc (Nat.le_refl _) (.cells #[] 33)
  clear hb1
  go_wp2_with fail
  refine (few_any A n cap _ C _ (HC1.out.later HA)).mono ?_
  rintro e w' ⟨m, rfl, hm, rfl⟩
  have HD1 := Lib.hid (cl_few HC1.out hm)
  have HSH := Lib.hid (few_short hm)
  have hm9 := hm.nine
  clear hm HC1
  generalize C.take m = D at *
  have HN := Lib.hid HD1.out.len
  obtain ⟨P, hP1, hP2⟩ := HD1.out
  have HPR := Lib.hid hP2
  have HPO := Lib.hid hP2.one
  have HP1 := Lib.hid ((hP1.below HA).raise HA.size)
  have HPL : Hid (([] : List (Value × Value)).length + m ≤ 1000000) := Lib.hid (by simp; omega)
  have HAA := Lib.hid HA
  clear hP1 hP2 HA
  go_wp2_with (at_builtin; refine app_claims rfl _ _ rfl w1.heap.size (.slice (some ⟨w1.heap.size, 0, none⟩) 0 0) [] rfl (Cw.empty w1 w1.heap.size (Nat.le_refl _)) _ m cap P rfl HP1.out HPO.out HPL.out (by simp) ?_; intro A5 n5 c5 w5 hn5 ho5 hb5 hg5 hd5; have HO5 := Lib.hid ho5; have HB5 := Lib.hid (HAA.out.trans hb5); have HN5 := Lib.hid hn5; clear ho5 hb5 hn5 hg5 hd5)
  obtain rfl : n5 = m := by rw [HN5.out, List.nil_append, HPR.out.1, HN.out]
  have HX5 : Hid (Cl w5.heap.size w5 A5 n5 c5 D) := Lib.hid ⟨_, HO5.out.gt.2, (HPR.out.below HB5.out).raise HB5.out.size⟩
  refine (order_any A5 n5 c5 D _ HX5.out).mono ?_
  rintro e w6 ⟨A6, m6, c6, o, is, rfl, hm6, ho6, hown6, hc6⟩
  have HI6 := Lib.hid hown6.lt.2
  have HO6 := Lib.hid ho6
  have HB6 := Lib.hid (HB5.out.trans (hc6.mono HB5.out.size))
  have HX6 := Lib.hid (HX5.out.later hc6)
  have HCW6 := Lib.hid (HO5.out.later hc6)
  have HM6 := Lib.hid hm6
  clear ho6 hown6 hc6 hm6
  cases is with
  | false =>
    go_wp2_with fail
    go_ret
    exact ⟨rfl, HB1.out.trans (HB6.out.mono HB1.out.size)⟩
  | true =>
    cases o with
    | nil =>
      obtain rfl : m6 = 0 := HM6.out
      go_wp2_with fail
      go_ret
      exact ⟨rfl, HB1.out.trans (HB6.out.mono HB1.out.size)⟩
    | cons who o' =>
      have HG := Lib.hid (Goes.start HO6.out)
      have hwho : who < n5 := by rw [← HN.out]; exact HG.out.lt
      have hm60 : ((m6 : Int) == 0) = false := by rw [beq_eq_false_iff_ne, HM6.out]; simp <;> omega
      have hm61 : (0 : Int) < (m6 : Int) := by rw [HM6.out]; simp <;> omega
      obtain ⟨g6, o6, rfl, hg6, q6⟩ := HI6.out.cell (j := 0) (by omega)
      have q6 : w6.cell? ⟨g6, o6, none⟩ = some (.int .i64 (who : Int)) := q6
      obtain ⟨gx, rfl, hgx1, hgx2⟩ := HCW6.out.some (by rw [List.nil_append, HPR.out.1, HN.out]; omega)
      obtain ⟨p, hp⟩ : ∃ p, P[who]? = some p := ⟨_, List.getElem?_eq_getElem (by rw [HPR.out.1, HN.out]; exact hwho)⟩
      have HPP := Lib.hid hp
      obtain ⟨⟨a1, n1, c1, e1, k1⟩, ⟨a2, n2, c2, e2, k2⟩⟩ := HPR.out.2 who p hp
      have hcells := HCW6.out.cells hp
      rw [e1, e2] at hcells
      have y1 := hcells.2.1
      have HLN2 := Lib.hid k2.len
      have s3 := (Gt.size k2).1
      have s4 := (Gt.size k2).2
      have hn240 : n2 ≤ 40 := by rw [← HLN2.out]; exact (HSH.out who hwho).2
      have HST : Hid (Gst w1 gx n5 c5 who (need D who) a2 n2 c2 0 w6) := Lib.hid ⟨HB6.out, ⟨hgx1, hgx2⟩, SlA.of ⟨a2, n2, c2, rfl, Gt.below k2 HB6.out⟩ hgx1 HB6.out.size, P, D, HCW6.out, RdA.of (HPR.out.below HB6.out) hgx1 HB6.out.size, HG.out, rfl, by have := (HSH.out who hwho).1; omega, HN.out⟩
      have dw1 : decide ((who : Int) < 0) = false := decide_eq_false (by omega)
      have dw2 : decide (n5 ≤ who) = false := decide_eq_false (by omega)
      clear hp e1 k1 e2 k2 hcells hgx1 hgx2 hg6
      go_wp2_with fail
      go_loopw [45] (fun iv wr => ∃ k : Nat, k ≤ n2 ∧ iv = .int .i64 (k : Int) ∧ Hid (Gst w1 gx n5 c5 who (need D who) a2 n2 c2 k wr)) (fun iv _ => n2 - (intOf iv).toNat)
      case atStart => exact ⟨0, Nat.zero_le _, rfl, HST⟩
      case round =>
        rename World => wr
        obtain ⟨k, hk, rfl, HW⟩ := hrel
        by_cases hlt : k < n2
        · obtain ⟨A9, n9, c9, e9, hl9, _⟩ := HW.out.nl
          injection e9 with e9 e10 e11
          subst e9 e10 e11
          obtain ⟨gl, ol, rfl, hgl, q1⟩ := hl9.cell hlt
          have HZM : Hid ((need D who).getD k 0 ∈ need D who) := Lib.hid (getD_mem (by rw [HLN2.out]; exact hlt))
          generalize (need D who).getD k 0 = z at *
          have hA2 := (Below.refl wr.heap.size wr).alloc (Nat.le_refl _) (.cells #[.int .i64 z] 3)
          have HW2 := Lib.hid (HW.out.later hA2)
          have HONE := Lib.hid (Lt.one wr z)
          obtain ⟨Q, E, hcw, hrd, hgo, hne, hhl, hEl⟩ := HW2.out.ex
          obtain ⟨p2, hp2⟩ : ∃ p, Q[who]? = some p := ⟨_, List.getElem?_eq_getElem (by rw [hrd.1, hEl]; exact hwho)⟩
          obtain ⟨⟨b1, m1, d1, e1, k1, k2⟩, _⟩ := hrd.2 who p2 hp2
          have hcells := hcw.cells hp2
          rw [e1] at hcells
          have y0 := hcells.1
          have HK1 := Lib.hid k1
          have HK2 := Lib.hid k2
          have HCW := Lib.hid hcw
          have HRD := Lib.hid hrd
          have HGO := Lib.hid hgo
          have HNE := Lib.hid hne
          have HHL := Lib.hid hhl
          have HEL := Lib.hid hEl
          have HP2 := Lib.hid hp2
          have HE1 := Lib.hid e1
          clear hl9 hcw hrd hgo hne hhl hEl hp2 e1 k1 k2 hcells hgl hA2
          by_cases hin : z ∈ hold E who
          · have HM : Hid (Meets [z] (hold E who)) := Lib.hid ⟨z, by simp, hin⟩
            clear hin
            go_wp2_with fail
            refine (meets_any _ 1 1 _ [z] b1 m1 d1 _ (hold E who) _ HONE.out HK1.out).mono ?_
            rintro e w' ⟨b, rfl, hb, rfl⟩
            obtain rfl : b = true := hb.2 HM.out
            clear hb
            go_wp2_with fail
            go_roundw
            case rel =>
              first
              | exact ⟨k + 1, by omega, by go_num, Lib.hid HW2.out.more⟩
              | ((repeat apply Exists.intro); exact ⟨⟨k + 1, by omega, by go_num, Lib.hid HW2.out.more⟩, rfl⟩)
            case measure => simp [intOf]; omega
          · have HM : Hid (¬ Meets [z] (hold E who)) := Lib.hid (fun ⟨y, h1, h2⟩ => by
              rw [List.mem_singleton] at h1
              rw [h1] at h2
              exact hin h2)
            have HMAY := Lib.hid (HGO.out.may (by rw [HNE.out]; exact HZM.out) hin)
            clear hin
            go_wp2_with fail
            refine (meets_any _ 1 1 _ [z] b1 m1 d1 _ (hold E who) _ HONE.out HK1.out).mono ?_
            rintro e w' ⟨b, rfl, hb, rfl⟩
            obtain rfl : b = false := Bool.eq_false_iff.2 (fun e => HM.out (hb.1 e))
            clear hb
            have HCL : Hid (Cl (wr.alloc (.cells #[.int .i64 z] 3)).heap.size (wr.alloc (.cells #[.int .i64 z] 3)) (some ⟨gx, 0, none⟩) n5 c5 E) := Lib.hid ⟨Q, HCW.out.gt.2, HRD.out.rd⟩
            generalize wr.alloc (.cells #[.int .i64 z] 3) = ws at *
            generalize wr.heap.size = szr at *
            clear q1
            go_wp2_with fail
            refine (may_any _ n5 c5 E (who : Int) z _ HCL.out).mono ?_
            rintro e wt ⟨b, rfl, hb, hct⟩
            obtain rfl : b = true := hb.2 HMAY.out.1
            have HCT := Lib.hid hct
            have HCWt := Lib.hid (HCW.out.later hct)
            have HRDt := Lib.hid (HRD.out.later hct)
            have HWt := Lib.hid (HW2.out.later hct)
            have y0 := (HCWt.out.cells HP2.out).1
            rw [HE1.out] at y0
            have HK1t := Lib.hid (Gt.later HK1.out hct)
            clear hb hct
            have hbt := (Below.refl wt.heap.size wt).alloc (Nat.le_refl _) (.cells #[] 3)
            have HBT := Lib.hid hbt
            have HEMP : Hid (Iw (wt.alloc (.cells #[] 3)) wt.heap.size (.slice (some ⟨wt.heap.size, 0, none⟩) 0 0) []) := Lib.hid (own_empty wt 3 1 wt.heap.size (Nat.le_refl _))
            have HHOLD := Lib.hid (Gt.later HK1t.out hbt)
            have HL1 : Hid (([] : List Int).length + m1 ≤ 1000000) := Lib.hid (by have h1 := Lt.len (L := hold E who) HK1t.out; have h2 := HHL.out; simp; omega)
            have HL2 : Hid (([] ++ hold E who).length + 1 ≤ 1000000) := Lib.hid (by have := HHL.out; simp; omega)
            have ya := (HBT.out.cell (p := ⟨gx, who * 2, none⟩) HWt.out.ge.2).trans y0
            clear hbt
            go_wp2_with (first
              | ((fail_if_success have _k := HO4); at_builtin; refine app_ints rfl _ _ rfl wt.heap.size (.slice (some ⟨wt.heap.size, 0, none⟩) 0 0) [] rfl HEMP.out b1 m1 d1 (hold E who) rfl HHOLD.out HL1.out (by simp) ?_; intro A4 n4 c4 w4 hn4 ho4 hb4 hg4 hd4; have HO4 := Lib.hid ho4; have HB4 := Lib.hid (HBT.out.trans hb4); have HN4 := Lib.hid hn4; clear ho4 hb4 hn4 hg4 hd4)
              | (have _k := HO4; at_builtin; refine app_ints rfl _ _ rfl wt.heap.size _ ([] ++ hold E who) rfl (Iw.later HO4.out ((Below.refl _ _).alloc (Nat.le_refl _) _)) _ 1 1 [z] rfl (Lt.one _ z) HL2.out (by have := HB4.out.size; simp; omega) ?_; intro A7 n7 c7 w7 hn7 ho7 hb7 hg7 hd7; have HO7 := Lib.hid ho7; have HB7 := Lib.hid ((HB4.out.alloc HB4.out.size _).trans hb7); have HN7 := Lib.hid hn7; have z0 := ((HB7.out.cell (p := ⟨gx, who * 2, none⟩) HWt.out.ge.2).trans y0); have z1 := ((World.frozen?_of_block (a := ⟨gx, who * 2, none⟩) (HB7.out.block gx HWt.out.ge.2)).trans (HCWt.out.cells HP2.out).2.2.1); clear ho7 hb7 hn7 hg7 hd7))
            have HFIN : Hid (Gst w1 gx n5 c5 who (need D who) (some ⟨gl, ol, none⟩) n2 c2 (k + 1) (w7.setCell ⟨gx, who * 2, none⟩ (.slice A7 n7 c7)) ∧ Cl (w7.setCell ⟨gx, who * 2, none⟩ (.slice A7 n7 c7)).heap.size (w7.setCell ⟨gx, who * 2, none⟩ (.slice A7 n7 c7)) (some ⟨gx, 0, none⟩) n5 c5 (give E who z)) := Lib.hid (by
              have hw7 := HWt.out.later HB7.out
              have hcw7 := (HCWt.out.later HB7.out).put0 HP2.out (.slice A7 n7 c7)
              have hrd7 := (HRDt.out.later HB7.out)
              have hown := World.ownsRow.lt HO7.out
              have hsl : SlA (w7.setCell ⟨gx, who * 2, none⟩ (.slice A7 n7 c7)) gx (.slice A7 n7 c7) (hold E who ++ [z]) := by
                refine SlA.other ⟨A7, n7, c7, rfl, HO7.out.lt.2, fun hn a ha => ?_⟩
                subst ha
                have := (hown a.block rfl).1
                have := HWt.out.ge.2
                omega
              have hset := (hrd7.other (x := who * 2) (u := .slice A7 n7 c7)).set (i := who) (by rw [HEL.out]; exact hwho) (.slice A7 n7 c7, p2.2) (hold E who ++ [z], need E who) hsl ((hrd7.other (x := who * 2) (u := .slice A7 n7 c7)).2 who p2 HP2.out).2
              have hgl : (give E who z).length = E.length := by simp [give]
              refine ⟨⟨hw7.below.setCell HWt.out.ge.1 _, ⟨hw7.ge.1, by simpa [World.setCell] using hw7.ge.2⟩, hw7.nl.other, _, _, hcw7, hset, HMAY.out.2, ?_, ?_, ?_⟩, ⟨_, hcw7.gt.2, hset.rd⟩⟩
              · show need (give E who z) who = _
                rw [need_give (by rw [HEL.out]; exact hwho)]; exact HNE.out
              · show (hold (give E who z) who).length ≤ _
                unfold give
                rw [hold_set (by rw [HEL.out]; exact hwho), if_pos rfl]
                have := HHL.out
                simp; omega
              · show (give E who z).length = _
                rw [hgl]; exact HEL.out)
            refine (safe_any _ n5 c5 _ _ HFIN.out.2).mono ?_
            rintro e w8 ⟨b8, rfl, hb8, hc8⟩
            obtain rfl : b8 = true := hb8.2 ⟨HMAY.out.2.right, HMAY.out.2.safe⟩
            have HEND := Lib.hid (HFIN.out.1.later hc8)
            clear hb8 hc8
            go_wp2_with fail
            go_roundw
            case rel =>
              first
              | exact ⟨k + 1, by omega, by go_num, HEND⟩
              | ((repeat apply Exists.intro); exact ⟨⟨k + 1, by omega, by go_num, HEND⟩, rfl⟩)
            case measure => simp [intOf]; omega
        · obtain rfl : k = n2 := by omega
          obtain ⟨Q, E, hcw, hrd, hgo, hne, hhl, hEl⟩ := HW.out.ex
          have HCL : Hid (Cl wr.heap.size wr (some ⟨gx, 0, none⟩) n5 c5 E) := Lib.hid ⟨Q, hcw.gt.2, hrd.rd⟩
          have HGO := Lib.hid hgo
          have HWB := Lib.hid HW.out.below
          clear hcw hrd hgo hne hhl hEl
          go_wp2_with fail
          refine (without_any _ n5 c5 E who _ HCL.out hwho hm9).mono ?_
          rintro e wg ⟨Ag, mg, cg, rfl, hdg, hcg⟩
          have HDg := Lib.hid hdg
          have HWg := Lib.hid (HWB.out.trans (hcg.mono HWB.out.size))
          clear hdg hcg
          go_wp2_with fail
          refine (safe_any Ag mg cg _ _ HDg.out).mono ?_
          rintro e wh ⟨bh, rfl, hbh, hch⟩
          obtain rfl : bh = true := hbh.2 ⟨HGO.out.right.erase HGO.out.lt, HGO.out.safe.erase HGO.out.lt⟩
          have HWh := Lib.hid (HWg.out.trans (hch.mono HWg.out.size))
          clear hbh hch
          go_wp2_with fail
          go_ret
          exact ⟨rfl, HB1.out.trans (HWh.out.mono HB1.out.size)⟩
end Go.Proofs.Ytljmigomhoefpaa.Bk
