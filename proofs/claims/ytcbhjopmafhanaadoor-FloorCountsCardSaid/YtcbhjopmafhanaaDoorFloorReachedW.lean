/-
  FloorReached: its walk.
-/
import Derived.Test.YtcbhjopmafhanaaDoorFlGone
import Derived.Deep.RegionHeld3
import Derived.Deep.CutRange
import Derived.Deep.DeepCutAuto
set_option linter.unusedVariables false
namespace Go.Proofs.YtcbhjopmafhanaaDoor
open Go.RowKit Fl Go.Maps

theorem run_makeMap_none (w : World) : (Instr.makeMap 41 none).run Tryd.prog w = .ok (.map (some w.heap.size)) (w.alloc (.map #[] 0)) := by
  simp [Instr.makeMap, Result.andThen]
theorem bAt_nat (s : ByteArray) (k : Nat) (h : k < s.size) : bAt s (k : Int) = at_ s k := by
  unfold bAt; rw [if_pos (by omega), Int.toNat_natCast]
/-- A number is put into the map: all else is as it was. -/
theorem after_put {w w2 w4 w5 w6 : World} {W H : Int} {c : ByteArray} {v v3 : Value} {B3 : Nat} {R l M : List Nat} {n : Nat} (hB : Box w2 W H c w5) (hO : Own w5 (w4.heap.size + 1) v R) (hM : SetOf Tryd.prog 3 (plainElem Tryd.prog 4) (.lit (.bool true)) w5 w4.heap.size n M) (hS : Own w5 B3 v3 l)
    (h2 : w2.heap.size + 1 ≤ w4.heap.size) (hw : w.heap.size ≤ w4.heap.size) (hb : Below w.heap.size w w5) (hg : w5.grownBy w6 (some w4.heap.size)) : Box w2 W H c w6 ∧ Own w6 (w4.heap.size + 1) v R ∧ Own w6 B3 v3 l ∧ Below w.heap.size w w6 := by
  refine ⟨hB.later (Below.grown (Below.refl _ _) hg hB.lt (fun j hj => by cases hj; exact h2)), ?_, ?_, hb.trans (Below.grown (Below.refl _ _) hg hb.size (fun j hj => by cases hj; exact hw))⟩
  · exact World.ownsRow.kept hO hg (Or.inr (own_map_ne hO hM).symm)
  · exact World.ownsRow.kept hS hg (Or.inr (own_map_ne hS hM).symm)

section
variable {P : Program} (w : World) {ops : Array Oper} {rest : List Oper} {o : Oper} {a : Act} {Q : Exit → Act → World → Prop} {k : TypeId} {b n : Nat} {l : List Nat}
/-- Is a number in it? (a map of truths, behind a guard) -/
theorem set_is_g (hw : Region.wanted o (yielded ops a.tmps) = true) (m x : Operand) (t : TypeId) (hop : o.op = Op.lookup t m x false) (e : TypeId) (hk : P.underlying k = some (.int .i64)) (ht : P.underlying t = some (.map k e)) (he : P.underlying e = some .bool) (hz : (zeroValue e).run P w = .ok (.bool false) w)
    (hm : a.eval m = .map (some b)) (h : SetOf P k (plainElem P e) (.lit (.bool true)) w b n l) (X : Int) (y : Nat) (hX : X = y) (hy : y ≤ 1048576) (hx : a.eval x = .int .i64 X)
    (hK : wpList P ops Q rest (a.put o.dst (.bool (decide (y ∈ l)))) w) : wpList P ops Q (o :: rest) a w := by
  subst hX
  obtain ⟨D, h1, h2, h3, h4⟩ := h
  obtain ⟨v, ps, hrun, hv⟩ := h1.lookup (int_keyed hk) ht hz (plainElem_bool he false) (keyOf_int_mk hk (ky_wf y hy))
  obtain ⟨c, rfl, hc⟩ := plainElem_bool_inv he hv
  have hc' : c = decide (y ∈ l) := by
    simp only [Prod.mk.injEq] at hc
    by_cases hin : y ∈ l
    · have := (h3 y hin (.lit (.bool false))).symm.trans hc.1
      simp only [DataW.lit.injEq, Lit.bool.injEq] at this
      rw [decide_eq_true hin, ← this]
    · have hn : has D (ky y) = false := by rw [h2]; exact decide_eq_false hin
      have := (atKey_of_not_has hn (.lit (.bool false))).symm.trans hc.1
      simp only [DataW.lit.injEq, Lit.bool.injEq] at this
      rw [decide_eq_false hin, ← this]
  refine wpList_step fun K' hK' => ?_
  rw [if_pos hw]
  unfold Oper.wp
  simp [execOp, hop, hm, hx, hrun, Result.andThen]
  rw [hc']
  exact hK' _ _ hK
end
/-- The search at one cell: so many of what is near were looked at. -/
structure In3 (w w2 w4 : World) (a b : Nat) (c : ByteArray) (d i x : Nat) (ys : List Nat) (nb : Nat) (nv : Value) (j : Nat) (R : List Nat) (v : Value) (wz : World) : Prop where
  gone : Gone a b c d i R
  here : i < R.length ∧ R.getD i 0 = x
  seen : ∀ q, q < j → isL (at_ c (ys.getD q 0)) = true → ys.getD q 0 ∈ R
  own : Own wz (w4.heap.size + 1) v R
  set : OnSet wz w4.heap.size R
  box : Box w2 (a : Int) (b : Int) c wz
  below : Below w.heap.size w wz
  near : Own wz nb nv ys
  ne : ∀ g, nv.ownBlock = some g → v.ownBlock ≠ some g
theorem In3.later {w w2 w4 wz wy : World} {a b : Nat} {c : ByteArray} {d i x nb j : Nat} {ys R : List Nat} {nv v : Value} (h : In3 w w2 w4 a b c d i x ys nb nv j R v wz) (hb : Below wz.heap.size wz wy) : In3 w w2 w4 a b c d i x ys nb nv j R v wy :=
  ⟨h.gone, h.here, h.seen, h.own.later hb, h.set.later hb, h.box.after hb, h.below.trans (hb.mono h.below.size), h.near.later hb, h.ne⟩
theorem In3.skip {w w2 w4 wz : World} {a b : Nat} {c : ByteArray} {d i x nb j : Nat} {ys R : List Nat} {nv v : Value} (h : In3 w w2 w4 a b c d i x ys nb nv j R v wz) (hy : isL (at_ c (ys.getD j 0)) = true → ys.getD j 0 ∈ R) : In3 w w2 w4 a b c d i x ys nb nv (j + 1) R v wz :=
  ⟨h.gone, h.here, fun q hq hl => by rcases (by omega : q < j ∨ q = j) with k | rfl; exact h.seen q k hl; exact hy hl, h.own, h.set, h.box, h.below, h.near, h.ne⟩
theorem In3.put {w w2 w4 w5 w6 w7 : World} {a b : Nat} {c : ByteArray} {d i x nb j y : Nat} {ys R : List Nat} {nv v v' : Value} (h : In3 w w2 w4 a b c d i x ys nb nv j R v w5) (hys : ys.getD j 0 = y) (hy : y ∉ R) (hl : y < c.size) (h2 : at_ c y ≠ 35)
    (hw2 : w2.heap.size + 1 ≤ w4.heap.size) (hw : w.heap.size ≤ w4.heap.size)
    (hs : SetOf Tryd.prog 3 (plainElem Tryd.prog 4) (.lit (.bool true)) w6 w4.heap.size (R.length + 1) (R ++ [y])) (hg : w5.grownBy w6 (some w4.heap.size))
    (ho : Own w7 (w4.heap.size + 1) v' (R ++ [y])) (hb : Below (w4.heap.size + 1) w6 w7) (hg2 : w6.grownBy w7 v.ownBlock) (hat : v'.ownBlock = v.ownBlock ∨ v'.ownBlock = some (w6.heap.size + 1)) : In3 w w2 w4 a b c d i x ys nb nv (j + 1) (R ++ [y]) v' w7 := by
  obtain ⟨p1, p2, p3, p4⟩ := after_put h.box h.own h.set h.near hw2 hw h.below hg
  have hlt := fun g (e : nv.ownBlock = some g) => World.ownsRow.lt p3 g e
  refine ⟨h.gone.step h.here.1 y hy hl h2, ⟨by simp; have := h.here.1; omega, by rw [getD_app h.here.1]; exact h.here.2⟩, ?_, ho, ?_, p1.later (hb.mono (by omega)), p4.trans (hb.mono (by omega)), ?_, ?_⟩
  · intro q hq hlq
    rcases (by omega : q < j ∨ q = j) with k | rfl
    · exact List.mem_append_left _ (h.seen q k hlq)
    · rw [hys]; simp
  · have e : (R ++ [y]).length = R.length + 1 := by simp
    unfold OnSet
    rw [e]
    exact SetOf.kept hs hg2 (own_map_ne p2 hs)
  · refine World.ownsRow.kept p3 hg2 ?_
    cases hn : nv.ownBlock with
    | none => exact .inl rfl
    | some g => exact .inr (fun e => h.ne g hn e.symm)
  · intro g e k
    rcases hat with q | q
    · exact h.ne g e (q.symm.trans k)
    · have := (hlt g e).2
      rw [q] at k
      injection k with k
      omega
theorem mem_near {a b : Nat} {c : ByteArray} {x y : Nat} : y ∈ nears (a : Int) (b : Int) c (x : Int) ↔ y ∈ side a b x ∧ at_ c y ≠ 35 := by
  unfold nears nearL
  simp

/-- What is near was asked. -/
def NearMid (a b : Nat) (c : ByteArray) (x : Nat) (wq : World) (av nv zv : Value) (wz : World) : Prop :=
  ∃ (A2 : Option Addr) (n2 c2 : Nat), av = .slice A2 n2 c2 ∧ nv = .int .i64 (n2 : Int) ∧ zv = .int .i64 0 ∧ n2 = (nears (a : Int) (b : Int) c (x : Int)).length ∧ Own wz wq.heap.size (.slice A2 n2 c2) (nears (a : Int) (b : Int) c (x : Int)) ∧ Below wq.heap.size wq wz
theorem near_below {B : Nat} {a b : World} (h : Below B a.drew b) : Below B a b := ⟨h.os, h.tape, h.output, h.size, h.block⟩

set_option maxRecDepth 100000 in
set_option maxHeartbeats 16000000 in
theorem floorReached_walk (s : ByteArray) (hs : s.size ≤ maxLen) (w : World) :
    Calls Tryd.prog 8 #[.string s] w fun e w' => e = .returned (.bool true) ∧ Below w.heap.size w w' := by
  have hs' := hs
  unfold maxLen at hs'
  go_enter Tryd.func8, Tryd.ntmps8
  go_wp2_with fail
  refine (shown_any _).mono ?_
  rintro e w1 ⟨rfl, hb1⟩
  have HB1 := Lib.hid hb1
  clear hb1
  by_cases hl : 2000 < s.size
  · have hd : decide (2000 < (s.size : Int)) = true := by simp; omega
    go_wp2_with fail
    go_ret
    exact ⟨rfl, HB1.out⟩
  · have hd : decide (2000 < (s.size : Int)) = false := by simp; omega
    go_wp2_with fail
    refine (parse_any s (by omega) _).mono ?_
    rintro e w2 ⟨W, H, c, row, err, rfl, ho, hb2⟩
    have HB2 := Lib.hid (HB1.out.trans (hb2.mono HB1.out.size))
    have HX2 := Lib.hid (Box.start w2 W H c 24)
    have k0 := HX2.out.c0
    have k1 := HX2.out.c1
    have k2 := HX2.out.c2
    have HBA := Lib.hid (HB2.out.alloc HB2.out.size (.cells #[.int .i64 W, .int .i64 H, .string c] 24))
    have hoc := out_cases ho
    clear ho hb2
    rcases hoc with ⟨rfl, rfl, rfl, rfl⟩ | ⟨rfl, rfl, hR⟩
    · go_wp2_with fail
      go_ret
      exact ⟨rfl, HBA.out⟩
    · have HR := Lib.hid hR
      obtain ⟨a, b, rfl, rfl, hS, hRN⟩ := rightNat hR
      have HS := Lib.hid hS
      have HRN := Lib.hid hRN
      have hc256 := hS.le
      have hcs : c.size ≤ maxLen := by unfold maxLen; omega
      have HLL : Hid ((pick isL (at_ c) c.size).length ≤ 256 ∧ 1 ≤ (pick isL (at_ c) c.size).length) := Lib.hid (by
        obtain ⟨x, r, hp, _⟩ := hRN.lanes
        refine ⟨Nat.le_trans (pick_le _ _ _) hc256, ?_⟩
        rw [hS.sz, hp]; simp)
      clear hS hRN hR
      have HROB := Lib.hid (fun wx => robots_any (a : Int) (b : Int) c hcs wx)
      have HLAN := Lib.hid (fun wx => lanes_any (a : Int) (b : Int) c hcs wx)
      have HNE := Lib.hid (fun (x : Int) wx => near_any (a : Int) (b : Int) c hcs x wx)
      have HZO := Lib.hid (fun (x : Int) wx => zone_any (a : Int) (b : Int) c hcs x wx)
      have HDO := Lib.hid (fun (x : Int) wx => dock_any (a : Int) (b : Int) c hcs x wx)
      go_wp2_with fail
      refine (HROB.out _).mono ?_
      rintro e w3 ⟨nr, rfl, p1, _, hb⟩
      have hnr := p1 HR.out
      have hnr8 : nr ≤ 8 ∧ 1 ≤ nr := by
        have h1 := HRN.out.docks.few
        have h2 := HRN.out.docks.one
        unfold Fl.docks at h1 h2
        rw [← HS.out.sz, ← hnr] at h1 h2
        exact ⟨h1, h2⟩
      have HNR := Lib.hid hnr
      have HX3 := Lib.hid (HX2.out.after hb)
      have HB3 := Lib.hid (HBA.out.trans (hb.mono HBA.out.size))
      clear p1 hnr hb k0 k1 k2
      go_wp2_with fail
      go_loopw [35] (fun iv wr => ∃ k : Nat, k ≤ nr ∧ iv = .int .i64 (k : Int) ∧ Box w2 (a : Int) (b : Int) c wr ∧ Below w.heap.size w wr) (fun iv _ => nr - (intOf iv).toNat)
      case atStart => exact ⟨0, Nat.zero_le _, rfl, HX3.out, HB3.out⟩
      case round =>
        rename World => wr
        obtain ⟨k, hk, rfl, hX, hB⟩ := hrel
        have HXr := Lib.hid hX
        have HBr := Lib.hid hB
        have e0 := hX.c0
        have e1 := hX.c1
        have e2 := hX.c2
        clear hX hB
        by_cases hlt : k < nr
        · go_wp2_with fail
          refine (HDO.out _ _).mono ?_
          rintro e w4 ⟨d, bd, rfl, p1, _, hb⟩
          obtain ⟨hf, rfl⟩ := p1 ⟨HR.out, by omega, by rw [← HNR.out]; omega⟩
          rw [Int.toNat_natCast] at hf
          have hdk := dock_in HS.out HRN.out (by rw [← HNR.out]; exact hlt) hf
          have HDK := Lib.hid hdk.1
          have HGO := Lib.hid (Gone.start (a := a) (b := b) hdk.2.1 hdk.2.2)
          have hdb : d ≤ 1048576 := by have := hdk.2.1; omega
          have HX4 := Lib.hid (HXr.out.after hb)
          have HB4 := Lib.hid (HBr.out.trans (hb.mono HBr.out.size))
          have h24 := HX4.out.lt
          have hw4 := HB4.out.size
          have HMD := Lib.hid (SetOf.made Tryd.prog 3 (plainElem Tryd.prog 4) (.lit (.bool true)) w4)
          clear p1 hb hf hdk e0 e1 e2
          have hmk := run_makeMap_none
          go_wp2_with (first | (refine set_ins _ rfl _ _ _ 41 rfl 4 Tryd.underlying3 Tryd.underlying41 rfl HMD.out (by omega) _ d rfl hdb rfl _ rfl (plainElem_bool Tryd.underlying4 true) (by simp) ?_; intro w5 hm5 hg5) | fail)
          clear hmk
          have hal := (Below.refl w4.heap.size w4).alloc (Nat.le_refl _) (.map #[] 0)
          have HX5 := Lib.hid ((HX4.out.after hal).later (Below.grown (Below.refl _ _) hg5 (Nat.le_trans h24 hal.size) (fun j hj => by cases hj; exact h24)))
          have HB5 := Lib.hid ((HB4.out.trans (hal.mono hw4)).trans (Below.grown (Below.refl _ _) hg5 (Nat.le_trans hw4 hal.size) (fun j hj => by cases hj; exact hw4)))
          have HM5 : Hid (OnSet w5 w4.heap.size [d]) := Lib.hid hm5
          have h45 : w4.heap.size + 1 ≤ w5.heap.size := hm5.lt
          have HAL := Lib.hid ((Below.refl w5.heap.size w5).alloc (Nat.le_refl _) (.cells #[.int .i64 (d : Int)] 3))
          clear hm5 hg5 hal
          go_loopw [11, 12] (fun v iv wq => ∃ (i : Nat) (R : List Nat) (A : Option Addr) (m cp : Nat), v = .slice A m cp ∧ m = R.length ∧ i ≤ R.length ∧ iv = .int .i64 (i : Int) ∧ Gone a b c d i R ∧ Own wq (w4.heap.size + 1) (.slice A m cp) R ∧ OnSet wq w4.heap.size R ∧ Box w2 (a : Int) (b : Int) c wq ∧ Below w.heap.size w wq) (fun _ iv _ => 300 - (intOf iv).toNat)
          case atStart => exact ⟨0, [d], _, _, _, rfl, rfl, by simp, rfl, HGO.out, own_one w5 (w4.heap.size + 1) d _ rfl h45, HM5.out.later HAL.out, HX5.out.after HAL.out, HB5.out.trans (HAL.out.mono HB5.out.size)⟩
          case round =>
            rename World => wq
            obtain ⟨i, R, A, m, cp, rfl, hmR, hi, rfl, hGo, hOw, hOn, hBx, hBl⟩ := hrel
            have hRl := hGo.len
            have HRl : Hid (R.length ≤ 256) := Lib.hid (Nat.le_trans hRl hc256)
            have hm256 : m ≤ 256 := by rw [hmR]; exact HRl.out
            have HGo := Lib.hid hGo
            have HOw := Lib.hid hOw
            have HOn := Lib.hid hOn
            have HBx := Lib.hid hBx
            have HBl := Lib.hid hBl
            have HmR := Lib.hid hmR
            have g0 := hBx.c0
            have g1 := hBx.c1
            have g2 := hBx.c2
            have hocap := hOw.cap hmR
            have hcp := hocap.1
            have hcpm := hocap.2
            unfold maxLen at hcpm
            clear hGo hOn hBx hBl hRl HGO HM5 HX5 HB5 HAL HMD hocap
            by_cases hlt2 : i < m
            · obtain ⟨gr, rfl, hgr, hcr⟩ := hOw.at i (by rw [← hmR]; exact hlt2)
              obtain ⟨x, hx⟩ : ∃ x, x = R.getD i 0 := ⟨_, rfl⟩
              rw [← hx] at hcr
              have HX := Lib.hid hx
              have hiI : (i : Int) < (m : Int) := by omega
              have hi300 : (i : Int) < 300 := by omega
              clear hOw hmR hx
              have hxR : x ∈ R := by
                rw [HX.out, List.getD_eq_getElem?_getD, List.getElem?_eq_getElem (by rw [← HmR.out]; exact hlt2)]
                exact List.getElem_mem _
              have HOF : Hid (OnFloor (a : Int) (b : Int) c (x : Int)) := Lib.hid ⟨HR.out, by rw [bAt_nat c x (HGo.out.lt x hxR)]; exact HGo.out.open_ x hxR⟩
              have HXB := Lib.hid (HGo.out.lt x hxR)
              have h2q := HBx.out.lt
              clear hxR
              go_upto_region 18 with (fail)
              go_cut [66, 67, 68] (NearMid a b c x wq)
              case first =>
                go_region_held3 (fun w' => w'.cell? ⟨w2.heap.size, 0, none⟩ = some (.int .i64 (a : Int)) ∧ w'.cell? ⟨w2.heap.size, 1, none⟩ = some (.int .i64 (b : Int)) ∧ w'.cell? ⟨w2.heap.size, 2, none⟩ = some (.string c) ∧ w'.cell? ⟨gr, i, none⟩ = some (.int .i64 (x : Int))) (go_keep)
                  ((first | (go_at_call 24; refine (HNE.out _ _).mono ?_; rintro e w5 ⟨A2, n2, c2, xs, rfl, hn2, p1, _, ho5, hb5⟩; have HP := Lib.hid (p1 HOF.out); have HN2 := Lib.hid hn2; have HO5 := Lib.hid ho5; have HB5 := Lib.hid hb5; have e0 := (hb5.cell (p := ⟨w2.heap.size, 0, none⟩) h2q).trans g0; have e1 := (hb5.cell (p := ⟨w2.heap.size, 1, none⟩) h2q).trans g1; have e2 := (hb5.cell (p := ⟨w2.heap.size, 2, none⟩) h2q).trans g2; have e3 := (hb5.cell (p := ⟨gr, i, none⟩) hgr).trans hcr; clear hn2 p1 ho5 hb5) | fail))
                all_goals (go_wp2_with fail; go_meet; exact ⟨A2, n2, c2, rfl, rfl, rfl, by rw [HN2.out, HP.out], by rw [← HP.out]; exact HO5.out, near_below HB5.out⟩)
              case rest =>
                obtain ⟨A2, n2, c2, rfl, rfl, rfl, hn2, ho2, hbn⟩ := hcut
                obtain ⟨ys, hys⟩ : ∃ ys, ys = nears (a : Int) (b : Int) c (x : Int) := ⟨_, rfl⟩
                rw [← hys] at hn2 ho2
                have HYS : Hid (∀ y, y ∈ ys ↔ y ∈ side a b x ∧ at_ c y ≠ 35) := Lib.hid (fun y => by rw [hys]; exact mem_near)
                have hin : In3 w w2 w4 a b c d i x ys wq.heap.size (.slice A2 n2 c2) 0 R (.slice (some ⟨gr, 0, none⟩) m cp) wc :=
                  ⟨HGo.out, ⟨by rw [← HmR.out]; exact hlt2, HX.out.symm⟩, fun q hq => by omega, HOw.out.later hbn, HOn.out.later hbn, HBx.out.after hbn, HBl.out.trans (hbn.mono HBl.out.size), ho2, fun g e k => by
                    have := (World.ownsRow.lt ho2 g e).1
                    simp [Value.ownBlock] at k
                    omega⟩
                have HIN := Lib.hid hin
                have HN2 := Lib.hid hn2
                have hcap2 := ho2.cap hn2
                have hc2a := hcap2.1
                have hc2b := hcap2.2
                unfold maxLen at hc2b
                clear hin hn2 ho2 hbn hys HGo HOw HOn HBx HBl g0 g1 g2 hcr hcap2
                go_wp2
                go_loopw [11, 68] (fun v jv wz => ∃ (j : Nat) (R' : List Nat) (A' : Option Addr) (m' cp' : Nat), v = .slice A' m' cp' ∧ m' = R'.length ∧ j ≤ n2 ∧ jv = .int .i64 (j : Int) ∧ In3 w w2 w4 a b c d i x ys wq.heap.size (.slice A2 n2 c2) j R' (.slice A' m' cp') wz) (fun _ jv _ => n2 - (intOf jv).toNat)
                case atStart => exact ⟨0, R, _, _, _, rfl, HmR.out, Nat.zero_le _, rfl, HIN.out⟩
                case round =>
                  rename World => wz
                  obtain ⟨j, R', A', m', cp', rfl, hm', hj, rfl, hI⟩ := hrel
                  by_cases hlt3 : j < n2
                  · obtain ⟨gn, rfl, hgn, hcn⟩ := hI.near.at j (by rw [← HN2.out]; exact hlt3)
                    obtain ⟨y, hy⟩ : ∃ y, y = ys.getD j 0 := ⟨_, rfl⟩
                    rw [← hy] at hcn
                    have hyin : y ∈ ys := by
                      rw [hy, List.getD_eq_getElem?_getD, List.getElem?_eq_getElem (by rw [← HN2.out]; exact hlt3)]
                      exact List.getElem_mem _
                    obtain ⟨hys1, hys2⟩ := (HYS.out y).1 hyin
                    have hyl : y < c.size := by rw [HS.out.sz]; exact side_lt HS.out.w1 (by rw [← HS.out.sz]; exact HXB.out) hys1
                    have hyb : y ≤ 1048576 := by omega
                    have HY := Lib.hid hy
                    have HYL := Lib.hid hyl
                    have HY2 := Lib.hid hys2
                    have HIz := Lib.hid hI
                    have Hm' := Lib.hid hm'
                    have k0 := hI.box.c0
                    have k1 := hI.box.c1
                    have k2 := hI.box.c2
                    have hjI : (j : Int) < (n2 : Int) := by omega
                    clear hI hm' hy hys1 hys2 hyin hyl HIN
                    go_wp2_with fail
                    refine (HZO.out _ _).mono ?_
                    rintro e w6 ⟨zn, lane, rfl, p1, p2, hb6⟩
                    have HI6 := Lib.hid (HIz.out.later hb6)
                    have HLN : Hid (lane = isL (at_ c y)) := Lib.hid (by
                      cases hq : isL (at_ c y)
                      · exact (p2 (fun h => by have := h.2; rw [bAt_nat c y HYL.out, hq] at this; cases this)).2
                      · exact (p1 ⟨HR.out, by rw [bAt_nat c y HYL.out]; exact hq⟩).2)
                    clear p1 p2 hb6 hcn k0 k1 k2 HIz
                    cases lane
                    · have HI7 := Lib.hid (HI6.out.skip (fun h => by rw [← HY.out, ← HLN.out] at h; cases h))
                      clear HI6 HLN
                      go_wp2
                      go_roundw
                      case rel => exact ⟨j + 1, R', A', m', cp', rfl, Hm'.out, by omega, by go_num, HI7.out⟩
                      case measure => simp [intOf]; omega
                    · by_cases hmem : y ∈ R'
                      · have HI7 := Lib.hid (HI6.out.skip (fun _ => by rw [← HY.out]; exact hmem))
                        have hdm : decide (y ∈ R') = true := by simp [hmem]
                        go_wp2_with (first | (at_lookup; refine set_is_g _ rfl _ _ 41 rfl 4 Tryd.underlying3 Tryd.underlying41 Tryd.underlying4 (zeroBool _) rfl HI6.out.set _ y rfl hyb rfl ?_; rw [hdm]) | fail)
                        go_roundw
                        case rel => exact ⟨j + 1, R', A', m', cp', rfl, Hm'.out, by omega, by go_num, HI7.out⟩
                        case measure => simp [intOf]; omega
                      · have hdm : decide (y ∈ R') = false := by simp [hmem]
                        have hR256 : R'.length ≤ 256 := Nat.le_trans HI6.out.gone.len hc256
                        go_wp2_with (first
                          | (at_lookup; refine set_is_g _ rfl _ _ 41 rfl 4 Tryd.underlying3 Tryd.underlying41 Tryd.underlying4 (zeroBool _) rfl HI6.out.set _ y rfl hyb rfl ?_; rw [hdm])
                          | (at_mapUpdate; refine set_put _ rfl _ _ _ 41 rfl 4 Tryd.underlying3 Tryd.underlying41 rfl HI6.out.set (by omega) _ y rfl hyb rfl _ rfl (plainElem_bool Tryd.underlying4 true) hmem ?_; intro w7 hm7 hg7; have HM7 := Lib.hid hm7; have HG7 := Lib.hid hg7; have HO7 := Lib.hid (after_put HI6.out.box HI6.out.own HI6.out.set HI6.out.near h24 hw4 HI6.out.below hg7).2.1; have h47 := hm7.lt; clear hm7 hg7)
                          | (at_builtin; refine app_int2 rfl _ _ rfl (w4.heap.size + 1) (.slice A' m' cp') R' rfl y _ rfl w7 rfl HO7.out rfl (by omega) h47 ?_; intro A8 c8 n8 w8 hn8 ho8 hb8 hg8 hat8; have HN8 := Lib.hid hn8; have HI8 := Lib.hid (HI6.out.put HY.out.symm hmem HYL.out HY2.out h24 hw4 HM7.out HG7.out ho8 hb8 hg8 hat8); clear hn8 ho8 hb8 hg8 hat8))
                        go_roundw
                        case rel => exact ⟨j + 1, R' ++ [y], A8, n8, c8, rfl, HN8.out, by omega, by go_num, HI8.out⟩
                        case measure => simp [intOf]; omega
                  · obtain rfl : n2 = j := by omega
                    have HIz := Lib.hid hI
                    have Hm' := Lib.hid hm'
                    have HGN : Hid (Gone a b c d (i + 1) R') := Lib.hid (hI.gone.next (fun y hy hl => by
                      rw [hI.here.2] at hy
                      have hin : y ∈ ys := (HYS.out y).2 ⟨hy, fun e => by rw [e] at hl; simp [isL] at hl⟩
                      obtain ⟨q, hq, rfl⟩ := List.getElem_of_mem hin
                      have := hI.seen q (by rw [HN2.out]; exact hq)
                      rw [List.getD_eq_getElem?_getD, List.getElem?_eq_getElem hq] at this
                      exact this hl))
                    have hiR : Hid (i + 1 ≤ R'.length) := Lib.hid hI.here.1
                    clear hI hm' HIN
                    go_wp2
                    go_roundw
                    case rel => exact ⟨i + 1, R', A', m', cp', rfl, Hm'.out, hiR.out, by go_num, HGN.out, HIz.out.own, HIz.out.set, HIz.out.box, HIz.out.below⟩
                    case measure => simp [intOf]; omega
            · have hlt3 : ¬ (i : Int) < (m : Int) := by omega
              have HFI : Hid (∀ l, l ∈ pick isL (at_ c) c.size → l ∈ R) := Lib.hid (HGo.out.finish (by rw [← HmR.out]; omega) HS.out HRN.out HDK.out)
              go_wp2_with fail
              refine (HLAN.out _).mono ?_
              rintro e w6 ⟨A6, n6, c6, xs, rfl, hn6, p1, _, ho6, hb⟩
              have HXS : Hid (∀ l, l ∈ xs → l ∈ R ∧ l ≤ 1048576) := Lib.hid (fun l hl => by
                rw [p1 HR.out] at hl
                exact ⟨HFI.out l hl, by have := (mem_pick.1 hl).1; omega⟩)
              have HN6 := Lib.hid hn6
              have HO6 := Lib.hid ho6
              have HS6 := Lib.hid (HOn.out.later hb)
              have HX6 := Lib.hid (HBx.out.after hb)
              have HB6 := Lib.hid (HBl.out.trans (hb.mono HBl.out.size))
              have hcap6 := ho6.cap hn6
              have hc6a := hcap6.1
              have hc6b := hcap6.2
              unfold maxLen at hc6b
              clear p1 hn6 ho6 hb hcap6 hOw HOw HOn HBx HBl g0 g1 g2
              go_wp2
              go_loopw [95] (fun lv wz => ∃ l : Nat, l ≤ n6 ∧ lv = .int .i64 (l : Int) ∧ Below w6.heap.size w6 wz) (fun lv _ => n6 - (intOf lv).toNat)
              case atStart => exact ⟨0, Nat.zero_le _, rfl, Below.refl _ _⟩
              case round =>
                rename World => wz
                obtain ⟨l, hl, rfl, hbz⟩ := hrel
                have HBZ := Lib.hid hbz
                by_cases hlt4 : l < n6
                · obtain ⟨gl, rfl, hgl, hcl⟩ := (HO6.out.later hbz).at l (by rw [← HN6.out]; exact hlt4)
                  obtain ⟨y, hy⟩ : ∃ y, y = xs.getD l 0 := ⟨_, rfl⟩
                  rw [← hy] at hcl
                  have hyx : y ∈ xs := by
                    rw [hy, List.getD_eq_getElem?_getD, List.getElem?_eq_getElem (by rw [← HN6.out]; exact hlt4)]
                    exact List.getElem_mem _
                  obtain ⟨hyR, hyb⟩ := HXS.out y hyx
                  have hdm : decide (y ∈ R) = true := by simp [hyR]
                  have hlI : (l : Int) < (n6 : Int) := by omega
                  have HSz := Lib.hid (HS6.out.later hbz)
                  clear hy hyx hyR hbz
                  go_wp2_with (first | (at_lookup; refine set_is _ rfl _ _ 41 rfl 4 Tryd.underlying3 Tryd.underlying41 Tryd.underlying4 (zeroBool _) rfl HSz.out _ y rfl hyb rfl ?_; rw [hdm]) | fail)
                  go_roundw
                  case rel => exact ⟨l + 1, by omega, by go_num, HBZ.out⟩
                  case measure => simp [intOf]; omega
                · obtain rfl : n6 = l := by omega
                  have HXe := Lib.hid (HX6.out.after hbz)
                  have HBe := Lib.hid (HB6.out.trans (hbz.mono HB6.out.size))
                  clear hbz HBZ
                  go_wp2
                  go_roundw
                  case rel => exact ⟨k + 1, by omega, by go_num, HXe.out, HBe.out⟩
                  case measure => simp [intOf]; omega
        · obtain rfl : k = nr := by omega
          have hg0 : decide (0 < (k : Int)) = true := by simp; omega
          go_wp2_with fail
          refine (HROB.out _).mono ?_
          rintro e w5 ⟨n5, rfl, p1, _, hb⟩
          obtain rfl : n5 = k := by rw [p1 HR.out, HNR.out]
          have HX5 := Lib.hid (HXr.out.after hb)
          have HB5 := Lib.hid (HBr.out.trans (hb.mono HBr.out.size))
          have f0 := HX5.out.c0
          have f1 := HX5.out.c1
          have f2 := HX5.out.c2
          clear p1 hb e0 e1 e2
          go_wp2_with fail
          refine (HLAN.out _).mono ?_
          rintro e w6 ⟨A6, n6, c6, xs, rfl, hn6, p1, _, ho6, hb⟩
          have HG6 : Hid (0 < n6) := Lib.hid (by
            have := HLL.out.2
            rw [← p1 HR.out, ← hn6] at this
            omega)
          have HB6 := Lib.hid (HB5.out.trans (hb.mono HB5.out.size))
          clear p1 hb hn6 ho6 f0 f1 f2
          go_wp2_with fail
          go_ret
          exact ⟨ret_bool (decide_eq_true HG6.out), HB6.out⟩

end Go.Proofs.YtcbhjopmafhanaaDoor
