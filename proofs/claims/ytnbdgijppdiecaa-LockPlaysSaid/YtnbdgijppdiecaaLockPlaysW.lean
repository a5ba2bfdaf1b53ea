/-
  LockPlays: the walk.
-/
import Derived.Test.YtnbdgijppdiecaaLkG
set_option linter.unusedVariables false
set_option maxRecDepth 100000
namespace Go.Proofs.Ytnbdgijppdiecaa
namespace Lk
open Go.RowKit Bk

theorem RAt.new (w : World) (base : Nat) (hb : base ≤ w.heap.size) : RAt (w.alloc (.cells #[.slice none 0 0] 29)) base w.heap.size (.slice none 0 0) [] :=
  ⟨heap_alloc_new w _, World.ownsRow_nil _ _ _ _, hb, by simp⟩
/-- Both tables, one memory. -/
structure Bth (base g rb k : Nat) (w : World) : Prop where
  ex : ∃ T v R, LkAt w g T ∧ RAt w base rb v R ∧ Sim R T ∧ R.length ≤ k
  lo : base ≤ g
theorem Bth.later {base g rb k : Nat} {w w' : World} (h : Bth base g rb k w) (hb : Below w.heap.size w w') : Bth base g rb k w' := by
  obtain ⟨⟨T, v, R, h1, h2, h3, h4⟩, h5⟩ := h
  exact ⟨⟨T, v, R, h1.later hb, h2.later hb, h3, h4⟩, h5⟩
set_option maxHeartbeats 8000000 in
theorem lockPlays_walk (A : Option Addr) (n cap : Nat) (f : Nat → Bool × Int × Int) (w : World) (h : Acts9 w.heap.size w A n cap f) (_ : True) :
    Calls Try.prog 3 #[.slice A n cap] w fun e w' => e = .returned (.bool true) ∧ Below w.heap.size w w' := by
  have HA := Lib.hid h
  clear h
  go_enter Try.func3, Try.ntmps3
  go_wp2_with fail
  refine (shown9_any _).mono ?_
  rintro e w1 ⟨rfl, hb1⟩
  have HB1 := Lib.hid hb1
  have HN := Lib.hid (LkAt.new w1)
  have HAL := Lib.hid (hb1.trans ((Below.refl w1.heap.size w1).alloc (Nat.le_refl _) (.cells (ocl T0).toArray 51) |>.mono hb1.size))
  clear hb1
  go_wp2_with fail
  refine (new9_any _).mono ?_
  rintro e w2 ⟨rfl, hw2⟩
  rw [← hw2] at HN HAL
  clear hw2
  obtain ⟨g, hg⟩ : ∃ g, g = w1.heap.size := ⟨_, rfl⟩
  have HG : Hid (w.heap.size ≤ g) := Lib.hid (by rw [hg]; exact HB1.out.size)
  rw [← hg] at HN ⊢
  clear hg HB1
  have HA3 := Lib.hid ((Below.refl w2.heap.size w2).alloc (Nat.le_refl _) (.cells #[.slice none 0 0] 29))
  have HBT : Hid (Bth w.heap.size g w2.heap.size 0 (w2.alloc (.cells #[.slice none 0 0] 29)) ∧ Below w.heap.size w (w2.alloc (.cells #[.slice none 0 0] 29))) := Lib.hid ⟨⟨⟨T0, _, _, HN.out.later HA3.out, RAt.new w2 _ HAL.out.size, Sim.start, Nat.le_refl _⟩, HG.out⟩, HAL.out.trans (HA3.out.mono HAL.out.size)⟩
  go_wp2_with (go_at_call 9; refine (few9_any A n cap _ HA.out.le HA.out.max HA.out.nil).mono ?_; rintro e w2' ⟨rfl, m, hm, hm2, rfl⟩)
  have hcs : m ≤ cap := Nat.le_trans hm HA.out.le
  have hcs2 : cap ≤ 9223372036854775807 := by have := HA.out.max; unfold maxLen at this; omega
  obtain ⟨rb, hrb⟩ : ∃ rb, rb = w2.heap.size := ⟨_, rfl⟩
  rw [← hrb] at HBT ⊢
  clear hrb HA3
  go_loopw [23] (fun iv wr => ∃ j : Nat, iv = .int .i64 (j : Int) ∧ j ≤ m ∧ Hid (Bth w.heap.size g rb j wr ∧ Below w.heap.size w wr)) (fun iv _ => m - (intOf iv).toNat)
  case atStart => exact ⟨0, rfl, Nat.zero_le _, HBT⟩
  case round =>
    rename World => wr
    obtain ⟨j, rfl, hj, HI⟩ := hrel
    by_cases hlj : j < m
    · obtain ⟨T, v, R, hT, hR, hS, hl⟩ := HI.out.1.ex
      obtain ⟨ga, off, rfl, hga, hc⟩ := (HA.out.below HI.out.2).cell (by omega)
      obtain ⟨k0, k1, k2⟩ := hc j (by omega)
      have hjI : (j : Int) < (m : Int) := by omega
      have hga2 : ga < wr.heap.size := Nat.lt_of_lt_of_le hga HI.out.2.size
      generalize f j = fj at *
      obtain ⟨q, r, z⟩ := fj
      have k0 : wr.cell? ⟨ga, off + j * 3, none⟩ = some (.bool q) := k0
      have k1 : wr.cell? ⟨ga, off + j * 3 + 1, none⟩ = some (.int .i64 r) := k1
      have k2 : wr.cell? ⟨ga, off + j * 3 + 2, none⟩ = some (.int .i64 z) := k2
      have HAA := Lib.hid ((Below.refl wr.heap.size wr).alloc (Nat.le_refl _) (.cells #[.bool q, .int .i64 r, .int .i64 z] 32))
      have HX := Lib.hid (Ab.new wr q r z)
      obtain ⟨D, hD⟩ : ∃ D, D = wr.heap.size := ⟨_, rfl⟩
      rw [← hD] at HX
      have HTA := Lib.hid (hT.later HAA.out)
      have HRA := Lib.hid (hR.later HAA.out)
      have HBA := Lib.hid (HI.out.2.trans (HAA.out.mono HI.out.2.size))
      have HSA := Lib.hid (hS.act hT.tb q r z)
      have HLA := Lib.hid (show (ract R q r z).2.length ≤ j + 1 from Nat.le_trans (ract_len R q r z) (by omega))
      have HLR : Hid (R.length < 100000) := Lib.hid (by omega)
      have HDE := Lib.hid (fun wx (h : LkAt wx g T) => does9_any h q r z)
      have HRE : Hid (∀ wx, RAt wx w.heap.size rb v R → Calls Try.prog (if q = true then 12 else 11) #[.pointer (some ⟨rb, 0, none⟩), .int .i64 r, .int .i64 z] wx (ToldR (ract R q r z) w.heap.size rb wx)) := Lib.hid (fun wx h => by
        cases q
        · exact r9hold_any h HLR.out r z
        · exact r9release_any h r z)
      obtain ⟨pa, hpa⟩ : ∃ pa, pa = act9 T q r z := ⟨_, rfl⟩
      obtain ⟨pr, hpr⟩ : ∃ pr, pr = ract R q r z := ⟨_, rfl⟩
      rw [← hpa, ← hpr] at HSA
      rw [← hpa] at HDE
      rw [← hpr] at HRE HLA
      clear hpa hpr hc hT hR hS hga
      obtain ⟨ee, T1⟩ := pa
      obtain ⟨ef, R1⟩ := pr
      obtain ⟨rfl, hS1⟩ := HSA.out
      have HS1 := Lib.hid hS1
      clear hS1 HSA
      simp only at HLA HS1
      go_wp2_with fail
      rw [← hD]
      refine (HDE.out _ HTA.out).mono ?_
      rintro e w4 ⟨rfl, h4, o4⟩
      have H4 := Lib.hid h4
      have HR4 := Lib.hid (HRA.out.only HTA.out o4)
      have HX4 := Lib.hid (HX.out.only HTA.out o4)
      have HB4 := Lib.hid (HBA.out.trans (o4.below HBA.out.size HG.out))
      obtain ⟨x0, x1, x2, x3⟩ := HX4.out.cells
      clear h4 o4 hD
      cases q with
      | true =>
        go_wp2_with fail
        refine (HRE.out _ HR4.out).mono ?_
        rintro e w5 ⟨rfl, ⟨v5, h5⟩, k5, b5⟩
        have H5 := Lib.hid (H4.out.kept9 k5)
        have HR5 := Lib.hid h5
        have HX5 := Lib.hid (HX4.out.kept k5)
        have HB5 := Lib.hid (HB4.out.trans b5)
        obtain ⟨y0, y1, y2, y3⟩ := HX5.out.cells
        have HOW := Lib.hid (owner9_any H5.out z)
        have HOR := Lib.hid (fun wx (h : RAt wx w.heap.size rb v5 R1) => r9owner_any h z)
        rw [HS1.out.same z] at HOR
        have hee : (ef != ef) = false := bne_self_eq_false ef
        clear h5 k5 b5 x0 x1 x2 x3
        generalize at9 T1 z = ow at *
        obtain ⟨oa, od⟩ := ow
        have hoa : (oa != oa) = false := bne_self_eq_false oa
        have hod : (od != od) = false := by cases od <;> rfl
        go_wp2_with fail
        refine HOW.out.mono ?_
        rintro e w6 ⟨rfl, b6⟩
        have H6 := Lib.hid (H5.out.later b6)
        have HR6 := Lib.hid (HR5.out.later b6)
        have HX6 := Lib.hid (HX5.out.later b6)
        have HB6 := Lib.hid (HB5.out.trans (b6.mono HB5.out.size))
        clear b6 y0 y1 y2 y3
        obtain ⟨y0, y1, y2, y3⟩ := HX6.out.cells
        go_wp2_with fail
        refine (HOR.out _ HR6.out).mono ?_
        rintro e w6' ⟨rfl, rfl⟩
        have HZ1 := Lib.hid (zns_len T1 (r, true) 26)
        have HZ2 := Lib.hid (zns_len T1 (0, false) 26)
        have HTB := Lib.hid H6.out.tb
        go_wp2_with fail
        go_region_held3 (fun w' => w'.cell? ⟨D, 1, none⟩ = some (.int .i64 r)) (go_keep)
          ((first
            | (go_at_call_of 15 (Value.slice Ad nd cd); refine HSMe.out.mono ?_; rintro e wf ⟨rfl, hbf⟩; have HBf := Lib.hid (HBe.out.trans (hbf.mono HBe.out.size)); have yf := (HBf.out.cell (p := ⟨D, 1, none⟩) y3).trans y1; clear hbf)
            | (go_at_call 19; refine (r9free_any (HR6.out.later HBd.out) HS1.out HTB.out).mono ?_; rintro e we ⟨Ae, ne, ce, rfl, hne, hoe, hbe⟩; have HBe := Lib.hid (HBd.out.trans (hbe.mono HBd.out.size)); have HSMe := Lib.hid (same9_two (HOd.out.later hbe) hoe HNd.out hne HZ2.out); have ye := (HBe.out.cell (p := ⟨D, 1, none⟩) y3).trans y1; clear hne hoe hbe)
            | (go_at_call 18; refine (free9_any (H6.out.later HBc.out)).mono ?_; rintro e wd ⟨Ad, nd, cd, rfl, hnd, hdo, hbd⟩; have HBd := Lib.hid (HBc.out.trans (hbd.mono HBc.out.size)); have HOd := Lib.hid hdo; have HNd := Lib.hid hnd; have yd := (HBd.out.cell (p := ⟨D, 1, none⟩) y3).trans y1; clear hnd hdo hbd)
            | (go_at_call_of 15 (Value.slice Aa na ca); refine HSMb.out.mono ?_; rintro e wc ⟨rfl, hbc⟩; have HBc := Lib.hid (HBb.out.trans (hbc.mono HBb.out.size)); have yc := (HBc.out.cell (p := ⟨D, 1, none⟩) y3).trans y1; clear hbc)
            | (go_at_call 17; refine (r9of_any (HR6.out.later HBa.out) HS1.out HTB.out r).mono ?_; rintro e wb ⟨Ab, nb, cb, rfl, hnb, hob, hbb⟩; have HBb := Lib.hid (HBa.out.trans (hbb.mono HBa.out.size)); have HSMb := Lib.hid (same9_two (HOa.out.later hbb) hob HNa.out hnb HZ1.out); have yb := (HBb.out.cell (p := ⟨D, 1, none⟩) y3).trans y1; clear hnb hob hbb)
            | (go_at_call 16; refine (of9_any (H6.out.later (Below.refl _ _).drew) r).mono ?_; rintro e wa ⟨Aa, na, ca, rfl, hna, hao, hba⟩; have HBa := Lib.hid ((Below.refl w6.heap.size w6).drew.trans hba); have HOa := Lib.hid hao; have HNa := Lib.hid hna; have ya := (HBa.out.cell (p := ⟨D, 1, none⟩) y3).trans y1; clear hna hao hba)))
        have HEND : Hid (Bth w.heap.size g rb (j + 1) wf ∧ Below w.heap.size w wf) := Lib.hid ⟨⟨⟨T1, v5, R1, H6.out.later HBf.out, HR6.out.later HBf.out, HS1.out, HLA.out⟩, HG.out⟩, HB6.out.trans (HBf.out.mono HB6.out.size)⟩
        go_wp2_with fail
        go_roundw
        case rel => exact ⟨j + 1, by go_num, by omega, HEND⟩
        case measure => simp [intOf]; omega
      | false =>
        go_wp2_with fail
        refine (HRE.out _ HR4.out).mono ?_
        rintro e w5 ⟨rfl, ⟨v5, h5⟩, k5, b5⟩
        have H5 := Lib.hid (H4.out.kept9 k5)
        have HR5 := Lib.hid h5
        have HX5 := Lib.hid (HX4.out.kept k5)
        have HB5 := Lib.hid (HB4.out.trans b5)
        obtain ⟨y0, y1, y2, y3⟩ := HX5.out.cells
        have HOW := Lib.hid (owner9_any H5.out z)
        have HOR := Lib.hid (fun wx (h : RAt wx w.heap.size rb v5 R1) => r9owner_any h z)
        rw [HS1.out.same z] at HOR
        have hee : (ef != ef) = false := bne_self_eq_false ef
        clear h5 k5 b5 x0 x1 x2 x3
        generalize at9 T1 z = ow at *
        obtain ⟨oa, od⟩ := ow
        have hoa : (oa != oa) = false := bne_self_eq_false oa
        have hod : (od != od) = false := by cases od <;> rfl
        go_wp2_with fail
        refine HOW.out.mono ?_
        rintro e w6 ⟨rfl, b6⟩
        have H6 := Lib.hid (H5.out.later b6)
        have HR6 := Lib.hid (HR5.out.later b6)
        have HX6 := Lib.hid (HX5.out.later b6)
        have HB6 := Lib.hid (HB5.out.trans (b6.mono HB5.out.size))
        clear b6 y0 y1 y2 y3
        obtain ⟨y0, y1, y2, y3⟩ := HX6.out.cells
        go_wp2_with fail
        refine (HOR.out _ HR6.out).mono ?_
        rintro e w6' ⟨rfl, rfl⟩
        have HZ1 := Lib.hid (zns_len T1 (r, true) 26)
        have HZ2 := Lib.hid (zns_len T1 (0, false) 26)
        have HTB := Lib.hid H6.out.tb
        go_wp2_with fail
        go_region_held3 (fun w' => w'.cell? ⟨D, 1, none⟩ = some (.int .i64 r)) (go_keep)
          ((first
            | (go_at_call_of 15 (Value.slice Ad nd cd); refine HSMe.out.mono ?_; rintro e wf ⟨rfl, hbf⟩; have HBf := Lib.hid (HBe.out.trans (hbf.mono HBe.out.size)); have yf := (HBf.out.cell (p := ⟨D, 1, none⟩) y3).trans y1; clear hbf)
            | (go_at_call 19; refine (r9free_any (HR6.out.later HBd.out) HS1.out HTB.out).mono ?_; rintro e we ⟨Ae, ne, ce, rfl, hne, hoe, hbe⟩; have HBe := Lib.hid (HBd.out.trans (hbe.mono HBd.out.size)); have HSMe := Lib.hid (same9_two (HOd.out.later hbe) hoe HNd.out hne HZ2.out); have ye := (HBe.out.cell (p := ⟨D, 1, none⟩) y3).trans y1; clear hne hoe hbe)
            | (go_at_call 18; refine (free9_any (H6.out.later HBc.out)).mono ?_; rintro e wd ⟨Ad, nd, cd, rfl, hnd, hdo, hbd⟩; have HBd := Lib.hid (HBc.out.trans (hbd.mono HBc.out.size)); have HOd := Lib.hid hdo; have HNd := Lib.hid hnd; have yd := (HBd.out.cell (p := ⟨D, 1, none⟩) y3).trans y1; clear hnd hdo hbd)
            | (go_at_call_of 15 (Value.slice Aa na ca); refine HSMb.out.mono ?_; rintro e wc ⟨rfl, hbc⟩; have HBc := Lib.hid (HBb.out.trans (hbc.mono HBb.out.size)); have yc := (HBc.out.cell (p := ⟨D, 1, none⟩) y3).trans y1; clear hbc)
            | (go_at_call 17; refine (r9of_any (HR6.out.later HBa.out) HS1.out HTB.out r).mono ?_; rintro e wb ⟨Ab, nb, cb, rfl, hnb, hob, hbb⟩; have HBb := Lib.hid (HBa.out.trans (hbb.mono HBa.out.size)); have HSMb := Lib.hid (same9_two (HOa.out.later hbb) hob HNa.out hnb HZ1.out); have yb := (HBb.out.cell (p := ⟨D, 1, none⟩) y3).trans y1; clear hnb hob hbb)
            | (go_at_call 16; refine (of9_any (H6.out.later (Below.refl _ _).drew) r).mono ?_; rintro e wa ⟨Aa, na, ca, rfl, hna, hao, hba⟩; have HBa := Lib.hid ((Below.refl w6.heap.size w6).drew.trans hba); have HOa := Lib.hid hao; have HNa := Lib.hid hna; have ya := (HBa.out.cell (p := ⟨D, 1, none⟩) y3).trans y1; clear hna hao hba)))
        have HEND : Hid (Bth w.heap.size g rb (j + 1) wf ∧ Below w.heap.size w wf) := Lib.hid ⟨⟨⟨T1, v5, R1, H6.out.later HBf.out, HR6.out.later HBf.out, HS1.out, HLA.out⟩, HG.out⟩, HB6.out.trans (HBf.out.mono HB6.out.size)⟩
        go_wp2_with fail
        go_roundw
        case rel => exact ⟨j + 1, by go_num, by omega, HEND⟩
        case measure => simp [intOf]; omega
    · obtain rfl : j = m := by omega
      go_wp2_with fail
      go_ret
      exact ⟨rfl, HI.out.2⟩
end Lk
end Go.Proofs.Ytnbdgijppdiecaa
