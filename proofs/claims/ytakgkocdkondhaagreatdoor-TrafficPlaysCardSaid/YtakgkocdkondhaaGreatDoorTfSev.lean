/-
  Layer 11: the document's Grant: the walk.
  Layer 11: the document's New.
  Layer 11: the document's New: the walk.
  Layer 11: of the laws: what the document's state does at a step.
  Layer 11: New, the whole of what it makes.
  Layer 11: the state and the document's state, side by side.
-/
import Derived.Test.YtakgkocdkondhaaGreatDoorTfSix
set_option linter.unusedVariables false
set_option maxRecDepth 100000
section
namespace Go.Proofs.YtakgkocdkondhaaGreatDoor
namespace Tf
open Go.RowKit Fl Tr Pt
open Bk (Gt Lt Iw ivs Cm hold need Cl MayP r8may_any ClsTold app_ints)
open Lk (Ow T0 zns at9 LkAt Only Tb ToldI zns_succ zns_len mem_zns at9_set)

section
variable {w wx : World} {q z m cz cap top : Nat} {W H : Int} {s : ByteArray} {R : List Mv} {T T' : List Ow}
theorem grant_end0 {wB : World} {b : Nat} {a : Ac} (h : RS wB q z m cz cap top W H s R T) (hBB : Below wB.heap.size wB w) (hb : Below w.heap.size w wx) (hbs : w.heap.size ≤ b) : RN wB w (box3 b a wx) (fun w'' => RS w'' q z m cz cap top W H s R T) ∧ Fm m w (box3 b a wx) :=
  ⟨fun w'' hsz hn => h.near0 (by have h1 := box3_size b a wx; have h2 := hb.size; have h3 := hBB.size; omega) (fun j hj => by
    have h3 := hBB.size
    rw [hn j (.inl hj), box3_other b a _ (by omega), hb.block j (by omega), hBB.block j hj]), Turn.ofBelow (box3_below hb hbs) _⟩
set_option maxHeartbeats 8000000 in
theorem rgrant_near {wB : World} (hB : RS wB q z m cz cap top W H s R T) (hBB : Below wB.heap.size wB w) (hI : Inv W H s R T) (r : Int) :
    Calls Tryz.prog 46 #[.pointer (some ⟨q, 0, none⟩), .int .i64 r] w (RGrant wB q z m cz cap top W H s (grantF s R T r) w) := by
  have h := hB.later hBB
  have HRB := Lib.hid hB
  have HBB := Lib.hid hBB
  clear hB hBB
  have hA0 := Ab.new w
  have hb0 := (Below.refl w.heap.size w).alloc (Nat.le_refl _) (.cells #[.int .u8 0, .int .i64 0, .int .i64 0] 39)
  have hsz0 : (w.alloc (.cells #[.int .u8 0, .int .i64 0, .int .i64 0] 39)).heap.size = w.heap.size + 1 := by simp
  obtain ⟨w1, hw1⟩ : ∃ w1, w1 = w.alloc (.cells #[.int .u8 0, .int .i64 0, .int .i64 0] 39) := ⟨_, rfl⟩
  have HW1 := Lib.hid hw1
  rw [← hw1] at hA0 hb0 hsz0
  have HA0 := Lib.hid hA0
  have HB0 := Lib.hid hb0
  have HH := Lib.hid (rhas_any (h.later hb0) r)
  have HR := Lib.hid h
  have HI := Lib.hid hI
  obtain ⟨b4, hb4⟩ : ∃ b4, b4 = w.heap.size := ⟨_, rfl⟩
  have HB4 := Lib.hid hb4
  have hbl : b4 < w1.heap.size := by omega
  by_cases hr : 0 ≤ r ∧ r < R.length
  · obtain ⟨k, rfl⟩ := Int.eq_ofNat_of_zero_le hr.1
    have hk : k < R.length := by omega
    rw [decide_eq_true hr] at HH
    obtain ⟨A, n, c, A2, n2, c2, r0, r1, r2, r3, hla, hgh, hfz, hmlt⟩ := (h.later hb0).robot hk
    obtain ⟨-, -, -, e3, e4, hq⟩ := (h.later hb0).cells
    obtain ⟨⟨hs1, hs2⟩, hz1, hz2⟩ := h.size
    have hkI : (k : Int) < (R.length : Int) := by omega
    have hll := hla.al.len
    obtain ⟨x0, hx0⟩ : ∃ x0, x0 = (getM R k).1 := ⟨_, rfl⟩
    obtain ⟨bz, hbz⟩ : ∃ bz, bz = (getM R k).2.2 := ⟨_, rfl⟩
    rw [← hx0] at r0
    rw [← hbz] at r2
    cases hl : (getM R k).2.1 with
    | nil =>
      rw [grantF_none hk hl]
      rw [hl] at hll
      have hn : n = 0 := hll.symm
      subst hn
      obtain ⟨w2, hw2⟩ : ∃ w2, w2 = w1.alloc (.cells #[.int .i64 x0, .slice A 0 c, .bool bz, .slice A2 n2 c2] 57) := ⟨_, rfl⟩
      have hA2 := (Below.refl w1.heap.size w1).alloc (Nat.le_refl _) (.cells #[.int .i64 x0, .slice A 0 c, .bool bz, .slice A2 n2 c2] 57)
      rw [← hw2] at hA2
      have HW2 := Lib.hid hw2
      have hab2 := hA0.later hA2
      have HE := Lib.hid (grant_end0 (b := b4) (a := (0, 0, 0)) HRB.out HBB.out (hb0.trans (hA2.mono hb0.size)) (by omega))
      rw [← hb4] at hab2
      obtain ⟨z0, z1, z2, z3, z4, z5, z6⟩ := hab2.cells
      have HAB : Hid (Ab b4 (0, 0, 0) (((w2.setCell ⟨b4, 0, none⟩ (.int .u8 0)).setCell ⟨b4, 1, none⟩ (.int .i64 0)).setCell ⟨b4, 2, none⟩ (.int .i64 0))) := Lib.hid (hab2.put 0 0 0)
      generalize R.length = N at *
      clear h hI hr hA0 hb0 hsz0 hw1 hb4 hla hgh hll hl hx0 hbz hab2 hw2 hA2
      go_enter Tryz.func46, Tryz.ntmps46
      go_wp2_with fail
      rw [← HB4.out, ← HW1.out]
      refine HH.out.mono ?_
      rintro e w3 ⟨rfl, rfl⟩
      go_upto_region 4 with (fail)
      rw [← HW2.out]
      have y1 : w2.cell? ⟨w1.heap.size, 1, none⟩ = some (.slice A 0 c) := by rw [HW2.out]; simp [World.cell?_alloc_new]
      go_wp2_with fail
      obtain ⟨r0, r1, r2, _⟩ := HAB.out.cells
      exact bodyPost_ret (v := .tuple #[.agg #[.int .u8 0, .int .i64 0, .int .i64 0], .int .i64 2]) (by simp [results, Tryz.results46, go_sem, r0, r1, r2]) rfl ⟨rfl, HE.out.1, HE.out.2⟩
    | cons a l =>
      rw [hl] at hll hla
      have hn1 : 0 < n := by rw [← hll]; simp
      have dn : ((n : Int) == 0) = false := by rw [beq_eq_false_iff_ne]; omega
      obtain ⟨w2, hw2⟩ : ∃ w2, w2 = w1.alloc (.cells #[.int .i64 x0, .slice A n c, .bool bz, .slice A2 n2 c2] 57) := ⟨_, rfl⟩
      have hA2 := (Below.refl w1.heap.size w1).alloc (Nat.le_refl _) (.cells #[.int .i64 x0, .slice A n c, .bool bz, .slice A2 n2 c2] 57)
      have hR2 : Rb4 w1.heap.size x0 (.slice A n c) bz (.slice A2 n2 c2) w2 := by rw [hw2]; exact heap_alloc_new w1 _
      rw [← hw2] at hA2
      have HW2 := Lib.hid hw2
      have hB2 := hb0.trans (hA2.mono hb0.size)
      have hab2 := hA0.later hA2
      rw [← hb4] at hab2
      obtain ⟨⟨y0, y1, y2, y3⟩, yf, yl⟩ := hR2.cells
      cases bz with
      | true =>
        rw [grantF_busy hk (by rw [hl]; simp) hbz.symm]
        have HE := Lib.hid (grant_end0 (b := b4) (a := (0, 0, 0)) HRB.out HBB.out hB2 (by omega))
        obtain ⟨z0, z1, z2, z3, z4, z5, z6⟩ := hab2.cells
        have HAB : Hid (Ab b4 (0, 0, 0) (((w2.setCell ⟨b4, 0, none⟩ (.int .u8 0)).setCell ⟨b4, 1, none⟩ (.int .i64 0)).setCell ⟨b4, 2, none⟩ (.int .i64 0))) := Lib.hid (hab2.put 0 0 0)
        generalize R.length = N at *
        clear h hI hr hA0 hb0 hsz0 hw1 hb4 hla hgh hll hl hx0 hbz hab2 hw2 hA2 hR2 hB2
        go_enter Tryz.func46, Tryz.ntmps46
        go_wp2_with fail
        rw [← HB4.out, ← HW1.out]
        refine HH.out.mono ?_
        rintro e w3 ⟨rfl, rfl⟩
        go_upto_region 4 with (fail)
        rw [← HW2.out]
        go_wp2_with fail
        obtain ⟨r0, r1, r2, _⟩ := HAB.out.cells
        exact bodyPost_ret (v := .tuple #[.agg #[.int .u8 0, .int .i64 0, .int .i64 0], .int .i64 111]) (by simp [results, Tryz.results46, go_sem, r0, r1, r2]) rfl ⟨rfl, HE.out.1, HE.out.2⟩
      | false =>
        have hm : getM R k = (x0, a :: l, false) := by rw [hx0, ← hl]; exact Prod.ext rfl (Prod.ext rfl hbz.symm)
        obtain ⟨ga, oa, rfl, hga, k0, k1, k2⟩ := hla.al.cell hn1
        have hcel := on_lt (right_cells (hI.each k hk) a (by rw [hl]; simp)).2
        obtain ⟨hac1, hac2⟩ := hla.al.size
        have HAZ : Hid (az s a = if a.1 = 1 then zc s a.2.1 else []) := Lib.hid rfl
        obtain ⟨a1, a2, a3⟩ := a
        simp only [List.getD_cons_zero, Nat.zero_mul, Nat.add_zero] at k0 k1 k2
        obtain ⟨cn, rfl⟩ := Int.eq_ofNat_of_zero_le hcel.1
        have hcn : cn < s.size := by have h2 : ((cn : Nat) : Int) < s.size := hcel.2; omega
        have hcI : (cn : Int) < (s.size : Int) := by omega
        obtain ⟨zc1, hzlt⟩ := (h.later hB2).zone hcn
        obtain ⟨w3, hw3⟩ : ∃ w3, w3 = w2.alloc (.cells #[.int .u8 (a1 : Int), .int .i64 (cn : Int), .int .i64 a3] 39) := ⟨_, rfl⟩
        have hA3 := (Below.refl w2.heap.size w2).alloc (Nat.le_refl _) (.cells #[.int .u8 (a1 : Int), .int .i64 (cn : Int), .int .i64 a3] 39)
        have hab3 : Ab w2.heap.size (a1, (cn : Int), a3) w3 := by rw [hw3]; exact heap_alloc_new w2 _
        rw [← hw3] at hA3
        have HW3 := Lib.hid hw3
        have HB3 := Lib.hid (hB2.trans (hA3.mono hB2.size))
        have HAB3 := Lib.hid (hab2.later hA3)
        have HB13 := Lib.hid (hA2.trans (hA3.mono hA2.size))
        have HRB3 := Lib.hid (hR2.later hA3)
        have HAC3 := Lib.hid hab3
        have HHO := Lib.hid hgh
        have HM := Lib.hid hm
        have m0 := (hA2.cell (p := ⟨ga, oa, none⟩) hga).trans k0
        have m1 := (hA2.cell (p := ⟨ga, oa + 1, none⟩) hga).trans k1
        have m2 := (hA2.cell (p := ⟨ga, oa + 2, none⟩) hga).trans k2
        have hga2 := Nat.lt_of_lt_of_le hga hA2.size
        obtain ⟨-, -, -, e33, e34, hq3⟩ := (h.later HB3.out).cells
        obtain ⟨zc3, -⟩ := (h.later HB3.out).zone hcn
        obtain ⟨N, hN⟩ : ∃ N, N = R.length := ⟨_, rfl⟩
        have HN := Lib.hid hN
        have HK := Lib.hid hk
        have HCT : Hid (zf s (cn : Int) = -1 ∧ zc s (cn : Int) = [] ∨ 0 ≤ zf s (cn : Int) ∧ zf s (cn : Int) < 26 ∧ zc s (cn : Int) = [zf s (cn : Int)]) := Lib.hid (zf_zc s (cn : Int))
        rw [← hN] at hs1 hkI e4 e34
        obtain ⟨⟨v0, v1, v2, v3⟩, vf, vl⟩ := HRB3.out.cells
        obtain ⟨u0, u1, u2, u3, -⟩ := HAC3.out.cells
        clear h hI hr hA0 hb0 hsz0 hw1 hb4 hla hgh hll hl hx0 hbz hab2 hw2 hA2 hR2 hB2 hab3 hA3 hw3 hm hcel hN hk zc1 hzlt
        go_enter Tryz.func46, Tryz.ntmps46
        go_wp2_with fail
        rw [← HB4.out, ← HW1.out]
        refine HH.out.mono ?_
        rintro e w4 ⟨rfl, rfl⟩
        go_upto_region 4 with (fail)
        rw [← HW2.out]
        go_upto_region 9 with (fail)
        rw [← HW3.out]
        go_big_quiet (fail)
        go_upto_region 10 with (fail)
        generalize hwd : World.drewN w3 _ = wd
        have hD : Below w3.heap.size w3 wd := hwd ▸ Bk.below_drewN _ _ _
        clear hwd v0 v1 v2 v3 vf vl u0 u1 u2 u3 y0 y1 y2 y3 yf m0 m1 m2 k0 k1 k2 r0 r1 r2 r3 e3 e4 hfz zc3 e33
        have HBX : Hid (Below w.heap.size w wd) := Lib.hid (HB3.out.trans (hD.mono HB3.out.size))
        have HABX := Lib.hid (HAB3.out.later hD)
        have HACX := Lib.hid (HAC3.out.later hD)
        have HRBX := Lib.hid (HRB3.out.later hD)
        have q4x := (hD.cell (p := ⟨q, 4, none⟩) hq3).trans e34
        have hqx := Nat.lt_of_lt_of_le hq3 hD.size
        have HM4 : Hid (m ≠ b4 ∧ m ≠ w2.heap.size ∧ b4 ≠ w2.heap.size) := Lib.hid (by
          have h1 := HR.out.tops
          have h2 := HB4.out
          have h3 := HB0.out.size
          omega)
        obtain ⟨u0, u1, u2, u3, -⟩ := HACX.out.cells
        obtain ⟨⟨v0, v1, v2, v3⟩, vf, vl⟩ := HRBX.out.cells
        clear e34 hq3
        by_cases h1 : a1 = 1
        · have d1 : ((a1 : Int) == 1) = true := by rw [beq_iff_eq]; omega
          rw [if_pos h1] at HAZ
          clear h1
          rcases HCT.out with ⟨q0, q1⟩ | ⟨q0, q26, q1⟩
          · have d2 : decide (0 ≤ zf s (cn : Int)) = false := decide_eq_false (by omega)
            have HG : Hid (grantF s R T (k : Int) = (((a1, (cn : Int), a3), 0), R.set k ((getM R k).1, (getM R k).2.1, true), T)) := Lib.hid (by
              have e : az s (a1, (cn : Int), a3) = [] := by rw [HAZ.out]; exact q1
              rw [grantF_go HK.out HM.out (by rw [e]; intro z hz; cases hz), e, HM.out]
              rfl)
            clear HCT q0 q1
            generalize zf s (cn : Int) = zz at *
            obtain ⟨_, _, _, _, _, _, -, -, s2, -, -, -, hfx, hmx⟩ := (HR.out.later HBX.out).robot HK.out
            have HE := Lib.hid (grant_end1 (b := b4) (a := (a1, (cn : Int), a3)) HRB.out HBB.out HBX.out (Nat.le_of_eq HB4.out.symm) HK.out)
            have HFM := Lib.hid (fm_one (m := m) (b := b4) (a := (a1, (cn : Int), a3)) (k := k * 4 + 2) (u := .bool true) HBX.out (Nat.le_of_eq HB4.out.symm))
            go_upto_region 21 with (fail)
            have HAC2 : Hid (Ab w2.heap.size (a1, (cn : Int), a3) (wd.setCell ⟨m, k * 4 + 2, none⟩ (.bool true))) := Lib.hid ((heap_setCell_other _ ⟨m, k * 4 + 2, none⟩ _ _ HM4.out.2.1.symm).trans HACX.out)
            have HAB2 : Hid (Ab b4 (0, 0, 0) (wd.setCell ⟨m, k * 4 + 2, none⟩ (.bool true))) := Lib.hid ((heap_setCell_other _ ⟨m, k * 4 + 2, none⟩ _ _ HM4.out.1.symm).trans HABX.out)
            generalize wd.setCell ⟨m, k * 4 + 2, none⟩ (.bool true) = wp at *
            have HFB : Hid (Ab b4 (a1, (cn : Int), a3) (((wp.setCell ⟨b4, 0, none⟩ (.int .u8 (a1 : Int))).setCell ⟨b4, 1, none⟩ (.int .i64 (cn : Int))).setCell ⟨b4, 2, none⟩ (.int .i64 a3))) := Lib.hid (HAB2.out.put a1 (cn : Int) a3)
            clear u0 u1 u2 u3 v0 v1 v2 v3 vf vl q4x s2 hfx
            obtain ⟨u0, u1, u2, u3, -⟩ := HAC2.out.cells
            obtain ⟨z0, z1, z2, z3, z4, z5, z6⟩ := HAB2.out.cells
            go_wp2_with fail
            obtain ⟨r0, r1, r2, _⟩ := HFB.out.cells
            refine bodyPost_ret (v := .tuple #[.agg #[.int .u8 (a1 : Int), .int .i64 (cn : Int), .int .i64 a3], .int .i64 0]) (by simp [results, Tryz.results46, go_sem, r0, r1, r2]) rfl ?_
            rw [HG.out]
            exact ⟨rfl, HE.out, HFM.out⟩
          · have d2 : decide (0 ≤ zf s (cn : Int)) = true := decide_eq_true q0
            have HAE : Hid (az s (a1, (cn : Int), a3) = [zf s (cn : Int)]) := Lib.hid (by rw [HAZ.out]; exact q1)
            clear HCT HAZ q0 q26 q1
            generalize zf s (cn : Int) = zz at *
            have HL2 : Hid (Lt wd.heap.size wd A2 n2 c2 (zns T ((k : Int), true) 26)) := Lib.hid (HHO.out.gt.later (HB13.out.trans (hD.mono HB13.out.size)))
            have HN2 : Hid (n2 ≤ 1000) := Lib.hid (by have h1 := HL2.out.len; have h2 := zns_len T ((k : Int), true) 26; omega)
            have HIN := Lib.hid (rin11_any zz A2 n2 c2 _ wd HL2.out HN2.out)
            by_cases hmem : zz ∈ zns T ((k : Int), true) 26
            · rw [decide_eq_true hmem] at HIN
              have HG : Hid (grantF s R T (k : Int) = (((a1, (cn : Int), a3), 0), R.set k ((getM R k).1, (getM R k).2.1, true), T)) := Lib.hid (by
                have e9 := at9_mem.1 hmem
                rw [grantF_go HK.out HM.out (by rw [HAE.out]; intro y hy; rw [List.mem_singleton.1 hy]; exact .inl e9), HAE.out, HM.out]
                show (_, _, if at9 T zz = ((k : Int), true) then T else _) = _
                rw [if_pos e9])
              clear hmem
              go_wp2_with fail
              refine HIN.out.mono ?_
              rintro e w5 ⟨rfl, rfl⟩
              obtain ⟨_, _, _, _, _, _, -, -, s2, -, -, -, hfx, hmx⟩ := (HR.out.later HBX.out).robot HK.out
              have HE := Lib.hid (grant_end1 (b := b4) (a := (a1, (cn : Int), a3)) HRB.out HBB.out HBX.out (Nat.le_of_eq HB4.out.symm) HK.out)
              have HFM := Lib.hid (fm_one (m := m) (b := b4) (a := (a1, (cn : Int), a3)) (k := k * 4 + 2) (u := .bool true) HBX.out (Nat.le_of_eq HB4.out.symm))
              go_upto_region 21 with (fail)
              have HAC2 : Hid (Ab w2.heap.size (a1, (cn : Int), a3) (wd.setCell ⟨m, k * 4 + 2, none⟩ (.bool true))) := Lib.hid ((heap_setCell_other _ ⟨m, k * 4 + 2, none⟩ _ _ HM4.out.2.1.symm).trans HACX.out)
              have HAB2 : Hid (Ab b4 (0, 0, 0) (wd.setCell ⟨m, k * 4 + 2, none⟩ (.bool true))) := Lib.hid ((heap_setCell_other _ ⟨m, k * 4 + 2, none⟩ _ _ HM4.out.1.symm).trans HABX.out)
              generalize wd.setCell ⟨m, k * 4 + 2, none⟩ (.bool true) = wp at *
              have HFB : Hid (Ab b4 (a1, (cn : Int), a3) (((wp.setCell ⟨b4, 0, none⟩ (.int .u8 (a1 : Int))).setCell ⟨b4, 1, none⟩ (.int .i64 (cn : Int))).setCell ⟨b4, 2, none⟩ (.int .i64 a3))) := Lib.hid (HAB2.out.put a1 (cn : Int) a3)
              clear u0 u1 u2 u3 v0 v1 v2 v3 vf vl q4x s2 hfx
              obtain ⟨u0, u1, u2, u3, -⟩ := HAC2.out.cells
              obtain ⟨z0, z1, z2, z3, z4, z5, z6⟩ := HAB2.out.cells
              go_wp2_with fail
              obtain ⟨r0, r1, r2, _⟩ := HFB.out.cells
              refine bodyPost_ret (v := .tuple #[.agg #[.int .u8 (a1 : Int), .int .i64 (cn : Int), .int .i64 a3], .int .i64 0]) (by simp [results, Tryz.results46, go_sem, r0, r1, r2]) rfl ?_
              rw [HG.out]
              exact ⟨rfl, HE.out, HFM.out⟩
            · rw [decide_eq_false hmem] at HIN
              have HNM := Lib.hid hmem
              clear hmem
              have HCL := Lib.hid (rclaims_any (HR.out.later HBX.out) HI.out.few HI.out.lens (fun r hr a ha => on_lt (right_cells (HI.out.each r hr) a ha).2))
              go_wp2_with fail
              refine HIN.out.mono ?_
              rintro e w5 ⟨rfl, rfl⟩
              go_wp2_with fail
              refine HCL.out.mono ?_
              rintro e w5 ⟨A5, n5, c5, rfl, hcl, hb5⟩
              have HB5 := Lib.hid hb5
              have HMY := Lib.hid (r8may_any A5 n5 c5 (clm s R T) (k : Int) zz w5 hcl (fun i hi => by
                have h1 := hcl.len
                rw [clm_len] at h1
                rw [(clm_get s R T (by omega)).1]
                have := zns_len T ((i : Int), true) 26
                omega))
              clear hcl hb5
              go_wp2_with fail
              refine HMY.out.mono ?_
              rintro e w6 ⟨b, rfl, hb, hb6⟩
              have HQ := Lib.hid hb
              have HB6 := Lib.hid (HB5.out.trans (hb6.mono HB5.out.size))
              have HBZ : Hid (Below w.heap.size w w6) := Lib.hid (HBX.out.trans (HB6.out.mono HBX.out.size))
              have HABZ := Lib.hid (HABX.out.later HB6.out)
              clear hb hb6
              cases b with
              | false =>
                have HG : Hid (grantF s R T (k : Int) = (((0, 0, 0), 110), R, T)) := Lib.hid (by
                  rw [grantF_wait HK.out HM.out]
                  rw [HAE.out]
                  intro hx
                  rcases hx zz (by simp) with h | h
                  · exact HNM.out (at9_mem.2 h)
                  · have := HQ.out.2 h; cases this)
                have HE := Lib.hid (grant_end0 (b := b4) (a := (0, 0, 0)) HRB.out HBB.out HBZ.out (Nat.le_of_eq HB4.out.symm))
                have HAB : Hid (Ab b4 (0, 0, 0) (((w6.setCell ⟨b4, 0, none⟩ (.int .u8 0)).setCell ⟨b4, 1, none⟩ (.int .i64 0)).setCell ⟨b4, 2, none⟩ (.int .i64 0))) := Lib.hid (HABZ.out.put 0 0 0)
                clear u0 u1 u2 u3 v0 v1 v2 v3 vf vl q4x
                obtain ⟨z0, z1, z2, z3, z4, z5, z6⟩ := HABZ.out.cells
                go_wp2_with fail
                obtain ⟨r0, r1, r2, _⟩ := HAB.out.cells
                refine bodyPost_ret (v := .tuple #[.agg #[.int .u8 0, .int .i64 0, .int .i64 0], .int .i64 110]) (by simp [results, Tryz.results46, go_sem, r0, r1, r2]) rfl ?_
                rw [HG.out]
                exact ⟨rfl, HE.out.1, HE.out.2⟩
              | true =>
                have HMAY := Lib.hid (HQ.out.1 rfl)
                obtain ⟨T', hT'⟩ : ∃ T', T' = T.set zz.toNat ((k : Int), true) := ⟨_, rfl⟩
                have HT' := Lib.hid hT'
                have HG : Hid (grantF s R T (k : Int) = (((a1, (cn : Int), a3), 0), R.set k ((getM R k).1, (getM R k).2.1, true), T')) := Lib.hid (by
                  rw [grantF_go HK.out HM.out (by rw [HAE.out]; intro y hy; rw [List.mem_singleton.1 hy]; exact .inr HMAY.out), HAE.out, HM.out, HT'.out]
                  show (_, _, if at9 T zz = ((k : Int), true) then T else _) = _
                  rw [if_neg (fun e => HNM.out (at9_mem.2 e))])
                have HOT : Hid (∀ j : Nat, j ≠ k → zns T' ((j : Int), true) 26 = zns T ((j : Int), true) 26) := Lib.hid (fun j hj => by rw [HT'.out]; exact give_other HI.out HMAY.out j hj)
                have HGD : Hid (∀ n : Nat, n < 26 → (T'.getD n (0, false) = ((k : Int), true) ↔ ((n : Int) = zz ∨ (n : Int) ∈ zns T ((k : Int), true) 26))) := Lib.hid (fun n hn => by rw [HT'.out]; exact give_getD HI.out HMAY.out hn)
                have HACZ := Lib.hid (HACX.out.later HB6.out)
                have HRBZ := Lib.hid (HRBX.out.later HB6.out)
                have HLZ := Lib.hid (HL2.out.later HB6.out)
                have q4z := (HB6.out.cell (p := ⟨q, 4, none⟩) hqx).trans q4x
                have hqz := Nat.lt_of_lt_of_le hqx HB6.out.size
                have HI0 : Hid (0 = (zns T' ((k : Int), true) 0).length ∧ Iw w6 w6.heap.size (.slice none 0 0) (zns T' ((k : Int), true) 0)) := Lib.hid ⟨rfl, Bk.Iw.nil _ _⟩
                clear hT' u0 u1 u2 u3 v0 v1 v2 v3 vf vl q4x hqx
                go_upto_region 14 with (fail)
                go_wp2_with fail
                go_loopw [9, 10] (fun hv iv wr => ∃ (j : Nat) (A1 : Option Addr) (n1 c1 : Nat), iv = .int .i64 (j : Int) ∧ hv = .slice A1 n1 c1 ∧ j ≤ 26 ∧ Hid (n1 = (zns T' ((k : Int), true) j).length ∧ Iw wr w6.heap.size (.slice A1 n1 c1) (zns T' ((k : Int), true) j)) ∧ Hid (Below w6.heap.size w6 wr)) (fun _ iv _ => 26 - (intOf iv).toNat)
                case atStart => exact ⟨0, none, 0, 0, rfl, rfl, by omega, HI0, Lib.hid (Below.refl _ _)⟩
                case round =>
                  rename World => wr
                  obtain ⟨j, A1, n1, c1, rfl, rfl, hj, HO, HBr⟩ := hrel
                  by_cases hlj : j < 26
                  · have hjI : (j : Int) < 26 := by omega
                    obtain ⟨⟨-, -, -, v3⟩, -, vl⟩ := (HRBZ.out.later HBr.out).cells
                    have HINr := Lib.hid (rin11_any (j : Int) A2 n2 c2 _ wr (HLZ.out.later HBr.out) HN2.out)
                    have hA1 := (Below.refl wr.heap.size wr).alloc (Nat.le_refl _) (.cells #[.int .i64 (j : Int)] 3)
                    have HOa := Lib.hid (HO.out.2.later hA1)
                    have HBa := Lib.hid (HBr.out.trans (hA1.mono HBr.out.size))
                    have HOne := Lib.hid (Lt.one wr (j : Int))
                    have HLE : Hid (n1 ≤ 26 ∧ (zns T' ((k : Int), true) j).length ≤ 26) := Lib.hid (by have h1 := HO.out.1; have h2 := zns_len T' ((k : Int), true) j; omega)
                    clear hA1
                    by_cases hz : (j : Int) = zz
                    · have dz : ((j : Int) == zz) = true := by rw [beq_iff_eq]; exact hz
                      have HAD : Hid (zns T' ((k : Int), true) (j + 1) = zns T' ((k : Int), true) j ++ [(j : Int)]) := Lib.hid (by rw [zns_succ, if_pos ((HGD.out j hlj).2 (.inl hz))])
                      clear hz
                      go_wp2_with (at_builtin; refine app_ints rfl _ _ rfl w6.heap.size (.slice A1 n1 c1) (zns T' ((k : Int), true) j) rfl HOa.out (some ⟨wr.heap.size, 0, none⟩) 1 1 [(j : Int)] rfl HOne.out (by have := HLE.out; omega) HBa.out.size ?_; intro A3 n3 c3 w3' hn3 ho3 hb3 _ _; have HN3 := Lib.hid hn3; have HO3 := Lib.hid ho3; have HB3' := Lib.hid (HBa.out.trans hb3); clear hn3 ho3 hb3)
                      have HO' : Hid (n3 = (zns T' ((k : Int), true) (j + 1)).length ∧ Iw w3' w6.heap.size (.slice A3 n3 c3) (zns T' ((k : Int), true) (j + 1))) := Lib.hid (by rw [HAD.out]; exact ⟨HN3.out, HO3.out⟩)
                      go_roundw
                      case rel => first | exact ⟨j + 1, A3, n3, c3, by go_num, rfl, by omega, HO', HB3'⟩ | ((repeat apply Exists.intro); exact ⟨⟨j + 1, A3, n3, c3, by go_num, rfl, by omega, HO', HB3'⟩, rfl⟩)
                      case measure => simp [intOf]; omega
                    · have dz : ((j : Int) == zz) = false := by rw [beq_eq_false_iff_ne]; exact hz
                      have HZ := Lib.hid hz
                      clear hz
                      by_cases hm : (j : Int) ∈ zns T ((k : Int), true) 26
                      · have HAD : Hid (zns T' ((k : Int), true) (j + 1) = zns T' ((k : Int), true) j ++ [(j : Int)]) := Lib.hid (by rw [zns_succ, if_pos ((HGD.out j hlj).2 (.inr hm))])
                        rw [decide_eq_true hm] at HINr
                        clear hm
                        go_wp2_with fail
                        refine HINr.out.mono ?_
                        rintro e wr ⟨rfl, rfl⟩
                        go_wp2_with (at_builtin; refine app_ints rfl _ _ rfl w6.heap.size (.slice A1 n1 c1) (zns T' ((k : Int), true) j) rfl HOa.out (some ⟨wr.heap.size, 0, none⟩) 1 1 [(j : Int)] rfl HOne.out (by have := HLE.out; omega) HBa.out.size ?_; intro A3 n3 c3 w3' hn3 ho3 hb3 _ _; have HN3 := Lib.hid hn3; have HO3 := Lib.hid ho3; have HB3' := Lib.hid (HBa.out.trans hb3); clear hn3 ho3 hb3)
                        have HO' : Hid (n3 = (zns T' ((k : Int), true) (j + 1)).length ∧ Iw w3' w6.heap.size (.slice A3 n3 c3) (zns T' ((k : Int), true) (j + 1))) := Lib.hid (by rw [HAD.out]; exact ⟨HN3.out, HO3.out⟩)
                        go_roundw
                        case rel => first | exact ⟨j + 1, A3, n3, c3, by go_num, rfl, by omega, HO', HB3'⟩ | ((repeat apply Exists.intro); exact ⟨⟨j + 1, A3, n3, c3, by go_num, rfl, by omega, HO', HB3'⟩, rfl⟩)
                        case measure => simp [intOf]; omega
                      · have HO' : Hid (n1 = (zns T' ((k : Int), true) (j + 1)).length ∧ Iw wr w6.heap.size (.slice A1 n1 c1) (zns T' ((k : Int), true) (j + 1))) := Lib.hid (by
                          have e : zns T' ((k : Int), true) (j + 1) = zns T' ((k : Int), true) j := by
                            rw [zns_succ, if_neg (fun e => by
                              rcases (HGD.out j hlj).1 e with e | e
                              · exact HZ.out e
                              · exact hm e), List.append_nil]
                          rw [e]; exact HO.out)
                        rw [decide_eq_false hm] at HINr
                        clear hm
                        go_wp2_with fail
                        refine HINr.out.mono ?_
                        rintro e wr ⟨rfl, rfl⟩
                        go_wp2_with fail
                        go_roundw
                        case rel => first | exact ⟨j + 1, A1, n1, c1, by go_num, rfl, by omega, HO', HBr⟩ | ((repeat apply Exists.intro); exact ⟨⟨j + 1, A1, n1, c1, by go_num, rfl, by omega, HO', HBr⟩, rfl⟩)
                        case measure => simp [intOf]; omega
                  · obtain rfl : j = 26 := by omega
                    have HBW : Hid (Below w.heap.size w wr) := Lib.hid (HBZ.out.trans (HBr.out.mono HBZ.out.size))
                    have HRr := Lib.hid (HR.out.later HBW.out)
                    obtain ⟨_, _, _, _, _, _, -, -, s2, s3, -, -, hfx, hmx⟩ := HRr.out.robot HK.out
                    have q4r := (HBr.out.cell (p := ⟨q, 4, none⟩) hqz).trans q4z
                    have hqr := Nat.lt_of_lt_of_le hqz HBr.out.size
                    have HE := Lib.hid (grant_end2 (b := b4) (a := (a1, (cn : Int), a3)) HRB.out HBB.out HBW.out (Nat.le_of_eq HB4.out.symm) HK.out HO.out.2 (Nat.lt_of_lt_of_le HABZ.out.cells.2.2.2.1 (Nat.le_refl _)) HOT.out)
                    have HFM := Lib.hid (fm_two (m := m) (b := b4) (a := (a1, (cn : Int), a3)) (k := k * 4 + 3) (l := k * 4 + 2) (u := .slice A1 n1 c1) (v := .bool true) HBW.out (Nat.le_of_eq HB4.out.symm))
                    have HQM : Hid (q ≠ m) := Lib.hid (by obtain ⟨-, cc, hmm⟩ := HR.out.blocks; exact block_ne HR.out.box hmm (by decide))
                    have HPUT : Hid ((wr.setCell ⟨m, k * 4 + 3, none⟩ (.slice A1 n1 c1)).cell? ⟨q, 4, none⟩ = some (.slice (some ⟨m, 0, none⟩) N cap) ∧ (wr.setCell ⟨m, k * 4 + 3, none⟩ (.slice A1 n1 c1)).cell? ⟨m, k * 4 + 2, none⟩ = some (.bool (getM R k).2.2) ∧ (∀ j, (wr.setCell ⟨m, k * 4 + 3, none⟩ (.slice A1 n1 c1)).frozen? ⟨m, j, none⟩ = false) ∧ Ab w2.heap.size (a1, (cn : Int), a3) (wr.setCell ⟨m, k * 4 + 3, none⟩ (.slice A1 n1 c1)) ∧ Ab b4 (0, 0, 0) (wr.setCell ⟨m, k * 4 + 3, none⟩ (.slice A1 n1 c1))) := Lib.hid (by
                      refine ⟨(one_put (p := ⟨q, 4, none⟩) HQM.out).trans q4r, ?_, fun j => ?_, (heap_setCell_other _ ⟨m, k * 4 + 3, none⟩ _ _ HM4.out.2.1.symm).trans (HACZ.out.later HBr.out), (heap_setCell_other _ ⟨m, k * 4 + 3, none⟩ _ _ HM4.out.1.symm).trans (HABZ.out.later HBr.out)⟩
                      · rw [World.cell?_setCell_other (h := by simp)]
                        exact s2
                      · obtain ⟨P, p1, p2⟩ := HRr.out.mv
                        obtain ⟨cc, hcc⟩ := row_block (Bk.own_put p1 (x := k * 4 + 3) (by rw [rcl_length, p2.len]; have := HK.out; omega) (.slice A1 n1 c1))
                        exact frozen_of_row _ m j _ _ hcc)
                    clear q4z hqz
                    go_upto_region 20 with (fail)
                    generalize wr.setCell ⟨m, k * 4 + 3, none⟩ (.slice A1 n1 c1) = wq at *
                    clear q4r s2 s3 hfx
                    obtain ⟨q4q, s2q, hfq, HACq, HABq⟩ := HPUT.out
                    go_upto_region 21 with (fail)
                    have HAC2 : Hid (Ab w2.heap.size (a1, (cn : Int), a3) (wq.setCell ⟨m, k * 4 + 2, none⟩ (.bool true))) := Lib.hid ((heap_setCell_other _ ⟨m, k * 4 + 2, none⟩ _ _ HM4.out.2.1.symm).trans HACq)
                    have HAB2 : Hid (Ab b4 (0, 0, 0) (wq.setCell ⟨m, k * 4 + 2, none⟩ (.bool true))) := Lib.hid ((heap_setCell_other _ ⟨m, k * 4 + 2, none⟩ _ _ HM4.out.1.symm).trans HABq)
                    generalize wq.setCell ⟨m, k * 4 + 2, none⟩ (.bool true) = wp at *
                    have HFB : Hid (Ab b4 (a1, (cn : Int), a3) (((wp.setCell ⟨b4, 0, none⟩ (.int .u8 (a1 : Int))).setCell ⟨b4, 1, none⟩ (.int .i64 (cn : Int))).setCell ⟨b4, 2, none⟩ (.int .i64 a3))) := Lib.hid (HAB2.out.put a1 (cn : Int) a3)
                    clear q4q s2q hfq HACq HABq
                    obtain ⟨u0, u1, u2, u3, -⟩ := HAC2.out.cells
                    obtain ⟨z0, z1, z2, z3, z4, z5, z6⟩ := HAB2.out.cells
                    go_wp2_with fail
                    obtain ⟨r0, r1, r2, _⟩ := HFB.out.cells
                    refine bodyPost_ret (v := .tuple #[.agg #[.int .u8 (a1 : Int), .int .i64 (cn : Int), .int .i64 a3], .int .i64 0]) (by simp [results, Tryz.results46, go_sem, r0, r1, r2]) rfl ?_
                    rw [HG.out]
                    exact ⟨rfl, HE.out, HFM.out⟩
        · have d1 : ((a1 : Int) == 1) = false := by rw [beq_eq_false_iff_ne]; omega
          have HG : Hid (grantF s R T (k : Int) = (((a1, (cn : Int), a3), 0), R.set k ((getM R k).1, (getM R k).2.1, true), T)) := Lib.hid (by
            have e : az s (a1, (cn : Int), a3) = [] := by rw [HAZ.out, if_neg h1]
            rw [grantF_go HK.out HM.out (by rw [e]; intro z hz; cases hz), e, HM.out]
            rfl)
          obtain ⟨_, _, _, _, _, _, -, -, s2, -, -, -, hfx, hmx⟩ := (HR.out.later HBX.out).robot HK.out
          have HE := Lib.hid (grant_end1 (b := b4) (a := (a1, (cn : Int), a3)) HRB.out HBB.out HBX.out (Nat.le_of_eq HB4.out.symm) HK.out)
          have HFM := Lib.hid (fm_one (m := m) (b := b4) (a := (a1, (cn : Int), a3)) (k := k * 4 + 2) (u := .bool true) HBX.out (Nat.le_of_eq HB4.out.symm))
          go_upto_region 21 with (fail)
          have HAC2 : Hid (Ab w2.heap.size (a1, (cn : Int), a3) (wd.setCell ⟨m, k * 4 + 2, none⟩ (.bool true))) := Lib.hid ((heap_setCell_other _ ⟨m, k * 4 + 2, none⟩ _ _ HM4.out.2.1.symm).trans HACX.out)
          have HAB2 : Hid (Ab b4 (0, 0, 0) (wd.setCell ⟨m, k * 4 + 2, none⟩ (.bool true))) := Lib.hid ((heap_setCell_other _ ⟨m, k * 4 + 2, none⟩ _ _ HM4.out.1.symm).trans HABX.out)
          generalize wd.setCell ⟨m, k * 4 + 2, none⟩ (.bool true) = wp at *
          have HFB : Hid (Ab b4 (a1, (cn : Int), a3) (((wp.setCell ⟨b4, 0, none⟩ (.int .u8 (a1 : Int))).setCell ⟨b4, 1, none⟩ (.int .i64 (cn : Int))).setCell ⟨b4, 2, none⟩ (.int .i64 a3))) := Lib.hid (HAB2.out.put a1 (cn : Int) a3)
          clear u0 u1 u2 u3 v0 v1 v2 v3 vf vl q4x s2 hfx
          obtain ⟨u0, u1, u2, u3, -⟩ := HAC2.out.cells
          obtain ⟨z0, z1, z2, z3, z4, z5, z6⟩ := HAB2.out.cells
          go_wp2_with fail
          obtain ⟨r0, r1, r2, _⟩ := HFB.out.cells
          refine bodyPost_ret (v := .tuple #[.agg #[.int .u8 (a1 : Int), .int .i64 (cn : Int), .int .i64 a3], .int .i64 0]) (by simp [results, Tryz.results46, go_sem, r0, r1, r2]) rfl ?_
          rw [HG.out]
          exact ⟨rfl, HE.out, HFM.out⟩
  · rw [grantF_out hr]
    rw [decide_eq_false hr] at HH
    obtain ⟨z0, z1, z2, z3, z4, z5, z6⟩ := hA0.cells
    rw [← hb4] at z0 z1 z2 z3 z4 z5 z6
    have HE := Lib.hid (grant_end0 (b := b4) (a := (0, 0, 0)) HRB.out HBB.out hb0 (by omega))
    have HAB : Hid (Ab b4 (0, 0, 0) (((w1.setCell ⟨b4, 0, none⟩ (.int .u8 0)).setCell ⟨b4, 1, none⟩ (.int .i64 0)).setCell ⟨b4, 2, none⟩ (.int .i64 0))) := Lib.hid (Ab.put (hb4 ▸ hA0) 0 0 0)
    clear h hI hr hA0 hb0 hsz0 hw1 hb4
    go_enter Tryz.func46, Tryz.ntmps46
    go_wp2_with fail
    rw [← HB4.out, ← HW1.out]
    refine HH.out.mono ?_
    rintro e w2 ⟨rfl, rfl⟩
    go_wp2_with fail
    obtain ⟨r0, r1, r2, _⟩ := HAB.out.cells
    exact bodyPost_ret (v := .tuple #[.agg #[.int .u8 0, .int .i64 0, .int .i64 0], .int .i64 1]) (by simp [results, Tryz.results46, go_sem, r0, r1, r2]) rfl ⟨rfl, HE.out.1, HE.out.2⟩
end
end Tf
end Go.Proofs.YtakgkocdkondhaaGreatDoor
end

section
namespace Go.Proofs.YtakgkocdkondhaaGreatDoor
theorem Tryz.infoRobot11 : (Tryz.prog.info? 57).map (fun i => (i.zero, i.size, i.bytes)) = some (some (.agg #[.int .i64 0, .slice none 0 0, .bool false, .slice none 0 0]), 4, 64) := by kernel_rfl
namespace Tf
open Go.RowKit Fl Tr Pt
open Bk (Gt Lt Iw ivs Cm hold need Cl MayP app_ints own_lower own_later)
open Lk (Ow T0 zns at9 LkAt Only Tb ToldI zns_succ zns_len mem_zns at9_set)

theorem zns_T0 (r : Int) : zns T0 (r, true) 26 = [] := by
  refine List.eq_nil_iff_forall_not_mem.2 (fun z hz => ?_)
  obtain ⟨h1, h2, h3⟩ := mem_zns.1 hz
  have : ∀ n : Nat, n < 26 → (T0.getD n (0, false)).2 = false := by decide
  have h4 := this z.toNat (by omega)
  rw [h3] at h4
  cases h4
def rdl (s : ByteArray) (j : Nat) : List Rp := (List.range j).map fun r : Nat => (dk s (r : Int), .slice none 0 0, false, .slice none 0 0)
theorem rdl_len (s : ByteArray) (j : Nat) : (rdl s j).length = j := by simp [rdl]
theorem rdl_succ (s : ByteArray) (j : Nat) : rcl (rdl s (j + 1)) = rcl (rdl s j) ++ [.int .i64 (dk s (j : Int)), .slice none 0 0, .bool false, .slice none 0 0] := by
  unfold rdl
  rw [List.range_succ, List.map_append, rcl_app]
  rfl
theorem rdl_rr (top : Nat) (w : World) (s : ByteArray) (j : Nat) : Rr top w (rdl s j) (docked s j) T0 := by
  refine ⟨by rw [rdl_len, docked_len], fun r p e => ?_⟩
  have hr : r < j := by have := (List.getElem?_eq_some_iff.1 e).1; rw [rdl_len] at this; exact this
  rw [docked_get s hr, zns_T0]
  have e2 : p = (dk s (r : Int), .slice none 0 0, false, .slice none 0 0) := by
    unfold rdl at e
    rw [List.getElem?_map, List.getElem?_range hr] at e
    injection e with e
    exact e.symm
  subst e2
  exact ⟨rfl, rfl, La.nil top w, Zs.nil top w⟩
/-- The state's box, with zones and robots. -/
structure Nz (w0 : World) (q : Nat) (W H : Int) (s : ByteArray) (i : Nat) (A : Option Addr) (c : Nat) (j : Nat) (A2 : Option Addr) (c2 : Nat) (wr : World) : Prop where
  below : Below w0.heap.size w0 wr
  ge : w0.heap.size + 1 ≤ q
  box : wr.heap[q]? = some (.cells #[.int .i64 W, .int .i64 H, .string s, .slice A i c, .slice A2 j c2] 49 (0, 0))
  zrow : wr.ownsRow (q + 1) 3 1 (.slice A i c) i (ivs (zfs s i))
  mrow : wr.ownsRow (q + 1) 57 4 (.slice A2 j c2) j (rcl (rdl s j))
section
variable {w0 wr w5 : World} {q i j : Nat} {W H : Int} {s : ByteArray} {A A2 A5 : Option Addr} {c c2 c5 n5 : Nat}
theorem Nz.later (h : Nz w0 q W H s i A c j A2 c2 wr) (hb : Below wr.heap.size wr w5) : Nz w0 q W H s i A c j A2 c2 w5 :=
  ⟨h.below.trans (hb.mono h.below.size), h.ge, (hb.block q (lt_of_heap h.box)).trans h.box, own_later h.zrow hb, own_later h.mrow hb⟩
theorem Nz.cells (h : Nz w0 q W H s i A c j A2 c2 wr) : wr.cell? ⟨q, 3, none⟩ = some (.slice A i c) ∧ wr.cell? ⟨q, 4, none⟩ = some (.slice A2 j c2) ∧ (∀ x, wr.frozen? ⟨q, x, none⟩ = false) ∧ q < wr.heap.size :=
  ⟨by rw [cell_of_row wr q 3 _ _ _ h.box]; rfl, by rw [cell_of_row wr q 4 _ _ _ h.box]; rfl, fun x => frozen_of_row wr q x _ _ h.box, lt_of_heap h.box⟩
theorem Nz.addz (h : Nz w0 q W H s i A c 0 none 0 wr) (hb : Below (q + 1) wr w5) (hn : n5 = i + 1) (ho : w5.ownsRow (q + 1) 3 1 (.slice A5 n5 c5) n5 (ivs (zfs s (i + 1)))) : Nz w0 q W H s (i + 1) A5 c5 0 none 0 (w5.setCell ⟨q, 3, none⟩ (.slice A5 n5 c5)) := by
  subst hn
  obtain ⟨h1, h2, h3, h4, h5⟩ := h
  have hS := (hb.block q (by omega)).trans h3
  refine ⟨(h1.trans (hb.mono (by omega))).setCell (p := ⟨q, 3, none⟩) (by show _ ≤ q; omega) _, h2, heap_setCell_same w5 q 3 _ _ (.slice A5 (i + 1) c5) hS, ?_, World.ownsRow_nil _ _ _ _⟩
  exact ownsRow_same ho (fun k hk => heap_setCell_other w5 ⟨q, 3, none⟩ k _ (fun e => by have := (ho.lt k hk).1; have e : k = q := e; omega))
theorem Nz.addm (h : Nz w0 q W H s i A c j A2 c2 wr) (hb : Below (q + 1) wr w5) (hg : wr.grownBy w5 (Value.slice A2 j c2).ownBlock) (hn : n5 = j + 1) (ho : w5.ownsRow (q + 1) 57 4 (.slice A5 n5 c5) n5 (rcl (rdl s j) ++ [.int .i64 (dk s (j : Int)), .slice none 0 0, .bool false, .slice none 0 0])) : Nz w0 q W H s i A c (j + 1) A5 c5 (w5.setCell ⟨q, 4, none⟩ (.slice A5 n5 c5)) := by
  subst hn
  obtain ⟨h1, h2, h3, h4, h5⟩ := h
  have hS := (hb.block q (by have := lt_of_heap h3; omega)).trans h3
  have hz5 : w5.ownsRow (q + 1) 3 1 (.slice A i c) i (ivs (zfs s i)) := ownsRow_same h4 (fun k hk => hg.block k (World.ownsRow.lt h4 k hk).2 (fun e => by
    obtain ⟨c1, f1, g1⟩ := row_kind11 h4 k hk
    obtain ⟨c2, f2, g2⟩ := row_kind11 h5 k e.symm
    exact block_ne g1 g2 (by decide) rfl))
  refine ⟨(h1.trans (hb.mono (by omega))).setCell (p := ⟨q, 4, none⟩) (by show _ ≤ q; omega) _, h2, heap_setCell_same w5 q 4 _ _ (.slice A5 (j + 1) c5) hS, ?_, ?_⟩
  · exact ownsRow_same hz5 (fun k hk => heap_setCell_other w5 ⟨q, 4, none⟩ k _ (fun e => by have := (hz5.lt k hk).1; have e : k = q := e; omega))
  · rw [rdl_succ]
    exact ownsRow_same ho (fun k hk => heap_setCell_other w5 ⟨q, 4, none⟩ k _ (fun e => by have := (ho.lt k hk).1; have e : k = q := e; omega))
theorem Nz.done (h : Nz w0 q W H s s.size A c j A2 c2 wr) (hi : 0 < s.size) (hj : 0 < j) : ∃ z m, A = some ⟨z, 0, none⟩ ∧ A2 = some ⟨m, 0, none⟩ ∧ RS wr q z m c c2 wr.heap.size W H s (docked s j) T0 ∧ w0.heap.size ≤ z ∧ w0.heap.size ≤ m := by
  obtain ⟨h1, h2, h3, h4, h5⟩ := h
  have h4' := h4
  have h5' := h5
  rcases h4.2 with ⟨e, _⟩ | ⟨z, cp, cur, e, hg, hh, _⟩
  · injection e with e1 e2; omega
  injection e with e1 e2 e3
  subst e1 e3
  rcases h5.2 with ⟨e, _⟩ | ⟨m, cp2, cur2, e, hg2, hh2, _⟩
  · injection e with e1 e2; omega
  injection e with e1 e2 e3
  subst e1 e3
  have hz := lt_of_heap hh
  have hm := lt_of_heap hh2
  refine ⟨z, m, rfl, rfl, ⟨?_, own_lower h4' (Nat.zero_le _), ⟨rdl s j, ?_, rdl_rr _ _ s j⟩, ⟨lt_of_heap h3, hz, hm, Nat.le_refl _⟩⟩, by omega, by omega⟩
  · rw [docked_len]; exact h3
  · rw [docked_len]; exact own_lower h5' (Nat.zero_le _)
end
theorem gt_robot (w : World) (x : Int) : Gt 4 (w.alloc (.cells #[.int .i64 x, .slice none 0 0, .bool false, .slice none 0 0] 57)).heap.size (w.alloc (.cells #[.int .i64 x, .slice none 0 0, .bool false, .slice none 0 0] 57)) (some ⟨w.heap.size, 0, none⟩) 1 1 [.int .i64 x, .slice none 0 0, .bool false, .slice none 0 0] := by
  refine ⟨rfl, Nat.le_refl _, by unfold maxLen; omega, fun h => (by cases h), fun _ => ⟨w.heap.size, 0, rfl, by simp, fun j hj => ?_⟩⟩
  rcases (by omega : j = 0 ∨ j = 1 ∨ j = 2 ∨ j = 3) with rfl | rfl | rfl | rfl <;> simp [World.cell?_alloc_new]
theorem app_robots {w : World} {ops : Array Oper} {rest : List Oper} {o : Oper} {a : Act} {Q : Exit → Act → World → Prop} (hgd : o.guard = none) (s x : Operand) (ho : o.op = .call { callee := .builtin .append, args := #[s, x], argTypes := #[47, 47] })
    (base : Nat) (v : Value) (n : Nat) (xs : List Value) (hs : a.eval s = v) (hown : w.ownsRow base 57 4 v n xs)
    (A : Option Addr) (m c : Nat) (ys : List Value) (hx : a.eval x = .slice A m c) (hr : Gt 4 w.heap.size w A m c ys) (h1 : ∀ u ∈ ys, u.oneCell' = true) (hb : n + m ≤ 1000000) (hbase : base ≤ w.heap.size)
    (h : ∀ A' c' w', w'.ownsRow base 57 4 (.slice A' (n + m) c') (n + m) (xs ++ ys) → Below base w w' → w.grownBy w' v.ownBlock → wpList Tryz.prog ops Q rest (a.put o.dst (.slice A' (n + m) c')) w') : wpList Tryz.prog ops Q (o :: rest) a w := by
  obtain ⟨i0, hi, hz0, hz1, hz2⟩ := info_parts Tryz.infoRobot11
  exact Bk.appG 47 57 i0 _ 4 64 Tryz.underlying47 hi hz0 hz1 hz2 rfl (by decide) (by decide) hgd s x ho base v n xs hs hown A m c ys hx hr h1 hb hbase (fun A' c' w' q1 q2 q3 _ => h A' c' w' q1 q2 q3)
end Tf
end Go.Proofs.YtakgkocdkondhaaGreatDoor
end

section
namespace Go.Proofs.YtakgkocdkondhaaGreatDoor
namespace Tf
open Go.RowKit Fl Tr Pt
open Bk (Gt Lt Iw ivs Cm hold need Cl MayP app_ints own_lower own_later)
open Lk (Ow T0 zns at9 LkAt Only Tb ToldI zns_succ zns_len mem_zns at9_set)

def RNewTold (W H : Int) (s : ByteArray) (w : World) (e : Ending) (w' : World) : Prop :=
  (¬ Right W H s ∧ e = .returned (.tuple #[.pointer none, .int .i64 30]) ∧ Below w.heap.size w w') ∨
  (Right W H s ∧ ∃ q z m cz cap, e = .returned (.tuple #[.pointer (some ⟨q, 0, none⟩), .int .i64 0]) ∧ RS w' q z m cz cap w'.heap.size W H s (docked s (pick isD (at_ s) s.size).length) T0 ∧ (w.heap.size ≤ q ∧ w.heap.size ≤ z ∧ w.heap.size ≤ m) ∧ Below w.heap.size w w')
set_option maxHeartbeats 8000000 in
theorem rnew_any (W H : Int) (s : ByteArray) (hs : s.size ≤ maxLen) (w : World) : Calls Tryz.prog 13 #[.agg #[.int .i64 W, .int .i64 H, .string s]] w (RNewTold W H s w) := by
  have HRT := Lib.hid (fun wx => Go.Proofs.YtakgkocdkondhaaGreatDoor.rright_any W H s hs wx)
  have HRO := Lib.hid (fun wx => rrobots_any W H s hs wx)
  have HDK := Lib.hid (fun r wx => rdock_of_any W H s hs r wx)
  have HZO := Lib.hid (fun r wx => rzone_any W H s hs r wx)
  have hs' := hs
  unfold maxLen at hs'
  go_enter Tryz.func13, Tryz.ntmps13
  go_wp2_with fail
  have HX0 := Lib.hid (Box.start w W H s 25)
  refine (HRT.out _).mono ?_
  rintro e w1 ⟨b, rfl, hb, hb1⟩
  have HX1 := Lib.hid (HX0.out.after hb1)
  have HBR := Lib.hid hb
  have c0 := HX1.out.c0
  have c1 := HX1.out.c1
  have c2 := HX1.out.c2
  have hlt := HX1.out.lt
  clear hb hb1
  cases b with
  | false =>
    go_wp2_with fail
    go_ret2
    exact .inl ⟨fun q => (by have := HBR.out.2 q; cases this), rfl, HX1.out.below⟩
  | true =>
    have HR := Lib.hid (HBR.out.1 rfl)
    have HLE := Lib.hid (rightLe HR.out)
    have hN0 : Nz w w1.heap.size W H s 0 none 0 0 none 0 (w1.alloc (.cells #[.int .i64 W, .int .i64 H, .string s, .slice none 0 0, .slice none 0 0] 49)) :=
      ⟨HX1.out.below.alloc (HX1.out.below.size) _, hlt, heap_alloc_new w1 _, World.ownsRow_nil _ _ _ _, World.ownsRow_nil _ _ _ _⟩
    have HNX := Lib.hid (And.intro hN0 (HX1.out.after ((Below.refl _ w1).alloc (Nat.le_refl _) (.cells #[.int .i64 W, .int .i64 H, .string s, .slice none 0 0, .slice none 0 0] 49))))
    clear hN0
    go_wp2_with fail
    go_loopw [5] (fun iv wr => ∃ (i : Nat) (A : Option Addr) (c : Nat), i ≤ s.size ∧ iv = .int .i64 (i : Int) ∧ Hid (Nz w w1.heap.size W H s i A c 0 none 0 wr ∧ Box w W H s wr)) (fun iv _ => s.size - (intOf iv).toNat)
    case atStart => exact ⟨0, none, 0, by omega, rfl, HNX⟩
    case round =>
      rename World => wr
      obtain ⟨i, A, c, hi, rfl, HI⟩ := hrel
      have e0 := HI.out.2.c0
      have e1 := HI.out.2.c1
      have e2 := HI.out.2.c2
      have el := HI.out.2.lt
      by_cases hli : i < s.size
      · have hiI : (i : Int) < (s.size : Int) := by omega
        go_wp2_with fail
        refine (HZO.out (i : Int) _).mono ?_
        rintro e w4 ⟨n, b, rfl, h1, h2, hb4⟩
        have HI4 := Lib.hid (And.intro (HI.out.1.later hb4) (HI.out.2.after hb4))
        obtain ⟨v, hv⟩ : ∃ v, v = zf s (i : Int) := ⟨_, rfl⟩
        have HV := Lib.hid hv
        have HNB : Hid ((b = true ∧ v = (n : Int)) ∨ (b = false ∧ v = -1)) := Lib.hid (by
          unfold zf at hv
          by_cases hl : isL (bAt s (i : Int)) = true
          · obtain ⟨q1, q2⟩ := h1 ⟨HR.out, hl⟩
            rw [if_pos hl] at hv
            exact .inl ⟨q2, by rw [hv, q1]⟩
          · obtain ⟨q1, q2⟩ := h2 (fun q => hl q.2)
            rw [if_neg hl] at hv
            exact .inr ⟨q2, hv⟩)
        have hBm := (Below.refl w4.heap.size w4).alloc (Nat.le_refl _) (.cells #[.int .i64 v] 3)
        have HI5 := Lib.hid (HI4.out.1.later hBm)
        have HX5 := Lib.hid (HI4.out.2.after hBm)
        have HONE := Lib.hid (Lt.one w4 v)
        have HOW : Hid (Iw (w4.alloc (.cells #[.int .i64 v] 3)) (w1.heap.size + 1) (.slice A i c) (zfs s i)) := Lib.hid (by unfold Iw; rw [zfs_len]; exact HI5.out.zrow)
        have HSZ : Hid ((zfs s i).length + 1 ≤ 1000000) := Lib.hid (by rw [zfs_len]; have := HLE.out; omega)
        obtain ⟨y3, y4, yf, yl⟩ := HI4.out.1.cells
        obtain ⟨z3, z4, zf', zl'⟩ := HI5.out.cells
        clear h1 h2 hb4 hv hBm e0 e1 e2 el
        rcases HNB.out with ⟨rfl, rfl⟩ | ⟨rfl, rfl⟩
        all_goals
          go_wp2_with (at_builtin; refine app_ints rfl _ _ rfl (w1.heap.size + 1) (.slice A i c) (zfs s i) rfl HOW.out (some ⟨w4.heap.size, 0, none⟩) 1 1 [_] rfl HONE.out HSZ.out (by omega) ?_; intro A5 n5 c5 w5 hn5 ho5 hb5 _ _; have hn6 : n5 = i + 1 := (by rw [hn5, List.length_append, zfs_len]; rfl); subst hn6; have HN5 := Lib.hid (HI5.out.addz hb5 rfl (c5 := c5) (A5 := A5) (by rw [zfs_succ, ← HV.out]; have := ho5; unfold Iw at this; rw [← hn5] at this; exact this)); have x3 := (hb5.cell (p := ⟨w1.heap.size, 3, none⟩) (by show w1.heap.size < w1.heap.size + 1; omega)).trans z3; have xf : ∀ j, w5.frozen? ⟨w1.heap.size, j, none⟩ = false := (by intro j; have hq := (hb5.block w1.heap.size (by omega)).trans HI5.out.box; exact frozen_of_row w5 w1.heap.size j _ _ hq); have xl := Nat.lt_of_lt_of_le zl' hb5.size; have HX6 := Lib.hid ((HX5.out.later (hb5.mono (by have := HI5.out.ge; omega))).later ((Below.refl _ w5).setCell (p := ⟨w1.heap.size, 3, none⟩) (by show w.heap.size + 1 ≤ w1.heap.size; exact HI5.out.ge) (.slice A5 (i + 1) c5))); clear ho5 hb5 hn5)
          go_roundw
          case rel => exact ⟨i + 1, A5, c5, by omega, by go_num, Lib.hid ⟨HN5.out, HX6.out⟩⟩
          case measure => simp [intOf]; omega
      · obtain rfl : i = s.size := by omega
        obtain ⟨N, hN⟩ : ∃ N, N = (pick isD (at_ s) s.size).length := ⟨_, rfl⟩
        have HN := Lib.hid hN
        have hn8 : N ≤ 8 := by
          rw [hN]
          rcases Nat.lt_or_ge 8 (pick isD (at_ s) s.size).length with q | q
          · have := (right_first HR.out 8 q).1
            omega
          · exact q
        have HPOS : Hid (0 < s.size ∧ 0 < N) := Lib.hid (by
          have h0 := (robot0 HR.out).2.2
          obtain ⟨a, b, _, _, h1, _⟩ := HR.out
          have := h1.sz
          have h2 := Nat.mul_pos (show 0 < a from h1.w1) (show 0 < b from h1.h1)
          rw [HN.out]
          constructor <;> omega)
        clear hN
        go_wp2_with fail
        go_loopw [8] (fun iv wz => ∃ (j : Nat) (A2 : Option Addr) (c2 : Nat), j ≤ N ∧ iv = .int .i64 (j : Int) ∧ Hid (Nz w w1.heap.size W H s s.size A c j A2 c2 wz ∧ Box w W H s wz)) (fun iv _ => N - (intOf iv).toNat)
        case atStart => exact ⟨0, none, 0, by omega, rfl, HI⟩
        case round =>
          rename World => wz
          obtain ⟨j, A2, c2', hj, rfl, HJ⟩ := hrel
          have d0 := HJ.out.2.c0
          have d1 := HJ.out.2.c1
          have d2 := HJ.out.2.c2
          have dl := HJ.out.2.lt
          clear e0 e1 e2 el
          go_wp2_with fail
          refine (HRO.out _).mono ?_
          rintro e w3 ⟨n, rfl, hn, _, hb3⟩
          obtain rfl : n = N := by rw [hn HR.out, HN.out]
          have HJ3 := Lib.hid (And.intro (HJ.out.1.later hb3) (HJ.out.2.after hb3))
          clear hn hb3 d0 d1 d2 dl
          have e0 := HJ3.out.2.c0
          have e1 := HJ3.out.2.c1
          have e2 := HJ3.out.2.c2
          have el := HJ3.out.2.lt
          by_cases hlj : j < n
          · have hjI : (j : Int) < (n : Int) := by omega
            go_wp2_with fail
            refine (HDK.out (j : Int) _).mono ?_
            rintro e w4 ⟨d, b, rfl, h1, _, hb4⟩
            obtain ⟨hf, rfl⟩ := h1 ⟨HR.out, by omega, by rw [← HN.out]; omega⟩
            have HD := Lib.hid (dk_is hf)
            have HI4 := Lib.hid (And.intro (HJ3.out.1.later hb4) (HJ3.out.2.after hb4))
            clear h1 hb4 hf e0 e1 e2 el
            have hBm := (Below.refl w4.heap.size w4).alloc (Nat.le_refl _) (.cells #[.int .i64 (d : Int), .slice none 0 0, .bool false, .slice none 0 0] 57)
            have HI5 := Lib.hid (HI4.out.1.later hBm)
            have HX5 := Lib.hid (HI4.out.2.after hBm)
            have HGT := Lib.hid (gt_robot w4 (d : Int))
            obtain ⟨y3, y4, yf, yl⟩ := HI4.out.1.cells
            obtain ⟨z3, z4, zf', zl'⟩ := HI5.out.cells
            clear hBm
            go_wp2_with (at_builtin; refine app_robots rfl _ _ rfl (w1.heap.size + 1) _ j (rcl (rdl s j)) rfl HI5.out.mrow (some ⟨w4.heap.size, 0, none⟩) 1 1 [.int .i64 (d : Int), .slice none 0 0, .bool false, .slice none 0 0] rfl HGT.out (by simp [Value.oneCell']) (by omega) (by omega) ?_; intro A5 c5 w5 ho5 hb5 hg5; have HN5 := Lib.hid (HI5.out.addm hb5 hg5 rfl (by rw [HD.out]; exact ho5)); have x4 := (hb5.cell (p := ⟨w1.heap.size, 4, none⟩) (by show w1.heap.size < w1.heap.size + 1; omega)).trans z4; have xf : ∀ j, w5.frozen? ⟨w1.heap.size, j, none⟩ = false := (by intro j; have hq := (hb5.block w1.heap.size (by omega)).trans HI5.out.box; exact frozen_of_row w5 w1.heap.size j _ _ hq); have xl := Nat.lt_of_lt_of_le zl' hb5.size; have HX6 := Lib.hid ((HX5.out.later (hb5.mono (by have := HI5.out.ge; omega))).later ((Below.refl _ w5).setCell (p := ⟨w1.heap.size, 4, none⟩) (by show w.heap.size + 1 ≤ w1.heap.size; exact HI5.out.ge) (.slice A5 (j + 1) c5))); clear ho5 hb5 hg5)
            go_roundw
            case rel => exact ⟨j + 1, A5, c5, by omega, by go_num, Lib.hid ⟨HN5.out, HX6.out⟩⟩
            case measure => simp [intOf]; omega
          · obtain rfl : j = n := by omega
            go_wp2_with fail
            go_ret2
            obtain ⟨z, m, rfl, rfl, hst, h1, h2⟩ := HJ3.out.1.done HPOS.out.1 HPOS.out.2
            exact .inr ⟨HR.out, w1.heap.size, z, m, _, _, rfl, by rw [← HN.out]; exact hst, ⟨by have := HJ3.out.1.ge; omega, h1, h2⟩, HJ3.out.1.below⟩
end Tf
end Go.Proofs.YtakgkocdkondhaaGreatDoor
end

section
namespace Go.Proofs.YtakgkocdkondhaaGreatDoor
namespace Tf
open Go.RowKit Fl Tr Pt
open Lk (Ow T0)

def ModelTold (q z m cz cap top : Nat) (W H : Int) (s : ByteArray) (R : List Mv) (T : List Ow) (p : Sp11) (w : World) (e : Ending) (w' : World) : Prop :=
  ∃ x er R' T', e = .returned (.tuple #[actV x, .int .i64 er]) ∧ DoesR W H s R T p x er R' T' ∧ RS w' q z m cz cap top W H s R' T' ∧ Fm m w w'
theorem Fm.same {m : Nat} {w0 w w' : World} (h : Fm m w0 w) (hos : w'.os = w.os) (htp : w'.tape = w.tape) (hout : w'.output = w.output) (hsz : w.heap.size ≤ w'.heap.size) (hk : ∀ k, k < w0.heap.size → w'.heap[k]? = w.heap[k]?) : Fm m w0 w' :=
  ⟨hos.trans h.os, htp.trans h.tape, hout.trans h.output, Nat.le_trans h.size hsz, fun k hk2 hF => (hk k hk2).trans (h.block k hk2 hF), fun k hk => .inl hk⟩
section
variable {w : World} {q z m cz cap top : Nat} {W H : Int} {s : ByteArray} {R : List Mv} {T : List Ow}
set_option maxHeartbeats 8000000 in
theorem model11_any (h : RS w q z m cz cap top W H s R T) (hI : Inv W H s R T) (hs : s.size ≤ maxLen) (k : Nat) (hk : k ≤ 255) (r f t : Int) (A : Option Addr) (n c : Nat) (L : List Ac) (hA : Al w.heap.size w A n c L) :
    Calls Tryz.prog 16 #[.agg #[.int .i64 W, .int .i64 H, .string s], .pointer (some ⟨q, 0, none⟩), stepV k r f t A n c] w (ModelTold q z m cz cap top W H s R T (k, r, f, t, L) w) := by
  unfold stepV
  have hD := Db3.start w W H s k r f t A n c
  have HH := Lib.hid h
  have HI := Lib.hid hI
  have HAL := Lib.hid hA
  have hr := rem4 k hk
  have HT := Lib.hid h.tops
  have HAC := Lib.hid (fun wx (hb : Below w.heap.size w wx) => acts11_any W H s hs k hk r f t A n c L wx (hA.later hb))
  unfold stepV at HAC
  go_enter Tryz.func16, Tryz.ntmps16
  go_upto_region 1 with (fail)
  obtain ⟨b3, hb3⟩ : ∃ b3, b3 = w.heap.size + 1 + 1 := ⟨_, rfl⟩
  obtain ⟨b2, hb2⟩ : ∃ b2, b2 = w.heap.size + 1 := ⟨_, rfl⟩
  obtain ⟨b1, hb1⟩ : ∃ b1, b1 = w.heap.size := ⟨_, rfl⟩
  rw [← hb3, ← hb2, ← hb1] at hD
  rw [← hb3, ← hb2, ← hb1]
  clear hb1 hb2 hb3
  generalize (((w.alloc (.cells #[.int .i64 W, .int .i64 H, .string s] 25)).alloc (.cells #[.int .u8 (k : Int), .int .i64 r, .int .i64 f, .int .i64 t, .slice A n c] 37)).alloc (.cells #[.int .u8 0, .int .i64 0, .int .i64 0] 39)) = w1 at *
  have HD := Lib.hid hD
  obtain ⟨c0, c1, c2, c3, c4, cl⟩ := hD.sx.cells
  obtain ⟨f0, f1, f2, fl, _⟩ := hD.fb.cells
  obtain ⟨z0, z1, z2, z3, z4, z5, z6⟩ := hD.ab.cells
  have HNE : Hid (¬ (b3 = m)) := Lib.hid (by have := hD.ge.2.2.1; have := h.tops; omega)
  have HB3 : Hid (b3 < w1.heap.size) := Lib.hid z3
  clear hD hA h hI
  by_cases h2 : k % 4 = 2
  · have d2 : ((k : Int) % 4 == 2) = true := by rw [hr, h2]; rfl
    have H2 := Lib.hid h2
    clear hr h2
    have HG := Lib.hid (rgrant_near HH.out HD.out.below HI.out r)
    go_wp2_with fail
    refine HG.out.mono ?_
    rintro e w2 ⟨rfl, hn2, hf2⟩
    have ha2 : Ab b3 (0, 0, 0) w2 := (hf2.block b3 z3 HNE.out).trans HD.out.ab
    generalize hG : grantF s R T r = G at *
    obtain ⟨⟨⟨x, y, u⟩, er⟩, R', T'⟩ := G
    simp only at hn2 ⊢
    have HFB := Lib.hid (ha2.put x y u)
    have HST : Hid (RS (((w2.setCell ⟨b3, 0, none⟩ (.int .u8 (x : Int))).setCell ⟨b3, 1, none⟩ (.int .i64 y)).setCell ⟨b3, 2, none⟩ (.int .i64 u)) q z m cz cap top W H s R' T') := Lib.hid (hn2 _ (by simp [World.setCell]) (fun j hj => by
      have h1 := HD.out.ge.2.2.1
      have h2 := HB3.out
      rw [heap_setCell_other _ ⟨b3, 2, none⟩ j _ (by show j ≠ b3; omega), heap_setCell_other _ ⟨b3, 1, none⟩ j _ (by show j ≠ b3; omega), heap_setCell_other _ ⟨b3, 0, none⟩ j _ (by show j ≠ b3; omega)]))
    have HFF : Hid (Fm m w (((w2.setCell ⟨b3, 0, none⟩ (.int .u8 (x : Int))).setCell ⟨b3, 1, none⟩ (.int .i64 y)).setCell ⟨b3, 2, none⟩ (.int .i64 u))) := Lib.hid (Fm.same ((Turn.ofBelow HD.out.below (fun k => k = m)).trans hf2) rfl rfl rfl (by simp [World.setCell]) (fun q hq => by
      have h1 := HD.out.ge.2.2.1
      rw [heap_setCell_other _ ⟨b3, 2, none⟩ q _ (by show q ≠ b3; omega), heap_setCell_other _ ⟨b3, 1, none⟩ q _ (by show q ≠ b3; omega), heap_setCell_other _ ⟨b3, 0, none⟩ q _ (by show q ≠ b3; omega)]))
    have HGE := Lib.hid hG
    clear z0 z1 z2 z3 z4 z5 z6 hG hn2 hf2
    obtain ⟨z0, z1, z2, z3, z4, z5, z6⟩ := ha2.cells
    clear ha2
    dsimp only [actV]
    go_wp2_with fail
    obtain ⟨r0, r1, r2, _⟩ := HFB.out.cells
    exact bodyPost_ret (v := .tuple #[.agg #[.int .u8 (x : Int), .int .i64 y, .int .i64 u], .int .i64 er]) (by simp [results, Tryz.results16, go_sem, r0, r1, r2]) rfl ⟨(x, y, u), er, R', T', rfl, .inl ⟨H2.out, HGE.out⟩, HST.out, HFF.out⟩
  · have d2 : ((k : Int) % 4 == 2) = false := by rw [hr, beq_eq_false_iff_ne]; omega
    have H2 := Lib.hid h2
    clear h2
    by_cases h3 : k % 4 = 3
    · have d3 : ((k : Int) % 4 == 3) = true := by rw [hr, h3]; rfl
      have H3 := Lib.hid h3
      clear hr h3
      have HG := Lib.hid (rdone_any (HH.out.later HD.out.below) HI.out r)
      go_wp2_with fail
      refine HG.out.mono ?_
      rintro e w2 ⟨rfl, hs2, hf2⟩
      have ha2 : Ab b3 (0, 0, 0) w2 := (hf2.block b3 z3 HNE.out).trans HD.out.ab
      have HSE := Lib.hid (same_zero ha2)
      have HST : Hid (RS (((w2.setCell ⟨b3, 0, none⟩ (.int .u8 0)).setCell ⟨b3, 1, none⟩ (.int .i64 0)).setCell ⟨b3, 2, none⟩ (.int .i64 0)) q z m cz cap top W H s (doneF s R T r).2.1 (doneF s R T r).2.2) := Lib.hid (hs2.near0 (by simp [World.setCell]) (fun q _ => HSE.out q))
      have HFF : Hid (Fm m w (((w2.setCell ⟨b3, 0, none⟩ (.int .u8 0)).setCell ⟨b3, 1, none⟩ (.int .i64 0)).setCell ⟨b3, 2, none⟩ (.int .i64 0))) := Lib.hid (Fm.same ((Turn.ofBelow HD.out.below (fun k => k = m)).trans hf2) rfl rfl rfl (by simp [World.setCell]) (fun q _ => HSE.out q))
      have HFB : Hid (Ab b3 (0, 0, 0) (((w2.setCell ⟨b3, 0, none⟩ (.int .u8 0)).setCell ⟨b3, 1, none⟩ (.int .i64 0)).setCell ⟨b3, 2, none⟩ (.int .i64 0))) := Lib.hid (ha2.put 0 0 0)
      clear z0 z1 z2 z3 z4 z5 z6 hs2 hf2
      obtain ⟨z0, z1, z2, z3, z4, z5, z6⟩ := ha2.cells
      clear ha2
      go_wp2_with fail
      obtain ⟨r0, r1, r2, _⟩ := HFB.out.cells
      exact bodyPost_ret (v := .tuple #[.agg #[.int .u8 0, .int .i64 0, .int .i64 0], .int .i64 (doneF s R T r).1]) (by simp [results, Tryz.results16, go_sem, r0, r1, r2]) rfl ⟨(0, 0, 0), (doneF s R T r).1, _, _, rfl, .inr (.inl ⟨H3.out, rfl, rfl⟩), HST.out, HFF.out⟩
    · have d3 : ((k : Int) % 4 == 3) = false := by rw [hr, beq_eq_false_iff_ne]; omega
      have H3 := Lib.hid h3
      clear hr h3
      have HKB : Hid (b1 ≠ m ∧ b2 ≠ m) := Lib.hid (by have h1 := HD.out.ge.1; have h2 := HD.out.ge.2.1; have ht := HT.out; omega)
      have HR := Lib.hid (And.intro HI.out.right HI.out.n)
      have HNB := Lib.hid (And.intro HD.out.ge.2.2.2.1 HD.out.ge.2.2.2.2)
      go_upto_region 6 with (fail)
      go_region_held3 (fun w' => (w'.cell? ⟨b1, 0, none⟩ = some (.int .i64 W) ∧ w'.cell? ⟨b1, 1, none⟩ = some (.int .i64 H) ∧ w'.cell? ⟨b1, 2, none⟩ = some (.string s)) ∧ w'.cell? ⟨b2, 0, none⟩ = some (.int .u8 (k : Int)) ∧ w'.cell? ⟨b2, 1, none⟩ = some (.int .i64 r) ∧ w'.cell? ⟨b2, 2, none⟩ = some (.int .i64 f) ∧ w'.cell? ⟨b2, 3, none⟩ = some (.int .i64 t) ∧ w'.cell? ⟨b2, 4, none⟩ = some (.slice A n c)) (first | go_keep | exact ⟨⟨by rw [put3 (p := ⟨b1, 0, none⟩) HNB.out.1]; assumption, by rw [put3 (p := ⟨b1, 1, none⟩) HNB.out.1]; assumption, by rw [put3 (p := ⟨b1, 2, none⟩) HNB.out.1]; assumption⟩, by rw [put3 (p := ⟨b2, 0, none⟩) HNB.out.2]; assumption, by rw [put3 (p := ⟨b2, 1, none⟩) HNB.out.2]; assumption, by rw [put3 (p := ⟨b2, 2, none⟩) HNB.out.2]; assumption, by rw [put3 (p := ⟨b2, 3, none⟩) HNB.out.2]; assumption, by rw [put3 (p := ⟨b2, 4, none⟩) HNB.out.2]; assumption⟩)
        ((first
          | (go_at_call 31; refine (HAC.out _ (by first | exact HD.out.below | exact HD.out.below.trans ((Below.refl _ _).drew.mono HD.out.below.size))).mono ?_; rintro e w2 ⟨A2, n2, c2', L2, rfl, hact, hal, hb2⟩; have HB2 : Hid (Below w1.heap.size w1 w2) := Lib.hid (by first | exact (Below.refl _ w1).drew.trans hb2 | exact hb2); have HACT := Lib.hid hact; have HAL2 := Lib.hid hal; have HD2 := Lib.hid (HD.out.later HB2.out); obtain ⟨x0, x1, x2, x3, x4, xl⟩ := HD2.out.sx.cells; obtain ⟨y0, y1, y2, yl, _⟩ := HD2.out.fb.cells; have HSA := Lib.hid (rstart_any (HH.out.later HD2.out.below) HI.out hs r A2 n2 c2' L2 hal); clear hact hal hb2)
          | (go_at_call 48; refine HSA.out.mono ?_; rintro e w3 ⟨rfl, hs3, hf3⟩; have HS3 := Lib.hid hs3; have HF3 := Lib.hid ((Turn.ofBelow HD2.out.below (fun k => k = m)).trans hf3); have ha3 : Ab b3 (0, 0, 0) w3 := (hf3.block b3 (lt_of_heap HD2.out.ab) HNE.out).trans HD2.out.ab; have hb3' : Fb b1 W H s w3 := (hf3.block b1 (lt_of_heap HD2.out.fb) HKB.out.1).trans HD2.out.fb; have hs3' : Sx b2 k r f t A n c w3 := (hf3.block b2 (lt_of_heap HD2.out.sx) HKB.out.2).trans HD2.out.sx; have HA3 := Lib.hid ha3; obtain ⟨p0, p1, p2, p3, p4, pl⟩ := hs3'.cells; obtain ⟨q0, q1, q2, ql, _⟩ := hb3'.cells; obtain ⟨m0, m1, m2, m3, m4, m5, m6⟩ := ha3.cells; clear hs3 hf3 ha3 hb3' hs3')))
      all_goals
        have HSE := Lib.hid (same_zero HA3.out)
        have HST : Hid (RS (((w3.setCell ⟨b3, 0, none⟩ (.int .u8 0)).setCell ⟨b3, 1, none⟩ (.int .i64 0)).setCell ⟨b3, 2, none⟩ (.int .i64 0)) q z m cz cap top W H s (startF W H s R r L2).2 T) := Lib.hid (HS3.out.near0 (by simp [World.setCell]) (fun q _ => HSE.out q))
        have HFF : Hid (Fm m w (((w3.setCell ⟨b3, 0, none⟩ (.int .u8 0)).setCell ⟨b3, 1, none⟩ (.int .i64 0)).setCell ⟨b3, 2, none⟩ (.int .i64 0))) := Lib.hid (Fm.same HF3.out rfl rfl rfl (by simp [World.setCell]) (fun q _ => HSE.out q))
        have HFB : Hid (Ab b3 (0, 0, 0) (((w3.setCell ⟨b3, 0, none⟩ (.int .u8 0)).setCell ⟨b3, 1, none⟩ (.int .i64 0)).setCell ⟨b3, 2, none⟩ (.int .i64 0))) := Lib.hid (HA3.out.put 0 0 0)
        go_wp2_with fail
        obtain ⟨r0, r1, r2, _⟩ := HFB.out.cells
        exact bodyPost_ret (v := .tuple #[.agg #[.int .u8 0, .int .i64 0, .int .i64 0], .int .i64 (startF W H s R r L2).1]) (by simp [results, Tryz.results16, go_sem, r0, r1, r2]) rfl ⟨(0, 0, 0), (startF W H s R r L2).1, _, _, rfl, .inr (.inr ⟨H2.out, H3.out, rfl, rfl, L2, HACT.out, rfl⟩), HST.out, HFF.out⟩
end
end Tf
end Go.Proofs.YtakgkocdkondhaaGreatDoor
end

section
namespace Go.Proofs.YtakgkocdkondhaaGreatDoor
namespace Tf
open Go.RowKit Fl Tr Pt
open Bk (Gt Lt Iw ivs Cm hold need Rg SafC MayP Goes own_lower own_later)
open Lk (Ow Rb Zo at9 zns Tb T0 LkAt Only new9_any ocl)

def NewRaw (W H : Int) (s : ByteArray) (w : World) (e : Ending) (w' : World) : Prop :=
  (¬ Right W H s ∧ e = .returned (.tuple #[.pointer none, .int .i64 30]) ∧ Below w.heap.size w w') ∨
  (Right W H s ∧ ∃ S g A c, e = .returned (.tuple #[.pointer (some ⟨S, 0, none⟩), .int .i64 0]) ∧ Nw w S g W H s (pick isD (at_ s) s.size).length A c w' ∧ 0 < (pick isD (at_ s) s.size).length)
set_option maxHeartbeats 4000000 in
theorem new_raw (W H : Int) (s : ByteArray) (hs : s.size ≤ maxLen) (w : World) : Calls Tryz.prog 12 #[.agg #[.int .i64 W, .int .i64 H, .string s]] w (NewRaw W H s w) := by
  have HRT := Lib.hid (fun wx => Go.Proofs.YtakgkocdkondhaaGreatDoor.right_any W H s hs wx)
  have HRO := Lib.hid (fun wx => robots_any W H s hs wx)
  have HDK := Lib.hid (fun r wx => dock_any W H s hs r wx)
  go_enter Tryz.func12, Tryz.ntmps12
  go_wp2_with fail
  have HX0 := Lib.hid (Box.start w W H s 25)
  refine (HRT.out _).mono ?_
  rintro e w1 ⟨b, rfl, hb, hb1⟩
  have HX1 := Lib.hid (HX0.out.after hb1)
  have HBR := Lib.hid hb
  have c0 := HX1.out.c0
  have c1 := HX1.out.c1
  have c2 := HX1.out.c2
  have hlt := HX1.out.lt
  clear hb hb1
  cases b with
  | false =>
    go_wp2_with fail
    go_ret2
    exact .inl ⟨fun q => (by have := HBR.out.2 q; cases this), rfl, HX1.out.below⟩
  | true =>
    have HR := Lib.hid (HBR.out.1 rfl)
    go_upto_region 3 with (fail)
    go_region_held3 (fun w' => w'.cell? ⟨w.heap.size, 0, none⟩ = some (.int .i64 W) ∧ w'.cell? ⟨w.heap.size, 1, none⟩ = some (.int .i64 H) ∧ w'.cell? ⟨w.heap.size, 2, none⟩ = some (.string s)) (go_keep)
      ((go_at_call 41; refine (new9_any _).mono ?_; rintro e w2 ⟨rfl, rfl⟩))
    all_goals
      have hNW : Nw w (w1.heap.size + 1) w1.heap.size W H s 0 none 0 ((w1.alloc (.cells (ocl T0).toArray 132)).alloc (.cells #[.int .i64 W, .int .i64 H, .string s, .pointer (some ⟨w1.heap.size, 0, none⟩), .slice none 0 0] 87)).drew := by
        have hs1 : (w1.alloc (.cells (ocl T0).toArray 132)).heap.size = w1.heap.size + 1 := by simp
        have hb2 : Below w1.heap.size w1 (w1.alloc (.cells (ocl T0).toArray 132)) := (Below.refl _ _).alloc (Nat.le_refl _) _
        have hl := LkAt.new w1
        have hbx := heap_alloc_new (w1.alloc (.cells (ocl T0).toArray 132)) (.cells #[.int .i64 W, .int .i64 H, .string s, .pointer (some ⟨w1.heap.size, 0, none⟩), .slice none 0 0] 87)
        rw [hs1] at hbx
        have hb3 : Below (w1.alloc (.cells (ocl T0).toArray 132)).heap.size _ ((w1.alloc (.cells (ocl T0).toArray 132)).alloc (.cells #[.int .i64 W, .int .i64 H, .string s, .pointer (some ⟨w1.heap.size, 0, none⟩), .slice none 0 0] 87)) := (Below.refl _ _).alloc (Nat.le_refl _) _
        have hws := HX1.out.below.size
        refine Nw.later ⟨HX1.out.below.trans ((hb2.trans (hb3.mono hb2.size)).mono hws), ⟨by omega, by omega, by simp; omega, by omega⟩, hbx, (hl.later hb3), World.ownsRow_nil _ _ _ _⟩ (Below.refl _ _).drew
      have hX2 : Box w W H s ((w1.alloc (.cells (ocl T0).toArray 132)).alloc (.cells #[.int .i64 W, .int .i64 H, .string s, .pointer (some ⟨w1.heap.size, 0, none⟩), .slice none 0 0] 87)).drew := ((HX1.out.after ((Below.refl _ _).alloc (Nat.le_refl _) _)).after ((Below.refl _ _).alloc (Nat.le_refl _) _)).drew
      generalize ((w1.alloc (.cells (ocl T0).toArray 132)).alloc (.cells #[.int .i64 W, .int .i64 H, .string s, .pointer (some ⟨w1.heap.size, 0, none⟩), .slice none 0 0] 87)).drew = w2 at *
      generalize w1.heap.size + 1 = S at *
      generalize w1.heap.size = g at *
      have HNW := Lib.hid hNW
      have HX2 := Lib.hid hX2
      have d0 := hX2.c0
      have d1 := hX2.c1
      have d2 := hX2.c2
      have dl := hX2.lt
      clear hNW hX2 c0 c1 c2 hlt
      go_wp2_with fail
      refine (HRO.out _).mono ?_
      rintro e w3 ⟨n, rfl, hn, _, hb3⟩
      have HNN := Lib.hid (hn HR.out)
      have HNW3 := Lib.hid (HNW.out.later hb3)
      have HX3 := Lib.hid (HX2.out.after hb3)
      have hn8 : n ≤ 8 := by
        rw [hn HR.out]
        rcases Nat.lt_or_ge 8 (pick isD (at_ s) s.size).length with q | q
        · have := (right_first HR.out 8 q).1
          omega
        · exact q
      clear hn hb3 d0 d1 d2 dl
      go_wp2_with fail
      go_loopw [17] (fun iv wr => ∃ (j : Nat) (A : Option Addr) (c : Nat), j ≤ n ∧ iv = .int .i64 (j : Int) ∧ Hid (Nw w S g W H s j A c wr ∧ Box w W H s wr)) (fun iv _ => n - (intOf iv).toNat)
      case atStart => exact ⟨0, none, 0, by omega, rfl, Lib.hid ⟨HNW3.out, HX3.out⟩⟩
      case round =>
        rename World => wr
        obtain ⟨j, A, c, hj, rfl, HI⟩ := hrel
        by_cases hlt : j < n
        · have e0 := HI.out.2.c0
          have e1 := HI.out.2.c1
          have e2 := HI.out.2.c2
          have el := HI.out.2.lt
          have hjI : (j : Int) < (n : Int) := by omega
          go_wp2_with fail
          refine (HDK.out (j : Int) _).mono ?_
          rintro e w4 ⟨d, b, rfl, h1, _, hb4⟩
          obtain ⟨hf, rfl⟩ := h1 ⟨HR.out, by omega, by rw [← HNN.out]; omega⟩
          have HD := Lib.hid (dk_is hf)
          have HI4 := Lib.hid (And.intro (HI.out.1.later hb4) (HI.out.2.after hb4))
          clear h1 hb4 hf e0 e1 e2 el
          have hBm := (Below.refl w4.heap.size w4).alloc (Nat.le_refl _) (.cells #[.int .i64 (d : Int), .slice none 0 0, .bool false] 90)
          have HI5 := Lib.hid (HI4.out.1.later hBm)
          have HX5 := Lib.hid (HI4.out.2.after hBm)
          have HGT := Lib.hid (gt_mover w4 (d : Int))
          have HBX := Lib.hid HI5.out.boxes
          obtain ⟨y0, y1, y2⟩ := HI4.out.1.cells
          obtain ⟨z0, z1, z2⟩ := HI5.out.cells
          clear hBm
          go_wp2_with (at_builtin; refine app_movers rfl _ _ rfl (max S g + 1) _ j (mcl (dcl s j)) rfl HI5.out.row (some ⟨w4.heap.size, 0, none⟩) 1 1 [.int .i64 (d : Int), .slice none 0 0, .bool false] rfl HGT.out (by simp [Value.oneCell']) (by omega) HBX.out ?_; intro A5 c5 w5 ho5 hb5; have HO5 := Lib.hid ho5; have HB5 := Lib.hid hb5; have HN5 := Lib.hid (HI5.out.add hb5 rfl (by rw [HD.out]; exact ho5)); have x4 := (hb5.cell (p := ⟨S, 4, none⟩) (by show S < max S g + 1; omega)).trans z0; have xf : w5.frozen? ⟨S, 4, none⟩ = false := (by have hq := (hb5.block S (by omega)).trans HI5.out.box; exact frozen_of_row w5 S 4 _ _ hq); have xl := Nat.lt_of_lt_of_le z2 hb5.size; have HX6 := Lib.hid ((HX5.out.later (hb5.mono (by have := HI5.out.ge.1; omega))).later ((Below.refl _ w5).setCell (p := ⟨S, 4, none⟩) (by show w.heap.size + 1 ≤ S; exact HI5.out.ge.1) (.slice A5 (j + 1) c5))); clear ho5 hb5)
          go_roundw
          case rel => exact ⟨j + 1, A5, c5, by omega, by go_num, Lib.hid ⟨HN5.out, HX6.out⟩⟩
          case measure => simp [intOf]; omega
        · obtain rfl : j = n := by omega
          have HJ : Hid (0 < j) := Lib.hid (by
            have h0 := (robot0 HR.out).2.2
            rw [HNN.out]
            omega)
          go_wp2_with fail
          go_ret2
          exact .inr ⟨HR.out, S, g, A, c, rfl, by rw [← HNN.out]; exact HI.out.1, by rw [← HNN.out]; exact HJ.out⟩
end Tf
end Go.Proofs.YtakgkocdkondhaaGreatDoor
end

section
namespace Go.Proofs.YtakgkocdkondhaaGreatDoor
namespace Tf
open Go.RowKit Fl Tr Pt
open Lk (Ow T0 zns at9 LkAt)

theorem DoesR.uniq {W H : Int} {s : ByteArray} {R R1 R2 : List Mv} {T T1 T2 : List Ow} {p : Sp11} {x1 x2 : Ac} {e1 e2 : Int} (h1 : DoesR W H s R T p x1 e1 R1 T1) (h2 : DoesR W H s R T p x2 e2 R2 T2) : x1 = x2 ∧ e1 = e2 ∧ R1 = R2 ∧ T1 = T2 := by
  rcases h1 with ⟨a1, a2⟩ | ⟨a1, a2, a3⟩ | ⟨a1, a2, a3, a4, L, a5, a6⟩ <;> rcases h2 with ⟨b1, b2⟩ | ⟨b1, b2, b3⟩ | ⟨b1, b2, b3, b4, L2, b5, b6⟩ <;> try omega
  · rw [a2] at b2
    injection b2 with b2 b3
    injection b2 with b2 b4
    injection b3 with b3 b5
    exact ⟨b2, b4, b3, b5⟩
  · rw [a3] at b3
    injection b3 with b3 b4
    injection b4 with b4 b5
    exact ⟨a2.trans b2.symm, b3, b4, b5⟩
  · obtain rfl := a5.uniq b5
    rw [a6] at b6
    injection b6 with b6 b7
    exact ⟨a3.trans b3.symm, b6, b7, a4.trans b4.symm⟩
section
variable {w0 w w' : World} {bF S g M cap top q z m cz cp tp : Nat} {W H : Int} {s : ByteArray} {R R' : List Mv} {T T' : List Ow}
theorem St.sorts (h : St w S g M cap top W H s R T) : (∃ c, w.heap[S]? = some (.cells c 87 (0, 0))) ∧ (∃ c, w.heap[g]? = some (.cells c 132 (0, 0))) ∧ ∃ c, w.heap[M]? = some (.cells c 90 (0, 0)) := by
  obtain ⟨P, h1, h2⟩ := h.mv
  exact ⟨⟨_, h.box⟩, ⟨_, h.lk.1⟩, row_block h1⟩
theorem St.turn (h : St w S g M cap top W H s R T) (hr : RS w q z m cz cp tp W H s R' T') (hm : m < top) (hF : Fm m w w') : St w' S g M cap top W H s R T := by
  obtain ⟨⟨cS, hS⟩, ⟨cg, hg⟩, cM, hM⟩ := h.sorts
  obtain ⟨-, cm, hmm⟩ := hr.blocks
  have d1 : S ≠ m := block_ne hS hmm (by decide)
  have d2 : g ≠ m := block_ne hg hmm (by decide)
  have d3 : M ≠ m := block_ne hM hmm (by decide)
  obtain ⟨t1, t2, t3, t4⟩ := h.tops
  obtain ⟨P, h1, h2⟩ := h.mv
  refine ⟨(hF.block S (lt_of_heap h.box) d1).trans h.box, h.lk.same (hF.block g (by omega) d2), ⟨P, ?_, h2.keep (KeepT.turn hF (fun k hk => by have hk : k = m := hk; omega))⟩, ⟨t1, t2, t3, Nat.le_trans t4 hF.size⟩, h.diff⟩
  refine ownsRow_same h1 (fun k hk => ?_)
  have hk : some M = some k := hk
  injection hk with hk
  subst hk
  exact hF.block M (by omega) d3
theorem RS.turn (h : RS w q z m cz cp tp W H s R T) (hs : St w S g M cap top W H s R' T') (hg : g < tp) (hM : M < tp) (hF : Fr g M w w') : RS w' q z m cz cp tp W H s R T := by
  obtain ⟨-, ⟨cg, hgg⟩, cM, hMM⟩ := hs.sorts
  obtain ⟨⟨c1, hz⟩, cm, hmm⟩ := h.blocks
  have a1 : q ≠ g := block_ne h.box hgg (by decide)
  have a2 : q ≠ M := block_ne h.box hMM (by decide)
  have a3 : z ≠ g := block_ne hz hgg (by decide)
  have a4 : z ≠ M := block_ne hz hMM (by decide)
  have a5 : m ≠ g := block_ne hmm hgg (by decide)
  have a6 : m ≠ M := block_ne hmm hMM (by decide)
  obtain ⟨t1, t2, t3, t4⟩ := h.tops
  exact h.kept (KeepT.turn hF (fun k hk => by rcases hk with e | e <;> omega)) (hF.block q (by omega) (fun e => by rcases e with e | e; exact a1 e; exact a2 e)) (hF.block z (by omega) (fun e => by rcases e with e | e; exact a3 e; exact a4 e)) (hF.block m (by omega) (fun e => by rcases e with e | e; exact a5 e; exact a6 e))
/-- Both, in one memory. -/
structure Pl (w0 : World) (bF S g M cap top q z m cz cp tp : Nat) (W H : Int) (s : ByteArray) (R : List Mv) (T : List Ow) (wr : World) : Prop where
  lp : Lp w0 bF S g M cap top W H s R T wr
  rs : RS wr q z m cz cp tp W H s R T
  ge : w0.heap.size ≤ m ∧ bF ≠ m ∧ m < top ∧ g < tp ∧ M < tp
theorem Pl.later (h : Pl w0 bF S g M cap top q z m cz cp tp W H s R T w) (hb : Below w.heap.size w w') : Pl w0 bF S g M cap top q z m cz cp tp W H s R T w' := ⟨h.lp.later hb, h.rs.later hb, h.ge⟩
theorem Lp.fm (h : Lp w0 bF S g M cap top W H s R T w) (hr : RS w q z m cz cp tp W H s R' T') (hm : w0.heap.size ≤ m ∧ bF ≠ m ∧ m < top) (hF : Fm m w w') : Lp w0 bF S g M cap top W H s R T w' := by
  refine ⟨h.below.trans ⟨hF.os, hF.tape, hF.output, hF.size, fun k hk => hF.block k (Nat.lt_of_lt_of_le hk h.below.size) (fun e => by have e : k = m := e; omega)⟩, h.st.turn hr hm.2.2 hF, h.inv, (hF.block bF (lt_of_heap h.fb) hm.2.1).trans h.fb, h.ge⟩
end
end Tf
end Go.Proofs.YtakgkocdkondhaaGreatDoor
end
