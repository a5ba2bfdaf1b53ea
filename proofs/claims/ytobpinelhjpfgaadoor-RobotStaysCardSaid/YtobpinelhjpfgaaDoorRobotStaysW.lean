/-
  RobotStays: the walk (written by tools/rbstays.py).
-/
import Derived.Test.YtobpinelhjpfgaaDoorRbF
import Derived.Deep.QuietTactic
import Derived.BigQuiet
set_option linter.unusedVariables false
set_option maxRecDepth 100000
namespace Go.Proofs.YtobpinelhjpfgaaDoor
namespace Rc
open Go.RowKit Bp Ck Ln Rb
set_option maxHeartbeats 4000000 in
theorem robotStays_walk (dock : Nat) (hdock : dock ≤ 255) (chg : Int) (hchg : -9223372036854775808 ≤ chg ∧ chg ≤ 9223372036854775807) (A : Option Addr) (n cap : Nat) (f : Nat → A18) (w : World) (h : Rb.Acs w.heap.size w A n cap f) (hS : Shp w) :
    Calls Tryd.prog 7 #[.int .u8 (dock : Int), .int .i64 chg, .slice A n cap] w fun e w' => e = .returned (.bool true) ∧ Below w.heap.size w w' := by
  have HA := Lib.hid h
  have hle := h.le
  have hmx := h.max
  unfold maxLen at hmx
  have HS := Lib.hid (shown18_any w hS)
  have HSH := Lib.hid hS
  obtain ⟨cg, hcg, hcg0, hcg1⟩ : ∃ cg : Int, max chg 0 = cg ∧ 0 ≤ cg ∧ cg ≤ 9223372036854775807 := ⟨max chg 0, rfl, by omega, by omega⟩
  clear h hS
  go_enter Tryd.func7, Tryd.ntmps7
  go_wp2_with fail
  refine HS.out.mono ?_
  rintro e w1 ⟨rfl, hb1⟩
  have HB1 := Lib.hid hb1
  have HN := Lib.hid (rs_new w1 (HSH.out.later hb1) dock cg ⟨by omega, by omega⟩ hcg0)
  clear hb1 HS
  go_wp2_with fail
  refine HN.out.mono ?_
  rintro e w2 ⟨r, h, s, rfl, v, hg2⟩
  have HG2 := Lib.hid hg2
  have HG0 := Lib.hid (Gd.new (dock := (dock : Int)) hcg1)
  clear hg2 HN
  go_wp2_with fail
  refine (few18_any (HA.out.below (HB1.out.trans (HG2.out.below.mono HB1.out.size)))).mono ?_
  rintro e w3 ⟨k, hkn, hk150, -, rfl, rfl⟩
  have HAK := Lib.hid (HA.out.cut hkn)
  clear HA
  go_wp2_with fail
  go_loopw [10, 38] (fun nv iv wr => ∃ (i m : Nat) (z : R), nv = .int .u64 (m : Int) ∧ iv = .int .i64 (i : Int) ∧ i ≤ k ∧ m ≤ i ∧ Hid (Gd i z ∧ ∃ v, Rs w1 wr r h s v z)) (fun _ iv _ => k - (intOf iv).toNat)
  case atStart => exact ⟨0, 0, _, rfl, rfl, Nat.zero_le _, Nat.le_refl _, Lib.hid ⟨HG0.out, v, HG2.out⟩⟩
  case round =>
    rename World => wr
    clear HG2 HG0
    obtain ⟨i, m, z, rfl, rfl, hi, hmi, HI⟩ := hrel
    obtain ⟨hgd, v, hg⟩ := HI.out
    have HGD := Lib.hid hgd
    have HR := Lib.hid hg
    have HBR := Lib.hid (HB1.out.trans (hg.below.mono HB1.out.size))
    clear hgd hg HI
    by_cases hlt : i < k
    · have hltI : (i : Int) < (k : Int) := by omega
      obtain ⟨g, off, rfl, hg, hc⟩ := HAK.out.cell (by omega)
      have hat := (hc i hlt).below hg HBR.out
      have hft := HAK.out.fits i hlt
      clear hc
      generalize f i = x at *
      obtain ⟨kd, xk, xc, xp, xn, xb⟩ := x
      obtain ⟨q0, q1, q2, q3, q4, A1, n1, c1, q5, hy⟩ := hat
      obtain ⟨hkd, hxk, hxn⟩ := hft
      simp only at q0 q1 q2 q3 q4 q5 hy hkd hxk hxn
      have hn1 := hy.le
      have hm1 := hy.max
      unfold maxLen at hm1
      obtain ⟨m6, hm6, hm7⟩ : ∃ m6 : Nat, (kd : Int).tmod 6 = (m6 : Int) ∧ m6 < 6 := ⟨kd % 6, by rw [Int.tmod_eq_emod_of_nonneg (by omega)]; omega, Nat.mod_lt _ (by omega)⟩
      have hal := below_new wr (.cells #[.int .u8 (kd : Int), .int .u8 (xk : Int), .int .i64 xc, .int .i64 xp, .int .u64 (xn : Int), .slice A1 n1 c1] 37)
      have hbx := heap_alloc_new wr (.cells #[.int .u8 (kd : Int), .int .u8 (xk : Int), .int .i64 xc, .int .i64 xp, .int .u64 (xn : Int), .slice A1 n1 c1] 37)
      have HBX := Lib.hid hbx
      have HRB := Lib.hid (HR.out.later hal)
      have HY := Lib.hid (((hy.below (hal.mono HBR.out.size))).mono (Nat.le_trans HBR.out.size hal.size))
      obtain ⟨L, hL⟩ : ∃ L, cls z = L := ⟨_, rfl⟩
      obtain ⟨nL, hnL⟩ : ∃ nL : Nat, nL = L.length := ⟨_, rfl⟩
      have hcl := cls_len z
      rw [hL, ← hnL] at hcl
      obtain ⟨d, hd⟩ : ∃ d, dn z = d := ⟨_, rfl⟩
      obtain ⟨ch, hch⟩ : ∃ ch, z.chg = ch := ⟨_, rfl⟩
      have hdl : d ≤ 1000 := by have := HGD.out.few; have := HGD.out.lot; omega
      have HCE := Lib.hid (HRB.out.cells hL hnL)
      have HL := Lib.hid hL
      have HD := Lib.hid hd
      have HC := Lib.hid hch
      have HNL := Lib.hid hnL
      clear hy hal hbx HR hL hnL hd hch hg hcg hchg hcg0 hcg1
      go_wp2_with fail
      generalize wr.alloc (.cells #[.int .u8 (kd : Int), .int .u8 (xk : Int), .int .i64 xc, .int .i64 xp, .int .u64 (xn : Int), .slice A1 n1 c1] 37) = wB at *
      generalize wr.heap.size = bx at *
      refine HCE.out.mono ?_
      rintro e w5 ⟨A5, c5, rfl, hl5, hb5, hf5⟩
      have HR5 := Lib.hid (HRB.out.later hb5)
      have HL5 := Lib.hid hl5
      have HF5 := Lib.hid hf5
      have HLT : Hid (∀ k, RbF r h s v k → k < wB.heap.size) := Lib.hid HRB.out.lt
      have hc5 := Bk.Gt.size hl5
      have hc51 := hc5.1
      have hc52 := hc5.2
      have HB5 := Lib.hid hb5
      have HCH := Lib.hid (HR5.out.charge HC.out)
      clear hl5 hf5 hb5 hc5 HCE HRB q0 q1 q2 q3 q4 q5
      go_wp2_with fail
      refine HCH.out.mono ?_
      rintro e w6 ⟨rfl, rfl⟩
      have HDN := Lib.hid (HR5.out.done HD.out)
      clear HCH
      go_wp2_with fail
      refine HDN.out.mono ?_
      rintro e w6 ⟨rfl, hb6⟩
      have hb56 := HB5.out.trans (hb6.mono HB5.out.size)
      have hbx6 := (hb56.block bx (lt_of_heap HBX.out)).trans HBX.out
      obtain ⟨b0, b1, b2, b3, b4, b5⟩ := box18 hbx6
      have HR6 := Lib.hid (HR5.out.later hb6)
      have HL6 := Lib.hid (Bk.Gt.later HL5.out hb6)
      have HY6 := Lib.hid (Ln.by_later HY.out hb56)
      clear hb6 hb56 hbx6 HDN HR5 HL5 HY HBX HB5
      have hi1000 : i + 1 ≤ 1000 := by omega
      obtain rfl | rfl | rfl | rfl | rfl | rfl : m6 = 0 ∨ m6 = 1 ∨ m6 = 2 ∨ m6 = 3 ∨ m6 = 4 ∨ m6 = 5 := by omega
      · have HP : Hid (Calls Tryd.prog 13 #[.int .u64 ((m : Int) + 1), .agg #[.int .u8 (xk : Int), .int .i64 xc, .int .i64 xp]] w6 fun e w' => ∃ A cp, e = .returned (.slice A (pkB (m + 1) xk xc xp).length cp) ∧ By w'.heap.size w' A (pkB (m + 1) xk xc xp).length cp (pkB (m + 1) xk xc xp) ∧ Below w6.heap.size w6 w') := Lib.hid (packet_law (m + 1) xk (by omega) xc xp w6)
        generalize pkB (m + 1) xk xc xp = pz at *
        go_wp2_with fail
        refine HP.out.mono ?_
        rintro e w7 ⟨A7, c7, rfl, hy7, hb7⟩
        have HR7 := Lib.hid (HR6.out.later hb7)
        have HL7 := Lib.hid (Bk.Gt.later HL6.out hb7)
        have HHE := Lib.hid (HR7.out.hear HGD.out.told hy7)
        clear hy7 hb7 HR6 HL6 HP
        go_wp2_with fail
        refine HHE.out.mono ?_
        rintro e w8 ⟨bb, z', A8, c8, rfl, -, hhr, v8, hr8, ht8⟩

        obtain ⟨hgd', hcls', hchg', hdn'⟩ := HGD.out.hear hhr
        have HG' := Lib.hid (hgd'.more (Nat.le_succ i) hi1000)
        have HL9 := Lib.hid (lt_turn HL7.out ht8 HLT.out HF5.out)
        have HR9 := Lib.hid hr8
        have HCE := Lib.hid (hr8.cells (hcls'.trans HL.out) HNL.out)
        have HC9 := Lib.hid (hchg'.trans HC.out)
        have HD9 := Lib.hid (hdn'.trans HD.out)
        clear hgd' hcls' hchg' hdn' ht8 hr8 hhr HHE HR7 HL7
        go_wp2_with fail
        refine HCE.out.mono ?_
        rintro e w10 ⟨A10, c10, rfl, hl10, hb10, -⟩
        have HR10 := Lib.hid (HR9.out.later hb10)
        have HSM := Lib.hid (same18 _ _ _ _ _ _ _ hl10 (Bk.Gt.later HL9.out hb10) (by omega))
        have hc10 := Bk.Gt.size hl10
        have hc101 := hc10.1
        have hc102 := hc10.2
        clear hl10 hb10 hc10 HCE HR9 HL9
        go_wp2_with fail
        refine HSM.out.mono ?_
        rintro e w11 ⟨rfl, hb11⟩
        have HR11 := Lib.hid (HR10.out.later hb11)
        have HCH := Lib.hid (HR11.out.charge HC9.out)
        clear hb11 HSM HR10
        go_wp2_with fail
        refine HCH.out.mono ?_
        rintro e w12 ⟨rfl, rfl⟩
        have HDN := Lib.hid (HR11.out.done HD9.out)
        clear HCH
        go_wp2_with fail
        refine HDN.out.mono ?_
        rintro e w12 ⟨rfl, hb12⟩
        have HR12 := Lib.hid (HR11.out.later hb12)
        clear hb12 HDN HR11
        go_wp2_with fail
        go_roundw
        case rel => exact ⟨i + 1, m + 1, _, by go_num, by go_num, by omega, by omega, Lib.hid ⟨HG'.out, _, HR12.out⟩⟩
        case measure => simp [intOf]; omega
      · have HP : Hid (Calls Tryd.prog 13 #[.int .u64 ((xn : Int)), .agg #[.int .u8 (xk : Int), .int .i64 xc, .int .i64 xp]] w6 fun e w' => ∃ A cp, e = .returned (.slice A (pkB (xn) xk xc xp).length cp) ∧ By w'.heap.size w' A (pkB (xn) xk xc xp).length cp (pkB (xn) xk xc xp) ∧ Below w6.heap.size w6 w') := Lib.hid (packet_law (xn) xk (by omega) xc xp w6)
        generalize pkB (xn) xk xc xp = pz at *
        go_wp2_with fail
        refine HP.out.mono ?_
        rintro e w7 ⟨A7, c7, rfl, hy7, hb7⟩
        have HR7 := Lib.hid (HR6.out.later hb7)
        have HL7 := Lib.hid (Bk.Gt.later HL6.out hb7)
        have HHE := Lib.hid (HR7.out.hear HGD.out.told hy7)
        clear hy7 hb7 HR6 HL6 HP
        go_wp2_with fail
        refine HHE.out.mono ?_
        rintro e w8 ⟨bb, z', A8, c8, rfl, -, hhr, v8, hr8, ht8⟩

        obtain ⟨hgd', hcls', hchg', hdn'⟩ := HGD.out.hear hhr
        have HG' := Lib.hid (hgd'.more (Nat.le_succ i) hi1000)
        have HL9 := Lib.hid (lt_turn HL7.out ht8 HLT.out HF5.out)
        have HR9 := Lib.hid hr8
        have HCE := Lib.hid (hr8.cells (hcls'.trans HL.out) HNL.out)
        have HC9 := Lib.hid (hchg'.trans HC.out)
        have HD9 := Lib.hid (hdn'.trans HD.out)
        clear hgd' hcls' hchg' hdn' ht8 hr8 hhr HHE HR7 HL7
        go_wp2_with fail
        refine HCE.out.mono ?_
        rintro e w10 ⟨A10, c10, rfl, hl10, hb10, -⟩
        have HR10 := Lib.hid (HR9.out.later hb10)
        have HSM := Lib.hid (same18 _ _ _ _ _ _ _ hl10 (Bk.Gt.later HL9.out hb10) (by omega))
        have hc10 := Bk.Gt.size hl10
        have hc101 := hc10.1
        have hc102 := hc10.2
        clear hl10 hb10 hc10 HCE HR9 HL9
        go_wp2_with fail
        refine HSM.out.mono ?_
        rintro e w11 ⟨rfl, hb11⟩
        have HR11 := Lib.hid (HR10.out.later hb11)
        have HCH := Lib.hid (HR11.out.charge HC9.out)
        clear hb11 HSM HR10
        go_wp2_with fail
        refine HCH.out.mono ?_
        rintro e w12 ⟨rfl, rfl⟩
        have HDN := Lib.hid (HR11.out.done HD9.out)
        clear HCH
        go_wp2_with fail
        refine HDN.out.mono ?_
        rintro e w12 ⟨rfl, hb12⟩
        have HR12 := Lib.hid (HR11.out.later hb12)
        clear hb12 HDN HR11
        go_wp2_with fail
        go_roundw
        case rel => exact ⟨i + 1, m, _, rfl, by go_num, by omega, by omega, Lib.hid ⟨HG'.out, _, HR12.out⟩⟩
        case measure => simp [intOf]; omega
      · obtain ⟨hgs, hcase⟩ := HGD.out.step hi1000
        have HGS := Lib.hid hgs
        have hnx := next_any HR6.out.at_
        have hst : ∀ W, Rs w1 W r h s v z → Calls Tryd.prog 17 #[.pointer (some ⟨r, 0, none⟩)] W (STo w1 W r h s v (stD z).1 (.bool (stD z).2)) := fun W g => g.step HGD.out.chg
        clear hgs
        rcases hcase with ⟨hok, hk0, hdn, hcl2⟩ | ⟨hok, hdn, hcl2⟩ | ⟨hok, hdn, hk1, hcl2, hcl1⟩
        · rw [hok] at hst
          have hkt : decide (z.k ≠ 0) = true := decide_eq_true hk0
          rw [hkt] at hnx
          have HNX := Lib.hid hnx
          have HST := Lib.hid hst
          have HCL := Lib.hid hcl2
          have HDN := Lib.hid (hdn.trans (congrArg (· + 1) HD.out))
          clear hnx hst hcl2 hdn hok hkt hk0
          go_wp2_with fail
          refine HNX.out.mono ?_
          rintro e w7 ⟨rfl, hb7⟩
          have hal7 := below_new w7 (.cells #[.int .u8 (z.k : Int), .int .i64 z.c, .int .i64 z.p] 33)
          have hbx7 := heap_alloc_new w7 (.cells #[.int .u8 (z.k : Int), .int .i64 z.c, .int .i64 z.p] 33)
          have hb78 := hb7.trans (hal7.mono hb7.size)
          have HST7 := Lib.hid (HST.out _ (HR6.out.later hb78))
          have HLT7 : Hid (∀ k, RbF r h s v k → k < w7.heap.size) := Lib.hid (fun k hk => Nat.lt_of_lt_of_le (HR6.out.lt k hk) hb7.size)
          have HX7 := Lib.hid hbx7
          clear hb7 hal7 hbx7 hb78 HST HR6 HNX
          go_wp2_with fail
          generalize w7.alloc (.cells #[.int .u8 (z.k : Int), .int .i64 z.c, .int .i64 z.p] 33) = w8 at *
          generalize w7.heap.size = b7 at *
          refine HST7.out.mono ?_
          rintro e w9 ⟨rfl, v9, hr9, ht9⟩
          have HX9 := Lib.hid ((ht9.block b7 (lt_of_heap HX7.out) (fun e => by have := HLT7.out b7 e; omega)).trans HX7.out)
          have HR9 := Lib.hid hr9
          have HCE := Lib.hid (hr9.cells HCL.out rfl)
          clear hr9 ht9 HST7 HX7
          go_wp2_with fail
          refine HCE.out.mono ?_
          rintro e w10 ⟨A10, c10, rfl, hl10, hb10, -⟩
          have HR10 := Lib.hid (HR9.out.later hb10)
          have hc10 := Bk.Gt.size hl10
          have hc101 := hc10.1
          have hc102 := hc10.2
          simp only [List.length_cons, List.length_nil, Nat.reduceAdd] at hl10 hc101 hc102
          have HX10 := Lib.hid ((hb10.block b7 (lt_of_heap HX9.out)).trans HX9.out)
          have HDC := Lib.hid (HR10.out.done HDN.out)
          clear hl10 hb10 hc10 HCE HR9 HX9
          go_wp2_with fail
          refine HDC.out.mono ?_
          rintro e w11 ⟨rfl, hb11⟩
          have HR11 := Lib.hid (HR10.out.later hb11)
          clear hb11 HDC HR10
          go_wp2_with fail
          go_region
          go_wp2_with fail
          have HR12 := Lib.hid (HR11.out.later ((Below.refl _ _).drew : Below w11.heap.size w11 w11.drew))
          go_roundw
          case rel => exact ⟨i + 1, m, _, rfl, by go_num, by omega, by omega, Lib.hid ⟨HGS.out, _, HR12.out⟩⟩
          case measure => simp [intOf]; omega
        · rw [hok] at hst
          have HNX := Lib.hid hnx
          have HST := Lib.hid hst
          have HCL := Lib.hid hcl2
          have HDN := Lib.hid (hdn.trans (HD.out))
          clear hnx hst hcl2 hdn hok
          go_wp2_with fail
          refine HNX.out.mono ?_
          rintro e w7 ⟨rfl, hb7⟩
          have hal7 := below_new w7 (.cells #[.int .u8 (z.k : Int), .int .i64 z.c, .int .i64 z.p] 33)
          have hbx7 := heap_alloc_new w7 (.cells #[.int .u8 (z.k : Int), .int .i64 z.c, .int .i64 z.p] 33)
          have hb78 := hb7.trans (hal7.mono hb7.size)
          have HST7 := Lib.hid (HST.out _ (HR6.out.later hb78))
          have HLT7 : Hid (∀ k, RbF r h s v k → k < w7.heap.size) := Lib.hid (fun k hk => Nat.lt_of_lt_of_le (HR6.out.lt k hk) hb7.size)
          have HX7 := Lib.hid hbx7
          clear hb7 hal7 hbx7 hb78 HST HR6 HNX
          go_wp2_with fail
          generalize w7.alloc (.cells #[.int .u8 (z.k : Int), .int .i64 z.c, .int .i64 z.p] 33) = w8 at *
          generalize w7.heap.size = b7 at *
          refine HST7.out.mono ?_
          rintro e w9 ⟨rfl, v9, hr9, ht9⟩
          have HX9 := Lib.hid ((ht9.block b7 (lt_of_heap HX7.out) (fun e => by have := HLT7.out b7 e; omega)).trans HX7.out)
          have HR9 := Lib.hid hr9
          have HCE := Lib.hid (hr9.cells HCL.out rfl)
          clear hr9 ht9 HST7 HX7
          go_wp2_with fail
          refine HCE.out.mono ?_
          rintro e w10 ⟨A10, c10, rfl, hl10, hb10, -⟩
          have HR10 := Lib.hid (HR9.out.later hb10)
          have hc10 := Bk.Gt.size hl10
          have hc101 := hc10.1
          have hc102 := hc10.2
          simp only [List.length_cons, List.length_nil, Nat.reduceAdd] at hl10 hc101 hc102
          have HX10 := Lib.hid ((hb10.block b7 (lt_of_heap HX9.out)).trans HX9.out)
          have HDC := Lib.hid (HR10.out.done HDN.out)
          clear hl10 hb10 hc10 HCE HR9 HX9
          go_wp2_with fail
          refine HDC.out.mono ?_
          rintro e w11 ⟨rfl, hb11⟩
          have HR11 := Lib.hid (HR10.out.later hb11)
          clear hb11 HDC HR10
          go_wp2_with fail
          go_region
          go_wp2_with fail
          have HR12 := Lib.hid (HR11.out.later ((Below.refl _ _).drew : Below w11.heap.size w11 w11.drew))
          go_roundw
          case rel => exact ⟨i + 1, m, _, rfl, by go_num, by omega, by omega, Lib.hid ⟨HGS.out, _, HR12.out⟩⟩
          case measure => simp [intOf]; omega
        · rw [hok] at hst
          have HNX := Lib.hid hnx
          have HST := Lib.hid hst
          have HCL := Lib.hid hcl2
          have HDN := Lib.hid (hdn.trans (HD.out))
          rw [hk1] at HNX
          have HL1 := Lib.hid (HL.out.symm.trans hcl1)
          clear hnx hst hcl2 hdn hok hk1 hcl1
          obtain ⟨g5, o5, rfl, hg5, u0⟩ : ∃ g off, A5 = some ⟨g, off, none⟩ ∧ g < w6.heap.size ∧ w6.cell? ⟨g, off, none⟩ = some (.int .i64 z.cell) := by
            have q : Bk.Lt w6.heap.size w6 A5 nL c5 [z.cell] := by rw [← HL1.out]; exact HL6.out
            obtain ⟨g, off, e1, e2, e3⟩ := Bk.Lt.cell (j := 0) q (by omega)
            exact ⟨g, off, e1, e2, e3⟩
          go_wp2_with fail
          refine HNX.out.mono ?_
          rintro e w7 ⟨rfl, hb7⟩
          have hal7 := below_new w7 (.cells #[.int .u8 1, .int .i64 z.c, .int .i64 z.p] 33)
          have hbx7 := heap_alloc_new w7 (.cells #[.int .u8 1, .int .i64 z.c, .int .i64 z.p] 33)
          have hb78 := hb7.trans (hal7.mono hb7.size)
          have HST7 := Lib.hid (HST.out _ (HR6.out.later hb78))
          have HLT7 : Hid (∀ k, RbF r h s v k → k < w7.heap.size) := Lib.hid (fun k hk => Nat.lt_of_lt_of_le (HR6.out.lt k hk) hb7.size)
          have HX7 := Lib.hid hbx7
          have U7 := Lib.hid ((hb78.cell (p := ⟨g5, o5, none⟩) hg5).trans u0)
          have G5 : Hid (g5 < w7.heap.size) := Lib.hid (Nat.lt_of_lt_of_le hg5 hb7.size)
          have F5 : Hid (∀ k, RbF r h s v k → k ≠ g5) := Lib.hid (fun k hk e => by have h1 := HLT.out k hk; have h2 := HF5.out _ rfl; simp only at h2; omega)
          clear u0 hg5
          clear hb7 hal7 hbx7 hb78 HST HR6 HNX
          go_wp2_with fail
          generalize w7.alloc (.cells #[.int .u8 1, .int .i64 z.c, .int .i64 z.p] 33) = w8 at *
          generalize w7.heap.size = b7 at *
          refine HST7.out.mono ?_
          rintro e w9 ⟨rfl, v9, hr9, ht9⟩
          have HX9 := Lib.hid ((ht9.block b7 (lt_of_heap HX7.out) (fun e => by have := HLT7.out b7 e; omega)).trans HX7.out)
          have HR9 := Lib.hid hr9
          have HCE := Lib.hid (hr9.cells HCL.out rfl)
          have U9 := Lib.hid ((World.cell?_of_block (a := ⟨g5, o5, none⟩) (ht9.block g5 (Nat.lt_of_lt_of_le G5.out (Nat.le_of_lt (lt_of_heap HX7.out))) (fun e => F5.out g5 e rfl))).trans U7.out)
          clear hr9 ht9 HST7 HX7
          go_wp2_with fail
          refine HCE.out.mono ?_
          rintro e w10 ⟨A10, c10, rfl, hl10, hb10, -⟩
          have HR10 := Lib.hid (HR9.out.later hb10)
          have hc10 := Bk.Gt.size hl10
          have hc101 := hc10.1
          have hc102 := hc10.2
          simp only [List.length_cons, List.length_nil, Nat.reduceAdd] at hl10 hc101 hc102
          have HX10 := Lib.hid ((hb10.block b7 (lt_of_heap HX9.out)).trans HX9.out)
          have HDC := Lib.hid (HR10.out.done HDN.out)
          have U10 := Lib.hid ((hb10.cell (p := ⟨g5, o5, none⟩) (by have := HR9.out.at_; exact lt_of_cell U9.out)).trans U9.out)
          have HL10 := Lib.hid hl10
          clear hl10 hb10 hc10 HCE HR9 HX9
          go_wp2_with fail
          refine HDC.out.mono ?_
          rintro e w11 ⟨rfl, hb11⟩
          have HR11 := Lib.hid (HR10.out.later hb11)
          have HL11 := Lib.hid (Bk.Gt.later HL10.out hb11)
          have u0 := (hb11.cell (p := ⟨g5, o5, none⟩) (lt_of_cell U10.out)).trans U10.out
          have hx11 := (hb11.block b7 (lt_of_heap HX10.out)).trans HX10.out
          have x0 := cell_of_row w11 b7 0 _ _ _ hx11
          have x1 := cell_of_row w11 b7 1 _ _ _ hx11
          obtain ⟨g10, o10, rfl, -, y0⟩ := Bk.Lt.cell (j := 0) HL11.out (by omega)
          obtain ⟨g10', o10', e10, -, y1⟩ := Bk.Lt.cell (j := 1) HL11.out (by omega)
          injection e10 with e10
          injection e10 with e10 e11
          subst e10 e11
          simp only [List.getD_cons_zero, List.getD_cons_succ, Nat.add_zero] at y0 y1
          clear hx11
          clear hb11 HDC HR10
          go_wp2_with fail
          go_region
          go_wp2_with fail
          have HR12 := Lib.hid (HR11.out.later ((Below.refl _ _).drew : Below w11.heap.size w11 w11.drew))
          go_roundw
          case rel => exact ⟨i + 1, m, _, rfl, by go_num, by omega, by omega, Lib.hid ⟨HGS.out, _, HR12.out⟩⟩
          case measure => simp [intOf]; omega
      · have HHE := Lib.hid (HR6.out.heard HY6.out)
        go_wp2_with fail
        refine HHE.out.mono ?_
        rintro e w8 ⟨rfl, v8, hr8, ht8⟩

        obtain ⟨hgd', hcls', hchg', hdn'⟩ := HGD.out.heard xb
        have HG' := Lib.hid (hgd'.more (Nat.le_succ i) hi1000)
        have HL9 := Lib.hid (lt_turn HL6.out ht8 HLT.out HF5.out)
        have HR9 := Lib.hid hr8
        have HCE := Lib.hid (hr8.cells (hcls'.trans HL.out) HNL.out)
        have HC9 := Lib.hid (hchg'.trans HC.out)
        have HD9 := Lib.hid (hdn'.trans HD.out)
        clear hgd' hcls' hchg' hdn' ht8 hr8 HHE HR6 HL6
        go_wp2_with fail
        refine HCE.out.mono ?_
        rintro e w10 ⟨A10, c10, rfl, hl10, hb10, -⟩
        have HR10 := Lib.hid (HR9.out.later hb10)
        have HSM := Lib.hid (same18 _ _ _ _ _ _ _ hl10 (Bk.Gt.later HL9.out hb10) (by omega))
        have hc10 := Bk.Gt.size hl10
        have hc101 := hc10.1
        have hc102 := hc10.2
        clear hl10 hb10 hc10 HCE HR9 HL9
        go_wp2_with fail
        refine HSM.out.mono ?_
        rintro e w11 ⟨rfl, hb11⟩
        have HR11 := Lib.hid (HR10.out.later hb11)
        have HCH := Lib.hid (HR11.out.charge HC9.out)
        clear hb11 HSM HR10
        go_wp2_with fail
        refine HCH.out.mono ?_
        rintro e w12 ⟨rfl, rfl⟩
        have HDN := Lib.hid (HR11.out.done HD9.out)
        clear HCH
        go_wp2_with fail
        refine HDN.out.mono ?_
        rintro e w12 ⟨rfl, hb12⟩
        have HR12 := Lib.hid (HR11.out.later hb12)
        clear hb12 HDN HR11
        go_wp2_with fail
        go_roundw
        case rel => exact ⟨i + 1, m, _, rfl, by go_num, by omega, by omega, Lib.hid ⟨HG'.out, _, HR12.out⟩⟩
        case measure => simp [intOf]; omega
      · have HHE := Lib.hid (HR6.out.hear HGD.out.told HY6.out)
        go_wp2_with fail
        refine HHE.out.mono ?_
        rintro e w8 ⟨bb, z', A8, c8, rfl, -, hhr, v8, hr8, ht8⟩

        obtain ⟨hgd', hcls', hchg', hdn'⟩ := HGD.out.hear hhr
        have HG' := Lib.hid (hgd'.more (Nat.le_succ i) hi1000)
        have HL9 := Lib.hid (lt_turn HL6.out ht8 HLT.out HF5.out)
        have HR9 := Lib.hid hr8
        have HCE := Lib.hid (hr8.cells (hcls'.trans HL.out) HNL.out)
        have HC9 := Lib.hid (hchg'.trans HC.out)
        have HD9 := Lib.hid (hdn'.trans HD.out)
        clear hgd' hcls' hchg' hdn' ht8 hr8 hhr HHE HR6 HL6
        go_wp2_with fail
        refine HCE.out.mono ?_
        rintro e w10 ⟨A10, c10, rfl, hl10, hb10, -⟩
        have HR10 := Lib.hid (HR9.out.later hb10)
        have HSM := Lib.hid (same18 _ _ _ _ _ _ _ hl10 (Bk.Gt.later HL9.out hb10) (by omega))
        have hc10 := Bk.Gt.size hl10
        have hc101 := hc10.1
        have hc102 := hc10.2
        clear hl10 hb10 hc10 HCE HR9 HL9
        go_wp2_with fail
        refine HSM.out.mono ?_
        rintro e w11 ⟨rfl, hb11⟩
        have HR11 := Lib.hid (HR10.out.later hb11)
        have HCH := Lib.hid (HR11.out.charge HC9.out)
        clear hb11 HSM HR10
        go_wp2_with fail
        refine HCH.out.mono ?_
        rintro e w12 ⟨rfl, rfl⟩
        have HDN := Lib.hid (HR11.out.done HD9.out)
        clear HCH
        go_wp2_with fail
        refine HDN.out.mono ?_
        rintro e w12 ⟨rfl, hb12⟩
        have HR12 := Lib.hid (HR11.out.later hb12)
        clear hb12 HDN HR11
        go_wp2_with fail
        go_roundw
        case rel => exact ⟨i + 1, m, _, rfl, by go_num, by omega, by omega, Lib.hid ⟨HG'.out, _, HR12.out⟩⟩
        case measure => simp [intOf]; omega
      · have HHE := Lib.hid (HR6.out.heard HY6.out)
        go_wp2_with fail
        refine HHE.out.mono ?_
        rintro e w8 ⟨rfl, v8, hr8, ht8⟩

        obtain ⟨hgd', hcls', hchg', hdn'⟩ := HGD.out.heard xb
        have HG' := Lib.hid (hgd'.more (Nat.le_succ i) hi1000)
        have HL9 := Lib.hid (lt_turn HL6.out ht8 HLT.out HF5.out)
        have HR9 := Lib.hid hr8
        have HCE := Lib.hid (hr8.cells (hcls'.trans HL.out) HNL.out)
        have HC9 := Lib.hid (hchg'.trans HC.out)
        have HD9 := Lib.hid (hdn'.trans HD.out)
        clear hgd' hcls' hchg' hdn' ht8 hr8 HHE HR6 HL6
        go_wp2_with fail
        refine HCE.out.mono ?_
        rintro e w10 ⟨A10, c10, rfl, hl10, hb10, -⟩
        have HR10 := Lib.hid (HR9.out.later hb10)
        have HSM := Lib.hid (same18 _ _ _ _ _ _ _ hl10 (Bk.Gt.later HL9.out hb10) (by omega))
        have hc10 := Bk.Gt.size hl10
        have hc101 := hc10.1
        have hc102 := hc10.2
        clear hl10 hb10 hc10 HCE HR9 HL9
        go_wp2_with fail
        refine HSM.out.mono ?_
        rintro e w11 ⟨rfl, hb11⟩
        have HR11 := Lib.hid (HR10.out.later hb11)
        have HCH := Lib.hid (HR11.out.charge HC9.out)
        clear hb11 HSM HR10
        go_wp2_with fail
        refine HCH.out.mono ?_
        rintro e w12 ⟨rfl, rfl⟩
        have HDN := Lib.hid (HR11.out.done HD9.out)
        clear HCH
        go_wp2_with fail
        refine HDN.out.mono ?_
        rintro e w12 ⟨rfl, hb12⟩
        have HR12 := Lib.hid (HR11.out.later hb12)
        clear hb12 HDN HR11
        go_wp2_with fail
        go_roundw
        case rel => exact ⟨i + 1, m, _, rfl, by go_num, by omega, by omega, Lib.hid ⟨HG'.out, _, HR12.out⟩⟩
        case measure => simp [intOf]; omega
    · obtain rfl : i = k := by omega
      clear HR HGD
      go_wp2_with fail
      go_ret
      exact ⟨rfl, HBR.out⟩
end Rc
end Go.Proofs.YtobpinelhjpfgaaDoor
