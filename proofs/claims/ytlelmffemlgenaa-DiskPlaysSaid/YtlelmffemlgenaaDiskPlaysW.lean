/-
  DiskPlays: the walk (written by tools/dkplays.py).
-/
import Derived.Test.YtlelmffemlgenaaDkU
import Derived.Test.YtlelmffemlgenaaDkH
import Derived.Deep.CutBlock
set_option linter.unusedVariables false
set_option maxRecDepth 100000
namespace Go.Proofs.Ytlelmffemlgenaa
namespace Dk
open Go.RowKit Bk Nw

set_option maxHeartbeats 8000000 in
theorem diskPlays_walk (A : Option Addr) (n cap : Nat) (f : Nat → A15) (w : World) (h : Acts15 w.heap.size w A n cap f) (_ : True) :
    Calls Try.prog 3 #[.slice A n cap] w fun e w' => e = .returned (.bool true) ∧ Below w.heap.size w w' := by
  have HA := Lib.hid h
  clear h
  have kc := fun (W : World) (C : Array Value) (n c : Nat) => Lib.run_convert_bytes_const (P := Try.prog) W 29 5 C n c Try.underlying29 Try.underlying5
  go_enter Try.func3, Try.ntmps3
  go_wp2_with fail
  refine (shown15_any w).mono ?_
  rintro e w1 ⟨rfl, hb1⟩
  have HB1 := Lib.hid hb1
  clear hb1
  go_wp2_with fail
  refine (new_any w1).mono ?_
  rintro e w2 ⟨rfl, hn2, hb2⟩
  have HN2 := Lib.hid (hn2.lower HB1.out.size)
  have HB2 := Lib.hid (HB1.out.trans (hb2.mono HB1.out.size))
  clear hn2 hb2 HB1
  generalize w1.heap.size = g0 at *
  go_wp2_with fail
  refine (rnew_any w2 w.heap.size HB2.out.size).mono ?_
  rintro e w3 ⟨rfl, hn3, hb3⟩
  have HS : Hid (∃ v d, Pl w g0 w2.heap.size v d w3) := Lib.hid ⟨_, _, HN2.out.later hb3, hn3, HB2.out.trans (hb3.mono HB2.out.size)⟩
  have HB3 := Lib.hid (HB2.out.trans (hb3.mono HB2.out.size))
  clear hn3 hb3 HN2 HB2
  generalize w2.heap.size = q at *
  go_wp2_with fail
  have HF := Lib.hid (few_any A n cap f w3 (acts_raise (HA.out.below HB3.out) HB3.out.size))
  refine HF.out.mono ?_
  rintro e w4 ⟨rfl, m, hm, hm1, rfl, _⟩
  have hcs : m ≤ cap := Nat.le_trans hm HA.out.le
  have hcs1 : cap ≤ 9223372036854775807 := by have := HA.out.max; unfold maxLen at this; omega
  clear HF HB3
  go_wp2_with fail
  go_loopw [4, 20] (fun pv iv wr => ∃ (j g : Nat), iv = .int .i64 (j : Int) ∧ pv = .pointer (some ⟨g, 0, none⟩) ∧ j ≤ m ∧ Hid (∃ v d, Pl w g q v d wr)) (fun _ iv _ => m - (intOf iv).toNat)
  case atStart => exact ⟨0, g0, rfl, rfl, Nat.zero_le _, HS⟩
  case round =>
    rename World => wr
    clear HS
    obtain ⟨j, g, rfl, rfl, hj, HI⟩ := hrel
    by_cases hlj : j < m
    · obtain ⟨v, d, hpl⟩ := HI.out
      obtain ⟨ga, off, A1, n1, c1, rfl, hga, k0, k1, k2, hy, hf1, hf2⟩ := act_at (HA.out.below hpl.below) (show j < n by omega)
      have hjI : (j : Int) < (m : Int) := by omega
      have hga2 : ga < wr.heap.size := Nat.lt_of_lt_of_le hga hpl.below.size
      generalize f j = fj at *
      obtain ⟨qk, s, x⟩ := fj
      have k0 : wr.cell? ⟨ga, off + j * 3, none⟩ = some (.int .u8 (qk : Int)) := k0
      have k1 : wr.cell? ⟨ga, off + j * 3 + 1, none⟩ = some (.slice A1 n1 c1) := k1
      have k2 : wr.cell? ⟨ga, off + j * 3 + 2, none⟩ = some (.int .i64 x) := k2
      obtain ⟨b0, b1, b2⟩ := act_cells wr qk A1 n1 c1 x
      have hbA := (Below.refl wr.heap.size wr).alloc (Nat.le_refl _) (.cells #[.int .u8 (qk : Int), .slice A1 n1 c1, .int .i64 x] 31)
      have HPA := Lib.hid (hpl.later hbA)
      have HYA : Hid (Yb w.heap.size (wr.alloc (.cells #[.int .u8 (qk : Int), .slice A1 n1 c1, .int .i64 x] 31)) A1 n1 c1 s) := Lib.hid (hy.below (hbA.mono hpl.below.size))
      have HXA : Hid (Bxd (wr.alloc (.cells #[.int .u8 (qk : Int), .slice A1 n1 c1, .int .i64 x] 31)) wr.heap.size #[.int .u8 (qk : Int), .slice A1 n1 c1, .int .i64 x]) := Lib.hid (heap_alloc_new wr _)
      have HX : Hid (IW x) := Lib.hid hf2
      clear hga hf1 hf2 hy hbA HI hpl
      by_cases hr : qk % 7 = 5
      · have hrI : (qk : Int) % 7 = 5 := by omega
        have HC := Lib.hid (Copy_any HPA.out.da)
        go_wp2_with fail
        generalize wr.alloc (.cells #[.int .u8 (qk : Int), .slice A1 n1 c1, .int .i64 x] 31) = wA at *
        generalize wr.heap.size = bx at *
        refine HC.out.mono ?_
        rintro e wc ⟨gc, vc, rfl, hnc, hbc⟩
        have hcp := HPA.out.copied hnc hbc
        have hL := (Below.refl wc.heap.size wc).alloc (Nat.le_refl _) (.cells #[.int .u8 111, .int .u8 116, .int .u8 104, .int .u8 101, .int .u8 114] 5 (5, 6))
        have HCP := Lib.hid (hcp.later hL)
        have HXC := Lib.hid ((HXA.out.later hbc).later hL)
        have HLY := Lib.hid (lit5 wc)
        have HBL : Hid (Below w.heap.size wA (wc.alloc (.cells #[.int .u8 111, .int .u8 116, .int .u8 104, .int .u8 101, .int .u8 114] 5 (5, 6)))) := Lib.hid ((hbc.mono HPA.out.below.size).trans (hL.mono hcp.below.size))
        clear hnc hbc hcp hL HC HPA HXA b0 b1 b2 k0 k1 k2
        go_wp2_with fail
        generalize wc.alloc (.cells #[.int .u8 111, .int .u8 116, .int .u8 104, .int .u8 101, .int .u8 114] 5 (5, 6)) = wL at *
        generalize strOfNums [111, 116, 104, 101, 114] = sL at *
        generalize wc.heap.size = kL at *
        refine (Append_any HCP.out.old (some ⟨kL, 0, none⟩) 5 5 sL HLY.out).mono ?_
        rintro e w5 ⟨v5, rfl, hn5, ht5⟩
        have HC5 := Lib.hid (HCP.out.step hn5 ht5)
        have HX5 := Lib.hid (HXC.out.turnD HCP.out.old ht5)
        have HB5 := Lib.hid (HBL.out.trans (ht5.below _ HCP.out.below.size (fun k hk => (HCP.out.old.blocks k hk).1)))
        clear hn5 ht5 HCP HXC HBL HLY
        generalize apD d sL = d5 at *
        generalize apE d sL = z5 at *
        go_wp2_with fail
        refine (Sync_any HC5.out.old).mono ?_
        rintro e w6 ⟨v6, rfl, hn6, ht6⟩
        have HC6 := Lib.hid (HC5.out.step hn6 ht6)
        have HX6 := Lib.hid (HX5.out.turnD HC5.out.old ht6)
        have HB6 := Lib.hid (HB5.out.trans (ht6.below _ HC5.out.below.size (fun k hk => (HC5.out.old.blocks k hk).1)))
        clear hn6 ht6 HC5 HX5 HB5
        generalize pwE (op d5) = z6 at *
        generalize syD d5 = d6 at *
        go_wp2_with fail
        refine (Crash_any HC6.out.old 0).mono ?_
        rintro e wB ⟨v7, rfl, hn7, ht7⟩
        have hc7 := HC6.out.step hn7 ht7
        have HPB := Lib.hid hc7.pl
        have HXB := Lib.hid (HX6.out.turnD HC6.out.old ht7)
        have HYB : Hid (Yb w.heap.size wB A1 n1 c1 s) := Lib.hid (HYA.out.below (HB6.out.trans (ht7.below _ HC6.out.below.size (fun k hk => (HC6.out.old.blocks k hk).1))))
        clear hn7 ht7 hc7 HC6 HX6 HB6 HYA
        have b0 := HXB.out.cells.1
        have b1 := HXB.out.cells.2.1
        have b2 := HXB.out.cells.2.2
        have hbd : Below wB.heap.size wB wB.drew := (Below.refl _ _).drew
        have HPD := Lib.hid (HPB.out.later hbd)
        have HXD := Lib.hid (HXB.out.later hbd)
        have HYD := Lib.hid (HYB.out.below (hbd.mono HPB.out.below.size))
        have HD := Lib.hid (does_any HPD.out.da qk A1 n1 c1 s x (HYD.out.raise HPD.out.below.size) HX.out)
        clear hbd HPB HXB HYB hr
        go_wp2_with fail
        go_region_held3 (fun w' => w'.cell? ⟨bx, 0, none⟩ = some (.int .u8 (qk : Int)) ∧ w'.cell? ⟨bx, 1, none⟩ = some (.slice A1 n1 c1) ∧ w'.cell? ⟨bx, 2, none⟩ = some (.int .i64 x)) (first | exact ⟨by assumption, by assumption, by assumption⟩ | go_keep)
          ((first
            | (go_at_call 16; refine HD.out.mono ?_; rintro e w5 ⟨v5, rfl, hn5, ht5⟩; have hr5 := HPD.out.rd.turnD HPD.out.da ht5; have hx5 := HXD.out.turnD HPD.out.da ht5; obtain ⟨g0, g1, g2⟩ := hx5.cells; have hb5 := ht5.below w.heap.size HPD.out.below.size (fun k hk => (HPD.out.da.blocks k hk).1); have HN5 := Lib.hid hn5; have HR5 := Lib.hid hr5; have HX5 := Lib.hid hx5; have HB5 := Lib.hid (HPD.out.below.trans hb5); have HM := Lib.hid (model_any hr5 qk A1 n1 c1 s x ((HYD.out.below hb5).raise HB5.out.size) HX.out); clear hn5 ht5 hr5 hx5 hb5)
            | (go_at_call 17; refine HM.out.mono ?_; rintro e w6 ⟨rfl, hr6, ht6⟩; have hx6 := HX5.out.turnR HR5.out ht6; obtain ⟨l0, l1, l2⟩ := hx6.cells; have HP6 : Hid (Pl w gc q v5 (doD d qk s x) w6) := Lib.hid ⟨HN5.out.turnR HR5.out ht6, hr6, HB5.out.trans (ht6.below w.heap.size HB5.out.size (fun k hk => (show k = q from hk) ▸ HR5.out.lo))⟩; clear hr6 ht6 hx6)
            | fail))
        clear HM HN5 HR5 HX5 HB5 HD HPD HXD HYD g0 g1 g2 l0 l1 l2 b0 b1 b2
        generalize doE d qk s x = z6 at *
        generalize doD d qk s x = d6 at *
        go_wp2_with fail
        refine (Read_any HP6.out.da).mono ?_
        rintro e w7 ⟨A7, c7, rfl, hy7, hb7⟩
        have HP7 := Lib.hid (HP6.out.later hb7)
        have q7 := hy7.yb.conv
        have HP8 := Lib.hid (HP7.out.later (Below.refl _ _).drew)
        have hy8 := hy7.later (w' := w7.drew) (Below.refl _ _).drew
        have q8 := hy8.yb.conv
        have HW : Hid (Wd w gc q w6.heap.size A7 (rdS d6).size c7 w7.drew) := Lib.hid (Wd.start HP8.out HP6.out.below.size hy8 (fun k hk e => by have h1 := (HP6.out.da.blocks k hk).2; have h2 := (hy8.kind k e).2.1; omega))
        have y2 := HP7.out.rd.cells.2.2.1
        have y1 := HP7.out.rd.cells.2.1
        have HDd := Lib.hid (Dead_any HP8.out.da)
        have HSs := Lib.hid (Safe_any HP8.out.da)
        clear hy7 hb7 hy8 HP6 HP8
        go_wp2_with fail
        refine (rRead_any HP7.out.rd).mono ?_
        rintro e w8 ⟨rfl, rfl⟩
        clear HP7
        generalize hsn : (rdS d6).size = sn at *
        generalize rdS d6 = s6 at *
        generalize pwE d6 = p6 at *
        generalize d6.dead = dd6 at *
        generalize d6.safe = sf6 at *
        generalize w6.heap.size = kA at *
        clear hsn
        go_wp2_with fail
        go_region_held3 (fun w' => w'.cell? ⟨q, 2, none⟩ = some (.bool dd6) ∧ w'.cell? ⟨q, 1, none⟩ = some (.int .i64 (sf6 : Int)) ∧ (convert 29 9 (.slice A7 sn c7)).run Try.prog w' = .ok (.string s6) w') (first | exact ⟨by assumption, by assumption, by assumption⟩ | go_keep)
          ((first
            | (go_at_call 20; refine HDd.out.mono ?_; rintro e w9 ⟨rfl, rfl⟩)
            | (go_at_call 21; refine HSs.out.mono ?_; rintro e w9 ⟨rfl, rfl⟩)
            | fail))
        clear HDd HSs y1 y2 q7 q8
        obtain ⟨mb, hmb⟩ : ∃ mb : Nat, mb = min 50 sn := ⟨_, rfl⟩
        have HE : Hid (∀ i1 : Decidable ((50 : Int) < (sn : Int)), @ite _ ((50 : Int) < (sn : Int)) i1 50 (sn : Int) = (mb : Int)) := Lib.hid (fun i1 => by split <;> omega)
        have hms : mb ≤ sn := by omega
        have hm5 : mb ≤ 50 := by omega
        clear hmb
        go_upto_block 2 with (fail)
        rw [HE.out]
        clear HE
        go_wp2_with fail
        go_loopw [90] (fun iv wq => ∃ t : Nat, iv = .int .i64 (t : Int) ∧ t ≤ mb ∧ Hid (Wd w gc q kA A7 sn c7 wq)) (fun iv _ => mb - (intOf iv).toNat)
        case atStart => exact ⟨0, rfl, Nat.zero_le _, HW⟩
        case round =>
          rename World => wq
          clear HW
          obtain ⟨t, rfl, ht, HW⟩ := hrel
          have hz := HW.out.size
          have hz1 := hz.1
          have hz2 := hz.2
          clear hz
          by_cases hlt : t < mb
          · obtain ⟨gx, z, eA, d0, d1⟩ := HW.out.cell (show t < sn by omega)
            subst eA
            have htI : (t : Int) < (mb : Int) := by omega
            have htS : (t : Int) < (sn : Int) := by omega
            have HP := Lib.hid (HW.out.put (show t < sn by omega) (bits BinOp.xor IntKind.u8 z 85))
            go_wp2_with fail
            go_roundw
            case rel => exact ⟨t + 1, by go_num, by omega, HP⟩
            case measure => simp [intOf]; omega
          · obtain rfl : t = mb := by omega
            have HPE := Lib.hid HW.out.pl
            clear HW
            go_wp2_with fail
            go_roundw
            case rel => exact ⟨j + 1, _, by go_num, rfl, by omega, HPE⟩
            case measure => simp [intOf]; omega
      · have hrI : ((qk : Int) % 7 == 5) = false := by
          have : ¬ ((qk : Int) % 7 = 5) := by omega
          simpa using this
        have hrJ : ¬ ((qk : Int) % 7 = 5) := by omega
        go_wp2_with fail
        generalize hwB : wr.alloc (.cells #[.int .u8 (qk : Int), .slice A1 n1 c1, .int .i64 x] 31) = wB at *
        generalize wr.heap.size = bx at *
        have HPB := HPA
        have HXB := HXA
        have HYB := HYA
        clear HPA HXA HYA k0 k1 k2 hwB
        have hbd : Below wB.heap.size wB wB.drew := (Below.refl _ _).drew
        have HPD := Lib.hid (HPB.out.later hbd)
        have HXD := Lib.hid (HXB.out.later hbd)
        have HYD := Lib.hid (HYB.out.below (hbd.mono HPB.out.below.size))
        have HD := Lib.hid (does_any HPD.out.da qk A1 n1 c1 s x (HYD.out.raise HPD.out.below.size) HX.out)
        clear hbd HPB HXB HYB hr
        go_wp2_with fail
        go_region_held3 (fun w' => w'.cell? ⟨bx, 0, none⟩ = some (.int .u8 (qk : Int)) ∧ w'.cell? ⟨bx, 1, none⟩ = some (.slice A1 n1 c1) ∧ w'.cell? ⟨bx, 2, none⟩ = some (.int .i64 x)) (first | exact ⟨by assumption, by assumption, by assumption⟩ | go_keep)
          ((first
            | (go_at_call 16; refine HD.out.mono ?_; rintro e w5 ⟨v5, rfl, hn5, ht5⟩; have hr5 := HPD.out.rd.turnD HPD.out.da ht5; have hx5 := HXD.out.turnD HPD.out.da ht5; obtain ⟨g0, g1, g2⟩ := hx5.cells; have hb5 := ht5.below w.heap.size HPD.out.below.size (fun k hk => (HPD.out.da.blocks k hk).1); have HN5 := Lib.hid hn5; have HR5 := Lib.hid hr5; have HX5 := Lib.hid hx5; have HB5 := Lib.hid (HPD.out.below.trans hb5); have HM := Lib.hid (model_any hr5 qk A1 n1 c1 s x ((HYD.out.below hb5).raise HB5.out.size) HX.out); clear hn5 ht5 hr5 hx5 hb5)
            | (go_at_call 17; refine HM.out.mono ?_; rintro e w6 ⟨rfl, hr6, ht6⟩; have hx6 := HX5.out.turnR HR5.out ht6; obtain ⟨l0, l1, l2⟩ := hx6.cells; have HP6 : Hid (Pl w g q v5 (doD d qk s x) w6) := Lib.hid ⟨HN5.out.turnR HR5.out ht6, hr6, HB5.out.trans (ht6.below w.heap.size HB5.out.size (fun k hk => (show k = q from hk) ▸ HR5.out.lo))⟩; clear hr6 ht6 hx6)
            | fail))
        clear HM HN5 HR5 HX5 HB5 HD HPD HXD HYD g0 g1 g2 l0 l1 l2 b0 b1 b2
        generalize doE d qk s x = z6 at *
        generalize doD d qk s x = d6 at *
        go_wp2_with fail
        refine (Read_any HP6.out.da).mono ?_
        rintro e w7 ⟨A7, c7, rfl, hy7, hb7⟩
        have HP7 := Lib.hid (HP6.out.later hb7)
        have q7 := hy7.yb.conv
        have HP8 := Lib.hid (HP7.out.later (Below.refl _ _).drew)
        have hy8 := hy7.later (w' := w7.drew) (Below.refl _ _).drew
        have q8 := hy8.yb.conv
        have HW : Hid (Wd w g q w6.heap.size A7 (rdS d6).size c7 w7.drew) := Lib.hid (Wd.start HP8.out HP6.out.below.size hy8 (fun k hk e => by have h1 := (HP6.out.da.blocks k hk).2; have h2 := (hy8.kind k e).2.1; omega))
        have y2 := HP7.out.rd.cells.2.2.1
        have y1 := HP7.out.rd.cells.2.1
        have HDd := Lib.hid (Dead_any HP8.out.da)
        have HSs := Lib.hid (Safe_any HP8.out.da)
        clear hy7 hb7 hy8 HP6 HP8
        go_wp2_with fail
        refine (rRead_any HP7.out.rd).mono ?_
        rintro e w8 ⟨rfl, rfl⟩
        clear HP7
        generalize hsn : (rdS d6).size = sn at *
        generalize rdS d6 = s6 at *
        generalize pwE d6 = p6 at *
        generalize d6.dead = dd6 at *
        generalize d6.safe = sf6 at *
        generalize w6.heap.size = kA at *
        clear hsn
        go_wp2_with fail
        go_region_held3 (fun w' => w'.cell? ⟨q, 2, none⟩ = some (.bool dd6) ∧ w'.cell? ⟨q, 1, none⟩ = some (.int .i64 (sf6 : Int)) ∧ (convert 29 9 (.slice A7 sn c7)).run Try.prog w' = .ok (.string s6) w') (first | exact ⟨by assumption, by assumption, by assumption⟩ | go_keep)
          ((first
            | (go_at_call 20; refine HDd.out.mono ?_; rintro e w9 ⟨rfl, rfl⟩)
            | (go_at_call 21; refine HSs.out.mono ?_; rintro e w9 ⟨rfl, rfl⟩)
            | fail))
        clear HDd HSs y1 y2 q7 q8
        obtain ⟨mb, hmb⟩ : ∃ mb : Nat, mb = min 50 sn := ⟨_, rfl⟩
        have HE : Hid (∀ i1 : Decidable ((50 : Int) < (sn : Int)), @ite _ ((50 : Int) < (sn : Int)) i1 50 (sn : Int) = (mb : Int)) := Lib.hid (fun i1 => by split <;> omega)
        have hms : mb ≤ sn := by omega
        have hm5 : mb ≤ 50 := by omega
        clear hmb
        go_upto_block 2 with (fail)
        rw [HE.out]
        clear HE
        go_wp2_with fail
        go_loopw [90] (fun iv wq => ∃ t : Nat, iv = .int .i64 (t : Int) ∧ t ≤ mb ∧ Hid (Wd w g q kA A7 sn c7 wq)) (fun iv _ => mb - (intOf iv).toNat)
        case atStart => exact ⟨0, rfl, Nat.zero_le _, HW⟩
        case round =>
          rename World => wq
          clear HW
          obtain ⟨t, rfl, ht, HW⟩ := hrel
          have hz := HW.out.size
          have hz1 := hz.1
          have hz2 := hz.2
          clear hz
          by_cases hlt : t < mb
          · obtain ⟨gx, z, eA, d0, d1⟩ := HW.out.cell (show t < sn by omega)
            subst eA
            have htI : (t : Int) < (mb : Int) := by omega
            have htS : (t : Int) < (sn : Int) := by omega
            have HP := Lib.hid (HW.out.put (show t < sn by omega) (bits BinOp.xor IntKind.u8 z 85))
            go_wp2_with fail
            go_roundw
            case rel => exact ⟨t + 1, by go_num, by omega, HP⟩
            case measure => simp [intOf]; omega
          · obtain rfl : t = mb := by omega
            have HPE := Lib.hid HW.out.pl
            clear HW
            go_wp2_with fail
            go_roundw
            case rel => exact ⟨j + 1, _, by go_num, rfl, by omega, HPE⟩
            case measure => simp [intOf]; omega
    · obtain rfl : j = m := by omega
      obtain ⟨v, d, hpl⟩ := HI.out
      have HB := Lib.hid hpl.below
      clear HI hpl
      go_wp2_with fail
      go_ret
      exact ⟨rfl, HB.out⟩
end Dk
end Go.Proofs.Ytlelmffemlgenaa
