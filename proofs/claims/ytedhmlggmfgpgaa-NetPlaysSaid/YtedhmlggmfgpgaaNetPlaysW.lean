/-
  NetPlays: the walk (written by tools/nwplays.py).
-/
import Derived.Test.YtedhmlggmfgpgaaNwI
import Derived.IntWalk
set_option linter.unusedVariables false
set_option maxRecDepth 100000
namespace Go.Proofs.Ytedhmlggmfgpgaa
namespace Nw
open Go.RowKit Bk

set_option maxHeartbeats 4000000 in
theorem netPlays_walk (A : Option Addr) (n cap : Nat) (f : Nat → A13) (w : World) (h : Acts13 w.heap.size w A n cap f) (_ : True) :
    Calls Try.prog 3 #[.slice A n cap] w fun e w' => e = .returned (.bool true) ∧ Below w.heap.size w w' := by
  have HA := Lib.hid h
  clear h
  go_enter Try.func3, Try.ntmps3
  go_wp2_with fail
  refine (shown13_any w).mono ?_
  rintro e w1 ⟨rfl, hb1⟩
  have HB1 := Lib.hid hb1
  clear hb1
  go_wp2_with fail
  refine (new_any w1).mono ?_
  rintro e w2 ⟨rfl, hn2, hb2⟩
  have hbR := (Below.refl w2.heap.size w2).alloc (Nat.le_refl _) (.cells #[.slice none 0 0] 29)
  have hbw2 := HB1.out.trans (hb2.mono HB1.out.size)
  have HS0 : Hid (Two w w1.heap.size w2.heap.size (.slice none 0 0) [] [] (.slice none 0 0) (w2.alloc (.cells #[.slice none 0 0] 29))) := Lib.hid ⟨(hn2.later hbR).lower HB1.out.size, RN.new w2 _ hbw2.size, hbw2.trans (hbR.mono hbw2.size)⟩
  have HBR := Lib.hid HS0.out.below
  have HF := Lib.hid (few_any A n cap f (w2.alloc (.cells #[.slice none 0 0] 29)) ⟨HA.out.le, HA.out.max, HA.out.nil, fun hn => by
    obtain ⟨g, off, e, hg, hc⟩ := (HA.out.below HBR.out).cell hn
    refine ⟨g, off, e, Nat.lt_of_lt_of_le hg HBR.out.size, fun j hj => ?_⟩
    obtain ⟨c0, ⟨A1, n1, c1, k1, k2⟩, c2⟩ := hc j hj
    exact ⟨c0, ⟨A1, n1, c1, k1, k2.raise HBR.out.size⟩, c2⟩, HA.out.fits⟩)
  clear hn2 hb2 hbR hbw2 HB1
  generalize w1.heap.size = g at *
  go_wp2_with fail
  generalize w2.alloc (.cells #[.slice none 0 0] 29) = w3 at *
  generalize w2.heap.size = q at *
  refine HF.out.mono ?_
  rintro e w4 ⟨rfl, m, hm, hm2, rfl, hsz⟩
  have HSZ := Lib.hid hsz
  have HS1 : Hid (∃ v P L u, Two w g q v P L u w3) := Lib.hid ⟨_, _, _, _, HS0.out⟩
  have hcs : m ≤ cap := Nat.le_trans hm HA.out.le
  have hcs2 : cap ≤ 9223372036854775807 := by have := HA.out.max; unfold maxLen at this; omega
  clear hsz HF HS0 HBR
  go_wp2_with fail
  go_loopw [30] (fun iv wr => ∃ j : Nat, iv = .int .i64 (j : Int) ∧ j ≤ m ∧ Hid (∃ v P L u, Two w g q v P L u wr)) (fun iv _ => m - (intOf iv).toNat)
  case atStart => exact ⟨0, rfl, Nat.zero_le _, HS1⟩
  case round =>
    rename World => wr
    clear HS1
    obtain ⟨j, rfl, hj, HI⟩ := hrel
    by_cases hlj : j < m
    · obtain ⟨v, P, L, u, ht⟩ := HI.out
      obtain ⟨ga, off, rfl, hga, hc⟩ := (HA.out.below ht.below).cell (by omega)
      obtain ⟨k0, ⟨A1, n1, c1, k1, hy⟩, k2⟩ := hc j (by omega)
      have hfit := HA.out.fits j (by omega)
      have hs := HSZ.out j hlj
      have hjI : (j : Int) < (m : Int) := by omega
      have hga2 : ga < wr.heap.size := Nat.lt_of_lt_of_le hga ht.below.size
      generalize f j = fj at *
      obtain ⟨qk, s, x⟩ := fj
      have k0 : wr.cell? ⟨ga, off + j * 3, none⟩ = some (.int .u8 (qk : Int)) := k0
      have k1 : wr.cell? ⟨ga, off + j * 3 + 1, none⟩ = some (.slice A1 n1 c1) := k1
      have k2 : wr.cell? ⟨ga, off + j * 3 + 2, none⟩ = some (.int .i64 x) := k2
      have hq255 : qk ≤ 255 := hfit.1
      have HX : Hid (x ≤ 9223372036854775807) := Lib.hid hfit.2.2
      have hn1 : n1 ≤ 10000 := by rw [← hy.size]; exact hs
      have HYW : Hid (Yb w.heap.size wr A1 n1 c1 s) := Lib.hid hy
      obtain ⟨b0, b1, b2⟩ := act3_cells wr qk A1 n1 c1 x
      have hbA := (Below.refl wr.heap.size wr).alloc (Nat.le_refl _) (.cells #[.int .u8 (qk : Int), .slice A1 n1 c1, .int .i64 x] 33)
      have HBA : Hid (Below w.heap.size wr (wr.alloc (.cells #[.int .u8 (qk : Int), .slice A1 n1 c1, .int .i64 x] 33))) := Lib.hid (hbA.mono ht.below.size)
      have HTA := Lib.hid (ht.later hbA)
      have HLT := Lib.hid ht.lt
      have hbx : wr.heap.size < (wr.alloc (.cells #[.int .u8 (qk : Int), .slice A1 n1 c1, .int .i64 x] 33)).heap.size := by simp
      have HLL : Hid (L.length ≤ 1024) := Lib.hid ht.na.few
      clear hc hga hfit hs hy hbA ht HI
      rcases (by omega : qk % 5 = 0 ∨ qk % 5 = 1 ∨ qk % 5 = 2 ∨ qk % 5 = 3 ∨ qk % 5 = 4) with hr | hr | hr | hr | hr
      · have hrI : (qk : Int) % 5 = 0 := by omega
        clear hr k2
        go_upto_region 16 with (fail)
        generalize wr.alloc (.cells #[.int .u8 (qk : Int), .slice A1 n1 c1, .int .i64 x] 33) = wA at *
        generalize wr.heap.size = bx at *
        have hbE := (Below.refl wA.heap.size wA).alloc (Nat.le_refl _) (.cells #[] 5)
        have HBE := Lib.hid hbE
        have HO : Hid ((wA.alloc (.cells #[] 5)).ownsRow wA.heap.size 5 1 (.slice (some ⟨wA.heap.size, 0, none⟩) 0 0) ([] : List Int).length (u8s [])) := Lib.hid (own_empty wA 5 1 wA.heap.size (Nat.le_refl _))
        have HYA := Lib.hid (HYW.out.below HBA.out)
        have HYB := Lib.hid ((HYA.out.raise HTA.out.below.size).later hbE)
        have HWA := Lib.hid HTA.out.below.size
        have HN1 : Hid (n1 ≤ 10000) := Lib.hid hn1
        clear hbE hn1 k0 k1
        go_upto_region 17 with (at_builtin; refine app_bytes rfl _ _ rfl wA.heap.size _ [] rfl HO.out A1 n1 c1 s rfl HYB.out (by have := HN1.out; simp; omega) HBE.out.size ?_; intro A3 n3 c3 w3 hn3 ho3 hb3 hg3 hx3; have HN3 := Lib.hid hn3; have HO3 := Lib.hid ho3; have HB3 := Lib.hid (HBE.out.trans hb3); clear hn3 ho3 hb3 hg3 hx3)
        have hnn : n3 = n1 := by rw [HN3.out]; simp
        subst hnn
        have HO3' : Hid (Yw w3 wA.heap.size (.slice A3 n3 c3) s) := Lib.hid (by have := HO3.out; rwa [show strOfNums [] ++ s = s from by rw [show strOfNums [] = ByteArray.empty from rfl, ByteArray.empty_append]] at this)
        have HT3 := Lib.hid (HTA.out.later HB3.out)
        have HT3d := Lib.hid (HT3.out.later (Below.refl _ _).drew)
        have HO3d := Lib.hid (HO3'.out.later (Below.refl _ _).drew)
        have e1 : w3.cell? ⟨bx, 1, none⟩ = some (.slice A1 n3 c1) := (HB3.out.cell (p := ⟨bx, 1, none⟩) hbx).trans b1
        have HBd : Hid (Below w.heap.size wA w3.drew) := Lib.hid ((HB3.out.mono HWA.out).trans (Below.refl _ _).drew)
        have HCV : Hid (∀ wx, Below w.heap.size wA wx → (convert 31 9 (.slice A1 n3 c1)).run Try.prog wx = .ok (.string s) wx) := Lib.hid (fun wx hb => (HYA.out.below hb).conv)
        have e1d : w3.drew.cell? ⟨bx, 1, none⟩ = some (.slice A1 n3 c1) := e1
        have q1 := HCV.out _ (HB3.out.mono HWA.out)
        have q1d := HCV.out _ HBd.out
        have HS := Lib.hid (Send_any HT3d.out.na (Nat.le_trans HWA.out (HB3.out.drew).size) A3 n3 c3 s HO3d.out.yb (by have := HN1.out; omega))
        have hbx3 : bx < w3.drew.heap.size := Nat.lt_of_lt_of_le hbx HB3.out.size
        clear b0 b1 b2 HO HYB HN3 HO3 HT3 HO3' HBE
        go_region_held3 (fun w' => w'.cell? ⟨bx, 1, none⟩ = some (.slice A1 n3 c1) ∧ (convert 31 9 (.slice A1 n3 c1)).run Try.prog w' = .ok (.string s) w') (first | exact ⟨by assumption, by assumption⟩ | go_keep)
          ((first
            | (go_at_call 11; refine HS.out.mono ?_; rintro e w4 ⟨v4, P4, rfl, hn4, ht4⟩; obtain ⟨hr4, hb4⟩ := HT3d.out.turnN ht4; have hb4A := HT3d.out.na.belowT ht4 HBd.out HWA.out (Nat.le_refl _); have e4 : w4.cell? ⟨bx, 1, none⟩ = some (.slice A1 n3 c1) := (cell_block (ht4.block bx hbx3 (fun e => Nat.lt_irrefl _ (HLT.out.1 _ e)))).trans e1d; have q4 := HCV.out w4 hb4A; have HN4 := Lib.hid hn4; have HR4 := Lib.hid hr4; have HB4 := Lib.hid hb4; have HB4A := Lib.hid hb4A; have HF4 := Lib.hid ht4; have hbx4 := Nat.lt_of_lt_of_le hbx3 ht4.size; have HQ := Lib.hid (rSend_any hr4 hb4.size s); clear hn4 ht4 hr4 hb4 hb4A)
            | (go_at_call 12; refine HQ.out.mono ?_; rintro e w5 ⟨u5, rfl, hr5, ht5⟩; obtain ⟨hn5, hb5⟩ := Two.turnR HN4.out HR4.out HB4.out ht5; have e5 : w5.cell? ⟨bx, 1, none⟩ = some (.slice A1 n3 c1) := (cell_block (ht5.block bx hbx4 (fun e => Nat.lt_irrefl _ (HLT.out.2 _ e)))).trans e4; have q5 := HCV.out w5 (HB4A.out.trans (ht5.below _ HB4.out.size (fun k hk => (HR4.out.blocks k hk).1))); have HT5 : Hid (Two w g q v4 P4 (seL L s) u5 w5) := Lib.hid ⟨hn5, hr5, hb5⟩; have HF5 := Lib.hid ht5; clear hr5 ht5 hn5 hb5)
            | fail))
        have HW : Hid (Wx w g q wA.heap.size A3 n3 c3 w5) := Lib.hid (Wx.start HT5.out HWA.out ((HO3d.out.turn HF4.out (fun k hk => HTA.out.lt.1 k hk)).turn HF5.out (fun k hk => HTA.out.lt.2 k hk)) (fun k hk e => by
          obtain ⟨z1, z2, _⟩ := HO3d.out.kind k e
          rcases HF4.out.foot k hk with z | z
          · have := HTA.out.lt.1 k z; omega
          · omega))
        clear HT5 HF4 HF5 HQ HN4 HR4 HB4 HB4A HS HO3d HT3d HTA HCV q1 q1d q4 q5 e1 e1d e4 e5 HYA HB3 HBd
        generalize wA.heap.size = kA at *
        generalize seE L = z5 at *
        go_wp2_with fail
        go_loopw [65] (fun iv wq => ∃ t : Nat, iv = .int .i64 (t : Int) ∧ t ≤ n3 ∧ Hid (Wx w g q kA A3 n3 c3 wq)) (fun iv _ => n3 - (intOf iv).toNat)
        case atStart => exact ⟨0, rfl, Nat.zero_le _, HW⟩
        case round =>
          rename World => wq
          clear HW
          obtain ⟨t, rfl, ht, HW⟩ := hrel
          have hz := HW.out.size
          have hz1 := hz.1
          have hz2 := hz.2
          clear hz
          by_cases hlt : t < n3
          · obtain ⟨gx, z, eA, d0, d1⟩ := HW.out.cell hlt
            subst eA
            have htI : (t : Int) < (n3 : Int) := by omega
            have HP := Lib.hid (HW.out.put hlt (bits BinOp.xor IntKind.u8 z 85))
            go_wp2_with fail
            go_roundw
            case rel => exact ⟨t + 1, by go_num, by omega, HP⟩
            case measure => simp [intOf]; omega
          · obtain rfl : t = n3 := by omega
            obtain ⟨v5, P5, L5, u5, ht5⟩ := HW.out.two
            have HT5 := Lib.hid ht5
            clear ht5 HW
            go_wp2_with fail
            obtain ⟨Au, lu, cu, hu, hlu⟩ := HT5.out.rn.form2
            subst hu
            have HTD := Lib.hid (HT5.out.later (Below.refl _ _).drew)
            have y0 := HTD.out.rn.cell0.1
            have y0' := HT5.out.rn.cell0.1
            have HLn := Lib.hid (Len_any HTD.out.na)
            rw [← hlu] at HLn
            clear HT5 hlu
            go_wp2_with fail
            go_region_held3 (fun w' => w'.cell? ⟨q, 0, none⟩ = some (.slice Au lu cu)) (go_keep)
              ((go_at_call 18; refine HLn.out.mono ?_; rintro e w9 ⟨rfl, rfl⟩))
            all_goals go_wp2_with fail
            go_roundw
            case rel => exact ⟨j + 1, by go_num, by omega, Lib.hid ⟨_, _, _, _, HTD.out⟩⟩
            case measure => simp [intOf]; omega
      · have hrI : (qk : Int) % 5 = 1 := by omega
        have HT := Lib.hid (Take_any HTA.out.na x HX.out)
        clear hr k0 k1 k2
        go_wp2_with fail
        generalize wr.alloc (.cells #[.int .u8 (qk : Int), .slice A1 n1 c1, .int .i64 x] 33) = wA at *
        generalize wr.heap.size = bx at *
        refine HT.out.mono ?_
        rintro e w4 ⟨A4, c4, v4, P4, rfl, hy4, hn4, ht4, hs4⟩
        obtain ⟨hr4, hb4⟩ := HTA.out.turnN ht4
        have e2 : w4.cell? ⟨bx, 2, none⟩ = some (.int .i64 x) := (cell_block (ht4.block bx hbx (fun e => Nat.lt_irrefl _ (HLT.out.1 _ e)))).trans b2
        have HN4 := Lib.hid hn4
        have HR4 := Lib.hid hr4
        have HB4 := Lib.hid hb4
        have HY4 := Lib.hid hy4
        have HQ := Lib.hid (rTake_any hr4 hb4.size x)
        have HLR : Hid (∀ k, RF q u k → k < wA.heap.size) := Lib.hid HTA.out.lt.2
        clear hy4 hn4 ht4 hs4 hr4 hb4 HT b0 b1 b2
        go_wp2_with fail
        refine HQ.out.mono ?_
        rintro e w5 ⟨u5, rfl, hr5, ht5⟩
        obtain ⟨hn5, hb5⟩ := Two.turnR HN4.out HR4.out HB4.out ht5
        have q5 := (HY4.out.turn ht5 HLR.out).yb.conv
        have HT5 : Hid (Two w g q v4 P4 (ouA x L) u5 w5) := Lib.hid ⟨hn5, hr5, hb5⟩
        clear hr5 ht5 hn5 hb5 HQ HN4 HR4 HB4 HY4 HLR HTA
        generalize gtA L x = s5 at *
        generalize isA L.length x = z5 at *
        go_wp2_with fail
        obtain ⟨Au, lu, cu, hu, hlu⟩ := HT5.out.rn.form2
        subst hu
        have HTD := Lib.hid (HT5.out.later (Below.refl _ _).drew)
        have y0 := HTD.out.rn.cell0.1
        have y0' := HT5.out.rn.cell0.1
        have HLn := Lib.hid (Len_any HTD.out.na)
        rw [← hlu] at HLn
        clear HT5 hlu
        go_wp2_with fail
        go_region_held3 (fun w' => w'.cell? ⟨q, 0, none⟩ = some (.slice Au lu cu)) (go_keep)
          ((go_at_call 18; refine HLn.out.mono ?_; rintro e w9 ⟨rfl, rfl⟩))
        all_goals go_wp2_with fail
        go_roundw
        case rel => exact ⟨j + 1, by go_num, by omega, Lib.hid ⟨_, _, _, _, HTD.out⟩⟩
        case measure => simp [intOf]; omega
      · have hrI : (qk : Int) % 5 = 2 := by omega
        have HT := Lib.hid (Peek_any HTA.out.na x)
        clear hr k0 k1 k2
        go_wp2_with fail
        generalize wr.alloc (.cells #[.int .u8 (qk : Int), .slice A1 n1 c1, .int .i64 x] 33) = wA at *
        generalize wr.heap.size = bx at *
        refine HT.out.mono ?_
        rintro e w4 ⟨A4, c4, rfl, hy4, hb4⟩
        have e2 : w4.cell? ⟨bx, 2, none⟩ = some (.int .i64 x) := (hb4.cell (p := ⟨bx, 2, none⟩) hbx).trans b2
        have HT4 := Lib.hid (HTA.out.later hb4)
        have HW : Hid (Wx w g q wA.heap.size A4 (gtA L x).size c4 w4) := Lib.hid (Wx.start HT4.out HTA.out.below.size hy4 (fun k hk e => by have h1 := HTA.out.lt.1 k hk; have h2 := (hy4.kind k e).2.1; omega))
        have q4 := hy4.yb.conv
        have HQ := Lib.hid (rPeek_any HT4.out.rn x)
        clear hy4 hb4 HT b0 b1 b2 HT4 HTA
        go_wp2_with fail
        refine HQ.out.mono ?_
        rintro e w5 ⟨rfl, rfl⟩
        clear HQ
        generalize wA.heap.size = kA at *
        generalize hsn : (gtA L x).size = sn at *
        generalize gtA L x = s5 at *
        generalize isA L.length x = z5 at *
        go_wp2_with fail
        go_loopw [127] (fun iv wq => ∃ t : Nat, iv = .int .i64 (t : Int) ∧ t ≤ sn ∧ Hid (Wx w g q kA A4 sn c4 wq)) (fun iv _ => sn - (intOf iv).toNat)
        case atStart => exact ⟨0, rfl, Nat.zero_le _, HW⟩
        case round =>
          rename World => wq
          clear HW
          obtain ⟨t, rfl, ht, HW⟩ := hrel
          have hz := HW.out.size
          have hz1 := hz.1
          have hz2 := hz.2
          clear hz
          by_cases hlt : t < sn
          · obtain ⟨gx, z, eA, d0, d1⟩ := HW.out.cell hlt
            subst eA
            have htI : (t : Int) < (sn : Int) := by omega
            have HP := Lib.hid (HW.out.put hlt (bits BinOp.xor IntKind.u8 z 85))
            go_wp2_with fail
            go_roundw
            case rel => exact ⟨t + 1, by go_num, by omega, HP⟩
            case measure => simp [intOf]; omega
          · obtain rfl : t = sn := by omega
            obtain ⟨v5, P5, L5, u5, ht5⟩ := HW.out.two
            have HT5 := Lib.hid ht5
            clear ht5 HW
            go_wp2_with fail
            obtain ⟨Au, lu, cu, hu, hlu⟩ := HT5.out.rn.form2
            subst hu
            have HTD := Lib.hid (HT5.out.later (Below.refl _ _).drew)
            have y0 := HTD.out.rn.cell0.1
            have y0' := HT5.out.rn.cell0.1
            have HLn := Lib.hid (Len_any HTD.out.na)
            rw [← hlu] at HLn
            clear HT5 hlu
            go_wp2_with fail
            go_region_held3 (fun w' => w'.cell? ⟨q, 0, none⟩ = some (.slice Au lu cu)) (go_keep)
              ((go_at_call 18; refine HLn.out.mono ?_; rintro e w9 ⟨rfl, rfl⟩))
            all_goals go_wp2_with fail
            go_roundw
            case rel => exact ⟨j + 1, by go_num, by omega, Lib.hid ⟨_, _, _, _, HTD.out⟩⟩
            case measure => simp [intOf]; omega
      · have hrI : (qk : Int) % 5 = 3 := by omega
        have HT := Lib.hid (rTake_any HTA.out.rn HTA.out.below.size x)
        clear hr k0 k1 k2
        go_wp2_with fail
        generalize wr.alloc (.cells #[.int .u8 (qk : Int), .slice A1 n1 c1, .int .i64 x] 33) = wA at *
        generalize wr.heap.size = bx at *
        refine HT.out.mono ?_
        rintro e w4 ⟨u4, rfl, hr4, ht4⟩
        obtain ⟨hn4, hb4⟩ := Two.turnR HTA.out.na HTA.out.rn HTA.out.below ht4
        have e2 : w4.cell? ⟨bx, 2, none⟩ = some (.int .i64 x) := (cell_block (ht4.block bx hbx (fun e => Nat.lt_irrefl _ (HLT.out.2 _ e)))).trans b2
        have HR4 := Lib.hid hr4
        have HN4 := Lib.hid hn4
        have HB4 := Lib.hid hb4
        have HQ := Lib.hid (Lose_any hn4 x HX.out)
        clear hr4 ht4 hn4 hb4 HT b0 b1 b2 HTA
        go_wp2_with fail
        refine HQ.out.mono ?_
        rintro e w5 ⟨v5, P5, rfl, hn5, ht5, hs5⟩
        have HT5 : Hid (Two w g q v5 P5 (ouA x L) u4 w5) := Lib.hid ⟨hn5, HR4.out.same (fun k hk => ht5.block k (HR4.out.blocks k hk).2 (fun e => apart_NR HN4.out HR4.out k e hk)), HN4.out.belowT ht5 HB4.out (Nat.le_refl _) (Nat.le_refl _)⟩
        clear hn5 ht5 hs5 HQ HN4 HR4 HB4
        generalize isA L.length x = z5 at *
        go_wp2_with fail
        obtain ⟨Au, lu, cu, hu, hlu⟩ := HT5.out.rn.form2
        subst hu
        have HTD := Lib.hid (HT5.out.later (Below.refl _ _).drew)
        have y0 := HTD.out.rn.cell0.1
        have y0' := HT5.out.rn.cell0.1
        have HLn := Lib.hid (Len_any HTD.out.na)
        rw [← hlu] at HLn
        clear HT5 hlu
        go_wp2_with fail
        go_region_held3 (fun w' => w'.cell? ⟨q, 0, none⟩ = some (.slice Au lu cu)) (go_keep)
          ((go_at_call 18; refine HLn.out.mono ?_; rintro e w9 ⟨rfl, rfl⟩))
        all_goals go_wp2_with fail
        go_roundw
        case rel => exact ⟨j + 1, by go_num, by omega, Lib.hid ⟨_, _, _, _, HTD.out⟩⟩
        case measure => simp [intOf]; omega
      · have hrI : (qk : Int) % 5 = 4 := by omega
        obtain ⟨y, hy⟩ : ∃ y, y = Int.tmod x 600 := ⟨_, rfl⟩
        have hyI : Int.tmod x 600 = y := hy.symm
        have hy1 : y < 600 := by rw [hy]; exact Int.tmod_lt_of_pos x (by omega)
        have hy2 : -600 < y := by have := Int.lt_tmod_of_pos x (show (0 : Int) < 600 by omega); omega
        have HS4 : Hid (∃ v P L u, Two w g q v P L u (wr.alloc (.cells #[.int .u8 (qk : Int), .slice A1 n1 c1, .int .i64 x] 33))) := Lib.hid ⟨_, _, _, _, HTA.out⟩
        clear hr k0 k1 k2 hy
        go_wp2_with fail
        generalize wr.alloc (.cells #[.int .u8 (qk : Int), .slice A1 n1 c1, .int .i64 x] 33) = wA at *
        generalize wr.heap.size = bx at *
        clear HTA HLT HLL HBA b0 b1 b2 hbx HYW
        go_loopw [40] (fun iv wq => ∃ t : Nat, iv = .int .i64 (t : Int) ∧ t ≤ y.toNat ∧ Hid (∃ v P L u, Two w g q v P L u wq)) (fun iv _ => y.toNat - (intOf iv).toNat)
        case atStart => exact ⟨0, rfl, Nat.zero_le _, HS4⟩
        case round =>
          rename World => wq
          clear HS4
          obtain ⟨t, rfl, ht, HI⟩ := hrel
          obtain ⟨v4, P4, L4, u4, h4⟩ := HI.out
          have HT4 := Lib.hid h4
          clear h4 HI
          by_cases hlt : (t : Int) < y
          · have HS := Lib.hid (Send_any HT4.out.na HT4.out.below.size none 0 0 { data := #[] } (Yb.nothing _ _) (by omega))
            go_wp2_with fail
            refine HS.out.mono ?_
            rintro e w5 ⟨v5, P5, rfl, hn5, ht5⟩
            obtain ⟨hr5, hb5⟩ := HT4.out.turnN ht5
            have HN5 := Lib.hid hn5
            have HR5 := Lib.hid hr5
            have HB5 := Lib.hid hb5
            have HQ := Lib.hid (rSend_any hr5 hb5.size { data := #[] })
            clear hn5 ht5 hr5 hb5 HS HT4
            go_wp2_with fail
            refine HQ.out.mono ?_
            rintro e w6 ⟨u6, rfl, hr6, ht6⟩
            obtain ⟨hn6, hb6⟩ := Two.turnR HN5.out HR5.out HB5.out ht6
            have HT6 : Hid (∃ v P L u, Two w g q v P L u w6) := Lib.hid ⟨_, _, _, _, hn6, hr6, hb6⟩
            clear hr6 ht6 hn6 hb6 HN5 HR5 HB5 HQ
            generalize seE L4 = z5 at *
            go_wp2_with fail
            go_roundw
            case rel => exact ⟨t + 1, by go_num, by omega, HT6⟩
            case measure => simp [intOf]; omega
          · go_wp2_with fail
            obtain ⟨Au, lu, cu, hu, hlu⟩ := HT4.out.rn.form2
            subst hu
            have HTD := Lib.hid (HT4.out.later (Below.refl _ _).drew)
            have y0 := HTD.out.rn.cell0.1
            have y0' := HT4.out.rn.cell0.1
            have HLn := Lib.hid (Len_any HTD.out.na)
            rw [← hlu] at HLn
            clear HT4 hlu
            go_wp2_with fail
            go_region_held3 (fun w' => w'.cell? ⟨q, 0, none⟩ = some (.slice Au lu cu)) (go_keep)
              ((go_at_call 18; refine HLn.out.mono ?_; rintro e w9 ⟨rfl, rfl⟩))
            all_goals go_wp2_with fail
            go_roundw
            case rel => exact ⟨j + 1, by go_num, by omega, Lib.hid ⟨_, _, _, _, HTD.out⟩⟩
            case measure => simp [intOf]; omega
    · obtain rfl : j = m := by omega
      obtain ⟨v, P, L, u, ht⟩ := HI.out
      go_wp2_with fail
      go_ret
      exact ⟨rfl, ht.below⟩
end Nw
end Go.Proofs.Ytedhmlggmfgpgaa
