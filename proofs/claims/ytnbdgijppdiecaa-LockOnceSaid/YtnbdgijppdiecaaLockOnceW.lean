/-
  LockOnce: the walk.
-/
import Derived.Test.YtnbdgijppdiecaaLkH
set_option linter.unusedVariables false
set_option maxRecDepth 100000
namespace Go.Proofs.Ytnbdgijppdiecaa
namespace Lk
open Go.RowKit Bk

set_option maxHeartbeats 8000000 in
theorem lockOnce_walk (A : Option Addr) (n cap : Nat) (f : Nat → Bool × Int × Int) (w : World) (h : Acts9 w.heap.size w A n cap f) (_ : True) :
    Calls Try.prog 4 #[.slice A n cap] w fun e w' => e = .returned (.bool true) ∧ Below w.heap.size w w' := by
  have HA := Lib.hid h
  clear h
  go_enter Try.func4, Try.ntmps4
  go_wp2_with fail
  refine (shown9_any _).mono ?_
  rintro e w1 ⟨rfl, hb1⟩
  have HB1 := Lib.hid hb1
  have HN := Lib.hid (LkAt.new w1)
  have HAL := Lib.hid (hb1.trans ((Below.refl w1.heap.size w1).alloc (Nat.le_refl _) (.cells (ocl T0).toArray 51) |>.mono hb1.size))
  clear hb1
  go_wp2_with fail
  refine (new9_any _).mono ?_
  rintro e w2 ⟨rfl, hw2⟩
  rw [← hw2] at HN HAL
  clear hw2
  obtain ⟨g, hg⟩ : ∃ g, g = w1.heap.size := ⟨_, rfl⟩
  have HG : Hid (w.heap.size ≤ g) := Lib.hid (by rw [hg]; exact HB1.out.size)
  rw [← hg] at HN ⊢
  clear hg HB1
  go_wp2_with (go_at_call 9; refine (few9_any A n cap _ HA.out.le HA.out.max HA.out.nil).mono ?_; rintro e w2' ⟨rfl, m, hm, hm2, rfl⟩)
  have hcs : m ≤ cap := Nat.le_trans hm HA.out.le
  have hcs2 : cap ≤ 9223372036854775807 := by have := HA.out.max; unfold maxLen at this; omega
  go_loopw [24] (fun iv wr => ∃ j : Nat, iv = .int .i64 (j : Int) ∧ j ≤ m ∧ Hid (∃ T, LkAt wr g T) ∧ Hid (Below w.heap.size w wr)) (fun iv _ => m - (intOf iv).toNat)
  case atStart => exact ⟨0, rfl, Nat.zero_le _, Lib.hid ⟨_, HN.out⟩, HAL⟩
  case round =>
    rename World => wr
    obtain ⟨j, rfl, hj, HT, HB⟩ := hrel
    by_cases hlj : j < m
    · obtain ⟨T', hT⟩ := HT.out
      obtain ⟨ga, off, rfl, hga, hc⟩ := (HA.out.below HB.out).cell (by omega)
      obtain ⟨k0, k1, k2⟩ := hc j (by omega)
      have hjI : (j : Int) < (m : Int) := by omega
      have hga2 : ga < wr.heap.size := Nat.lt_of_lt_of_le hga HB.out.size
      generalize f j = fj at *
      obtain ⟨q, r, z⟩ := fj
      have k0 : wr.cell? ⟨ga, off + j * 3, none⟩ = some (.bool q) := k0
      have k1 : wr.cell? ⟨ga, off + j * 3 + 1, none⟩ = some (.int .i64 r) := k1
      have k2 : wr.cell? ⟨ga, off + j * 3 + 2, none⟩ = some (.int .i64 z) := k2
      have HAA := Lib.hid ((Below.refl wr.heap.size wr).alloc (Nat.le_refl _) (.cells #[.bool q, .int .i64 r, .int .i64 z] 32))
      have HTA := Lib.hid (hT.later HAA.out)
      have HBA := Lib.hid (HB.out.trans (HAA.out.mono HB.out.size))
      have HDO := Lib.hid (does9_any HTA.out q r z)
      generalize (act9 T' q r z) = pa at *
      obtain ⟨ee, T⟩ := pa
      clear hc hT hga HT
      go_wp2_with fail
      refine HDO.out.mono ?_
      rintro e w4 ⟨rfl, h4, o4⟩
      have h4 : LkAt w4 g T := h4
      have HB4 := Lib.hid (HBA.out.trans (o4.below HBA.out.size HG.out))
      have HAM := Lib.hid (AtM.new w4)
      have HA5 := Lib.hid ((Below.refl w4.heap.size w4).alloc (Nat.le_refl _) (.cells (acl fun _ => 0).toArray 43))
      have H5 := Lib.hid (h4.later HA5.out)
      obtain ⟨M, hM⟩ : ∃ M, M = w4.heap.size := ⟨_, rfl⟩
      have HMB : Hid (w.heap.size ≤ M) := Lib.hid (by rw [hM]; exact HB4.out.size)
      have HB5 := Lib.hid (HB4.out.trans (HA5.out.mono HB4.out.size))
      rw [← hM] at HAM
      obtain ⟨w5, hw5⟩ : ∃ w5, w5 = w4.alloc (.cells (acl fun _ => 0).toArray 43) := ⟨_, rfl⟩
      rw [← hw5] at HAM H5 HB5
      have hw5' : w4.alloc (.cells #[.int .i64 0, .int .i64 0, .int .i64 0, .int .i64 0, .int .i64 0, .int .i64 0, .int .i64 0, .int .i64 0, .int .i64 0, .int .i64 0, .int .i64 0, .int .i64 0, .int .i64 0, .int .i64 0, .int .i64 0, .int .i64 0, .int .i64 0, .int .i64 0, .int .i64 0, .int .i64 0, .int .i64 0, .int .i64 0, .int .i64 0, .int .i64 0, .int .i64 0, .int .i64 0] 43) = w5 := hw5.symm
      clear h4 o4 HA5 hw5
      go_wp2_with fail
      rw [← hM]
      refine (free9_any H5.out).mono ?_
      rintro e w6 ⟨A6, n6, c6, rfl, hn6, ho6, hb6⟩
      have H6 := Lib.hid (H5.out.later hb6)
      have HM6 := Lib.hid (HAM.out.later hb6)
      have HB6 := Lib.hid hb6
      have HA7 := Lib.hid ((Below.refl w6.heap.size w6).alloc (Nat.le_refl _) (.cells #[.slice A6 n6 c6] 39))
      have HL7 : Hid (Ls9 (w6.alloc (.cells #[.slice A6 n6 c6] 39)) w5.heap.size (.slice (some ⟨w6.heap.size, 0, none⟩) 1 1) (lls T 1)) := Lib.hid (Ls9.one (iw_low9 ho6 (Nat.le_refl _)) hb6.size)
      have HB7 := Lib.hid (hb6.trans (HA7.out.mono hb6.size))
      clear hn6 ho6 hb6 hM hw5'
      go_wp2_with fail
      go_loopw [8, 34] (fun lv iv wz => ∃ (i : Nat) (Al : Option Addr) (cl : Nat), i ≤ 8 ∧ lv = .slice Al (i + 1) cl ∧ iv = .int .i64 (i : Int) ∧ Hid (Ls9 wz w5.heap.size (.slice Al (i + 1) cl) (lls T (i + 1)) ∧ Below w5.heap.size w5 wz)) (fun _ iv _ => 8 - (intOf iv).toNat)
      case atStart => exact ⟨0, _, _, by omega, rfl, rfl, Lib.hid ⟨HL7.out, HB7.out⟩⟩
      case round =>
        rename World => wz
        obtain ⟨i, Al, cl, hi, rfl, rfl, HI⟩ := hrel
        have HTz := Lib.hid (H5.out.later HI.out.2)
        by_cases hli : i < 8
        · have hi8 : (i : Int) < 8 := by omega
          go_wp2_with fail
          refine (of9_any HTz.out (i : Int)).mono ?_
          rintro e w8 ⟨A8, n8, c8, rfl, hn8, ho8, hb8⟩
          have HLz := Lib.hid (HI.out.1.later hb8)
          have HB8 := Lib.hid (HI.out.2.trans (hb8.mono HI.out.2.size))
          have HO8 := Lib.hid (iw_low9 ho8 HI.out.2.size)
          have HA9 := Lib.hid ((Below.refl w8.heap.size w8).alloc (Nat.le_refl _) (.cells #[.slice A8 n8 c8] 39))
          have H19 := Lib.hid (one9 w8 A8 n8 c8)
          have HS9 : Hid (w5.heap.size ≤ (w8.alloc (.cells #[.slice A8 n8 c8] 39)).heap.size) := Lib.hid (Nat.le_trans HB8.out.size HA9.out.size)
          have HLL : Hid ((lls T (i + 1)).length + 1 ≤ 1000000) := Lib.hid (by rw [lls_len]; omega)
          have HE : Hid (lls T (i + 1 + 1) = lls T (i + 1) ++ [zns T ((i : Int), true) 26]) := Lib.hid (lls_succ T (i + 1))
          clear hn8 ho8 hb8
          go_wp2_with (at_builtin; refine app_list rfl _ _ rfl w5.heap.size _ (lls T (i + 1)) rfl (HLz.out.later HA9.out) ⟨w8.heap.size, 0, none⟩ A8 n8 c8 _ rfl H19.out (HO8.out.later HA9.out) HLL.out HS9.out ?_; intro A10 n10 c10 w10 hn10 hl10 hb10; have HN10 := Lib.hid hn10; have HK10 := Lib.hid (And.intro hl10 ((HB8.out.trans (HA9.out.mono HB8.out.size)).trans hb10)); clear hn10 hl10 hb10)
          have HN11 : Hid (n10 = i + 1 + 1) := Lib.hid (by rw [HN10.out, List.length_append, lls_len]; rfl)
          go_roundw
          case rel => exact ⟨i + 1, A10, c10, by omega, by rw [HN11.out], by go_num, Lib.hid ⟨by rw [HE.out, ← HN11.out]; exact HK10.out.1, HK10.out.2⟩⟩
          case measure => simp [intOf]; omega
        · obtain rfl : i = 8 := by omega
          have HLz := Lib.hid HI.out.1
          have HMz := Lib.hid ((HAM.out.later HI.out.2).congr (f' := cntM T 0 0) (fun z hz => (cnt_start T z).symm))
          have HBz := Lib.hid (HB5.out.trans (HI.out.2.mono HB5.out.size))
          have HTB := Lib.hid HTz.out.tb
          obtain ⟨-, hlc1, hlc2, -⟩ := HI.out.1.cell (i := 0) (by rw [lls_len]; omega)
          unfold maxLen at hlc2
          clear HI HL7 HB7 HA7 HB6 H6 HM6 HAM H5
          go_wp2_with fail
          go_loopw [46] (fun iv wy => ∃ i : Nat, i ≤ 9 ∧ iv = .int .i64 (i : Int) ∧ Hid (AtM wy M (cntM T i 0) ∧ Only M wz wy)) (fun iv _ => 9 - (intOf iv).toNat)
          case atStart => exact ⟨0, by omega, rfl, Lib.hid ⟨HMz.out, Only.refl _ _⟩⟩
          case round =>
            rename World => wy
            obtain ⟨i, hi, rfl, HI⟩ := hrel
            by_cases hli : i < 9
            · obtain ⟨-, -, -, gl, offl, A7, n7, c7, e7, hgl, hcl, hn7, ho7⟩ := (HLz.out.onlyM HMz.out HI.out.2).cell (i := i) (by rw [lls_len]; exact hli)
              subst e7
              rw [lls_get T hli] at hn7 ho7
              have HO7 := Lib.hid ho7
              have HN7 := Lib.hid hn7
              have hs7 := (Gt.size ho7.lt.2).2
              have hs8 := (Gt.size ho7.lt.2).1
              have hn26 : n7 ≤ 26 := by rw [hn7]; exact zns_len _ _ _
              have hi8 : (i : Int) < 9 := by omega
              have hi0 : (0 : Int) ≤ (i : Int) := by omega
              clear ho7 hn7
              go_wp2_with fail
              go_loopw [53] (fun kv wx => ∃ k : Nat, k ≤ n7 ∧ kv = .int .i64 (k : Int) ∧ Hid (AtM wx M (cntM T i k) ∧ Only M wy wx)) (fun kv _ => n7 - (intOf kv).toNat)
              case atStart => exact ⟨0, by omega, rfl, Lib.hid ⟨HI.out.1, Only.refl _ _⟩⟩
              case round =>
                rename World => wx
                obtain ⟨k, hk, rfl, HK⟩ := hrel
                by_cases hlk : k < n7
                · have ho := own_onlyM HO7.out HI.out.1 (by decide) HK.out.2
                  obtain ⟨g9, o9, e9, hg9, k1⟩ := (show Iw wx w5.heap.size (.slice A7 n7 c7) (zns T (ownr i) 26) from ho).lt.2.cell hlk
                  subst e9
                  have hkl : k < (zns T (ownr i) 26).length := by rw [← HN7.out]; exact hlk
                  have hzm : (zns T (ownr i) 26).getD k 0 ∈ zns T (ownr i) 26 := by rw [List.getD, List.getElem?_eq_getElem hkl]; exact List.getElem_mem hkl
                  obtain ⟨z, hz⟩ := Int.eq_ofNat_of_zero_le (mem_zns.1 hzm).1
                  rw [hz] at k1
                  obtain ⟨hz26, hTz, hc0, hcs⟩ := cnt_step HTB.out hkl hz
                  obtain ⟨m0, m1, m2⟩ := HK.out.1.cells hz26
                  rw [hc0] at m0
                  have HPUT := Lib.hid ((HK.out.1.put hz26 1).congr (f' := cntM T i (k + 1)) (fun y hy => (hcs y hy).symm))
                  have HOP : Hid (Only M wy (wx.setCell ⟨M, z, none⟩ (.int .i64 1))) := Lib.hid (Turn.put HK.out.2 _ rfl)
                  have HTP := Lib.hid ((HTz.out.onlyM HMz.out (HI.out.2.trans HOP.out)))
                  have HOW := Lib.hid (owner9_any HTP.out (z : Int))
                  rw [at9_nat T hz26, hTz] at HOW
                  have hkI : (k : Int) < (n7 : Int) := by omega
                  have hz0 : decide ((z : Int) < 0) = false := decide_eq_false (by omega)
                  have hz1 : decide ((26 : Int) ≤ (z : Int)) = false := decide_eq_false (by omega)
                  have hz1' : decide (26 ≤ z) = false := decide_eq_false (by omega)
                  have hz2 : (0 : Int) ≤ (z : Int) := by omega
                  have hz3 : (z : Int) < 26 := by omega
                  clear ho hkl hzm hz hTz hc0 hcs
                  cases i with
                  | zero =>
                    go_wp2_with fail
                    refine HOW.out.mono ?_
                    rintro e w11 ⟨rfl, b11⟩
                    have HK11 := Lib.hid (And.intro (HPUT.out.later b11) (HOP.out.trans (Only.of b11)))
                    clear b11
                    unfold ownr
                    go_wp2_with fail
                    go_roundw
                    case rel =>
                      first
                      | exact ⟨k + 1, by omega, by go_num, HK11⟩
                      | ((repeat apply Exists.intro); exact ⟨⟨k + 1, by omega, by go_num, HK11⟩, rfl⟩)
                    case measure => simp [intOf]; omega
                  | succ i =>
                    have hd0 : decide (0 < ((i + 1 : Nat) : Int)) = true := decide_eq_true (by omega)
                    have hw1 : IntKind.i64.wrap (((i + 1 : Nat) : Int) - 1) = (i : Int) := by rw [IntWalk.i64_in _ (by omega)]; omega
                    have hii : (((i : Nat) : Int) != (i : Int)) = false := bne_self_eq_false _
                    rw [show ownr (i + 1) = ((i : Int), true) from rfl] at HOW
                    go_wp2_with fail
                    refine HOW.out.mono ?_
                    rintro e w11 ⟨rfl, b11⟩
                    have HK11 := Lib.hid (And.intro (HPUT.out.later b11) (HOP.out.trans (Only.of b11)))
                    clear b11
                    go_wp2_with fail
                    go_roundw
                    case rel =>
                      first
                      | exact ⟨k + 1, by omega, by go_num, HK11⟩
                      | ((repeat apply Exists.intro); exact ⟨⟨k + 1, by omega, by go_num, HK11⟩, rfl⟩)
                    case measure => simp [intOf]; omega
                · obtain rfl : k = n7 := by omega
                  have HNX : Hid (AtM wx M (cntM T (i + 1) 0) ∧ Only M wz wx) := Lib.hid ⟨HK.out.1.congr (fun z hz => by rw [HN7.out]; exact cnt_next HTB.out i hz), HI.out.2.trans HK.out.2⟩
                  go_wp2_with fail
                  go_roundw
                  case rel => exact ⟨i + 1, by omega, by go_num, HNX⟩
                  case measure => simp [intOf]; omega
            · obtain rfl : i = 9 := by omega
              go_wp2_with fail
              go_loopw [89] (fun iv wx => ∃ z : Nat, z ≤ 26 ∧ iv = .int .i64 (z : Int) ∧ wy = wx) (fun iv _ => 26 - (intOf iv).toNat)
              case atStart => exact ⟨0, by omega, rfl, rfl⟩
              case round =>
                rename World => wx
                obtain ⟨z, hz, rfl, rfl⟩ := hrel
                by_cases hlz : z < 26
                · obtain ⟨m0, m1, m2⟩ := HI.out.1.cells hlz
                  rw [cnt_end HTB.out hlz] at m0
                  have hz2 : (0 : Int) ≤ (z : Int) := by omega
                  have hz3 : (z : Int) < 26 := by omega
                  go_wp2_with fail
                  go_roundw
                  case rel => exact ⟨z + 1, by omega, by go_num, trivial⟩
                  case measure => simp [intOf]; omega
                · obtain rfl : z = 26 := by omega
                  have HEND : Hid ((∃ T, LkAt wy g T) ∧ Below w.heap.size w wy) := Lib.hid ⟨⟨T, HTz.out.onlyM HMz.out HI.out.2⟩, HBz.out.trans (HI.out.2.below HBz.out.size HMB.out)⟩
                  go_wp2_with fail
                  go_roundw
                  case rel => exact ⟨j + 1, by go_num, by omega, Lib.hid HEND.out.1, Lib.hid HEND.out.2⟩
                  case measure => simp [intOf]; omega
    · obtain rfl : j = m := by omega
      go_wp2_with fail
      go_ret
      exact ⟨rfl, HB.out⟩
end Lk
end Go.Proofs.Ytnbdgijppdiecaa
