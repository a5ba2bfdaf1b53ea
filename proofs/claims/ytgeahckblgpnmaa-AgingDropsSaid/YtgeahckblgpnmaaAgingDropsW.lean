/-
  AgingDrops: the walk.
-/
import Derived.Test.YtgeahckblgpnmaaAgG
set_option linter.unusedVariables false
set_option maxRecDepth 100000
namespace Go.Proofs.Ytgeahckblgpnmaa
namespace Ag
open Go.RowKit Bk

set_option maxHeartbeats 16000000 in
theorem agingDrops_walk (rb : Nat) (hrb : rb ≤ 255) (A : Option Addr) (n cap : Nat) (f : Nat → Nat × Int) (id : Int) (hid : -9223372036854775808 ≤ id ∧ id ≤ 9223372036854775807) (w : World) (h : Acts12 w.heap.size w A n cap f) (_ : True) :
    Calls Try.prog 8 #[.int .u8 (rb : Int), .slice A n cap, .int .i64 id] w fun e w' => e = .returned (.bool true) ∧ Below w.heap.size w w' := by
  have HA := Lib.hid h
  clear h
  obtain ⟨k, hk⟩ : ∃ k : Nat, k = rb % 21 := ⟨_, rfl⟩
  have hk2 : (rb : Int) % 21 = (k : Int) := by omega
  have hk3 : k ≤ 20 := by omega
  clear hk
  go_enter Try.func8, Try.ntmps8
  go_wp2_with fail
  refine (shown12_any _).mono ?_
  rintro e w1 ⟨rfl, hb1⟩
  have HB1 := Lib.hid hb1
  clear hb1
  go_wp2_with fail
  refine (new_ok k (by omega) w1).mono ?_
  rintro e w2 ⟨rfl, hq, hb⟩
  obtain ⟨g, hg⟩ : ∃ g, g = w1.heap.size := ⟨_, rfl⟩
  have HG : Hid (w.heap.size ≤ g) := Lib.hid (by rw [hg]; exact HB1.out.size)
  rw [← hg] at hq ⊢
  have HQ0 : Hid (St w2 g k 0) := Lib.hid ⟨_, _, _, hq, Nat.le_refl _⟩
  have HB2 := Lib.hid (HB1.out.trans (hb.mono HB1.out.size))
  clear hq hb hg HB1
  go_wp2_with (go_at_call 11; refine (few12_any A n cap _ HA.out.le HA.out.max HA.out.nil).mono ?_; rintro e w2' ⟨rfl, m, hm, hm2, rfl⟩)
  have hcs : m ≤ cap := Nat.le_trans hm HA.out.le
  have hcs2 : cap ≤ 9223372036854775807 := by have := HA.out.max; unfold maxLen at this; omega
  go_loopw [33] (fun iv wr => ∃ j : Nat, iv = .int .i64 (j : Int) ∧ j ≤ m ∧ Hid (St wr g k j) ∧ Hid (Below w.heap.size w wr)) (fun iv _ => m - (intOf iv).toNat)
  case atStart => exact ⟨0, rfl, Nat.zero_le _, HQ0, HB2⟩
  case round =>
    rename World => wr
    obtain ⟨j, rfl, hj, HS, HB⟩ := hrel
    by_cases hlj : j < m
    · obtain ⟨v, d, L, hq, hd⟩ := HS.out
      obtain ⟨ga, off, rfl, hga, hc⟩ := (HA.out.below HB.out).cell (by omega)
      obtain ⟨k0, k1⟩ := hc j (by omega)
      have hfit := HA.out.fits j (by omega)
      have hjI : (j : Int) < (m : Int) := by omega
      have hga2 : ga < wr.heap.size := Nat.lt_of_lt_of_le hga HB.out.size
      generalize f j = fj at *
      obtain ⟨q, x⟩ := fj
      have k0 : wr.cell? ⟨ga, off + j * 2, none⟩ = some (.int .u8 (q : Int)) := k0
      have k1 : wr.cell? ⟨ga, off + j * 2 + 1, none⟩ = some (.int .i64 x) := k1
      have hq255 : q ≤ 255 := hfit
      obtain ⟨b0, b1⟩ := act_cells wr q x
      have HAA := Lib.hid ((Below.refl wr.heap.size wr).alloc (Nat.le_refl _) (.cells #[.int .u8 (q : Int), .int .i64 x] 34))
      clear hc hga hfit
      have HQA := Lib.hid (hq.later HAA.out)
      have HD : Hid (d ≤ j ∧ m ≤ 300 ∧ j < m) := Lib.hid ⟨hd, hm2, hlj⟩
      have HBA := Lib.hid (HB.out.trans (HAA.out.mono HB.out.size))
      clear hq hd
      rcases (by omega : q % 3 = 0 ∨ q % 3 = 1 ∨ q % 3 = 2) with hr | hr | hr
      · have hrI : (q : Int) % 3 = 0 := by omega
        have HT := Lib.hid (Add_any HQA.out (by have := HD.out; omega) (Nat.le_of_lt HQA.out.lt) x)
        clear hr
        go_wp2_with fail
        refine HT.out.mono ?_
        intro e w4 h4
        obtain rfl := h4.ret
        have HS' : Hid (St w4 g k (j + 1)) := Lib.hid (h4.st (by have := (adD_le x d L).2; have := HD.out; omega))
        have HB' := Lib.hid (h4.below HQA.out HBA.out (Nat.le_refl _) HG.out)
        clear h4 HT
        go_wp2_with fail
        go_roundw
        case rel => exact ⟨j + 1, by go_num, by omega, HS', HB'⟩
        case measure => simp [intOf]; omega
      · have hrI : (q : Int) % 3 = 1 := by omega
        have HT := Lib.hid (Take_any HQA.out)
        unfold nxV at HT
        clear hr
        go_wp2_with fail
        refine HT.out.mono ?_
        intro e w4 h4
        obtain rfl := h4.ret
        have HS' : Hid (St w4 g k (j + 1)) := Lib.hid (h4.st (by have := HD.out; omega))
        have HB' := Lib.hid (h4.below HQA.out HBA.out (Nat.le_refl _) HG.out)
        clear h4 HT
        go_wp2_with fail
        go_roundw
        case rel => exact ⟨j + 1, by go_num, by omega, HS', HB'⟩
        case measure => simp [intOf]; omega
      · have hrI : (q : Int) % 3 = 2 := by omega
        have HT := Lib.hid (Drop_any HQA.out x)
        clear hr
        go_wp2_with fail
        refine HT.out.mono ?_
        intro e w4 h4
        obtain rfl := h4.ret
        have HS' : Hid (St w4 g k (j + 1)) := Lib.hid (h4.st (by have := HD.out; omega))
        have HB' := Lib.hid (h4.below HQA.out HBA.out (Nat.le_refl _) HG.out)
        clear h4 HT
        go_wp2_with fail
        go_roundw
        case rel => exact ⟨j + 1, by go_num, by omega, HS', HB'⟩
        case measure => simp [intOf]; omega
    · obtain rfl : j = m := by omega
      obtain ⟨v, d, L, hq, hd⟩ := HS.out
      have HQ := Lib.hid hq
      have HL := Lib.hid (All_any hq)
      clear hq hd
      go_wp2_with fail
      refine HL.out.mono ?_
      rintro e w5 ⟨A5, n5, c5, rfl, hn5, ho5, hb5⟩
      have HQ5 := Lib.hid (HQ.out.later hb5)
      have HB5 := Lib.hid (HB.out.trans (hb5.mono HB.out.size))
      have HW5 := Lib.hid ((ho5.wg).2)
      have HN5 := Lib.hid hn5
      have hs5 := Gt.size (ho5.wg).2
      have hs51 := hs5.1
      have hs52 := hs5.2
      have hf5 : n5 ≤ 64 := by rw [hn5]; exact HQ.out.ok.few
      clear hn5 ho5 hb5 HL HS HB hs5 HQ
      go_wp2_with fail
      go_loopw [12, 13, 58] (fun uv bv iv wz => ∃ (i : Nat) (A6 : Option Addr) (n6 c6 : Nat) (t : Bool), iv = .int .i64 (i : Int) ∧ uv = .slice A6 n6 c6 ∧ bv = .bool t ∧ i ≤ n5 ∧ Hid (t = any1 id (L.take i)) ∧ Hid (Below w5.heap.size w5 wz) ∧ Hid (n6 = (but id (L.take i)).length ∧ Ww wz w5.heap.size (.slice A6 n6 c6) (but id (L.take i)))) (fun _ _ iv _ => n5 - (intOf iv).toNat)
      case atStart => exact ⟨0, none, 0, 0, false, rfl, rfl, rfl, Nat.zero_le _, Lib.hid rfl, Lib.hid (Below.refl _ _), Lib.hid ⟨rfl, Ww.nil _ _⟩⟩
      case round =>
        rename World => wz
        obtain ⟨i, A6, n6, c6, t, rfl, rfl, rfl, hi, HT, HB, HO⟩ := hrel
        by_cases hli : i < n5
        · obtain ⟨ga, off, rfl, -, k0, k1, k2⟩ := (HW5.out.later HB.out).cell hli
          have hiI : (i : Int) < (n5 : Int) := by omega
          have HS := Lib.hid (any1_succ (n := id) (L := L) (i := i) (by rw [← HN5.out]; exact hli))
          have HS2 := Lib.hid (but_succ (n := id) (L := L) (i := i) (by rw [← HN5.out]; exact hli))
          obtain ⟨b0, b1, b2⟩ := box3_cells wz (wat L i).1 (wat L i).2.1 (wat L i).2.2
          have hA1 := (Below.refl wz.heap.size wz).alloc (Nat.le_refl _) (.cells #[.int .i64 (wat L i).1, .int .i64 (wat L i).2.1, .int .i64 (wat L i).2.2] 46)
          obtain ⟨y, hy⟩ : ∃ y, y = wat L i := ⟨_, rfl⟩
          rw [← hy] at HS HS2 k0 k1 k2 b0 b1 b2 hA1
          clear hy
          obtain ⟨x1, x2, x3⟩ := y
          simp only at k0 k1 k2 b0 b1 b2 hA1
          have HAA := Lib.hid hA1
          have HO1 := Lib.hid (HO.out.2.later hA1)
          have HB1 := Lib.hid (HB.out.trans (hA1.mono HB.out.size))
          by_cases he : x1 = id
          · have dE : (x1 == id) = true := by simp [he]
            have HT' : Hid (true = any1 id (L.take (i + 1))) := Lib.hid (by rw [HS.out]; simp [he])
            have hbt : but id (L.take (i + 1)) = but id (L.take i) := by rw [HS2.out, if_pos dE]
            have HO' : Hid (n6 = (but id (L.take (i + 1))).length ∧ Ww (wz.alloc (.cells #[.int .i64 x1, .int .i64 x2, .int .i64 x3] 46)) w5.heap.size (.slice A6 n6 c6) (but id (L.take (i + 1)))) := Lib.hid (by rw [hbt]; exact ⟨HO.out.1, HO1.out⟩)
            clear he hA1 hbt
            go_wp2_with fail
            go_roundw
            case rel => first | exact ⟨i + 1, A6, n6, c6, true, by go_num, rfl, rfl, by omega, HT', HB1, HO'⟩ | ((repeat apply Exists.intro); exact ⟨⟨i + 1, A6, n6, c6, true, by go_num, rfl, rfl, by omega, HT', HB1, HO'⟩, rfl⟩)
            case measure => simp [intOf]; omega
          · have dE : (x1 == id) = false := by simp [he]
            have HT' : Hid (t = any1 id (L.take (i + 1))) := Lib.hid (by rw [HS.out, ← HT.out]; simp [he])
            have hbt : but id (L.take (i + 1)) = but id (L.take i) ++ [(x1, x2, x3)] := by rw [HS2.out, if_neg (by simp [he])]
            obtain ⟨wa, hwa⟩ : ∃ wa, wa = wz.alloc (.cells #[.int .i64 x1, .int .i64 x2, .int .i64 x3] 46) := ⟨_, rfl⟩
            rw [← hwa] at HO1 HB1 HAA b0 b1 b2
            have hA2 := (Below.refl wa.heap.size wa).alloc (Nat.le_refl _) (.cells #[.int .i64 x1, .int .i64 x2, .int .i64 x3] 46)
            have HOne := Lib.hid (Wg.one wa x1 x2 x3)
            have HO2 := Lib.hid (HO1.out.later hA2)
            have HB2' := Lib.hid (HB1.out.trans (hA2.mono HB1.out.size))
            have hz1 : wa.heap.size = wz.heap.size + 1 := by rw [hwa]; simp
            have HZ := Lib.hid hz1
            have HBT := Lib.hid hbt
            have HLN : Hid ((but id (L.take i)).length ≤ 64) := Lib.hid (Nat.le_trans (List.length_filter_le _ _) (by rw [List.length_take]; omega))
            clear he hA1 hA2 hbt hz1
            obtain ⟨wb, hwb⟩ : ∃ wb, wb = wa.alloc (.cells #[.int .i64 x1, .int .i64 x2, .int .i64 x3] 46) := ⟨_, rfl⟩
            rw [← hwb] at HOne HO2 HB2'
            go_wp2_with (at_builtin; rw [← hwa]; rw [← hwb]; (first | rw [show wz.heap.size + 1 = wa.heap.size from HZ.out.symm] | skip); refine app_waits rfl _ _ rfl w5.heap.size _ _ rfl HO2.out (some ⟨wa.heap.size, 0, none⟩) 1 1 [(x1, x2, x3)] rfl HOne.out (by have := HLN.out; omega) HB2'.out.size ?_; intro A7 n7 c7 w7 hn7 ho7 hb7 _ _; have HN7 := Lib.hid hn7; have HO7 := Lib.hid ho7; have HB7 := Lib.hid hb7; clear hn7 ho7 hb7)
            have HO' : Hid (n7 = (but id (L.take (i + 1))).length ∧ Ww w7 w5.heap.size (.slice A7 n7 c7) (but id (L.take (i + 1)))) := Lib.hid (by rw [HBT.out]; exact ⟨HN7.out, HO7.out⟩)
            have HB' : Hid (Below w5.heap.size w5 w7) := Lib.hid (HB2'.out.trans HB7.out)
            go_roundw
            case rel => first | exact ⟨i + 1, A7, n7, c7, t, by go_num, rfl, rfl, by omega, HT', HB', HO'⟩ | ((repeat apply Exists.intro); exact ⟨⟨i + 1, A7, n7, c7, t, by go_num, rfl, rfl, by omega, HT', HB', HO'⟩, rfl⟩)
            case measure => simp [intOf]; omega
        · obtain rfl : i = n5 := by omega
          have htk : L.take i = L := List.take_of_length_le (by rw [← HN5.out]; exact Nat.le_refl _)
          rw [htk] at HT HO
          have HQz := Lib.hid (HQ5.out.later HB.out)
          have HD := Lib.hid (Drop_any HQz.out id)
          rw [drB_any, ← HT.out, drL_but HQz.out.ok.ids] at HD
          have HBz := Lib.hid (HB5.out.trans (HB.out.mono HB5.out.size))
          clear htk HT
          cases t
          all_goals
            go_wp2_with fail
            refine HD.out.mono ?_
            intro e w8 h8
            obtain rfl := h8.ret
            have HB8 := Lib.hid (h8.below HQz.out HBz.out (Nat.le_refl _) HG.out)
            obtain ⟨v8, -, h9, h10⟩ := h8
            have HQ8 := Lib.hid h9
            have HW8 := Lib.hid (HO.out.2.turn h10 (fun k hk => (HQ5.out.blocks k hk).2))
            clear h9 h10 HD
            go_wp2_with fail
            refine (All_any HQ8.out).mono ?_
            rintro e w9 ⟨A9, n9, c9, rfl, hn9, ho9, hb9⟩
            have HQ9 := Lib.hid (HQ8.out.later hb9)
            have HB9 := Lib.hid (HB8.out.trans (hb9.mono HB8.out.size))
            have hs9 : n9 = n6 := by rw [hn9, HO.out.1]
            subst hs9
            have HG9 := Lib.hid (And.intro (ho9.wg).2 ((HW8.out.later hb9).wg).2)
            have HF9 : Hid (n9 ≤ 64) := Lib.hid (by rw [hn9]; exact HQ8.out.ok.few)
            clear hn9 ho9 hb9
            go_wp2_with fail
            refine (same_yes A9 A6 n9 c9 c6 (but id L) w9 HG9.out.1 HG9.out.2 (by have := HF9.out; omega)).mono ?_
            rintro e w10 ⟨rfl, hb10⟩
            have HQ10 := Lib.hid (HQ9.out.later hb10)
            have HB10 := Lib.hid (HB9.out.trans (hb10.mono HB9.out.size))
            have HD := Lib.hid (Drop_any HQ10.out id)
            rw [drB_but] at HD
            clear hb10
            go_wp2_with fail
            refine HD.out.mono ?_
            intro e w11 h11
            obtain rfl := h11.ret
            have HB11 := Lib.hid (h11.below HQ10.out HB10.out (Nat.le_refl _) HG.out)
            clear h11 HD
            go_wp2_with fail
            go_ret
            exact ⟨rfl, HB11.out⟩
end Ag
end Go.Proofs.Ytgeahckblgpnmaa
