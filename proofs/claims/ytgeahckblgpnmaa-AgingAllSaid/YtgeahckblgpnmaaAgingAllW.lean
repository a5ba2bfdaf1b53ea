/-
  AgingAll: the walk.
-/
import Derived.Test.YtgeahckblgpnmaaAgM
set_option linter.unusedVariables false
set_option maxRecDepth 100000
namespace Go.Proofs.Ytgeahckblgpnmaa
namespace Ag
open Go.RowKit Bk

set_option maxHeartbeats 16000000 in
theorem agingAll_walk (rb : Nat) (hrb : rb ≤ 255) (A : Option Addr) (n cap : Nat) (f : Nat → Nat × Int) (w : World) (h : Acts12 w.heap.size w A n cap f) (_ : True) :
    Calls Try.prog 6 #[.int .u8 (rb : Int), .slice A n cap] w fun e w' => e = .returned (.bool true) ∧ Below w.heap.size w w' := by
  have HA := Lib.hid h
  clear h
  obtain ⟨k, hk⟩ : ∃ k : Nat, k = rb % 21 := ⟨_, rfl⟩
  have hk2 : (rb : Int) % 21 = (k : Int) := by omega
  have hk3 : k ≤ 20 := by omega
  clear hk
  go_enter Try.func6, Try.ntmps6
  go_wp2_with fail
  refine (shown12_any _).mono ?_
  rintro e w1 ⟨rfl, hb1⟩
  have HB1 := Lib.hid hb1
  clear hb1
  go_wp2_with fail
  refine (new_ok k (by omega) w1).mono ?_
  rintro e w2 ⟨rfl, hq, hb⟩
  obtain ⟨g, hg⟩ : ∃ g, g = w1.heap.size := ⟨_, rfl⟩
  have HG : Hid (w.heap.size ≤ g) := Lib.hid (by rw [hg]; exact HB1.out.size)
  rw [← hg] at hq ⊢
  have HQ0 : Hid (St w2 g k 0) := Lib.hid ⟨_, _, _, hq, Nat.le_refl _⟩
  have HB2 := Lib.hid (HB1.out.trans (hb.mono HB1.out.size))
  clear hq hb hg HB1
  go_wp2_with (go_at_call 11; refine (few12_any A n cap _ HA.out.le HA.out.max HA.out.nil).mono ?_; rintro e w2' ⟨rfl, m, hm, hm2, rfl⟩)
  have hcs : m ≤ cap := Nat.le_trans hm HA.out.le
  have hcs2 : cap ≤ 9223372036854775807 := by have := HA.out.max; unfold maxLen at this; omega
  go_loopw [34] (fun iv wr => ∃ j : Nat, iv = .int .i64 (j : Int) ∧ j ≤ m ∧ Hid (St wr g k j) ∧ Hid (Below w.heap.size w wr)) (fun iv _ => m - (intOf iv).toNat)
  case atStart => exact ⟨0, rfl, Nat.zero_le _, HQ0, HB2⟩
  case round =>
    rename World => wr
    obtain ⟨j, rfl, hj, HS, HB⟩ := hrel
    by_cases hlj : j < m
    · obtain ⟨v, d, L, hq, hd⟩ := HS.out
      obtain ⟨ga, off, rfl, hga, hc⟩ := (HA.out.below HB.out).cell (by omega)
      obtain ⟨k0, k1⟩ := hc j (by omega)
      have hfit := HA.out.fits j (by omega)
      have hjI : (j : Int) < (m : Int) := by omega
      have hga2 : ga < wr.heap.size := Nat.lt_of_lt_of_le hga HB.out.size
      generalize f j = fj at *
      obtain ⟨q, x⟩ := fj
      have k0 : wr.cell? ⟨ga, off + j * 2, none⟩ = some (.int .u8 (q : Int)) := k0
      have k1 : wr.cell? ⟨ga, off + j * 2 + 1, none⟩ = some (.int .i64 x) := k1
      have hq255 : q ≤ 255 := hfit
      obtain ⟨b0, b1⟩ := act_cells wr q x
      have HAA := Lib.hid ((Below.refl wr.heap.size wr).alloc (Nat.le_refl _) (.cells #[.int .u8 (q : Int), .int .i64 x] 34))
      clear hc hga hfit
      have HQA := Lib.hid (hq.later HAA.out)
      have HD : Hid (d ≤ j ∧ m ≤ 300 ∧ j < m) := Lib.hid ⟨hd, hm2, hlj⟩
      have HBA := Lib.hid (HB.out.trans (HAA.out.mono HB.out.size))
      clear hq hd
      rcases (by omega : q % 3 = 0 ∨ q % 3 = 1 ∨ q % 3 = 2) with hr | hr | hr
      · have hrI : (q : Int) % 3 = 0 := by omega
        have HT := Lib.hid (Add_any HQA.out (by have := HD.out; omega) (Nat.le_of_lt HQA.out.lt) x)
        clear hr
        go_wp2_with fail
        refine HT.out.mono ?_
        intro e w4 h4
        obtain rfl := h4.ret
        have HS' : Hid (St w4 g k (j + 1)) := Lib.hid (h4.st (by have := (adD_le x d L).2; have := HD.out; omega))
        have HB' := Lib.hid (h4.below HQA.out HBA.out (Nat.le_refl _) HG.out)
        clear h4 HT
        go_wp2_with fail
        go_roundw
        case rel => exact ⟨j + 1, by go_num, by omega, HS', HB'⟩
        case measure => simp [intOf]; omega
      · have hrI : (q : Int) % 3 = 1 := by omega
        have HT := Lib.hid (Take_any HQA.out)
        unfold nxV at HT
        clear hr
        go_wp2_with fail
        refine HT.out.mono ?_
        intro e w4 h4
        obtain rfl := h4.ret
        have HS' : Hid (St w4 g k (j + 1)) := Lib.hid (h4.st (by have := HD.out; omega))
        have HB' := Lib.hid (h4.below HQA.out HBA.out (Nat.le_refl _) HG.out)
        clear h4 HT
        go_wp2_with fail
        go_roundw
        case rel => exact ⟨j + 1, by go_num, by omega, HS', HB'⟩
        case measure => simp [intOf]; omega
      · have hrI : (q : Int) % 3 = 2 := by omega
        have HT := Lib.hid (Drop_any HQA.out x)
        clear hr
        go_wp2_with fail
        refine HT.out.mono ?_
        intro e w4 h4
        obtain rfl := h4.ret
        have HS' : Hid (St w4 g k (j + 1)) := Lib.hid (h4.st (by have := HD.out; omega))
        have HB' := Lib.hid (h4.below HQA.out HBA.out (Nat.le_refl _) HG.out)
        clear h4 HT
        go_wp2_with fail
        go_roundw
        case rel => exact ⟨j + 1, by go_num, by omega, HS', HB'⟩
        case measure => simp [intOf]; omega
    · obtain rfl : j = m := by omega
      obtain ⟨v, d, L, hq, hd⟩ := HS.out
      have hmk := makeMapB
      have hA0 := (Below.refl wr.heap.size wr).alloc (Nat.le_refl _) (.map #[] 0)
      have HQ0' := Lib.hid (hq.later hA0)
      have HK0 := Lib.hid (KM.made (plainElem Try.prog 4) wr uB)
      have HB0 := Lib.hid (HB.out.trans (hA0.mono HB.out.size))
      have HDD : Hid (d ≤ 1000000) := Lib.hid (by omega)
      obtain ⟨bm, hbm⟩ : ∃ bm, bm = wr.heap.size := ⟨_, rfl⟩
      have HBM : Hid (w.heap.size ≤ bm) := Lib.hid (by rw [hbm]; exact HB.out.size)
      obtain ⟨wm, hwm⟩ : ∃ wm, wm = wr.alloc (.map #[] 0) := ⟨_, rfl⟩
      rw [← hwm] at HQ0' HK0 HB0
      rw [← hbm] at HK0
      have HL := Lib.hid (All_any HQ0'.out)
      clear hq hd hA0 HS HB HQ0
      go_wp2_with fail
      rw [← hwm]
      refine HL.out.mono ?_
      rintro e w5 ⟨A5, n5, c5, rfl, hn5, ho5, hb5⟩
      have HQ5 := Lib.hid (HQ0'.out.later hb5)
      have HB5 := Lib.hid (HB0.out.trans (hb5.mono HB0.out.size))
      have HK5 := Lib.hid (HK0.out.later hb5)
      have HO5 := Lib.hid (ho5.lower (Nat.zero_le _))
      have HN5 := Lib.hid hn5
      have hs5 := Gt.size (ho5.wg).2
      have hs51 := hs5.1
      have hs52 := hs5.2
      have hf5 : n5 ≤ 64 := by rw [hn5]; exact HQ0'.out.ok.few
      clear hn5 ho5 hb5 HL hs5 hmk HK0 HB0
      rw [← hbm]
      clear hwm hbm
      go_wp2_with fail
      go_loopw [60] (fun iv wz => ∃ i : Nat, iv = .int .i64 (i : Int) ∧ i ≤ n5 ∧ Hid (KM (plainElem Try.prog 4) wz bm i (nos (L.take i)) uB ∧ QAt wz g g v k d L) ∧ Hid (Below w.heap.size w wz ∧ Ww wz 0 (.slice A5 n5 c5) L)) (fun iv _ => n5 - (intOf iv).toNat)
      case atStart => exact ⟨0, rfl, Nat.zero_le _, Lib.hid ⟨HK5.out, HQ5.out⟩, Lib.hid ⟨HB5.out, HO5.out⟩⟩
      case round =>
        rename World => wz
        obtain ⟨i, rfl, hi, HK, HO⟩ := hrel
        by_cases hli : i < n5
        · obtain ⟨ga2, off2, rfl, -, k0', k1', k2'⟩ := ((HO.out.2).wg.2).cell hli
          have hiI : (i : Int) < (n5 : Int) := by omega
          have hiL : i < L.length := by rw [← HN5.out]; exact hli
          obtain ⟨c0, c1, c2⟩ := box3_cells wz (wat L i).1 (wat L i).2.1 (wat L i).2.2
          have hA1 := (Below.refl wz.heap.size wz).alloc (Nat.le_refl _) (.cells #[.int .i64 (wat L i).1, .int .i64 (wat L i).2.1, .int .i64 (wat L i).2.2] 46)
          have hK1 := HK.out.1.later hA1
          obtain ⟨w', hrun, hK2, hg2⟩ := hK1.put Try.underlying48 (by omega) (nos_iw HQ5.out.ok HDD.out hiL) (plainElem_bool (H := Unit) Try.underlying4 true) (nos_new HQ5.out.ok hiL)
          have HK' : Hid (KM (plainElem Try.prog 4) w' bm (i + 1) (nos (L.take (i + 1))) uB ∧ QAt w' g g v k d L) := Lib.hid ⟨hK2.congr (nos_take hiL) (fun x _ => by show uB x = if _ then _ else _; unfold uB; split <;> rfl), (HK.out.2.later hA1).map hK1 hg2⟩
          have HO' : Hid (Below w.heap.size w w' ∧ Ww w' 0 (.slice (some ⟨ga2, off2, none⟩) n5 c5) L) := Lib.hid ⟨below_map (HO.out.1.trans (hA1.mono HO.out.1.size)) hg2 HBM.out (Nat.le_refl _), (HO.out.2.later hA1).map hK1 hg2⟩
          clear hA1 hK1 hK2 hg2 hiL
          generalize (wat L i).1 = x1 at *
          generalize (wat L i).2.1 = x2 at *
          generalize (wat L i).2.2 = x3 at *
          go_wp2_with fail
          go_roundw
          case rel => first | exact ⟨i + 1, by go_num, by omega, HK', HO'⟩ | ((repeat apply Exists.intro); exact ⟨⟨i + 1, by go_num, by omega, HK', HO'⟩, rfl⟩)
          case measure => simp [intOf]; omega
        · obtain rfl : i = n5 := by omega
          have HL := Lib.hid (All_any HK.out.2)
          go_wp2_with fail
          refine HL.out.mono ?_
          rintro e w6 ⟨A6, n6, c6, rfl, hn6, ho6, hb6⟩
          have htk : L.take i = L := List.take_of_length_le (by rw [← HN5.out]; exact Nat.le_refl _)
          have HS6 : Hid (∃ M v, QAt w6 g g v k d M ∧ KM (plainElem Try.prog 4) w6 bm i (nos M) uB ∧ M.length + 0 = n6) := Lib.hid ⟨L, v, HK.out.2.later hb6, by have := HK.out.1.later hb6; rwa [htk] at this, by omega⟩
          have HB6 := Lib.hid (HO.out.1.trans (hb6.mono HO.out.1.size))
          have hf6 : n6 ≤ 64 := by rw [hn6]; exact HK.out.2.ok.few
          have hs6 := Gt.size (ho6.wg).2
          have hs61 := hs6.1
          have hs62 := hs6.2
          clear hn6 ho6 hb6 htk HL HK HO hs6
          go_wp2_with fail
          go_loopw [71] (fun iv wy => ∃ i' : Nat, iv = .int .i64 (i' : Int) ∧ i' ≤ n6 ∧ Hid (∃ M v, QAt wy g g v k d M ∧ KM (plainElem Try.prog 4) wy bm i (nos M) uB ∧ M.length + i' = n6) ∧ Hid (Below w.heap.size w wy)) (fun iv _ => n6 - (intOf iv).toNat)
          case atStart => exact ⟨0, rfl, Nat.zero_le _, HS6, HB6⟩
          case round =>
            rename World => wy
            obtain ⟨i', rfl, hi', HS, HBy⟩ := hrel
            obtain ⟨M, v', hq', hk', hM⟩ := HS.out
            have HQM := Lib.hid hq'
            have HKM := Lib.hid hk'
            have HMN := Lib.hid hM
            have HT := Lib.hid (Take_any hq')
            clear hq' hk' HS
            by_cases hli' : i' < n6
            · have hiI : (i' : Int) < (n6 : Int) := by omega
              have hne : M ≠ [] := by intro e; rw [e, List.length_nil] at hM; omega
              have hB : nxB k M = true := nxB_iff.2 hne
              unfold nxV at HT
              rw [hB] at HT
              have HIW : Hid (IW (nxN k M)) := Lib.hid (by
                obtain ⟨x, hx, e⟩ := List.mem_map.1 (nxN_mem (s := k) hne)
                have := HQM.out.ok.old x hx
                have := HDD.out
                unfold IW; omega)
              have HIN : Hid (decide (nxN k M ∈ nos M) = true) := Lib.hid (decide_eq_true (nxN_mem hne))
              have HNT : Hid (nos (tkL k M) = (nos M).erase (nxN k M)) := Lib.hid (nos_tk HQM.out.ok hne)
              have HTL : Hid ((tkL k M).length + 1 = M.length) := Lib.hid (tk_len hne)
              clear hne hB hM
              generalize nxN k M = ID at *
              go_wp2_with fail
              refine HT.out.mono ?_
              intro e w7 h7
              obtain rfl := h7.ret
              have HB7 := Lib.hid (h7.below HQM.out HBy.out (Nat.le_refl _) HG.out)
              obtain ⟨v7, -, h8, h9⟩ := h7
              have HQ7 := Lib.hid h8
              have HK7 := Lib.hid (HKM.out.queue HQM.out h9)
              have hask := HK7.out.ask HIW.out HIN.out
              clear h8 h9 HT
              go_wp2_with (at_delete; refine km_del _ rfl _ _ 48 rfl 4 Try.underlying48 rfl HK7.out (nos_nodup HQM.out.ok) ID HIW.out rfl ?_; intro w8 hk8 hg8; have HK8 := Lib.hid hk8; have HQ8 := Lib.hid (HQ7.out.map HK7.out hg8); have HB8 := Lib.hid (below_map HB7.out hg8 HBM.out (Nat.le_refl _)); clear hk8 hg8)
              have HS' : Hid (∃ M v, QAt w8 g g v k d M ∧ KM (plainElem Try.prog 4) w8 bm i (nos M) uB ∧ M.length + (i' + 1) = n6) := Lib.hid ⟨_, v7, HQ8.out, by rw [HNT.out]; exact HK8.out, by have := HTL.out; have := HMN.out; omega⟩
              go_roundw
              case rel => first | exact ⟨i' + 1, by go_num, by omega, HS', HB8⟩ | ((repeat apply Exists.intro); exact ⟨⟨i' + 1, by go_num, by omega, HS', HB8⟩, rfl⟩)
              case measure => simp [intOf]; omega
            · obtain rfl : i' = n6 := by omega
              obtain rfl : M = [] := List.eq_nil_of_length_eq_zero (by omega)
              have hV : nxV k [] = .tuple #[.int .i64 0, .bool false] := rfl
              rw [hV] at HT
              clear hV
              go_wp2_with fail
              refine HT.out.mono ?_
              intro e w7 h7
              obtain rfl := h7.ret
              have HB7 := Lib.hid (h7.below HQM.out HBy.out (Nat.le_refl _) HG.out)
              obtain ⟨v7, -, h8, h9⟩ := h7
              have HQ7 : Hid (QAt w7 g g v7 k d []) := Lib.hid h8
              have HK7 := Lib.hid (HKM.out.queue HQM.out h9)
              have hlen := fun ty => HK7.out.len_run Try.underlying48 ty
              have hlen : ∀ ty, (Builtin.len_ #[48] ty #[.map (some bm)]).run Try.prog w7 = .ok (.int .i64 0) w7 := hlen
              clear h8 h9 HT
              go_wp2_with fail
              refine (Len_any HQ7.out).mono ?_
              rintro e w8 ⟨rfl, rfl⟩
              go_wp2_with fail
              go_ret
              exact ⟨rfl, HB7.out⟩
end Ag
end Go.Proofs.Ytgeahckblgpnmaa
