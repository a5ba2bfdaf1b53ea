/-
  TopPlans: robots that plan one behind the other are never two in a cell at a moment; the walk.
  What a list of wants reads as.
-/
import Derived.Test.YtcdclghmebgpnaaGreatDoorTpOne
import Derived.BigQuiet
set_option linter.unusedVariables false
set_option maxRecDepth 100000
section
namespace Go.Proofs.YtcdclghmebgpnaaGreatDoor
open Go.RowKit Fl Pt
open Sp
open Wn (Tab TF frees isT Ordw IW Wt wcl plc Rising RT Rt R3 tkn rtk upd)

theorem run_makeMapC (w : World) : (Instr.makeMap 59 none).run Tryz.prog w = .ok (.map (some w.heap.size)) (w.alloc (.map #[] 0)) := by
  simp [Instr.makeMap, Result.andThen]
theorem wt_at8 {B : Nat} {w : World} {A : Option Addr} {n cap : Nat} {L : List (Int × Int)} (h : Wt B w A n cap L) {k : Nat} (hk : k < n) : ∃ g off, A = some ⟨g, off, none⟩ ∧ w.cell? ⟨g, off + k * 2, none⟩ = some (.int .i64 (L.getD k (0, 0)).1) ∧ w.cell? ⟨g, off + k * 2 + 1, none⟩ = some (.int .i64 (L.getD k (0, 0)).2) := by
  obtain ⟨g, off, e, hg, hc⟩ := h.cell (by omega)
  exact ⟨g, off, e, hc k hk⟩
set_option maxHeartbeats 16000000 in
theorem topPlans_walk (t : ByteArray) (ht : t.size ≤ maxLen) (A : Option Addr) (n cap : Nat) (L : List R3) (w : World) (hL : Rt w.heap.size w A n cap L) :
    Calls Tryz.prog 5 #[.string t, .slice A n cap] w fun e w' => e = .returned (.bool true) ∧ Below w.heap.size w w' := by
  have HFL := Lib.hid (fun wx => floors_any t ht wx)
  have HL := Lib.hid hL
  have hLc := hL.le
  have hLm := hL.size
  clear ht hL
  go_enter Tryz.func5, Tryz.ntmps5
  go_wp2_with fail
  refine (HFL.out _).mono ?_
  rintro e w1 ⟨W, H, c, rfl, hc, hb1⟩
  have HCZ := Lib.hid hc
  have hba := (Below.refl w1.heap.size w1).alloc (Nat.le_refl _) (.cells #[.int .i64 W, .int .i64 H, .string c] 23)
  have HB2 := Lib.hid (hb1.trans (hba.mono hb1.size))
  have HF2 := Lib.hid (Bf.new w1 W H c)
  have HPL := Lib.hid (fun fr st tz tb tN mv T tg wx hT => plan_any W H c (by have := HCZ.out; unfold maxLen; omega) fr st tz 40 tb tb tN mv T tg wx hT)
  have HDS := Lib.hid (fun fr wx => dist_any W H c (by have := HCZ.out; unfold maxLen; omega) fr none 0 0 (fun _ => 0) wx (Il.empty _ _ _))
  obtain ⟨D, hD⟩ : ∃ D, D = w1.heap.size := ⟨_, rfl⟩
  rw [← hD] at HF2
  clear hb1 hc hba HFL
  go_wp2_with fail
  rw [← hD]
  refine (Wn.new_any _).mono ?_
  rintro e w3 ⟨rfl, rfl⟩
  generalize w1.alloc (.cells #[.int .i64 W, .int .i64 H, .string c] 23) = w2 at *
  obtain ⟨w3, hw3⟩ : ∃ w3, w3 = w2.alloc (.cells #[.map none] 88) := ⟨_, rfl⟩
  have hsz3 : w3.heap.size = w2.heap.size + 1 := by rw [hw3]; exact alloc_size _ _
  have hb3 := (Below.refl w2.heap.size w2).alloc (Nat.le_refl _) (.cells #[.map none] 88)
  have ht3 := tab0 w2
  rw [← hw3] at hb3 ht3 ⊢
  have hb4 := (Below.refl w3.heap.size w3).alloc (Nat.le_refl _) (.map #[] 0)
  have HO : Hid (Out8 w D W H c w2.heap.size w3.heap.size 0 (w3.alloc (.map #[] 0))) := Lib.hid ⟨T0, fun _ _ => none, 0, 0, ⟨(HF2.out.later hb3).later hb4, ⟨0, none, _, ht3.later hb4, fun q => by
      rcases q with e | e | ⟨x, _, e, _⟩
      · omega
      · cases e
      · exact e rfl, Nat.le_refl _⟩, ⟨0, MapC.made w3, Nat.le_refl _⟩, (HB2.out.trans (hb3.mono HB2.out.size)).trans (hb4.mono (by have := HB2.out.size; omega)), ⟨HB2.out.size, by have := HB2.out.size; omega⟩⟩, Nat.le_refl _, Nat.le_refl _, fun x y _ _ h => absurd rfl h⟩
  have hmk := run_makeMapC w3
  obtain ⟨tb, htb⟩ : ∃ tb, tb = w2.heap.size := ⟨_, rfl⟩
  rw [← htb] at HO ⊢
  obtain ⟨b, hbb⟩ : ∃ b, b = w3.heap.size := ⟨_, rfl⟩
  rw [← hbb] at HO hmk
  generalize w3.alloc (.map #[] 0) = w4 at *
  clear htb hbb hw3 hsz3 hb3 ht3 hb4 hD HF2 HB2
  go_wp2_with fail
  clear hmk
  go_loopw [41] (fun iv wr => ∃ i : Nat, i ≤ n ∧ i ≤ 6 ∧ iv = .int .i64 (i : Int) ∧ Hid (Out8 w D W H c tb b i wr)) (fun iv _ => n - (intOf iv).toNat)
  case atStart => exact ⟨0, Nat.zero_le _, by omega, rfl, HO⟩
  case round =>
    rename World => wr
    obtain ⟨i, hi, hi6, rfl, HR⟩ := hrel
    by_cases hin : i < n
    · obtain ⟨g, off, eA, hg, hcs⟩ := (HL.out.below HR.out.below).cell (by omega)
      subst eA
      obtain ⟨q0, q1, q2⟩ := hcs i hin
      generalize L.getD i (0, 0, 0) = q at *
      obtain ⟨fr, tz, st⟩ := q
      have q0 : wr.cell? ⟨g, off + i * 3, none⟩ = some (.int .i64 fr) := q0
      have q1 : wr.cell? ⟨g, off + i * 3 + 1, none⟩ = some (.int .i64 tz) := q1
      have q2 : wr.cell? ⟨g, off + i * 3 + 2, none⟩ = some (.int .i64 st) := q2
      have hA := (Below.refl wr.heap.size wr).alloc (Nat.le_refl _) (.cells #[.int .i64 fr, .int .i64 tz, .int .i64 st] 61)
      have HOQ := Lib.hid (HR.out.later hA)
      have HBQ := Lib.hid (Bw8.new wr fr tz st)
      have hy0 : (0 : Int) ≤ (i : Int) := by omega
      have hy1 : (i : Int) < (n : Int) := by omega
      obtain ⟨z0, z1, z2, _⟩ := HBQ.out.cells
      clear hcs hA hg
      by_cases hi5 : 6 ≤ i
      · have hd1 : decide ((6 : Int) ≤ (i : Int)) = true := decide_eq_true (by omega)
        have hd2 : decide (6 ≤ i) = true := decide_eq_true hi5
        go_wp2_with fail
        go_ret
        exact ⟨rfl, HOQ.out.below⟩
      · have hd1 : decide ((6 : Int) ≤ (i : Int)) = false := decide_eq_false (by omega)
        have hd1' : decide (6 ≤ i) = false := decide_eq_false hi5
        by_cases hs0 : st < 0
        · have hd2 : decide (st < 0) = true := decide_eq_true hs0
          go_wp2_with fail
          go_ret
          exact ⟨rfl, HOQ.out.below⟩
        · have hd2 : decide (st < 0) = false := decide_eq_false hs0
          by_cases hs1 : 100 < st
          · have hd3 : decide (100 < st) = true := decide_eq_true hs1
            go_wp2_with fail
            go_ret
            exact ⟨rfl, HOQ.out.below⟩
          · have hd3 : decide (100 < st) = false := decide_eq_false hs1
            obtain ⟨f0, f1, f2, _⟩ := HOQ.out.bf.cells
            obtain ⟨E, hE⟩ : ∃ E, E = wr.heap.size := ⟨_, rfl⟩
            rw [← hE] at HBQ z0 z1 z2
            go_wp2_with fail
            rw [← hE]
            generalize wr.alloc (.cells #[.int .i64 fr, .int .i64 tz, .int .i64 st] 61) = wq at *
            clear hE f0 f1 f2 z0 z1 z2 hd1 hd1' hd2 hd3 q0 q1 q2
            obtain ⟨T, m, N, K, hs, hN, hK, hM⟩ := HOQ.out
            obtain ⟨tN, mv, tg, hk, hnf, htn⟩ := hs.tk
            refine (HPL.out fr st tz _ _ _ _ _ _ hk).mono ?_
            rintro e w5 ⟨A5, n5, k5, P, er, rfl, hn5, hs5, hb5, hp5, hl5, her5⟩
            have HPQ : Hid (er = 0 → P ≠ [] → Pq W H c fr st tz T P) := Lib.hid (fun e hne => pq_of hk.ord (fun y => Nat.le_trans (hk.tab.small y) hk.few) (by rw [← e]; exact hp5) hne)
            have HOUT := Lib.hid (HOQ.out.later hb5)
            have HIN : Hid (In8 w D E W H c fr tz st tb b T P wq.heap.size (.slice A5 n5 k5) i st w5) := Lib.hid (Out8.plan (hs.later hb5) hN hK hM (HBQ.out.later hb5) hs5)
            have HN5 := Lib.hid hn5
            have hz51 := hs5.wt.le
            have hz52 := hs5.wt.max
            clear hs hN hK hM hk hnf htn hn5 hs5 hb5 hp5 HOQ HBQ HPL
            have HEND : ∀ wx, Out8 w D W H c tb b (i + 1) wx → Hid (Out8 w D W H c tb b (i + 1) wx) := fun wx h => Lib.hid h
            by_cases he0 : er = 0 ∧ 0 < n5
            · obtain ⟨rfl, hn0⟩ := he0
              have hnz : ((n5 : Int) == 0) = false := by rw [beq_eq_false_iff_ne]; omega
              have hnz' : (n5 == 0) = false := by rw [beq_eq_false_iff_ne]; omega
              have HQ := Lib.hid (HPQ.out rfl (fun e => by have := HN5.out; rw [e] at this; simp at this; omega))
              obtain ⟨f0, f1, f2, _⟩ := HIN.out.bf.cells
              obtain ⟨e0, e1, e2, _⟩ := HIN.out.bx.cells
              clear HPQ HOUT her5
              go_wp2_with fail
              refine (HDS.out fr _).mono ?_
              rintro e w6 ⟨A6, n6, k6, F, rfl, hn6, hil6, hb6, hF, _⟩
              obtain ⟨hF1, hF2⟩ := hF HQ.out.on
              have HI6 := Lib.hid (HIN.out.later hb6)
              have HFC := Lib.hid hF2
              have hn6c : n6 = c.size := by rw [hn6, hF1]
              have htz0 := HQ.out.tgt.1
              have htz1 := HQ.out.tgt.2
              obtain ⟨z, hz⟩ : ∃ z : Nat, tz = (z : Int) := Int.eq_ofNat_of_zero_le htz0
              subst hz
              have hz6 : z < n6 := by omega
              obtain ⟨l5, hl5'⟩ : ∃ l5, n5 = l5 + 1 := ⟨n5 - 1, by omega⟩
              obtain ⟨g6, o6, eA6, hg6, hc6⟩ := hil6.cell (by omega)
              obtain ⟨g5, o5, eA5, p1, p2⟩ := wt_at8 HI6.out.ps.wt (k := l5) (by omega)
              subst eA5 eA6
              have p3 := hc6 z hz6
              have hfar := HQ.out.far (F.getD z 0) (by have := hF2 z (by omega); rw [Int.toNat_natCast]; exact this)
              rw [show P.length - 1 = l5 by have := HN5.out; omega] at hfar
              have hlast := HQ.out.upto (P.getD l5 (0, 0)) (by
                have : l5 < P.length := by have := HN5.out; omega
                rw [List.getD, List.getElem?_eq_getElem this]; exact List.getElem_mem this)
              have hrise := (DI.rise HQ.out.di).1 (P.getD l5 (0, 0)) (by
                have : l5 < P.length := by have := HN5.out; omega
                rw [List.getD, List.getElem?_eq_getElem this]; exact List.getElem_mem this)
              generalize hfz : F.getD z 0 = fz at *
              generalize hpl : P.getD l5 (0, 0) = pl at *
              obtain ⟨px, pt⟩ := pl
              have p1 : w6.cell? ⟨g5, o5 + l5 * 2, none⟩ = some (.int .i64 px) := p1
              have p2 : w6.cell? ⟨g5, o5 + l5 * 2 + 1, none⟩ = some (.int .i64 pt) := p2
              have hfar : fz ≤ pt - st := hfar
              have hlast : pt ≤ st + 40 := hlast
              have hrise : st < pt := hrise
              have hwl : IntKind.i64.wrap ((n5 : Int) - 1) = (l5 : Int) := by rw [IntWalk.i64_in _ (by omega)]; omega
              have hwd : IntKind.i64.wrap (pt - st) = pt - st := IntWalk.i64_in _ (by omega)
              have hx1 : decide ((z : Int) < 0) = false := decide_eq_false (by omega)
              have hx2 : decide ((n6 : Int) ≤ (z : Int)) = false := decide_eq_false (by omega)
              have hx2' : decide (n6 ≤ z) = false := decide_eq_false (by omega)
              have hx3 : decide (pt - st < fz) = false := decide_eq_false (by omega)
              have hx4 : (0 : Int) ≤ (l5 : Int) := by omega
              have hx5 : (l5 : Int) < (n5 : Int) := by omega
              have hx6 : (0 : Int) ≤ (z : Int) := by omega
              have hx7 : (z : Int) < (n6 : Int) := by omega
              have hil1 := hil6.le
              have hil2 := hil6.max
              obtain ⟨e0, e1, e2, _⟩ := HI6.out.bx.cells
              have HL5 := Lib.hid hl5'
              have HN6 := Lib.hid hn6c
              clear hl5' hn6c hfz hpl hF1 hF2 hF hn6 hil6 hc6 hb6 hfar htz0 htz1 hrise hlast f0 f1 f2 HIN
              go_wp2_with fail
              go_big_quiet (fail)
              rename_i nq _
              have HI7 := Lib.hid (HI6.out.later (below_drewN _ _ nq))
              clear e0 e1 e2 p1 p2 p3 hx1 hx2 hx2' hx3 hx4 hx5 hx6 hx7 hwl hwd hil1 hil2 HI6 HFC
              generalize w6.drewN nq = w7 at *
              obtain ⟨e0, e1, e2, _⟩ := HI7.out.bx.cells
              go_wp2_with fail
              go_big_quiet (fail)
              have HI8 := Lib.hid (HI7.out.later (below_drewN _ _ nq))
              clear e0 e1 e2 HI7
              generalize w7.drewN nq = w8 at *
              obtain ⟨W', H', a, hW', hH', hfa, haN, hza, hSd, hRn, _⟩ := onFloor_some HQ.out.on
              have HRT := Lib.hid HQ.out.on.1
              subst hW' hH' hfa
              have hdi0 := HQ.out.di
              rw [Int.toNat_natCast, Int.toNat_natCast, Int.toNat_natCast] at hdi0
              have HST : Hid (In8 w D E (W' : Int) (H' : Int) c (a : Int) (z : Int) st tb b T P wq.heap.size (.slice (some ⟨g5, o5, none⟩) n5 k5) i st w8 ∧ Wk8 W' H' a c T P st 0 a st) := Lib.hid ⟨HI8.out, ⟨hdi0, Int.le_refl _, by omega, haN, hza⟩⟩
              have HUP := Lib.hid HQ.out.upto
              have HSD := Lib.hid (And.intro hSd.w1 hSd.sz)
              have HCL := Lib.hid (fun wx cc (h1 : cc < c.size) (h2 : at_ c cc ≠ 35) => near_nr7 W' H' cc c wx HRT.out h1 h2)
              clear hdi0 hSd hRn hza haN HI8
              go_wp2_with fail
              go_loopw [14, 15, 115] (fun av mv iv wy => ∃ (j cc : Nat) (now : Int), j ≤ n5 ∧ av = .int .i64 (cc : Int) ∧ mv = .int .i64 now ∧ iv = .int .i64 (j : Int) ∧ Hid (In8 w D E (W' : Int) (H' : Int) c (a : Int) (z : Int) st tb b T P wq.heap.size (.slice (some ⟨g5, o5, none⟩) n5 k5) i now wy ∧ Wk8 W' H' a c T P st j cc now)) (fun _ _ iv _ => n5 - (intOf iv).toNat)
              case atStart => exact ⟨0, a, st, Nat.zero_le _, rfl, rfl, rfl, HST⟩
              case round =>
                rename World => wy
                obtain ⟨j, cc, now, hj, rfl, rfl, rfl, HJ⟩ := hrel
                by_cases hjn : j < n5
                · have hjP : j < P.length := by rw [← HN5.out]; exact hjn
                  obtain ⟨d, u, hq, hu1, hu2, hdn, hdl, hfree, hdf, hwk⟩ := HJ.out.2.next HSD.out.1 HSD.out.2 HUP.out hjP
                  obtain ⟨g', o', eA, r1, r2⟩ := wt_at8 HJ.out.1.ps.wt hjn
                  injection eA with eA
                  injection eA with eA1 eA2
                  subst eA1 eA2
                  rw [hq] at r1 r2
                  have r1 : wy.cell? ⟨g5, o5 + j * 2, none⟩ = some (.int .i64 (d : Int)) := r1
                  have r2 : wy.cell? ⟨g5, o5 + j * 2 + 1, none⟩ = some (.int .i64 u) := r2
                  have hlo := HJ.out.2.lo
                  have hhi := HJ.out.2.hi
                  have HFREE := Lib.hid hfree
                  have HDF := Lib.hid hdf
                  have HWK := Lib.hid hwk
                  have HDN := Lib.hid hdn
                  have hccl := HJ.out.2.cell
                  have HNW := Lib.hid (fun wx => HCL.out wx cc HJ.out.2.cell HJ.out.2.wall)
                  have hA := (Below.refl wy.heap.size wy).alloc (Nat.le_refl _) (.cells #[.int .i64 (d : Int), .int .i64 u] 64)
                  have HI9 := Lib.hid (HJ.out.1.later hA)
                  have HBS := Lib.hid (Bs.new wy (d : Int) u)
                  obtain ⟨f0, f1, f2, _⟩ := HI9.out.bf.cells
                  have hy0 : (0 : Int) ≤ (j : Int) := by omega
                  have hy1 : (j : Int) < (n5 : Int) := by omega
                  obtain ⟨y0, y1, _⟩ := HBS.out.cells
                  obtain ⟨Fb, hFb⟩ : ∃ Fb, Fb = wy.heap.size := ⟨_, rfl⟩
                  rw [← hFb] at HBS y0 y1
                  clear hq hfree hdf hwk hdn hA hjP
                  go_wp2_with fail
                  rw [← hFb]
                  generalize wy.alloc (.cells #[.int .i64 (d : Int), .int .i64 u] 64) = wz at *
                  clear hFb f0 f1 f2 y0 y1 r1 r2
                  refine (HNW.out _).mono ?_
                  rintro e w9 ⟨g9, k9, rfl, hn9, hg9, hl9, hb9⟩
                  have HI10 := Lib.hid (HI9.out.later hb9)
                  have HBS10 := Lib.hid (HBS.out.later hb9)
                  have hil := hn9.il
                  have HIL := Lib.hid hil
                  have hil1 := hil.le
                  have hil2 := hil.max
                  have hl94 : (nr W' H' (at_ c) cc).length ≤ 4 := nr_len _ _ _ _
                  have HDN2 := HDN
                  obtain ⟨NR, hNR⟩ : ∃ NR, NR = nr W' H' (at_ c) cc := ⟨_, rfl⟩
                  rw [← hNR] at HIL HDN2 hil1 hl9 hl94 ⊢
                  clear hn9 hg9 hb9 hil hNR HNW
                  go_wp2_with fail
                  go_loopw [18, 123] (fun nv iv wx => ∃ k : Nat, k ≤ NR.length ∧ nv = .bool (decide (d ∈ NR.take k)) ∧ iv = .int .i64 (k : Int) ∧ w9 = wx) (fun _ iv _ => NR.length - (intOf iv).toNat)
                  case atStart => exact ⟨0, Nat.zero_le _, by simp, rfl, rfl⟩
                  case round =>
                    rename World => wx
                    obtain ⟨k, hk, rfl, rfl, rfl⟩ := hrel
                    by_cases hkn : k < NR.length
                    · have hsee := nr_seen (d := d) hkn
                      obtain ⟨g', o', eA, hg', hc'⟩ := HIL.out.cell (by omega)
                      injection eA with eA
                      injection eA with eA1 eA2
                      subst eA1 eA2
                      have s1 := hc' k hkn
                      rw [Nat.zero_add] at s1
                      generalize NR.getD k 0 = y at *
                      have HSEE := Lib.hid hsee
                      obtain ⟨y0, y1, _⟩ := HBS10.out.cells
                      have hy2 : (0 : Int) ≤ (k : Int) := by omega
                      have hy3 : (k : Int) < (NR.length : Int) := by omega
                      clear hc' hg' hsee
                      cases hb : decide (d ∈ NR.take k) with
                      | true =>
                        have HS : Hid (true = decide (d ∈ NR.take (k + 1))) := Lib.hid (by rw [HSEE.out, hb]; rfl)
                        clear HSEE hb
                        go_wp2_with fail
                        go_roundw
                        case rel => exact ⟨k + 1, by omega, by rw [← HS.out], by go_num, trivial⟩
                        case measure => simp [intOf]; omega
                      | false =>
                        by_cases hyd : y = d
                        · have hye : ((y : Int) == (d : Int)) = true := by rw [beq_iff_eq]; omega
                          have HS : Hid (true = decide (d ∈ NR.take (k + 1))) := Lib.hid (by rw [HSEE.out, hb, show (y == d) = true by rw [beq_iff_eq]; exact hyd]; rfl)
                          clear HSEE hb hyd
                          go_wp2_with fail
                          go_roundw
                          case rel => exact ⟨k + 1, by omega, by rw [← HS.out], by go_num, trivial⟩
                          case measure => simp [intOf]; omega
                        · have hye : ((y : Int) == (d : Int)) = false := by rw [beq_eq_false_iff_ne]; omega
                          have HS : Hid (false = decide (d ∈ NR.take (k + 1))) := Lib.hid (by rw [HSEE.out, hb, show (y == d) = false by rw [beq_eq_false_iff_ne]; exact hyd]; rfl)
                          clear HSEE hb hyd
                          go_wp2_with fail
                          go_roundw
                          case rel => exact ⟨k + 1, by omega, by rw [← HS.out], by go_num, trivial⟩
                          case measure => simp [intOf]; omega
                    · obtain rfl : k = NR.length := by omega
                      have hdT : decide (d ∈ NR.take NR.length) = true := by rw [List.take_length]; exact decide_eq_true HDN2.out
                      rw [hdT]
                      have hcs := HCZ.out
                      have hg1 : decide (u ≤ now) = false := decide_eq_false (by omega)
                      have hg2 : IntKind.i64.wrap (st + 40) = st + 40 := IntWalk.i64_in _ (by omega)
                      have hg3 : decide (st + 40 < u) = false := decide_eq_false (by omega)
                      have hg4 : IntKind.i64.wrap (now + 1) = now + 1 := IntWalk.i64_in _ (by omega)
                      obtain ⟨y0, y1, _⟩ := HBS10.out.cells
                      obtain ⟨e0, e1, e2, _⟩ := HI10.out.bx.cells
                      have HLP : Hid (In8 w D E (W' : Int) (H' : Int) c (a : Int) (z : Int) st tb b T P wq.heap.size (.slice (some ⟨g5, o5, none⟩) n5 k5) i (now + 1 - 1) w9 ∧ Bs Fb (d : Int) u w9) := Lib.hid ⟨by rw [Int.add_sub_cancel]; exact HI10.out, HBS10.out⟩
                      clear hdT
                      go_wp2_with fail
                      clear hg1 hg2 hg3 hg4 y0 y1 e0 e1 e2
                      go_loopw [21] (fun mv wx => ∃ v : Int, now + 1 ≤ v ∧ v ≤ u ∧ mv = .int .i64 v ∧ Hid (In8 w D E (W' : Int) (H' : Int) c (a : Int) (z : Int) st tb b T P wq.heap.size (.slice (some ⟨g5, o5, none⟩) n5 k5) i (v - 1) wx ∧ Bs Fb (d : Int) u wx)) (fun mv _ => (u - intOf mv).toNat)
                      case atStart => exact ⟨now + 1, Int.le_refl _, by omega, rfl, HLP⟩
                      case round =>
                        rename World => wx
                        obtain ⟨v, hv1, hv2, rfl, HV⟩ := hrel
                        obtain ⟨y0, y1, _⟩ := HV.out.2.cells
                        by_cases hvu : v < u
                        · have hd1 : decide (v < u) = true := decide_eq_true hvu
                          obtain ⟨cv, hlk⟩ := HV.out.1.look (x := (cc : Int)) (u := v) (by unfold IW; omega) (by unfold IW; omega) (by omega) (HFREE.out v (by omega) hvu)
                          obtain ⟨wa, hup, hmid, hka⟩ := HV.out.1.put (by omega) (by omega) (x := (cc : Int)) (u := v) (V := (i : Int)) (by unfold IW; omega) (by unfold IW; omega) (by unfold IW; omega) (by omega)
                          have HMID := Lib.hid hmid
                          have HBA := Lib.hid (HV.out.2.kept8 hka)
                          have hw1 : IntKind.i64.wrap (v + 1) = v + 1 := IntWalk.i64_in _ (by omega)
                          have HTK := Lib.hid (hmid.take (by omega) (by omega) (by unfold IW; omega) (by omega) (by omega) (by omega) (HFREE.out v (by omega) hvu))
                          clear hmid hka
                          go_wp2_with fail
                          refine HTK.out.mono ?_
                          rintro e wb ⟨rfl, hib, hkb⟩
                          have HN : Hid (In8 w D E (W' : Int) (H' : Int) c (a : Int) (z : Int) st tb b T P wq.heap.size (.slice (some ⟨g5, o5, none⟩) n5 k5) i (v + 1 - 1) wb ∧ Bs Fb (d : Int) u wb) := Lib.hid ⟨by rw [Int.add_sub_cancel]; exact hib, HBA.out.kept8 hkb⟩
                          clear hib hkb hlk hup y0 y1
                          go_wp2_with fail
                          go_roundw
                          case rel => exact ⟨v + 1, by omega, by omega, rfl, HN⟩
                          case measure => simp [intOf]; omega
                        · obtain rfl : v = u := by omega
                          have hd1 : decide (v < v) = false := decide_eq_false hvu
                          have hdl' : (d : Int) < 256 := by omega
                          obtain ⟨cv, hlk⟩ := HV.out.1.look (x := (d : Int)) (u := v) (by unfold IW; omega) (by unfold IW; omega) (by omega) HDF.out
                          obtain ⟨wa, hup, hmid, hka⟩ := HV.out.1.put (by omega) (by omega) (x := (d : Int)) (u := v) (V := (i : Int)) (by unfold IW; omega) (by unfold IW; omega) (by unfold IW; omega) (by omega)
                          have HMID := Lib.hid hmid
                          have HBA := Lib.hid (HV.out.2.kept8 hka)
                          have hw1 : IntKind.i64.wrap (v + 1) = v + 1 := IntWalk.i64_in _ (by omega)
                          have HTK := Lib.hid (hmid.take (by omega) (by omega) (by unfold IW; omega) (by omega) (by omega) (by omega) HDF.out)
                          obtain ⟨x0, x1, _⟩ := HBA.out.cells
                          clear hmid hka
                          go_wp2_with fail
                          refine HTK.out.mono ?_
                          rintro e wb ⟨rfl, hib, hkb⟩
                          have HIB := Lib.hid hib
                          obtain ⟨x0, x1, _⟩ := (HBA.out.kept8 hkb).cells
                          clear hib hkb hlk hup y0 y1
                          go_wp2_with fail
                          go_big_quiet (fail)
                          have HN : Hid (In8 w D E (W' : Int) (H' : Int) c (a : Int) (z : Int) st tb b T P wq.heap.size (.slice (some ⟨g5, o5, none⟩) n5 k5) i v (wb.drewN nq) ∧ Wk8 W' H' a c T P st (j + 1) d v) := Lib.hid ⟨HIB.out.later (below_drewN _ _ nq), HWK.out⟩
                          go_wp2_with fail
                          go_roundw
                          case rel => exact ⟨j + 1, d, v, by omega, rfl, rfl, by go_num, HN⟩
                          case measure => simp [intOf]; omega
                · have HOE := Lib.hid (HJ.out.1.done HJ.out.2.hi)
                  obtain rfl : j = n5 := by omega
                  go_wp2_with fail
                  go_roundw
                  case rel => exact ⟨i + 1, by omega, by omega, by go_num, HOE⟩
                  case measure => simp [intOf]; omega
            · have HO1 := Lib.hid HOUT.out.more
              clear HPQ HIN HOUT
              rcases her5 with rfl | rfl | rfl
              · obtain rfl : n5 = 0 := by omega
                go_wp2_with fail
                go_roundw
                case rel => exact ⟨i + 1, by omega, by omega, by go_num, HO1⟩
                case measure => simp [intOf]; omega
              · go_wp2_with fail
                go_roundw
                case rel => exact ⟨i + 1, by omega, by omega, by go_num, HO1⟩
                case measure => simp [intOf]; omega
              · go_wp2_with fail
                go_roundw
                case rel => exact ⟨i + 1, by omega, by omega, by go_num, HO1⟩
                case measure => simp [intOf]; omega
    · obtain rfl : i = n := by omega
      go_wp2_with fail
      go_ret
      exact ⟨rfl, HR.out.below⟩
end Go.Proofs.YtcdclghmebgpnaaGreatDoor
end

section
namespace Go.Proofs.YtcdclghmebgpnaaGreatDoor
namespace Sp
open Go.ChangeShapes Go.WideShapes Go.ChangeAt Go.RowKit Go.Deep Go.Joins
open Wn (IW Rt R3)

theorem open_wants {H : Type} {enc : TypeId × Value → H} {W : World} {fuel : Nat} {a : Option Addr} {len cap : Nat} {x : DataW H × List MemPlace}
    (hf : DataW.trod enc Tryz.prog W 0 (fun _ => true) true fuel 55 [.slice a len cap] = some x) :
    ∃ L : List R3, Rt W.heap.size W a len cap L := by
  obtain ⟨h1, h2, h3, h4⟩ := rows_cells7 (k := 3) Tryz.underlying55 (by kernel_rfl) (by decide) hf
  have h5 : ∀ i, i < len → ∃ q : R3, ∃ g off, a = some ⟨g, off, none⟩ ∧ g < W.heap.size ∧
      (W.cell? ⟨g, off + i * 3, none⟩ = some (.int .i64 q.1) ∧ W.cell? ⟨g, off + i * 3 + 1, none⟩ = some (.int .i64 q.2.1) ∧ W.cell? ⟨g, off + i * 3 + 2, none⟩ = some (.int .i64 q.2.2)) := fun i hi => by
    obtain ⟨g, off, n, cs, y, ha, hg, hl, hc, ht⟩ := h4 i hi
    have hc0 := hc 0 (by omega)
    have hc1 := hc 1 (by omega)
    have hc2 := hc 2 (by omega)
    obtain ⟨u0, u1, u2, rfl⟩ : ∃ u0 u1 u2, cs = [u0, u1, u2] := by
      match cs, hl with
      | [u0, u1, u2], _ => exact ⟨u0, u1, u2, rfl⟩
    obtain ⟨xs, n', _, _, _, hxl, hfs⟩ := DataW.trod_struct Tryz.underlying61 ht
    have k0 := hfs 0 _ rfl
    have k1 := hfs 1 _ rfl
    have k2 := hfs 2 _ rfl
    have q2 : Tryz.prog.cellsOf 3 = 1 := by kernel_rfl
    simp [q2] at k0 k1 k2
    simp at hxl
    obtain ⟨y0, y1, y2, rfl⟩ : ∃ y0 y1 y2, xs = [y0, y1, y2] := by
      match xs, hxl with
      | [y0, y1, y2], _ => exact ⟨y0, y1, y2, rfl⟩
    simp at k0 k1 k2
    obtain ⟨n0, e0, _, w0⟩ := DataW.trod_int Tryz.underlying3 k0
    obtain ⟨n1, e1, _, w1⟩ := DataW.trod_int Tryz.underlying3 k1
    obtain ⟨n2, e2, _, w2⟩ := DataW.trod_int Tryz.underlying3 k2
    simp at e0 e1 e2
    subst e0 e1 e2
    exact ⟨(n0, n1, n2), g, off, ha, hg, ⟨hc0, hc1, hc2⟩⟩
  obtain ⟨f, hff⟩ := choose7 h5
  have hget : ∀ j, j < len → ((List.range len).map f).getD j (0, 0, 0) = f j := fun j hj => by simp [List.getD, hj]
  refine ⟨(List.range len).map f, ⟨by simp, h2, h3, fun e => (h1 e).2, fun hn => ?_⟩⟩
  obtain ⟨g, off, ha, hg, _⟩ := hff 0 hn
  refine ⟨g, off, ha, hg, fun j hj => ?_⟩
  rw [hget j hj]
  obtain ⟨g2, off2, ha2, hg2, hc⟩ := hff j hj
  rw [ha] at ha2
  injection ha2 with ha2
  injection ha2 with e1 e2
  subst e1 e2
  exact hc
end Sp
end Go.Proofs.YtcdclghmebgpnaaGreatDoor
end
