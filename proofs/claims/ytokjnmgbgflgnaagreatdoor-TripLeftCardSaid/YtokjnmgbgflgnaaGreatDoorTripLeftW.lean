/-
  TripLeft: the walk.
-/
import Derived.Test.YtokjnmgbgflgnaaGreatDoorTrL
import Derived.Test.YtokjnmgbgflgnaaGreatDoorTrArgs
set_option linter.unusedVariables false
set_option maxRecDepth 100000
namespace Go.Proofs.YtokjnmgbgflgnaaGreatDoor
namespace Tr
open Go.RowKit Fl Pt
open Bk (Gt)

/-- What is left of acts that are right is right. -/
theorem right_left {W H : Int} {s : ByteArray} {r a : Int} {L : List Ac} (h : RightIs W H s r a L) (k : Nat) : RightIs W H s r (plA (L.take k) a) (L.drop k) := by
  obtain ⟨d, h1, h2, h3, h4, h5⟩ := h
  obtain ⟨q1, q2⟩ := run_left h5 k
  exact ⟨d, h1, h2, q2 h3, by rw [List.length_drop]; omega, q1⟩
theorem zon_left {s : ByteArray} {L : List Ac} {k z : Nat} (h : z ∈ zonL s (L.drop k)) : z ∈ zonL s L := by
  rw [mem_zonL] at h ⊢
  obtain ⟨a, h1, h2⟩ := h
  exact ⟨a, List.mem_of_mem_drop h1, h2⟩
theorem cost_left (L : List Ac) (k : Nat) : costL (L.take k) + costL (L.drop k) = costL L := by rw [← costL_app, List.take_append_drop]
theorem run_makeMapB (w : World) : (Instr.makeMap 48 none).run Tryz.prog w = .ok (.map (some w.heap.size)) (w.alloc (.map #[] 0)) := by
  simp [Instr.makeMap, Result.andThen]
/-- A map that is written keeps all cells. -/
theorem cells_kept {w w' : World} {b N : Nat} {m : Int → Bool} (h : SetI w b N m) (hg : w.grownBy w' (some b)) (p : Addr) (v : Value) (hp : w.cell? p = some v) : w'.cell? p = some v := by
  obtain ⟨D, ⟨es, clock, hb, _⟩, _⟩ := h
  have hlt := World.block_lt_of_cell? w p hp
  by_cases e : p.block = b
  · exfalso
    unfold World.cell? at hp
    rw [e, hb] at hp
    simp at hp
  · exact (World.cell?_of_block (a := p) (hg.block p.block hlt (fun q => by injection q with q; exact e q))).trans hp
theorem Il.cells {B : Nat} {w w' : World} {A : Option Addr} {n cap : Nat} {f : Nat → Int} (h : Il B w A n cap f) (hk : ∀ p v, w.cell? p = some v → w'.cell? p = some v) : Il B w' A n cap f :=
  ⟨h.le, h.max, h.nil, fun hn => by
    obtain ⟨g, off, e, hg, hc⟩ := h.cell hn
    exact ⟨g, off, e, hg, fun j hj => hk _ _ (hc j hj)⟩⟩
theorem Al.at {B B' : Nat} {w : World} {g off n cap : Nat} {L : List Ac} (h : Al B w (some ⟨g, off, none⟩) n cap L) (hg : g < B') : Al B' w (some ⟨g, off, none⟩) n cap L :=
  ⟨Gt.len h, Gt.le h, Gt.max h, (fun e => by cases e), fun hn => by
    obtain ⟨g', off', e, _, hc⟩ := Gt.cell h hn
    injection e with e
    injection e with e1 e2
    subst e1 e2
    exact ⟨g, off, rfl, hg, hc⟩⟩
theorem any_take (l : List Nat) (j : Nat) (h : j < l.length) (x : Int) : ((l.take (j + 1)).any fun z => ((z : Nat) : Int) == x) = ((l.take j).any (fun z => ((z : Nat) : Int) == x) || (((l.getD j 0 : Nat) : Int) == x)) := by
  rw [take_snoc l j 0 h, List.any_append]
  simp
set_option maxHeartbeats 32000000 in
theorem tripLeft_walk (W H : Int) (s : ByteArray) (hs : s.size ≤ maxLen) (r pod a b : Int) (A : Option Addr) (n cap : Nat) (f : Nat → Int) (nb : Nat) (hnb : nb ≤ 255) (w : World) (h : Il w.heap.size w A n cap f) (_ : ∀ j, j < n → IW (f j)) :
    Calls Tryz.prog 7 #[caseV W H s r pod a b A n cap, .int .u8 (nb : Int)] w fun e w' => e = .returned (.bool true) ∧ Below w.heap.size w w' := by
  have HI := Lib.hid h
  have HSM := Lib.hid (fun wx => small10_any W H s hs r pod a b A n cap ⟨h.le, by have := h.max; unfold maxLen at this; omega⟩ wx)
  have HMK := Lib.hid (fun wx (hb : Below w.heap.size w wx) => make_any W H s hs r pod a b A n cap f wx (args_il h hb))
  have HDK := Lib.hid (fun wx => dock_any W H s hs r wx)
  have HZN := Lib.hid (fun A n cap L wx (h : Al wx.heap.size wx A n cap L) (hn : n ≤ 1000000) (hI : ∀ i, i < n → IW (L.getD i (0, 0, 0)).2.1) => zones_any W H s hs A n cap L wx h hn hI)
  have hmk := run_makeMapB
  have HRT := Lib.hid (fun x A n cap L wx (h : Al wx.heap.size wx A n cap L) => right_any W H s hs r x A n cap L wx h)
  have HCB := Lib.hid (Cb.new w W H s r pod a b A n cap)
  have HBB := Lib.hid ((Below.refl w.heap.size w).alloc (Nat.le_refl _) (.cells #[.int .i64 W, .int .i64 H, .string s, .int .i64 r, .int .i64 pod, .int .i64 a, .int .i64 b, .slice A n cap] 26))
  clear h
  unfold caseV at HSM ⊢
  go_enter Tryz.func7, Tryz.ntmps7
  go_wp2_with fail
  refine (shown10_any _).mono ?_
  rintro e w1 ⟨rfl, hb1⟩
  obtain ⟨D, hD⟩ : ∃ D, D = w.heap.size := ⟨_, rfl⟩
  have HLD : Hid (w.heap.size ≤ D) := Lib.hid (by omega)
  have HC1 : Hid (Cb D W H s r pod a b A n cap w1) := Lib.hid (by rw [hD]; exact HCB.out.later hb1)
  have HB1 := Lib.hid (HBB.out.trans (hb1.mono HBB.out.size))
  rw [← hD]
  clear hb1 hD HCB HBB
  have c0 := HC1.out.c0
  have c1 := HC1.out.c1
  have c2 := HC1.out.c2
  have c3 := HC1.out.c3
  have c4 := HC1.out.c4
  have c5 := HC1.out.c5
  have c6 := HC1.out.c6
  have c7 := HC1.out.c7
  go_wp2_with fail
  refine (HSM.out _).mono ?_
  rintro e w2 ⟨rfl, hb2⟩
  have HC2 := Lib.hid (HC1.out.later hb2)
  have HB2 := Lib.hid (HB1.out.trans (hb2.mono HB1.out.size))
  clear hb2 c0 c1 c2 c3 c4 c5 c6 c7
  cases hsm : (decide (s.size ≤ 60) && decide (n ≤ 30)) with
  | false =>
    go_wp2_with fail
    go_ret
    exact ⟨rfl, HB2.out⟩
  | true =>
    have c0 := HC2.out.c0
    have c1 := HC2.out.c1
    have c2 := HC2.out.c2
    have c3 := HC2.out.c3
    have c4 := HC2.out.c4
    have c5 := HC2.out.c5
    have c6 := HC2.out.c6
    have c7 := HC2.out.c7
    clear hsm
    go_wp2_with fail
    refine (HMK.out _ HB2.out).mono ?_
    rintro e w3 ⟨A3, n3, k3, L, er, rfl, hmi, hl3, hje, hal, hb3⟩
    have HC3 := Lib.hid (HC2.out.later hb3)
    have HB3 := Lib.hid (HB2.out.trans (hb3.mono HB2.out.size))
    have HA3 := Lib.hid hal
    have HL3 := Lib.hid hl3
    have hn3 := hal.len
    obtain ⟨hk3, hk3b⟩ := hal.size
    clear hal hb3 hl3 hje c0 c1 c2 c3 c4 c5 c6 c7 HMK HSM
    have HIW := Lib.hid (make_iw hmi)
    have c0 := HC3.out.c0
    have c1 := HC3.out.c1
    have c2 := HC3.out.c2
    have c3 := HC3.out.c3
    go_wp2_with fail
    refine (HDK.out _).mono ?_
    rintro e w4 ⟨d', q, rfl, h1, _, hb4⟩
    have HC4 := Lib.hid (HC3.out.later hb4)
    have HB4 := Lib.hid (HB3.out.trans (hb4.mono HB3.out.size))
    have HA4 := Lib.hid (HA3.out.later hb4)
    have H1 := Lib.hid h1
    clear h1 hb4 c0 c1 c2 c3 HDK HA3 HC3 HB3 HC2 HB2 HC1 HB1
    rcases hmi with ⟨_, rfl, rfl⟩ | ⟨hmay, d, x, y, z, hd, p1, p2, p3, rfl, rfl⟩ | ⟨_, _, _, _, rfl, rfl⟩
    · go_wp2_with fail
      go_ret
      exact ⟨by first | rfl | simp, HB4.out⟩
    · obtain ⟨hfd, rfl⟩ := H1.out hmay.1
      obtain rfl := hfd.one hd
      have HYES := Lib.hid (trip_right hmay hd p1 p2 p3 HL3.out)
      have HN3 : Hid (2 ≤ n3) := Lib.hid (by rw [← hn3, tripL_length]; omega)
      have hn3' : n3 ≤ 770 := by rw [← hn3]; exact HL3.out
      have HRI : Hid (Right W H s) := Lib.hid hmay.1.1
      have HLN : Hid ((tripL x y z a b pod).length = n3) := Lib.hid hn3
      clear hmay hd p1 p2 p3 hn3 H1 hfd HL3
      generalize tripL x y z a b pod = L at *
      obtain ⟨g, off, rfl, hg0, _⟩ := HA4.out.cell (j := 0) (by have := HN3.out; omega)
      have HIL : Hid (∀ i, i < n3 → IW (L.getD i (0, 0, 0)).2.1) := Lib.hid (fun i hi => HIW.out _ (by rw [List.getD, List.getElem?_eq_getElem (by rw [HLN.out]; exact hi)]; exact List.getElem_mem _))
      have c0 := HC4.out.c0
      have c1 := HC4.out.c1
      have c2 := HC4.out.c2
      have hz4 := HC4.out.lt
      have hal5 := (Below.refl w4.heap.size w4).alloc (Nat.le_refl _) (.map #[] 0)
      have HC5 := Lib.hid (HC4.out.later hal5)
      have HB5 := Lib.hid (HB4.out.trans (hal5.mono HB4.out.size))
      have HA5 := Lib.hid (HA4.out.later hal5)
      have HB45 : Hid (w4.heap.size ≤ (w4.alloc (.map #[] 0)).heap.size) := Lib.hid hal5.size
      have HS5 := Lib.hid (SetI.made w4)
      have d0 := HC5.out.c0
      have d1 := HC5.out.c1
      have d2 := HC5.out.c2
      clear hal5
      go_wp2_with fail
      refine (HZN.out _ _ _ _ _ HA5.out (by omega) HIL.out).mono ?_
      rintro e w6 ⟨A6, n6, k6, zs, rfl, hn6, hl6, hy6, _, hil6, hb6⟩
      obtain rfl := hy6 HRI.out
      obtain ⟨mb, hmb⟩ : ∃ mb, mb = w4.heap.size := ⟨_, rfl⟩
      have HMB : Hid (w.heap.size ≤ mb) := Lib.hid (by rw [hmb]; exact HB4.out.size)
      have HS6 : Hid (SetI w6 mb 0 (fun _ => false)) := Lib.hid (by rw [hmb]; exact HS5.out.later hb6)
      rw [← hmb]
      have HC6 := Lib.hid (HC5.out.later hb6)
      have HB6 := Lib.hid (HB5.out.trans (hb6.mono HB5.out.size))
      have HA6 := Lib.hid (HA5.out.later hb6)
      have HI6 := Lib.hid hil6
      have HN6 := Lib.hid hn6
      have HB56 := Lib.hid hb6.size
      have hn6' : n6 ≤ 26 := by rw [hn6]; exact hl6
      have hk6 := hil6.le
      have hk6b : k6 ≤ 9223372036854775807 := by have := hil6.max; unfold maxLen at this; omega
      have HLO : Hid (D < mb ∧ g < mb ∧ mb ≤ w6.heap.size) := Lib.hid (by rw [hmb]; exact ⟨HC4.out.lt, hg0, Nat.le_trans HB45.out HB56.out⟩)
      clear hg0 hn6 hl6 hy6 hil6 hb6 hmb HC5 HB5 HA5 HS5 HC4 HB4 HA4 c0 c1 c2 d0 d1 d2 hz4
      go_wp2_with fail
      go_loopw [63] (fun iv wr => ∃ (j N : Nat), j ≤ n6 ∧ iv = .int .i64 (j : Int) ∧ Hid (N ≤ j) ∧ Hid (SetI wr mb N (fun x => ((zonL s L).take j).any fun z => ((z : Nat) : Int) == x)) ∧ Hid (Below mb w6 wr) ∧ Hid (Il w6.heap.size wr A6 n6 k6 (fun j => (((zonL s L).getD j 0 : Nat) : Int)))) (fun iv _ => n6 - (intOf iv).toNat)
      case atStart => exact ⟨0, 0, Nat.zero_le _, rfl, Lib.hid (Nat.le_refl _), Lib.hid (by simpa using HS6.out), Lib.hid (Below.refl _ _), HI6⟩
      case round =>
        rename World => wr
        obtain ⟨j, N, hj, rfl, HN, HS, HBM, HI⟩ := hrel
        by_cases hlt : j < n6
        · obtain ⟨g6, o6, rfl, hg6, hc⟩ := HI.out.cell (by omega)
          have hcj := hc j hlt
          have hjI : (j : Int) < (n6 : Int) := by omega
          have hg6' : g6 < wr.heap.size := Nat.lt_of_lt_of_le hg6 HBM.out.size
          have HAT := Lib.hid (fun x => any_take (zonL s L) j (by rw [← HN6.out]; exact hlt) x)
          have hz26 : (zonL s L).getD j 0 < 26 := by
            have hm : (zonL s L).getD j 0 ∈ zonL s L := by rw [List.getD, List.getElem?_eq_getElem (by rw [← HN6.out]; exact hlt)]; exact List.getElem_mem _
            have := List.mem_filter.1 hm
            exact List.mem_range.1 this.1
          clear hc
          generalize (zonL s L).getD j 0 = zn at *
          obtain ⟨w7, hput, hs7, hgr⟩ := HS.out.put_run (by have := HN.out; omega) (IW_nat (n := zn) (by omega))
          have HS7 : Hid (SetI w7 mb (N + 1) (fun x => ((zonL s L).take (j + 1)).any fun z => ((z : Nat) : Int) == x)) := Lib.hid (hs7.congr (fun x => (HAT.out x).symm))
          have HB7 : Hid (Below mb w6 w7) := Lib.hid (HBM.out.grown hgr (Nat.le_trans HLO.out.2.2 HBM.out.size) (fun k hk => by injection hk with hk; exact Nat.le_of_eq hk))
          have HI7 := Lib.hid (Il.cells HI.out (cells_kept HS.out hgr))
          clear hs7 hgr
          go_wp2_with fail
          go_roundw
          case rel => exact ⟨j + 1, N + 1, by omega, by go_num, Lib.hid (by have := HN.out; omega), HS7, HB7, HI7⟩
          case measure => simp [intOf]; omega
        · obtain rfl : j = n6 := by omega
          have HSA : Hid (SetI wr mb N (fun x => (zonL s L).any fun z => ((z : Nat) : Int) == x)) := Lib.hid (by have h1 := HS.out; rw [List.take_of_length_le (by rw [← HN6.out]; exact Nat.le_refl _)] at h1; exact h1)
          have HC := Lib.hid (show Cb D W H s r pod a b A n cap wr from ⟨(HBM.out.block D HLO.out.1).trans HC6.out.row⟩)
          have HAL : Hid (Al wr.heap.size wr (some ⟨g, off, none⟩) n3 k3 L) := Lib.hid (Al.at ((Al.at HA6.out HLO.out.2.1).below HBM.out) (Nat.lt_of_lt_of_le HLO.out.2.1 (Nat.le_trans HLO.out.2.2 HBM.out.size)))
          have HBW := Lib.hid (HB6.out.trans (HBM.out.mono HMB.out))
          clear HS HS6 HC6 HA6 HB6 HI6 HI
          obtain ⟨k, hk⟩ : ∃ k, k = nb % (n3 + 1) := ⟨_, rfl⟩
          have hkn : k ≤ n3 := by have := Nat.mod_lt nb (show 0 < n3 + 1 by omega); omega
          have hr1 : (nb : Int) % ((n3 : Int) + 1) = (k : Int) := by rw [hk, Int.natCast_emod, Int.natCast_add]; rfl
          have hr2 : Int.tmod (nb : Int) ((n3 : Int) + 1) = (k : Int) := by rw [Int.tmod_eq_emod_of_nonneg (by omega)]; exact hr1
          clear hk
          go_wp2_with fail
          clear hr1 hr2
          go_loopw [8, 77] (fun av iv wr' => ∃ (i : Nat), i ≤ k ∧ av = .int .i64 (plA (L.take i) (d' : Int)) ∧ iv = .int .i64 (i : Int) ∧ wr' = wr) (fun _ iv _ => k - (intOf iv).toNat)
          case atStart => exact ⟨0, Nat.zero_le _, rfl, rfl, rfl⟩
          case round =>
            obtain ⟨i, hi, rfl, rfl, rfl⟩ := hrel
            by_cases hlt2 : i < k
            · obtain ⟨g', off', e, hg', k0, k1, k2⟩ := HAL.out.cell (j := i) (by omega)
              injection e with e
              injection e with e1 e2
              subst e1 e2
              have HPT := Lib.hid (plA_take L (d' : Int) i (by rw [HLN.out]; omega))
              have hiI : (i : Int) < (k : Int) := by omega
              have hin3 : i < n3 := by omega
              generalize L.getD i (0, 0, 0) = ac at *
              obtain ⟨kd, c, pd⟩ := ac
              have k0' : wr.cell? ⟨g, off + i * 3, none⟩ = some (.int .u8 (kd : Int)) := k0
              have k1' : wr.cell? ⟨g, off + i * 3 + 1, none⟩ = some (.int .i64 c) := k1
              have k2' : wr.cell? ⟨g, off + i * 3 + 2, none⟩ = some (.int .i64 pd) := k2
              clear k0 k1 k2
              by_cases e1 : kd = 1
              · subst e1
                have HP2 : Hid (plA (L.take (i + 1)) (d' : Int) = c) := Lib.hid (by rw [HPT.out]; exact if_pos rfl)
                clear HPT
                go_wp2_with fail
                go_roundw
                case rel => exact ⟨i + 1, by omega, by rw [HP2.out], by go_num, by trivial⟩
                case measure => simp [intOf]; omega
              · have HP2 : Hid (plA (L.take (i + 1)) (d' : Int) = plA (L.take i) (d' : Int)) := Lib.hid (by rw [HPT.out]; exact if_neg e1)
                have dk : ((kd : Int) == 1) = false := by rw [beq_eq_false_iff_ne]; omega
                clear HPT
                go_wp2_with fail
                go_roundw
                case rel => exact ⟨i + 1, by omega, by rw [HP2.out], by go_num, by trivial⟩
                case measure => simp [intOf]; omega
            · obtain rfl : i = k := by omega
              clear hlt2
              have HCUT : Hid (Al wr.heap.size wr (some ⟨g, off, none⟩) i k3 (L.take i)) := Lib.hid (HAL.out.cut hkn)
              have hki : (i : Int) ≤ (n3 : Int) := by omega
              have hkc : (i : Int) ≤ (k3 : Int) := by omega
              have hnc : (n3 : Int) ≤ (k3 : Int) := by omega
              obtain ⟨A9, hA9, HA9⟩ : ∃ A9, (if k3 = i then some ⟨g, off, none⟩ else some ⟨g, off + i * 3, none⟩) = A9 ∧ Hid (Al wr.heap.size wr A9 (n3 - i) (k3 - i) (L.drop i)) :=
                ⟨_, rfl, Lib.hid (HAL.out.tail hkn _ (by split <;> simp) (fun h => by rw [if_neg (by omega)]))⟩
              have HIL2 : Hid (∀ j, j < n3 - i → IW ((L.drop i).getD j (0, 0, 0)).2.1) := Lib.hid (fun j hj => by
                have h1 := HIL.out (i + j) (by omega)
                rw [List.getD, List.getElem?_drop]
                exact h1)
              have c0 := HC.out.c0
              have c1 := HC.out.c1
              have c2 := HC.out.c2
              go_wp2_with fail
              go_region_held3 (fun w' => w'.cell? ⟨D, 0, none⟩ = some (.int .i64 W) ∧ w'.cell? ⟨D, 1, none⟩ = some (.int .i64 H) ∧ w'.cell? ⟨D, 2, none⟩ = some (.string s)) (go_keep)
                ((first
                  | (go_at_call 19; refine (HZN.out _ _ _ _ _ (HA9.out.later (below_drewN _ _ 1)) (by omega) HIL2.out).mono ?_; rintro e w8 ⟨A8, n8, k8, zs, rfl, hn8, hl8, hy8, _, hil8, hb8⟩; have HB8 := Lib.hid ((below_drewN wr.heap.size wr 1).trans hb8); have HC8 := Lib.hid (HC.out.later HB8.out); have e0 := HC8.out.c0; have e1 := HC8.out.c1; have e2 := HC8.out.c2; have HI8 := Lib.hid hil8; have HN8 := Lib.hid hn8; have HY8 := Lib.hid hy8; have HL8 := Lib.hid hl8; clear hn8 hl8 hy8 hil8 hb8)))
              clear c0 c1 c2
              have HS8 := Lib.hid (HSA.out.later HB8.out)
              have HMEM : Hid (∀ j, j < n8 → (zonL s L).any (fun z => ((z : Nat) : Int) == ((zs.getD j 0 : Nat) : Int)) = true) := Lib.hid (fun j hj => by
                rw [List.any_eq_true]
                have hm : zs.getD j 0 ∈ zs := by rw [List.getD, List.getElem?_eq_getElem (by rw [← HN8.out]; exact hj)]; exact List.getElem_mem _
                rw [HY8.out HRI.out] at hm
                exact ⟨_, zon_left hm, by rw [HY8.out HRI.out]; simp⟩)
              have HZ26 : Hid (∀ j, j < n8 → zs.getD j 0 < 26) := Lib.hid (fun j hj => by
                have hm : zs.getD j 0 ∈ zs := by rw [List.getD, List.getElem?_eq_getElem (by rw [← HN8.out]; exact hj)]; exact List.getElem_mem _
                have hm2 := HY8.out HRI.out
                rw [hm2] at hm ⊢
                exact List.mem_range.1 (List.mem_filter.1 hm).1)
              have hn8 : n8 ≤ 26 := by rw [HN8.out]; exact HL8.out
              have hk8 := HI8.out.le
              have hk8b : k8 ≤ 9223372036854775807 := by have := HI8.out.max; unfold maxLen at this; omega
              go_wp2_with fail
              go_loopw [99] (fun iv wz => ∃ (j : Nat), j ≤ n8 ∧ iv = .int .i64 (j : Int) ∧ Hid (Below w8.heap.size w8 wz)) (fun iv _ => n8 - (intOf iv).toNat)
              case atStart => exact ⟨0, Nat.zero_le _, rfl, Lib.hid (Below.refl _ _)⟩
              case round =>
                rename World => wz
                obtain ⟨j, hj, rfl, HBZ⟩ := hrel
                by_cases hlt3 : j < n8
                · obtain ⟨g8, o8, rfl, hg8, hc⟩ := (HI8.out.below HBZ.out).cell (by omega)
                  have hcj := hc j hlt3
                  have hjI : (j : Int) < (n8 : Int) := by omega
                  have hg8' : g8 < wz.heap.size := Nat.lt_of_lt_of_le hg8 HBZ.out.size
                  have hz26 := HZ26.out j hlt3
                  have hask := (HS8.out.later HBZ.out).asked0 (IW_nat (n := zs.getD j 0) (by omega)) (HMEM.out j hlt3)
                  clear hc
                  generalize zs.getD j 0 = zn at *
                  go_wp2_with fail
                  go_roundw
                  case rel => exact ⟨j + 1, by omega, by go_num, HBZ⟩
                  case measure => simp [intOf]; omega
                · obtain rfl : j = n8 := by omega
                  have HBZ2 := Lib.hid (HB8.out.trans (HBZ.out.mono HB8.out.size))
                  have HCZ := Lib.hid (HC.out.later HBZ2.out)
                  have HBW2 := Lib.hid (HBW.out.trans (HBZ2.out.mono HBW.out.size))
                  have HRGT := Lib.hid (right_left HYES.out i)
                  obtain ⟨ct, hct⟩ : ∃ ct, ct = costL (L.take i) := ⟨_, rfl⟩
                  obtain ⟨cd, hcd⟩ : ∃ cd, cd = costL (L.drop i) := ⟨_, rfl⟩
                  obtain ⟨cl, hcl⟩ : ∃ cl, cl = costL L := ⟨_, rfl⟩
                  have hsum : ct + cd = cl := by rw [hct, hcd, hcl]; exact cost_left L i
                  have hcl770 : cl ≤ 770 := by have := costL_le L; rw [HLN.out] at this; omega
                  have hqs : (((ct : Int) + (cd : Int)) == (cl : Int)) = true := by rw [beq_iff_eq]; omega
                  have HR1 := Lib.hid (fun wx (hb : Below wz.heap.size wz wx) => HRT.out (plA (L.take i) (d' : Int)) A9 (n3 - i) (k3 - i) (L.drop i) wx (HA9.out.later (HBZ2.out.trans (hb.mono HBZ2.out.size))))
                  have HK1 := Lib.hid (fun wx (hb : Below wz.heap.size wz wx) => cost_any (some ⟨g, off, none⟩) i k3 (L.take i) wx (HCUT.out.later (HBZ2.out.trans (hb.mono HBZ2.out.size))))
                  have HK2 := Lib.hid (fun wx (hb : Below wz.heap.size wz wx) => cost_any A9 (n3 - i) (k3 - i) (L.drop i) wx (HA9.out.later (HBZ2.out.trans (hb.mono HBZ2.out.size))))
                  have HK3 := Lib.hid (fun wx (hb : Below wz.heap.size wz wx) => cost_any (some ⟨g, off, none⟩) n3 k3 L wx (HAL.out.later (HBZ2.out.trans (hb.mono HBZ2.out.size))))
                  rw [← hct] at HK1
                  rw [← hcd] at HK2
                  rw [← hcl] at HK3
                  have HQ0 := Lib.hid (below_drewN wz.heap.size wz 1)
                  have c0 := HCZ.out.c0
                  have c1 := HCZ.out.c1
                  have c2 := HCZ.out.c2
                  have c3 := HCZ.out.c3
                  clear hct hcd hcl HS8 HMEM HZ26 HI8 HY8 HN8 HL8 e0 e1 e2
                  go_wp2_with fail
                  go_region_held3 (fun w' => w'.cell? ⟨D, 0, none⟩ = some (.int .i64 W) ∧ w'.cell? ⟨D, 1, none⟩ = some (.int .i64 H) ∧ w'.cell? ⟨D, 2, none⟩ = some (.string s) ∧ w'.cell? ⟨D, 3, none⟩ = some (.int .i64 r)) (go_keep)
                    ((first
                      | (go_at_call 16; refine (HK3.out _ HQ3.out).mono ?_; rintro e w12 ⟨rfl, hb12⟩; have HQ4 := Lib.hid (HQ3.out.trans (hb12.mono HQ3.out.size)); have e0 := (HCZ.out.later HQ4.out).c0; have e1 := (HCZ.out.later HQ4.out).c1; have e2 := (HCZ.out.later HQ4.out).c2; have e3 := (HCZ.out.later HQ4.out).c3; clear hb12)
                      | (go_at_call 16; refine (HK2.out _ HQ2.out).mono ?_; rintro e w11 ⟨rfl, hb11⟩; have HQ3 := Lib.hid (HQ2.out.trans (hb11.mono HQ2.out.size)); have e0 := (HCZ.out.later HQ3.out).c0; have e1 := (HCZ.out.later HQ3.out).c1; have e2 := (HCZ.out.later HQ3.out).c2; have e3 := (HCZ.out.later HQ3.out).c3; clear hb11)
                      | (go_at_call 16; refine (HK1.out _ HQ1.out).mono ?_; rintro e w10 ⟨rfl, hb10⟩; have HQ2 := Lib.hid (HQ1.out.trans (hb10.mono HQ1.out.size)); have e0 := (HCZ.out.later HQ2.out).c0; have e1 := (HCZ.out.later HQ2.out).c1; have e2 := (HCZ.out.later HQ2.out).c2; have e3 := (HCZ.out.later HQ2.out).c3; clear hb10)
                      | (go_at_call 14; refine (HR1.out _ HQ0.out).mono ?_; rintro e w9 ⟨q, rfl, hq, hb9⟩; obtain rfl : q = true := hq.2 HRGT.out; have HQ1 := Lib.hid (HQ0.out.trans (hb9.mono HQ0.out.size)); have e0 := (HCZ.out.later HQ1.out).c0; have e1 := (HCZ.out.later HQ1.out).c1; have e2 := (HCZ.out.later HQ1.out).c2; have e3 := (HCZ.out.later HQ1.out).c3; clear hq hb9)))
                  go_wp2_with fail
                  go_ret
                  exact ⟨by first | rfl | (simp; done) | (simp; rw [IntWalk.i64_in _ (by omega)]; omega), HBW2.out.trans (HQ4.out.mono HBW2.out.size)⟩
    · go_wp2_with fail
      go_ret
      exact ⟨by first | rfl | simp, HB4.out⟩
end Tr
end Go.Proofs.YtokjnmgbgflgnaaGreatDoor
