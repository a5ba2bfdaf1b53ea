/-
  SippIs: whether steps are a way through time is the document's; the walk.
-/
import Derived.Test.YtinkpeliinofoaaGreatDoorSpRi
set_option linter.unusedVariables false
set_option maxRecDepth 100000
namespace Go.Proofs.YtinkpeliinofoaaGreatDoor
open Go.RowKit Fl Pt
open Sp
open Wn (Tab TF frees isT Ordw IW Wt wcl plc Rising RT Rt R3 tkn rtk tk upd)

/-- The case's box, and all that was there before. -/
structure Cx (w : World) (W H : Int) (s : ByteArray) (A : Option Addr) (n cap : Nat) (fr tz st ah : Int) (w' : World) : Prop where
  box : Cb w.heap.size W H s A n cap fr tz st ah w'
  below : Below w.heap.size w w'
theorem Cx.after {w w1 w2 : World} {W H : Int} {s : ByteArray} {A : Option Addr} {n cap : Nat} {fr tz st ah : Int} (h : Cx w W H s A n cap fr tz st ah w1) (hb : Below w1.heap.size w1 w2) : Cx w W H s A n cap fr tz st ah w2 :=
  ⟨h.box.later hb, h.below.trans (hb.mono h.below.size)⟩
theorem Cx.start (w : World) (W H : Int) (s : ByteArray) (A : Option Addr) (n cap : Nat) (fr tz st ah : Int) : Cx w W H s A n cap fr tz st ah (w.alloc (.cells #[.int .i64 W, .int .i64 H, .string s, .slice A n cap, .int .i64 fr, .int .i64 tz, .int .i64 st, .int .i64 ah] 26)) :=
  ⟨Cb.new w W H s A n cap fr tz st ah, (Below.refl _ _).alloc (Nat.le_refl _) _⟩
theorem two_all {w0 wr : World} {tb rb j : Nat} (h : Two7 w0 tb rb j wr) : ∃ tN mv T tg A c R, Tk wr tb tb tN mv T tg ∧ RT wr rb A c R ∧ (∀ y, tkn R y = T y) ∧ (∀ y, Ordw 0 (T y)) ∧ ∀ y, (T y).length ≤ 2000 := by
  obtain ⟨tN, mv, T, tg, A, c, R, h1, h2, h3, h4, h5⟩ := h.ex
  exact ⟨tN, mv, T, tg, A, c, R, h1, h3, h5, h1.ord, fun y => by have := h1.tab.small y; have h6 := h1.few; omega⟩
set_option maxHeartbeats 8000000 in
theorem sippIs_walk (W H : Int) (s : ByteArray) (hs : s.size ≤ maxLen) (A : Option Addr) (n cap : Nat) (L : List R3) (fr tz st ah : Int) (Al : Option Addr) (nl cl : Nat) (P : List (Int × Int)) (w : World) (hL : Rt w.heap.size w A n cap L) (hx : ∀ j, j < n → IW (L.getD j (0, 0, 0)).1) (hP : Wt w.heap.size w Al nl cl P) :
    Calls Tryz.prog 5 #[caseV W H s A n cap fr tz st ah, .slice Al nl cl] w fun e w' => e = .returned (.bool true) ∧ Below w.heap.size w w' := by
  have HSM : Hid (∀ wx, Calls Tryz.prog 12 #[.agg #[.int .i64 W, .int .i64 H, .string s, .slice A n cap, .int .i64 fr, .int .i64 tz, .int .i64 st, .int .i64 ah]] wx fun e w' => e = .returned (.bool (smallB s ah)) ∧ Below wx.heap.size wx w') := Lib.hid (fun wx => small7_any W H s hs A n cap fr tz st ah wx)
  have HTB := Lib.hid (fun wx (hb : Below w.heap.size w wx) => tables7_any A n cap L wx ((hL.below hb).raise hb.size) hx)
  have HIS := Lib.hid (fun tb tN mv T tg A n cap L wx hT hL hn => is7_any W H s hs fr st tb tb tN mv T tg A n cap L wx hT hL hn)
  have HOF := Lib.hid (fun wx => of_any W H s hs wx)
  have HX0 := Lib.hid (Cx.start w W H s A n cap fr tz st ah)
  have HP := Lib.hid hP
  have hp1 := hP.le
  have hp2 := hP.size
  have hp3 := hp2.2
  clear hL hx hs hP hp2
  unfold caseV
  go_enter Tryz.func5, Tryz.ntmps5
  go_wp2_with fail
  refine (shown7_any _).mono ?_
  rintro e w1 ⟨rfl, hb1⟩
  have HX1 := Lib.hid (HX0.out.after hb1)
  have c3 := HX1.out.box.c3
  clear hb1
  go_wp2_with fail
  refine (HTB.out _ HX1.out.below).mono ?_
  rintro e w2 ⟨tb, rb, rfl, h2⟩
  have HX2 := Lib.hid (HX1.out.after h2.below)
  have H2 := Lib.hid h2
  have c0 := HX2.out.box.c0
  have c1 := HX2.out.box.c1
  have c2 := HX2.out.box.c2
  have c3 := HX2.out.box.c3
  have c4 := HX2.out.box.c4
  have c5 := HX2.out.box.c5
  have c6 := HX2.out.box.c6
  have c7 := HX2.out.box.c7
  clear h2
  go_wp2_with fail
  refine (HSM.out _).mono ?_
  rintro e w3 ⟨rfl, hb3⟩
  have HX3 := Lib.hid (HX2.out.after hb3)
  have H3 := Lib.hid (H2.out.later hb3)
  clear hb3 c0 c1 c2 c3 c4 c5 c6 c7
  by_cases hsm : smallB s ah = true
  · rw [hsm]
    clear hsm
    obtain ⟨tN, mv, T, tg, A3, k3, R, hT, hRT, hTR, hO, hS⟩ := two_all H3.out
    have HT := Lib.hid hT
    have HRT := Lib.hid hRT
    have HTO := Lib.hid (And.intro hTR (And.intro hO hS))
    have HP3 := Lib.hid ((HP.out.below HX3.out.below).raise HX3.out.below.size)
    have HST : Hid (Below w3.heap.size w3 w3 ∧ Sow w3 w3.heap.size (.slice none ([] : List (Int × Int)).length 0) []) := Lib.hid ⟨Below.refl _ _, Sow.nil _ _⟩
    clear hT hRT hTR hO hS HX0 HX1 HX2 H2 H3 HSM HTB HP
    go_wp2_with fail
    go_loopw [9, 32] (fun sv iv wr => ∃ (i : Nat) (A9 : Option Addr) (c9 : Nat) (M : List (Int × Int)), i ≤ nl ∧ M.length ≤ min i 50 ∧ sv = .slice A9 M.length c9 ∧ iv = .int .i64 (i : Int) ∧ Hid (Below w3.heap.size w3 wr ∧ Sow wr w3.heap.size (.slice A9 M.length c9) M)) (fun _ iv _ => nl - (intOf iv).toNat)
    case atStart => exact ⟨0, none, 0, [], Nat.zero_le _, Nat.zero_le _, rfl, rfl, HST⟩
    case round =>
      rename World => wr
      obtain ⟨i, A9, c9, M, hi, hml, rfl, rfl, HK⟩ := hrel
      by_cases hlt : i < nl
      · obtain ⟨g, off, e9, hg, hcs⟩ := HP3.out.cell (by omega)
        subst e9
        obtain ⟨q1, q2⟩ := hcs i hlt
        generalize P.getD i (0, 0) = q at *
        obtain ⟨x, t⟩ := q
        have HQ : Hid (∀ wx, Below w3.heap.size w3 wx → wx.cell? ⟨g, off + i * 2, none⟩ = some (.int .i64 x) ∧ wx.cell? ⟨g, off + i * 2 + 1, none⟩ = some (.int .i64 t)) := Lib.hid (fun wx h => ⟨(h.cell (p := ⟨g, off + i * 2, none⟩) hg).trans q1, (h.cell (p := ⟨g, off + i * 2 + 1, none⟩) hg).trans q2⟩)
        clear hg hcs q1 q2
        obtain ⟨q1, q2⟩ := HQ.out _ HK.out.1
        have c6 := (HX3.out.box.low HK.out.1 (by have := lt_of_heap HX3.out.box.row; exact this)).c6
        have hy0 : (0 : Int) ≤ (i : Int) := by omega
        have hy1 : (i : Int) < (nl : Int) := by omega
        by_cases h50 : i < 50
        · have hd0 : decide ((i : Int) < 50) = true := decide_eq_true (by omega)
          have hd0' : decide (i < 50) = true := decide_eq_true h50
          by_cases ht0 : t < 0
          · have hd1 : decide (t < 0) = true := decide_eq_true ht0
            clear ht0
            go_wp2_with fail
            go_big_quiet (fail)
            rename_i nq _
            have HBD := Lib.hid (HK.out.1.trans (below_drewN _ _ nq))
            have HSD := Lib.hid (HK.out.2.later (below_drewN _ _ nq))
            clear q1 q2 c6
            obtain ⟨q1, q2⟩ := HQ.out _ HBD.out
            generalize wr.drewN nq = wd at *
            have HA := Lib.hid ((Below.refl wd.heap.size wd).alloc (Nat.le_refl _) (.cells #[.int .i64 x, .int .i64 t] 56))
            have HSA := Lib.hid (HSD.out.later HA.out)
            have H1 := Lib.hid (st_one wd x t)
            have HBA := Lib.hid (HBD.out.trans (HA.out.mono HBD.out.size))
            have hm1 : M.length + 1 ≤ 1000000 := by omega
            go_wp2_with (at_builtin; refine app_steps rfl _ _ rfl w3.heap.size _ M rfl HSA.out (some ⟨wd.heap.size, 0, none⟩) 1 1 [(x, t)] rfl H1.out (by omega) HBA.out.size ?_; intro A6 c6 w6 h61 h62 h63; have HK6 := Lib.hid (And.intro (HBA.out.trans h62) h61); clear h61 h62 h63)
            go_roundw
            case rel =>
              have hl : (M ++ [(x, t)]).length = M.length + 1 := by simp
              first
              | exact ⟨i + 1, A6, c6, M ++ [(x, t)], by omega, by rw [hl]; omega, by simp, by go_num, HK6⟩
              | ((repeat apply Exists.intro); exact ⟨⟨i + 1, A6, c6, M ++ [(x, t)], by omega, by rw [hl]; omega, by simp, by go_num, HK6⟩, rfl⟩)
            case measure => simp [intOf]; omega
          · have hd1 : decide (t < 0) = false := decide_eq_false ht0
            by_cases ht1 : (1048576 : Int) ≤ t
            · have hd2 : decide ((1048576 : Int) ≤ t) = true := decide_eq_true ht1
              clear ht0 ht1
              go_wp2_with fail
              go_big_quiet (fail)
              rename_i nq _
              have HBD := Lib.hid (HK.out.1.trans (below_drewN _ _ nq))
              have HSD := Lib.hid (HK.out.2.later (below_drewN _ _ nq))
              clear q1 q2 c6
              obtain ⟨q1, q2⟩ := HQ.out _ HBD.out
              generalize wr.drewN nq = wd at *
              have HA := Lib.hid ((Below.refl wd.heap.size wd).alloc (Nat.le_refl _) (.cells #[.int .i64 x, .int .i64 t] 56))
              have HSA := Lib.hid (HSD.out.later HA.out)
              have H1 := Lib.hid (st_one wd x t)
              have HBA := Lib.hid (HBD.out.trans (HA.out.mono HBD.out.size))
              have hm1 : M.length + 1 ≤ 1000000 := by omega
              go_wp2_with (at_builtin; refine app_steps rfl _ _ rfl w3.heap.size _ M rfl HSA.out (some ⟨wd.heap.size, 0, none⟩) 1 1 [(x, t)] rfl H1.out (by omega) HBA.out.size ?_; intro A6 c6 w6 h61 h62 h63; have HK6 := Lib.hid (And.intro (HBA.out.trans h62) h61); clear h61 h62 h63)
              go_roundw
              case rel =>
                have hl : (M ++ [(x, t)]).length = M.length + 1 := by simp
                first
                | exact ⟨i + 1, A6, c6, M ++ [(x, t)], by omega, by rw [hl]; omega, by simp, by go_num, HK6⟩
                | ((repeat apply Exists.intro); exact ⟨⟨i + 1, A6, c6, M ++ [(x, t)], by omega, by rw [hl]; omega, by simp, by go_num, HK6⟩, rfl⟩)
              case measure => simp [intOf]; omega
            · have hd2 : decide ((1048576 : Int) ≤ t) = false := decide_eq_false ht1
              clear ht0 ht1
              cases hd3 : decide (wrap64 (t - max st 0) < 200) with
              | true =>
                go_wp2_with fail
                go_big_quiet (fail)
                rename_i nq _
                have HBD := Lib.hid (HK.out.1.trans (below_drewN _ _ nq))
                have HSD := Lib.hid (HK.out.2.later (below_drewN _ _ nq))
                clear q1 q2 c6
                obtain ⟨q1, q2⟩ := HQ.out _ HBD.out
                generalize wr.drewN nq = wd at *
                have HA := Lib.hid ((Below.refl wd.heap.size wd).alloc (Nat.le_refl _) (.cells #[.int .i64 x, .int .i64 t] 56))
                have HSA := Lib.hid (HSD.out.later HA.out)
                have H1 := Lib.hid (st_one wd x t)
                have HBA := Lib.hid (HBD.out.trans (HA.out.mono HBD.out.size))
                have hm1 : M.length + 1 ≤ 1000000 := by omega
                go_wp2_with (at_builtin; refine app_steps rfl _ _ rfl w3.heap.size _ M rfl HSA.out (some ⟨wd.heap.size, 0, none⟩) 1 1 [(x, t)] rfl H1.out (by omega) HBA.out.size ?_; intro A6 c6 w6 h61 h62 h63; have HK6 := Lib.hid (And.intro (HBA.out.trans h62) h61); clear h61 h62 h63)
                go_roundw
                case rel =>
                  have hl : (M ++ [(x, t)]).length = M.length + 1 := by simp
                  first
                  | exact ⟨i + 1, A6, c6, M ++ [(x, t)], by omega, by rw [hl]; omega, by simp, by go_num, HK6⟩
                  | ((repeat apply Exists.intro); exact ⟨⟨i + 1, A6, c6, M ++ [(x, t)], by omega, by rw [hl]; omega, by simp, by go_num, HK6⟩, rfl⟩)
                case measure => simp [intOf]; omega
              | false =>
                go_wp2_with fail
                go_big_quiet (fail)
                rename_i nq _
                have HBD := Lib.hid (And.intro (HK.out.1.trans (below_drewN _ _ nq)) (HK.out.2.later (below_drewN _ _ nq)))
                go_wp2_with fail
                go_roundw
                case rel =>
                  first
                  | exact ⟨i + 1, A9, c9, M, by omega, by omega, rfl, by go_num, HBD⟩
                  | ((repeat apply Exists.intro); exact ⟨⟨i + 1, A9, c9, M, by omega, by omega, rfl, by go_num, HBD⟩, rfl⟩)
                case measure => simp [intOf]; omega
        · have hd0 : decide ((i : Int) < 50) = false := decide_eq_false (by omega)
          have hd0' : decide (i < 50) = false := decide_eq_false h50
          go_wp2_with fail
          go_big_quiet (fail)
          rename_i nq _
          have HBD := Lib.hid (And.intro (HK.out.1.trans (below_drewN _ _ nq)) (HK.out.2.later (below_drewN _ _ nq)))
          go_wp2_with fail
          go_roundw
          case rel =>
            first
            | exact ⟨i + 1, A9, c9, M, by omega, by omega, rfl, by go_num, HBD⟩
            | ((repeat apply Exists.intro); exact ⟨⟨i + 1, A9, c9, M, by omega, by omega, rfl, by go_num, HBD⟩, rfl⟩)
          case measure => simp [intOf]; omega
      · have hii : i = nl := by omega
        obtain ⟨m9, hm9⟩ : ∃ m9, m9 = M.length := ⟨_, rfl⟩
        rw [← hm9] at HK hml ⊢
        have HX9 := Lib.hid (fun (wx : World) (h : Below w3.heap.size w3 wx) => (⟨HX3.out.box.low h (lt_of_heap HX3.out.box.row), HX3.out.below.trans (h.mono HX3.out.below.size)⟩ : Cx w W H s A n cap fr tz st ah wx))
        have HC0 : Hid (∀ wx, Below w3.heap.size w3 wx → wx.cell? ⟨w.heap.size, 0, none⟩ = some (.int .i64 W) ∧ wx.cell? ⟨w.heap.size, 1, none⟩ = some (.int .i64 H) ∧ wx.cell? ⟨w.heap.size, 2, none⟩ = some (.string s) ∧ wx.cell? ⟨w.heap.size, 4, none⟩ = some (.int .i64 fr) ∧ wx.cell? ⟨w.heap.size, 6, none⟩ = some (.int .i64 st)) := Lib.hid (fun wx hb => by
          have h := (HX9.out wx hb).box
          exact ⟨h.c0, h.c1, h.c2, h.c4, h.c6⟩)
        obtain ⟨c0, c1, c2, c4, c6⟩ := HC0.out _ HK.out.1
        have HWT := Lib.hid HK.out.2.wt
        have HM9 : Hid (m9 ≤ 100000) := Lib.hid (by omega)
        have HBD := Lib.hid (HK.out.1.drew)
        have HA := Lib.hid (HIS.out tb tN mv T tg A9 m9 c9 M wr.drew (HT.out.later HBD.out) (HWT.out.later (Below.refl _ _).drew) HM9.out)
        have hml' : ((m9 : Nat) : Int) ≤ 50 := by omega
        clear hii hm9 HK
        go_wp2_with fail
        go_region_held3 (fun w' => w'.cell? ⟨w.heap.size, 0, none⟩ = some (.int .i64 W) ∧ w'.cell? ⟨w.heap.size, 1, none⟩ = some (.int .i64 H) ∧ w'.cell? ⟨w.heap.size, 2, none⟩ = some (.string s) ∧ w'.cell? ⟨w.heap.size, 4, none⟩ = some (.int .i64 fr) ∧ w'.cell? ⟨w.heap.size, 6, none⟩ = some (.int .i64 st)) (go_keep)
          ((first
            | (go_at_call 23; refine HA.out.mono ?_; rintro e w5 ⟨b5, rfl, hb5, hB5⟩; have HV5 := Lib.hid hb5; have HB5 := Lib.hid (HBD.out.trans (hB5.mono HBD.out.size)); have HW5 := Lib.hid (HWT.out.later ((Below.refl _ _).drew.trans (hB5.mono (by exact (Below.refl wr.heap.size wr).drew.size)))); obtain ⟨e0, e1, e2, e4, e6⟩ := HC0.out _ HB5.out; clear hb5 hB5)
            | (go_at_call 13; refine (HOF.out _).mono ?_; rintro e w6 ⟨AN, n6, cN, AL, cL, AO, cO, rfl, hB6, hM6, hN6⟩; have HB6 := Lib.hid (HB5.out.trans (hB6.mono HB5.out.size)); have HW6 := Lib.hid (HW5.out.later hB6); have HM6 := Lib.hid hM6; have HN6 := Lib.hid hN6; obtain ⟨e0, e1, e2, e4, e6⟩ := HC0.out _ HB6.out; clear hB6 hM6 hN6)
            | (go_at_call 24; refine (r7is_any HM6.out (fun h => (HN6.out h).1) (HRT.out.later HB6.out) HTO.out.1 HTO.out.2.1 HTO.out.2.2 fr st HW6.out HM9.out).mono ?_; rintro e w7 ⟨b7, rfl, hb7, hB7⟩; have hbb := Bool.eq_iff_iff.2 (HV5.out.trans hb7.symm); subst hbb; have HB7 := Lib.hid (HB6.out.trans (hB7.mono HB6.out.size)); obtain ⟨e0, e1, e2, e4, e6⟩ := HC0.out _ HB7.out; clear hb7 hB7)))
        have HEND := Lib.hid (HX9.out _ HB7.out).below
        go_wp2_with fail
        cases b5 <;> (go_wp2_with fail; go_ret; exact ⟨rfl, HEND.out⟩)
  · have hsm : smallB s ah = false := by simpa using hsm
    rw [hsm]
    go_wp2_with fail
    go_ret
    exact ⟨rfl, HX3.out.below⟩
open Go.ChangeShapes Go.WideShapes Go.ChangeAt in
theorem open_steps7 {H : Type} {enc : TypeId × Value → H} {W : World} {fuel : Nat} {a : Option Addr} {len cap : Nat} {x : DataW H × List MemPlace}
    (hf : DataW.trod enc Tryz.prog W 0 (fun _ => true) true fuel 42 [.slice a len cap] = some x) :
    ∃ L : List (Int × Int), Wt W.heap.size W a len cap L := by
  obtain ⟨h1, h2, h3, h4⟩ := rows_cells7 (k := 2) Tryz.underlying42 (by kernel_rfl) (by decide) hf
  have h5 : ∀ i, i < len → ∃ q : Int × Int, ∃ g off, a = some ⟨g, off, none⟩ ∧ g < W.heap.size ∧
      (W.cell? ⟨g, off + i * 2, none⟩ = some (.int .i64 q.1) ∧ W.cell? ⟨g, off + i * 2 + 1, none⟩ = some (.int .i64 q.2)) := fun i hi => by
    obtain ⟨g, off, n, cs, y, ha, hg, hl, hc, ht⟩ := h4 i hi
    have hc0 := hc 0 (by omega)
    have hc1 := hc 1 (by omega)
    obtain ⟨u0, u1, rfl⟩ : ∃ u0 u1, cs = [u0, u1] := by
      match cs, hl with
      | [u0, u1], _ => exact ⟨u0, u1, rfl⟩
    obtain ⟨xs, n', _, _, _, hxl, hfs⟩ := DataW.trod_struct Tryz.underlying56 ht
    have k0 := hfs 0 _ rfl
    have k1 := hfs 1 _ rfl
    have q2 : Tryz.prog.cellsOf 3 = 1 := by kernel_rfl
    simp [q2] at k0 k1
    simp at hxl
    obtain ⟨y0, y1, rfl⟩ : ∃ y0 y1, xs = [y0, y1] := by
      match xs, hxl with
      | [y0, y1], _ => exact ⟨y0, y1, rfl⟩
    simp at k0 k1
    obtain ⟨n0, e0, _, w0⟩ := DataW.trod_int Tryz.underlying3 k0
    obtain ⟨n1, e1, _, w1⟩ := DataW.trod_int Tryz.underlying3 k1
    simp at e0 e1
    subst e0 e1
    exact ⟨(n0, n1), g, off, ha, hg, hc0, hc1⟩
  obtain ⟨f, hff⟩ := choose7 h5
  have hget : ∀ j, j < len → ((List.range len).map f).getD j (0, 0) = f j := fun j hj => by simp [List.getD, hj]
  refine ⟨(List.range len).map f, by simp, h2, h3, fun e => (h1 e).2, fun hn => ?_⟩
  obtain ⟨g, off, ha, hg, _⟩ := hff 0 hn
  refine ⟨g, off, ha, hg, fun j hj => ?_⟩
  rw [hget j hj]
  obtain ⟨g2, off2, ha2, hg2, hc⟩ := hff j hj
  rw [ha] at ha2
  injection ha2 with ha2
  injection ha2 with e1 e2
  subst e1 e2
  exact hc
end Go.Proofs.YtinkpeliinofoaaGreatDoor
