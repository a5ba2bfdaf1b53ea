/-
  The walk of TrafficHome.
-/
import Derived.Test.YtellaeihcignaaaGreatDoorTfV
set_option linter.unusedVariables false
set_option maxRecDepth 100000
namespace Go.Proofs.YtellaeihcignaaaGreatDoor
namespace Tf
open Go.RowKit Fl Tr Pt
open Lk (Ow T0 zns at9)

/-- A state made behind a call, seen from before the call. -/
theorem Lp.move {w0 wS w3 : World} {bF bS S g M cap top : Nat} {W H : Int} {s : ByteArray} {R : List Mv} {T : List Ow} (h : Lp wS bS S g M cap top W H s R T w3) (hb : Below w0.heap.size w0 wS) (hf : Fb bF W H s wS) : Lp w0 bF S g M cap top W H s R T w3 := by
  have h1 := lt_of_heap hf
  have h2 := h.ge
  have h3 := hb.size
  exact ⟨hb.trans (h.below.mono hb.size), h.st, h.inv, hf.later h.below, by omega, by omega, by omega, by omega⟩
/-- Who has nothing to do is in its dock. -/
theorem Inv.docked {W H : Int} {s : ByteArray} {R : List Mv} {T : List Ow} (h : Inv W H s R T) {r : Nat} (hr : r < R.length) (hl : (getM R r).2.1 = []) : ∃ d : Nat, IsRobot W H s (r : Int) ∧ IsFirst s (48 + r) d ∧ (getM R r).1 = (d : Int) := by
  obtain ⟨d, h1, h2, h3, h4, h5⟩ := h.each r hr
  rw [hl] at h5
  refine ⟨d, h1, h2, ?_⟩
  have h5 : some ((getM R r).1, carr []) = some ((d : Int), (-1 : Int)) := h5
  injection h5 with h5
  injection h5
theorem sB_le (R : List Mv) : ∀ q, sB R q ≤ q
  | 0 => Nat.le_refl 0
  | q + 1 => by
    have := sB_le R q
    simp only [sB]
    split <;> omega
theorem Ls.raise {B B' : Nat} {w : World} {A : Option Addr} {n cap : Nat} {L : List Sp11} (h : Ls B w A n cap L) (hb : B ≤ B') : Ls B' w A n cap L :=
  ⟨h.len, h.le, h.max, fun j hj => by
    obtain ⟨g, off, A2, n2, c2, e, hg, k0, k1, k2, k3, k4, hal, hk⟩ := h.cell j hj
    exact ⟨g, off, A2, n2, c2, e, Nat.lt_of_lt_of_le hg hb, k0, k1, k2, k3, k4, hal.raise hb, hk⟩⟩
set_option maxHeartbeats 16000000 in
theorem trafficHome_walk (t : ByteArray) (ht : t.size ≤ maxLen) (A : Option Addr) (n cap0 : Nat) (L : List Sp11) (w : World) (hl : Ls w.heap.size w A n cap0 L) :
    Calls Tryz.prog 6 #[.string t, .slice A n cap0] w fun e w' => e = .returned (.bool true) ∧ Below w.heap.size w w' := by
  have HL := Lib.hid hl
  have HFL := Lib.hid (fun wx => floors11_any t ht wx)
  have hc1 := hl.le
  have hc2 := hl.max
  clear hl
  go_enter Tryz.func6, Tryz.ntmps6
  go_wp2_with fail
  refine (shown11_any _).mono ?_
  rintro e w1 ⟨rfl, hb1⟩
  have HB1 := Lib.hid hb1
  clear hb1
  go_wp2_with fail
  refine (HFL.out _).mono ?_
  rintro e w2 ⟨W, H, s, rfl, hR, hb2⟩
  have HR := Lib.hid hR
  have HB2 := Lib.hid (HB1.out.trans (hb2.mono HB1.out.size))
  have hsz : s.size ≤ maxLen := by have := rightLe hR; unfold maxLen; omega
  have HBA := Lib.hid (HB2.out.trans (((Below.refl w2.heap.size w2).alloc (Nat.le_refl _) (.cells #[.int .i64 W, .int .i64 H, .string s] 25)).mono HB2.out.size))
  have HF := Lib.hid (Fb.new w2 W H s)
  have HST := Lib.hid (started11_any W H s hR hsz A n cap0 L _ ((HL.out.below HBA.out).raise HBA.out.size))
  have HRO := Lib.hid (fun wx => robots_any W H s hsz wx)
  have HDK := Lib.hid (fun r wx => dock_any W H s hsz r wx)
  clear hR hb2 HFL HB1 HB2
  obtain ⟨f0, f1, f2, fl, _⟩ := HF.out.cells
  go_wp2_with fail
  refine HST.out.mono ?_
  rintro e w3 ⟨S, g, M, cap, top, bS, R, T, rfl, hlp⟩
  have HLP := Lib.hid (hlp.move HBA.out HF.out)
  clear hlp f0 f1 f2 fl HST
  generalize w2.heap.size = bF at *
  obtain ⟨f0, f1, f2, fl, _⟩ := HLP.out.fb.cells
  go_wp2_with fail
  refine (HRO.out _).mono ?_
  rintro e w4 ⟨nr, rfl, hnr, _, hb4⟩
  have HNR : Hid (nr = R.length) := Lib.hid (by rw [hnr HR.out, HLP.out.inv.n])
  have hn8 : nr ≤ 8 := by rw [HNR.out]; exact HLP.out.inv.few
  have HLP4 := Lib.hid (HLP.out.later hb4)
  clear hnr hb4 f0 f1 f2 fl
  go_wp2_with fail
  go_loopw [9, 10, 34] (fun av bv qv wq => ∃ q : Nat, q ≤ nr ∧ av = .int .i64 (sA R q : Nat) ∧ bv = .int .i64 (sB R q : Nat) ∧ qv = .int .i64 (q : Int) ∧ Hid (Lp w bF S g M cap top W H s R T wq)) (fun _ _ qv _ => nr - (intOf qv).toNat)
  case atStart => exact ⟨0, by omega, rfl, rfl, rfl, HLP4⟩
  case round =>
    rename World => wq
    obtain ⟨q, hq, rfl, rfl, rfl, HI⟩ := hrel
    by_cases hq2 : q < nr
    · have hqI : (q : Int) < (nr : Int) := by omega
      have HQL : Hid (q < R.length) := Lib.hid (by rw [← HNR.out]; exact hq2)
      have HLF := Lib.hid (left_any HI.out.st HI.out.inv.lens (q : Int))
      go_wp2_with fail
      refine HLF.out.mono ?_
      rintro e wd ⟨A5, n5, c5, rfl, hn5, _, hbd⟩
      have HId := Lib.hid (HI.out.later hbd)
      have HN5 : Hid (n5 = (getM R q).2.1.length) := Lib.hid (by rw [hn5]; unfold leftF; rw [if_pos ⟨by omega, by have := HQL.out; omega⟩, Int.toNat_natCast])
      have HNW := Lib.hid (now_any HId.out.st HId.out.inv.busy (q : Int))
      unfold NowTold at HNW
      clear hbd hn5 HLF
      have hsm : sA R (q + 1) = sA R q + n5 := by rw [HN5.out]; rfl
      have hsq := (sums HI.out.inv (q + 1) (by have := HQL.out; omega)).2
      have hsb : sB R q ≤ q := sB_le R q
      go_wp2_with fail
      refine HNW.out.mono ?_
      rintro e wb ⟨rfl, hbb⟩
      rcases mv_cases HI.out.inv HQL.out with ⟨g1, g2, _⟩ | ⟨a, l, g1, g2, g3, _⟩
      · rw [g2]
        have hsb2 : sB R (q + 1) = sB R q := by simp [sB, g1]
        clear g1 g2
        dsimp only [actV]
        have hB5 := (Below.refl wb.heap.size wb).alloc (Nat.le_refl _) (.cells #[.int .u8 0, .int .i64 0, .int .i64 0] 39)
        have HI5 := Lib.hid ((HId.out.later hbb).later hB5)
        clear hbb hB5
        go_wp2_with fail
        go_roundw
        case rel => exact ⟨q + 1, by omega, by rw [hsm]; go_num, by rw [hsb2], by go_num, HI5⟩
        case measure => simp [intOf]; omega
      · rw [g3]
        have hsb2 : sB R (q + 1) = sB R q + 1 := by simp [sB, g2]
        clear g1 g2 g3
        obtain ⟨ax, ay, az'⟩ := a
        dsimp only [actV]
        have hB5 := (Below.refl wb.heap.size wb).alloc (Nat.le_refl _) (.cells #[.int .u8 (ax : Int), .int .i64 ay, .int .i64 az'] 39)
        have HI5 := Lib.hid ((HId.out.later hbb).later hB5)
        clear hbb hB5
        go_wp2_with fail
        go_roundw
        case rel => exact ⟨q + 1, by omega, by rw [hsm]; go_num, by rw [hsb2]; go_num, by go_num, HI5⟩
        case measure => simp [intOf]; omega
    · obtain rfl : q = nr := by omega
      have hsum := sums HI.out.inv R.length (Nat.le_refl _)
      have hsq : sA R q ≤ 8192 := by rw [HNR.out]; have := hsum.2; have := HI.out.inv.few; omega
      have hsb : sB R q ≤ 8 := by have := sB_le R q; omega
      have hsE : todo R + sB R q = sA R q := by unfold todo; rw [HNR.out]; have := hsum.1; omega
      have HHM := Lib.hid (home11_any HI.out.st HI.out.inv hsz (sA R q) (by omega) (by omega))
      obtain ⟨f0, f1, f2, fl, _⟩ := HI.out.fb.cells
      clear hsum
      go_wp2_with fail
      refine HHM.out.mono ?_
      rintro e w5 ⟨R', T', rfl, hs5, hi5, hf5, hz5⟩
      have HI5 := Lib.hid (HI.out.fr hf5 hs5 hi5)
      have HZ5 := Lib.hid hz5
      clear hs5 hi5 hf5 hz5 f0 f1 f2 fl HHM
      have dE : (((todo R : Nat) : Int) != ((sA R q : Nat) : Int) - ((sB R q : Nat) : Int)) = false := by rw [bne_eq_false_iff_eq]; omega
      obtain ⟨f0, f1, f2, fl, _⟩ := HI5.out.fb.cells
      have HRN : Hid (R'.length = q) := Lib.hid (by rw [HI5.out.inv.n, HNR.out, HI.out.inv.n])
      go_wp2_with fail
      refine (HRO.out _).mono ?_
      rintro e w6 ⟨nr2, rfl, hnr, _, hb6⟩
      obtain rfl : nr2 = q := by rw [hnr HR.out, ← HRN.out, HI5.out.inv.n]
      have HI6 := Lib.hid (HI5.out.later hb6)
      clear hnr hb6 f0 f1 f2 fl
      go_wp2_with fail
      go_loopw [73] (fun uv wu => ∃ u : Nat, u ≤ nr2 ∧ uv = .int .i64 (u : Int) ∧ Hid (Lp w bF S g M cap top W H s R' T' wu)) (fun uv _ => nr2 - (intOf uv).toNat)
      case atStart => exact ⟨0, by omega, rfl, HI6⟩
      case round =>
        rename World => wu
        obtain ⟨u, hu, rfl, HU⟩ := hrel
        by_cases hu2 : u < nr2
        · have huI : (u : Int) < (nr2 : Int) := by omega
          have HUL : Hid (u < R'.length) := Lib.hid (by rw [HRN.out]; exact hu2)
          obtain ⟨d, hd1, hd2, hd3⟩ := HU.out.inv.docked HUL.out (HZ5.out u HUL.out)
          have HD1 := Lib.hid hd1
          have HD2 := Lib.hid hd2
          have HCE := Lib.hid (cell_any HU.out.st (u : Int))
          unfold CellTold at HCE
          rw [cellF_in HUL.out, hd3] at HCE
          clear hd1 hd2 hd3
          go_wp2_with fail
          refine HCE.out.mono ?_
          rintro e wv ⟨rfl, hbv⟩
          have HV := Lib.hid (HU.out.later hbv)
          clear hbv HCE
          obtain ⟨f0, f1, f2, fl, _⟩ := HV.out.fb.cells
          go_wp2_with fail
          refine (HDK.out _ _).mono ?_
          rintro e wx ⟨dd, b, rfl, hdy, _, hbx⟩
          obtain ⟨hdf, rfl⟩ := hdy HD1.out
          have HDD := Lib.hid (hdf.one (show IsFirst s (48 + (u : Int).toNat) d by rw [Int.toNat_natCast]; exact HD2.out))
          have HX := Lib.hid (HV.out.later hbx)
          clear hdf hdy hbx f0 f1 f2 fl
          obtain rfl : dd = d := HDD.out
          have HLF := Lib.hid (left_any HX.out.st HX.out.inv.lens (u : Int))
          go_wp2_with fail
          refine HLF.out.mono ?_
          rintro e wy ⟨A5, n5, c5, rfl, hn5, _, hby⟩
          obtain rfl : n5 = 0 := by rw [hn5]; unfold leftF; rw [if_pos ⟨by omega, by have := HUL.out; omega⟩, Int.toNat_natCast, HZ5.out u HUL.out]; rfl
          have HY := Lib.hid (HX.out.later hby)
          clear hn5 hby HLF
          go_wp2_with fail
          go_roundw
          case rel => exact ⟨u + 1, by omega, by go_num, HY⟩
          case measure => simp [intOf]; omega
        · obtain rfl : u = nr2 := by omega
          go_wp2_with fail
          go_ret
          exact ⟨rfl, HU.out.below⟩
end Tf
end Go.Proofs.YtellaeihcignaaaGreatDoor
