/-
  SippSoons: when each cell is reached first is the document's; the walk.
-/
import Derived.Test.YtcdclghmebgpnaaGreatDoorSpRr
set_option linter.unusedVariables false
set_option maxRecDepth 100000
namespace Go.Proofs.YtcdclghmebgpnaaGreatDoor
open Go.RowKit Fl Pt
open Sp
open Wn (Tab TF frees isT Ordw IW Wt wcl plc Rising RT Rt R3 tkn rtk tk upd)

set_option maxHeartbeats 8000000 in
theorem sippSoons_walk (W H : Int) (s : ByteArray) (hs : s.size ≤ maxLen) (A : Option Addr) (n cap : Nat) (L : List R3) (fr tz st ah : Int) (w : World) (hL : Rt w.heap.size w A n cap L) (hx : ∀ j, j < n → IW (L.getD j (0, 0, 0)).1) :
    Calls Tryz.prog 3 #[caseV W H s A n cap fr tz st ah] w fun e w' => e = .returned (.bool true) ∧ Below w.heap.size w w' := by
  have HSM : Hid (∀ wx, Calls Tryz.prog 8 #[.agg #[.int .i64 W, .int .i64 H, .string s, .slice A n cap, .int .i64 fr, .int .i64 tz, .int .i64 st, .int .i64 ah]] wx fun e w' => e = .returned (.bool (smallB s ah)) ∧ Below wx.heap.size wx w') := Lib.hid (fun wx => small7_any W H s hs A n cap fr tz st ah wx)
  have HTB := Lib.hid (fun wx (hb : Below w.heap.size w wx) => tables7_any A n cap L wx ((hL.below hb).raise hb.size) hx)
  have HSO := Lib.hid (fun tb tN mv T tg wx hT => soon_any W H s hs fr st ah tb tb tN mv T tg wx hT)
  have HOF := Lib.hid (fun wx => of_any W H s hs wx)
  have HX0 := Lib.hid (Cx8.start w W H s A n cap fr tz st ah)
  clear hL hx hs
  unfold caseV
  go_enter Tryz.func3, Tryz.ntmps3
  go_wp2_with fail
  refine (shown7_any _).mono ?_
  rintro e w1 ⟨rfl, hb1⟩
  have HX1 := Lib.hid (HX0.out.after hb1)
  have c3 := HX1.out.box.c3
  clear hb1
  go_wp2_with fail
  refine (HTB.out _ HX1.out.below).mono ?_
  rintro e w2 ⟨tb, rb, rfl, h2⟩
  have HX2 := Lib.hid (HX1.out.after h2.below)
  have H2 := Lib.hid h2
  have c0 := HX2.out.box.c0
  have c1 := HX2.out.box.c1
  have c2 := HX2.out.box.c2
  have c3 := HX2.out.box.c3
  have c4 := HX2.out.box.c4
  have c5 := HX2.out.box.c5
  have c6 := HX2.out.box.c6
  have c7 := HX2.out.box.c7
  clear h2
  go_wp2_with fail
  refine (HSM.out _).mono ?_
  rintro e w3 ⟨rfl, hb3⟩
  have HX3 := Lib.hid (HX2.out.after hb3)
  have H3 := Lib.hid (H2.out.later hb3)
  clear hb3 c0 c1 c2 c3 c4 c5 c6 c7
  by_cases hsm : smallB s ah = true
  · rw [hsm]
    clear hsm
    obtain ⟨tN, mv, T, tg, A3, k3, R, hT, hRT, hTR, hO, hS⟩ := two_all8 H3.out
    have HT := Lib.hid hT
    have HRT := Lib.hid hRT
    have HTO := Lib.hid (And.intro hTR (And.intro hO hS))
    have c0 := HX3.out.box.c0
    have c1 := HX3.out.box.c1
    have c2 := HX3.out.box.c2
    clear hT hRT hTR hO hS HX0 HX1 HX2 H2 H3 HSM HTB
    go_wp2_with fail
    refine (HOF.out _).mono ?_
    rintro e w4 ⟨AN, n4, cN, AL, cL, AO, cO, rfl, hB4, hM4, hN4⟩
    have HM4 := Lib.hid hM4
    have HN4 := Lib.hid hN4
    have HB4 := Lib.hid hB4
    have HA5 := Lib.hid (hB4.trans ((Below.refl w4.heap.size w4).alloc (Nat.le_refl _) (.cells #[.slice AN n4 cN, .slice AL n4 cL, .slice AO n4 cO] 36) |>.mono hB4.size))
    obtain ⟨m0, m1, m2, hmb⟩ := map_box w4 (.slice AN n4 cN) (.slice AL n4 cL) (.slice AO n4 cO)
    have HMB := Lib.hid hmb
    obtain ⟨D, hD⟩ : ∃ D, D = w4.heap.size := ⟨_, rfl⟩
    obtain ⟨w5, hw5⟩ : ∃ w5, w5 = w4.alloc (.cells #[.slice AN n4 cN, .slice AL n4 cL, .slice AO n4 cO] 36) := ⟨_, rfl⟩
    have hDl : D < w5.heap.size := by rw [hw5, hD, alloc_size]; exact Nat.lt_succ_self _
    rw [← hw5] at HA5 HMB m0 m1 m2
    rw [← hD] at m0 m1 m2
    have hw5' : w4.alloc (.cells #[.slice AN n4 cN, .slice AL n4 cL, .slice AO n4 cO] 36) = w5 := hw5.symm
    have HX5 := Lib.hid (HX3.out.after HA5.out)
    have HC0 : Hid (∀ wx, Below w5.heap.size w5 wx → (wx.cell? ⟨w.heap.size, 0, none⟩ = some (.int .i64 W) ∧ wx.cell? ⟨w.heap.size, 1, none⟩ = some (.int .i64 H) ∧ wx.cell? ⟨w.heap.size, 2, none⟩ = some (.string s)) ∧ (wx.cell? ⟨w.heap.size, 4, none⟩ = some (.int .i64 fr) ∧ wx.cell? ⟨w.heap.size, 6, none⟩ = some (.int .i64 st) ∧ wx.cell? ⟨w.heap.size, 7, none⟩ = some (.int .i64 ah)) ∧ (wx.cell? ⟨D, 0, none⟩ = some (.slice AN n4 cN) ∧ wx.cell? ⟨D, 1, none⟩ = some (.slice AL n4 cL) ∧ wx.cell? ⟨D, 2, none⟩ = some (.slice AO n4 cO))) := Lib.hid (fun wx hb => by
      have h := (HX5.out.after hb).box
      exact ⟨⟨h.c0, h.c1, h.c2⟩, ⟨h.c4, h.c6, h.c7⟩, (hb.cell (p := ⟨D, 0, none⟩) hDl).trans m0, (hb.cell (p := ⟨D, 1, none⟩) hDl).trans m1, (hb.cell (p := ⟨D, 2, none⟩) hDl).trans m2⟩)
    obtain ⟨⟨c0, c1, c2⟩, ⟨c4, c6, c7⟩, m0, m1, m2⟩ := HC0.out w5 (Below.refl _ _)
    have HT5 := Lib.hid (HT.out.later HA5.out)
    have HRT5 := Lib.hid (HRT.out.later HA5.out)
    have HM5 : Hid ((Right W H s → MapAt w5 W.toNat H.toNat s AN AL AO n4 cN cL cO) ∧ (¬ Right W H s → n4 = 0)) := Lib.hid ⟨fun h => (HM4.out h).later HMB.out, fun h => (HN4.out h).1⟩
    clear hB4 hM4 hN4 hmb hw5
    go_wp2_with fail
    rw [← hD]
    clear hD
    go_region_held3 (fun w' => w'.cell? ⟨w.heap.size, 0, none⟩ = some (.int .i64 W) ∧ w'.cell? ⟨w.heap.size, 1, none⟩ = some (.int .i64 H) ∧ w'.cell? ⟨w.heap.size, 2, none⟩ = some (.string s) ∧ w'.cell? ⟨w.heap.size, 4, none⟩ = some (.int .i64 fr) ∧ w'.cell? ⟨w.heap.size, 6, none⟩ = some (.int .i64 st) ∧ w'.cell? ⟨w.heap.size, 7, none⟩ = some (.int .i64 ah) ∧ w'.cell? ⟨D, 0, none⟩ = some (.slice AN n4 cN) ∧ w'.cell? ⟨D, 1, none⟩ = some (.slice AL n4 cL) ∧ w'.cell? ⟨D, 2, none⟩ = some (.slice AO n4 cO)) (go_keep)
      ((first
        | (go_at_call_of 10 (Value.slice Aa na ca); refine HSA.out.mono ?_; rintro e wc ⟨bc, rfl, hbc, hbC⟩; obtain rfl : bc = true := hbc.2 HSQ.out; have HBc := Lib.hid (HBb.out.trans (hbC.mono HBb.out.size)); obtain ⟨⟨x0, x1, x2⟩, ⟨x4, x6, x7⟩, y0, y1, y2⟩ := HC0.out _ HBc.out; clear hbc hbC)
        | (go_at_call 12; refine (r7soon_any (fun h => (HM5.out.1 h).later HBa.out) HM5.out.2 (HRT5.out.later HBa.out) HTO.out.1 HTO.out.2.1 HTO.out.2.2 fr st ah).mono ?_; rintro e wb ⟨Ab, nb, cb, Fb, rfl, hnb, hib, hbb, hfb, hlb⟩; have HBb := Lib.hid (HBa.out.trans (hbb.mono HBa.out.size)); have HSQ := Lib.hid (soon_same HFa.out.1 HFa.out.2.1 hnb hfb); have HSA := Lib.hid (same7i_any Aa Ab na nb ca cb _ _ _ _ wb (HFa.out.2.2.1.below hbb) hib hbb.size (Nat.le_refl _) (by have := HFa.out.2.2.2; omega) (by omega)); obtain ⟨⟨x0, x1, x2⟩, ⟨x4, x6, x7⟩, y0, y1, y2⟩ := HC0.out _ HBb.out; clear hnb hib hbb hfb hlb)
        | (go_at_call 11; refine (HSO.out tb tN mv T tg _ (HT5.out.later (Below.refl _ _).drew)).mono ?_; rintro e wa ⟨Aa, na, ca, Fa, rfl, hna, hia, hba, hfa, hla⟩; have HBa := Lib.hid ((Below.refl w5.heap.size w5).drew.trans hba); have HFa := Lib.hid (And.intro hna (And.intro hfa (And.intro hia hla))); obtain ⟨⟨x0, x1, x2⟩, ⟨x4, x6, x7⟩, y0, y1, y2⟩ := HC0.out _ HBa.out; clear hna hia hba hfa hla)))
    have HEND := Lib.hid (HX5.out.after HBc.out).below
    go_wp2_with fail
    go_ret
    exact ⟨rfl, HEND.out⟩
  · have hsm : smallB s ah = false := by simpa using hsm
    rw [hsm]
    go_wp2_with fail
    go_ret
    exact ⟨rfl, HX3.out.below⟩
end Go.Proofs.YtcdclghmebgpnaaGreatDoor
