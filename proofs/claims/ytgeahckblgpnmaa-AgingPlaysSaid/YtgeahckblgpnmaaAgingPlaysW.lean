/-
  AgingPlays: the walk.
-/
import Derived.Test.YtgeahckblgpnmaaAgV
import Derived.Deep.RegionHeld3
set_option linter.unusedVariables false
set_option maxRecDepth 100000
namespace Go.Proofs.Ytgeahckblgpnmaa
namespace Ag
open Go.RowKit Bk

set_option maxHeartbeats 16000000 in
theorem agingPlays_walk (s : Int) (hs : -9223372036854775808 ≤ s ∧ s ≤ 9223372036854775807) (A : Option Addr) (n cap : Nat) (f : Nat → Nat × Int) (w : World) (h : Acts12 w.heap.size w A n cap f) (_ : True) :
    Calls Try.prog 3 #[.int .i64 s, .slice A n cap] w fun e w' => e = .returned (.bool true) ∧ Below w.heap.size w w' := by
  have HA := Lib.hid h
  clear h
  by_cases h0 : s < 0
  · have d0 : decide (s < 0) = true := decide_eq_true h0
    go_enter Try.func3, Try.ntmps3
    go_wp2_with fail
    refine (shown12_any _).mono ?_
    rintro e w1 ⟨rfl, hb1⟩
    have HB1 := Lib.hid hb1
    clear hb1
    go_wp2_with fail
    refine (new_any s w1).mono ?_
    intro e w2 h2
    unfold NewTold at h2
    rw [if_neg (by omega)] at h2
    obtain ⟨rfl, rfl⟩ := h2
    go_wp2_with fail
    go_ret
    exact ⟨rfl, HB1.out⟩
  have d0 : decide (s < 0) = false := decide_eq_false h0
  by_cases h1 : 1000 < s
  · have d1 : decide (1000 < s) = true := decide_eq_true h1
    go_enter Try.func3, Try.ntmps3
    go_wp2_with fail
    refine (shown12_any _).mono ?_
    rintro e w1 ⟨rfl, hb1⟩
    have HB1 := Lib.hid hb1
    clear hb1
    go_wp2_with fail
    refine (new_any s w1).mono ?_
    intro e w2 h2
    unfold NewTold at h2
    rw [if_neg (by omega)] at h2
    obtain ⟨rfl, rfl⟩ := h2
    go_wp2_with fail
    go_ret
    exact ⟨rfl, HB1.out⟩
  have d1 : decide (1000 < s) = false := decide_eq_false h1
  go_enter Try.func3, Try.ntmps3
  go_wp2_with fail
  refine (shown12_any _).mono ?_
  rintro e w1 ⟨rfl, hb1⟩
  have HB1 := Lib.hid hb1
  clear hb1
  go_wp2_with fail
  refine (new_any s w1).mono ?_
  intro e w2 h2
  unfold NewTold at h2
  rw [if_pos (by omega)] at h2
  obtain ⟨rfl, hw2⟩ := h2
  have hq2 := QAt.new (s := s) w1 w1.heap.size (Nat.le_refl _) (by omega) (by omega)
  have hb2 := (Below.refl w1.heap.size w1).alloc (Nat.le_refl _) (.cells #[.int .i64 s, .int .i64 0, .slice none 0 0] 52)
  rw [← hw2] at hq2 hb2
  have hz2 : w2.heap.size = w1.heap.size + 1 := by rw [hw2]; simp
  have hr3 := RQ.new (s := s) w2 w2.heap.size (Nat.le_refl _) (by omega) (by omega)
  have hb3 := (Below.refl w2.heap.size w2).alloc (Nat.le_refl _) (.cells #[.slice none 0 0, .int .i64 0, .int .i64 s] 31)
  have HBO : Hid (Bo w w1.heap.size w2.heap.size (.slice none 0 0) (.slice none 0 0) s 0 [] 0 [] (w2.alloc (.cells #[.slice none 0 0, .int .i64 0, .int .i64 s] 31))) := Lib.hid (by
    have hb := HB1.out.trans (hb2.mono HB1.out.size)
    refine ⟨hq2.later hb3, hr3, ?_, ⟨HB1.out.size, hb.size⟩, hb.trans (hb3.mono hb.size)⟩
    rintro k (rfl | hk) (q | q)
    · omega
    · cases q
    · cases hk
    · cases q)
  obtain ⟨g, hg⟩ : ∃ g, g = w1.heap.size := ⟨_, rfl⟩
  obtain ⟨rg, hrg⟩ : ∃ rg, rg = w2.heap.size := ⟨_, rfl⟩
  rw [← hg, ← hrg] at HBO
  rw [← hg]
  have HRG := Lib.hid hrg
  clear hq2 hb2 hr3 hb3 hz2 hw2 hg hrg
  go_wp2_with (go_at_call 11; refine (few12_any A n cap _ HA.out.le HA.out.max HA.out.nil).mono ?_; rintro e w2' ⟨rfl, m, hm, hm2, rfl⟩)
  rw [← HRG.out]
  clear HRG
  generalize w2.alloc (.cells #[.slice none 0 0, .int .i64 0, .int .i64 s] 31) = w3 at *
  have hcs : m ≤ cap := Nat.le_trans hm HA.out.le
  have hcs2 : cap ≤ 9223372036854775807 := by have := HA.out.max; unfold maxLen at this; omega
  go_loopw [56] (fun iv wr => ∃ j : Nat, iv = .int .i64 (j : Int) ∧ j ≤ m ∧ Hid (∃ v rv d L, Bo w g rg v rv s d L d L wr ∧ d ≤ j)) (fun iv _ => m - (intOf iv).toNat)
  case atStart => exact ⟨0, rfl, Nat.zero_le _, Lib.hid ⟨_, _, _, _, HBO.out, Nat.le_refl _⟩⟩
  case round =>
    rename World => wr
    obtain ⟨j, rfl, hj, HS⟩ := hrel
    obtain ⟨v, rv, d, L, hbo, hd⟩ := HS.out
    by_cases hlj : j < m
    · obtain ⟨ga, off, rfl, hga, hc⟩ := (HA.out.below hbo.be).cell (by omega)
      obtain ⟨k0, k1⟩ := hc j (by omega)
      have hfit := HA.out.fits j (by omega)
      have hjI : (j : Int) < (m : Int) := by omega
      have hga2 : ga < wr.heap.size := Nat.lt_of_lt_of_le hga hbo.be.size
      generalize f j = fj at *
      obtain ⟨q, x⟩ := fj
      have k0 : wr.cell? ⟨ga, off + j * 2, none⟩ = some (.int .u8 (q : Int)) := k0
      have k1 : wr.cell? ⟨ga, off + j * 2 + 1, none⟩ = some (.int .i64 x) := k1
      have hq255 : q ≤ 255 := hfit
      obtain ⟨b0, b1⟩ := act_cells wr q x
      have hAA := (Below.refl wr.heap.size wr).alloc (Nat.le_refl _) (.cells #[.int .u8 (q : Int), .int .i64 x] 34)
      have HBA := Lib.hid (hbo.later hAA)
      have HXA : Hid (Ax wr.heap.size q x (wr.alloc (.cells #[.int .u8 (q : Int), .int .i64 x] 34))) := Lib.hid (heap_alloc_new wr _)
      have HD : Hid (d ≤ j ∧ m ≤ 300 ∧ j < m) := Lib.hid ⟨hd, hm2, hlj⟩
      clear hc hga hfit hbo hd HS hAA
      rcases (by omega : q % 3 = 0 ∨ q % 3 = 1 ∨ q % 3 = 2) with hr | hr | hr
      · have hrI : (q : Int) % 3 = 0 := by omega
        have HT := Lib.hid (Add_any HBA.out.q (by have := HD.out; omega) (Nat.le_of_lt HBA.out.q.lt) x)
        clear hr
        go_wp2_with fail
        refine HT.out.mono ?_
        intro e w4 h4
        obtain ⟨rfl, v4, hbo4, hx4⟩ := HBA.out.pro HXA.out h4
        obtain ⟨y0, y1⟩ := hx4.cells
        have HBO4 := Lib.hid hbo4
        have HX4 := Lib.hid hx4
        have HTR := Lib.hid (rAdd_any hbo4.r (by have := HD.out; omega) (Nat.le_of_lt hbo4.r.lt) x)
        clear h4 HT hbo4 hx4 b0 b1
        obtain ⟨DB, hDB⟩ : ∃ DB, DB = wr.heap.size := ⟨_, rfl⟩
        rw [← hDB] at y0 y1 HX4 ⊢
        clear hDB HXA
        go_wp2_with fail
        refine HTR.out.mono ?_
        intro e w5 h5
        obtain ⟨rfl, v5, hbo5, hx5⟩ := HBO4.out.ref HX4.out h5
        have HE : Hid (∃ v rv d L, Bo w g rg v rv s d L d L w5 ∧ d ≤ j + 1) := Lib.hid ⟨_, _, _, _, hbo5, by have := (adD_le x d L).2; have := HD.out; omega⟩
        generalize adN x d L = xn at *
        generalize adE x L = xe at *
        have hx1 : (xn != xn) = false := bne_self_eq_false xn
        have hx2 : (xe != xe) = false := bne_self_eq_false xe
        clear h5 HTR hbo5 hx5 y0 y1
        go_wp2_with fail
        obtain ⟨v6, rv6, d6, L6, hbo6, hd6⟩ := HE.out
        obtain ⟨A8, n8, c8, rfl, hn8⟩ := hbo6.r.form
        have HB6 := Lib.hid hbo6
        have HD6 := Lib.hid hd6
        have HN8 := Lib.hid hn8
        have HN := Lib.hid (Next_any hbo6.q)
        have HNR := Lib.hid (fun wx (hb : Bo w g rg v6 (.slice A8 n8 c8) s d6 L6 d6 L6 wx) => rNext_any hb.r)
        have HLE := Lib.hid (fun wx (hb : Bo w g rg v6 (.slice A8 n8 c8) s d6 L6 d6 L6 wx) => Len_any hb.q)
        rw [← hn8] at HLE
        unfold nxV at HN HNR
        generalize nxN s L6 = ID at *
        generalize nxB s L6 = IS at *
        have hi1 : (ID != ID) = false := bne_self_eq_false ID
        have hi2 : (IS != IS) = false := by cases IS <;> rfl
        have hi3 : ((n8 : Int) != (n8 : Int)) = false := bne_self_eq_false _
        have hs8 := Gt.size (hbo6.r.own.wg).2
        have hs81 := hs8.1
        have hs82 := hs8.2
        clear HE hbo6 hd6 hn8 hs8
        go_wp2_with fail
        refine HN.out.mono ?_
        rintro e w7 ⟨rfl, hb7⟩
        have HB7 := Lib.hid (HB6.out.later hb7)
        clear hb7 HN
        go_wp2_with fail
        refine (HNR.out w7 HB7.out).mono ?_
        rintro e w8 ⟨rfl, hb8⟩
        have HB8 := Lib.hid (HB7.out.later hb8)
        clear hb8 HNR
        have y8 := HB8.out.r.cells.1
        have y9 : rg < w8.heap.size := HB8.out.r.lt
        go_wp2_with fail
        go_region_held3 (fun w' => w'.cell? ⟨rg, 0, none⟩ = some (.slice A8 n8 c8)) (go_keep)
          ((first
            | (go_at_call 21; refine HSM.out.mono ?_; rintro e wc ⟨rfl, hbc⟩; have HBc := Lib.hid (HBb.out.trans (hbc.mono HBb.out.size)); have yc := (HBc.out.cell (p := ⟨rg, 0, none⟩) y9).trans y8; clear hbc)
            | (go_at_call 22; refine (All_any (HB8.out.later (Below.refl _ _).drew).q).mono ?_; rintro e wb ⟨Ab, nb, cb, rfl, hnb, hob, hbb⟩; have hnn : nb = n8 := (by rw [hnb, HN8.out]); subst hnn; have HBb := Lib.hid ((Below.refl w8.heap.size w8).drew.trans hbb); have HSM := Lib.hid (same_yes Ab A8 nb cb c8 L6 wb (hob.wg).2 ((HB8.out.later HBb.out).r.own.wg).2 (by have h7 := HB8.out.q.ok.few; have h8 := HN8.out; omega)); have yb := (HBb.out.cell (p := ⟨rg, 0, none⟩) y9).trans y8; clear hnb hob hbb)
            | (go_at_call 20; refine (HLE.out _ (HB8.out.later (Below.refl _ _).drew)).mono ?_; rintro e wa ⟨rfl, hwa⟩; subst hwa)))
        have HEND : Hid (∃ v rv d L, Bo w g rg v rv s d L d L wc ∧ d ≤ j + 1) := Lib.hid ⟨_, _, _, _, HB8.out.later HBc.out, HD6.out⟩
        go_wp2_with fail
        go_roundw
        case rel => first | exact ⟨j + 1, by go_num, by omega, HEND⟩ | ((repeat apply Exists.intro); exact ⟨⟨j + 1, by go_num, by omega, HEND⟩, rfl⟩)
        case measure => simp [intOf]; omega
      · have hrI : (q : Int) % 3 = 1 := by omega
        have HT := Lib.hid (Take_any HBA.out.q)
        have HTR := Lib.hid (fun wx v0 rv0 d0 L0 (hb : Bo w g rg v0 rv0 s d0 L0 d L wx) => rTake_any hb.r (Nat.le_of_lt hb.r.lt))
        unfold nxV at HT HTR
        generalize nxN s L = xn at *
        generalize nxB s L = xe at *
        have hx1 : (xn != xn) = false := bne_self_eq_false xn
        have hx2 : (xe != xe) = false := by cases xe <;> rfl
        clear hr
        go_wp2_with fail
        refine HT.out.mono ?_
        intro e w4 h4
        obtain ⟨rfl, v4, hbo4, hx4⟩ := HBA.out.pro HXA.out h4
        have HBO4 := Lib.hid hbo4
        have HX4 := Lib.hid hx4
        clear h4 HT hbo4 hx4 b0 b1 HXA
        go_wp2_with fail
        refine (HTR.out w4 _ _ _ _ HBO4.out).mono ?_
        intro e w5 h5
        obtain ⟨rfl, v5, hbo5, hx5⟩ := HBO4.out.ref HX4.out h5
        have HE : Hid (∃ v rv d L, Bo w g rg v rv s d L d L w5 ∧ d ≤ j + 1) := Lib.hid ⟨_, _, _, _, hbo5, by have := HD.out; omega⟩
        clear h5 HTR hbo5 hx5
        go_wp2_with fail
        obtain ⟨v6, rv6, d6, L6, hbo6, hd6⟩ := HE.out
        obtain ⟨A8, n8, c8, rfl, hn8⟩ := hbo6.r.form
        have HB6 := Lib.hid hbo6
        have HD6 := Lib.hid hd6
        have HN8 := Lib.hid hn8
        have HN := Lib.hid (Next_any hbo6.q)
        have HNR := Lib.hid (fun wx (hb : Bo w g rg v6 (.slice A8 n8 c8) s d6 L6 d6 L6 wx) => rNext_any hb.r)
        have HLE := Lib.hid (fun wx (hb : Bo w g rg v6 (.slice A8 n8 c8) s d6 L6 d6 L6 wx) => Len_any hb.q)
        rw [← hn8] at HLE
        unfold nxV at HN HNR
        generalize nxN s L6 = ID at *
        generalize nxB s L6 = IS at *
        have hi1 : (ID != ID) = false := bne_self_eq_false ID
        have hi2 : (IS != IS) = false := by cases IS <;> rfl
        have hi3 : ((n8 : Int) != (n8 : Int)) = false := bne_self_eq_false _
        have hs8 := Gt.size (hbo6.r.own.wg).2
        have hs81 := hs8.1
        have hs82 := hs8.2
        clear HE hbo6 hd6 hn8 hs8
        go_wp2_with fail
        refine HN.out.mono ?_
        rintro e w7 ⟨rfl, hb7⟩
        have HB7 := Lib.hid (HB6.out.later hb7)
        clear hb7 HN
        go_wp2_with fail
        refine (HNR.out w7 HB7.out).mono ?_
        rintro e w8 ⟨rfl, hb8⟩
        have HB8 := Lib.hid (HB7.out.later hb8)
        clear hb8 HNR
        have y8 := HB8.out.r.cells.1
        have y9 : rg < w8.heap.size := HB8.out.r.lt
        go_wp2_with fail
        go_region_held3 (fun w' => w'.cell? ⟨rg, 0, none⟩ = some (.slice A8 n8 c8)) (go_keep)
          ((first
            | (go_at_call 21; refine HSM.out.mono ?_; rintro e wc ⟨rfl, hbc⟩; have HBc := Lib.hid (HBb.out.trans (hbc.mono HBb.out.size)); have yc := (HBc.out.cell (p := ⟨rg, 0, none⟩) y9).trans y8; clear hbc)
            | (go_at_call 22; refine (All_any (HB8.out.later (Below.refl _ _).drew).q).mono ?_; rintro e wb ⟨Ab, nb, cb, rfl, hnb, hob, hbb⟩; have hnn : nb = n8 := (by rw [hnb, HN8.out]); subst hnn; have HBb := Lib.hid ((Below.refl w8.heap.size w8).drew.trans hbb); have HSM := Lib.hid (same_yes Ab A8 nb cb c8 L6 wb (hob.wg).2 ((HB8.out.later HBb.out).r.own.wg).2 (by have h7 := HB8.out.q.ok.few; have h8 := HN8.out; omega)); have yb := (HBb.out.cell (p := ⟨rg, 0, none⟩) y9).trans y8; clear hnb hob hbb)
            | (go_at_call 20; refine (HLE.out _ (HB8.out.later (Below.refl _ _).drew)).mono ?_; rintro e wa ⟨rfl, hwa⟩; subst hwa)))
        have HEND : Hid (∃ v rv d L, Bo w g rg v rv s d L d L wc ∧ d ≤ j + 1) := Lib.hid ⟨_, _, _, _, HB8.out.later HBc.out, HD6.out⟩
        go_wp2_with fail
        go_roundw
        case rel => first | exact ⟨j + 1, by go_num, by omega, HEND⟩ | ((repeat apply Exists.intro); exact ⟨⟨j + 1, by go_num, by omega, HEND⟩, rfl⟩)
        case measure => simp [intOf]; omega
      · have hrI : (q : Int) % 3 = 2 := by omega
        clear hr
        obtain ⟨wa, hwa⟩ : ∃ wa, wa = wr.alloc (.cells #[.int .u8 (q : Int), .int .i64 x] 34) := ⟨_, rfl⟩
        obtain ⟨xe, hxe⟩ : ∃ xe, xe = drB x L := ⟨_, rfl⟩
        have hx2 : (xe != xe) = false := by cases xe <;> rfl
        have hBD : Bo w g rg v rv s d L d L wa.drew := by rw [hwa]; exact HBA.out.later (Below.refl _ _).drew
        have hXD : Ax wr.heap.size q x wa.drew := by rw [hwa]; exact HXA.out.later (Below.refl _ _).drew
        have HT := Lib.hid (Drop_any hBD.q x)
        have HTR := Lib.hid (fun wx v0 rv0 d0 L0 (hb : Bo w g rg v0 rv0 s d0 L0 d L wx) => rDrop_any hb.r (Nat.le_of_lt hb.r.lt) x)
        rw [← hxe] at HT HTR
        have HBD := Lib.hid hBD
        have HXD := Lib.hid hXD
        go_wp2_with fail
        rw [← hwa] at b0 b1 ⊢
        obtain ⟨DB, hDB⟩ : ∃ DB, DB = wr.heap.size := ⟨_, rfl⟩
        rw [← hDB] at b0 b1 HXD ⊢
        clear hwa hxe hBD hXD hDB HXA HBA
        go_region_held3 (fun w' => w'.cell? ⟨DB, 1, none⟩ = some (.int .i64 x)) (go_keep)
          ((first
            | (go_at_call 17; refine (HTR.out _ _ _ _ _ HBO4.out.1).mono ?_; intro e w5 h5; obtain ⟨rfl, v5, hbo5, hx5⟩ := HBO4.out.1.ref HBO4.out.2 h5; have yc := hx5.cells.2; have HBO5 := Lib.hid hbo5; clear h5 hbo5 hx5)
            | (go_at_call 16; refine HT.out.mono ?_; intro e w4 h4; obtain ⟨rfl, v4, hbo4, hx4⟩ := HBD.out.pro HXD.out h4; have yb := hx4.cells.2; have HBO4 := Lib.hid (And.intro hbo4 hx4); clear h4 hbo4 hx4)))
        have HE : Hid (∃ v rv d L, Bo w g rg v rv s d L d L w5 ∧ d ≤ j + 1) := Lib.hid ⟨_, _, _, _, HBO5.out, by have := HD.out; omega⟩
        clear HT HTR b0 b1
        go_wp2_with fail
        obtain ⟨v6, rv6, d6, L6, hbo6, hd6⟩ := HE.out
        obtain ⟨A8, n8, c8, rfl, hn8⟩ := hbo6.r.form
        have HB6 := Lib.hid hbo6
        have HD6 := Lib.hid hd6
        have HN8 := Lib.hid hn8
        have HN := Lib.hid (Next_any hbo6.q)
        have HNR := Lib.hid (fun wx (hb : Bo w g rg v6 (.slice A8 n8 c8) s d6 L6 d6 L6 wx) => rNext_any hb.r)
        have HLE := Lib.hid (fun wx (hb : Bo w g rg v6 (.slice A8 n8 c8) s d6 L6 d6 L6 wx) => Len_any hb.q)
        rw [← hn8] at HLE
        unfold nxV at HN HNR
        generalize nxN s L6 = ID at *
        generalize nxB s L6 = IS at *
        have hi1 : (ID != ID) = false := bne_self_eq_false ID
        have hi2 : (IS != IS) = false := by cases IS <;> rfl
        have hi3 : ((n8 : Int) != (n8 : Int)) = false := bne_self_eq_false _
        have hs8 := Gt.size (hbo6.r.own.wg).2
        have hs81 := hs8.1
        have hs82 := hs8.2
        clear HE hbo6 hd6 hn8 hs8
        go_wp2_with fail
        refine HN.out.mono ?_
        rintro e w7 ⟨rfl, hb7⟩
        have HB7 := Lib.hid (HB6.out.later hb7)
        clear hb7 HN
        go_wp2_with fail
        refine (HNR.out w7 HB7.out).mono ?_
        rintro e w8 ⟨rfl, hb8⟩
        have HB8 := Lib.hid (HB7.out.later hb8)
        clear hb8 HNR
        have y8 := HB8.out.r.cells.1
        have y9 : rg < w8.heap.size := HB8.out.r.lt
        go_wp2_with fail
        go_region_held3 (fun w' => w'.cell? ⟨rg, 0, none⟩ = some (.slice A8 n8 c8)) (go_keep)
          ((first
            | (go_at_call 21; refine HSM.out.mono ?_; rintro e wc ⟨rfl, hbc⟩; have HBc := Lib.hid (HBb.out.trans (hbc.mono HBb.out.size)); have yc := (HBc.out.cell (p := ⟨rg, 0, none⟩) y9).trans y8; clear hbc)
            | (go_at_call 22; refine (All_any (HB8.out.later (Below.refl _ _).drew).q).mono ?_; rintro e wb ⟨Ab, nb, cb, rfl, hnb, hob, hbb⟩; have hnn : nb = n8 := (by rw [hnb, HN8.out]); subst hnn; have HBb := Lib.hid ((Below.refl w8.heap.size w8).drew.trans hbb); have HSM := Lib.hid (same_yes Ab A8 nb cb c8 L6 wb (hob.wg).2 ((HB8.out.later HBb.out).r.own.wg).2 (by have h7 := HB8.out.q.ok.few; have h8 := HN8.out; omega)); have yb := (HBb.out.cell (p := ⟨rg, 0, none⟩) y9).trans y8; clear hnb hob hbb)
            | (go_at_call 20; refine (HLE.out _ (HB8.out.later (Below.refl _ _).drew)).mono ?_; rintro e wa ⟨rfl, hwa⟩; subst hwa)))
        have HEND : Hid (∃ v rv d L, Bo w g rg v rv s d L d L wc ∧ d ≤ j + 1) := Lib.hid ⟨_, _, _, _, HB8.out.later HBc.out, HD6.out⟩
        go_wp2_with fail
        go_roundw
        case rel => first | exact ⟨j + 1, by go_num, by omega, HEND⟩ | ((repeat apply Exists.intro); exact ⟨⟨j + 1, by go_num, by omega, HEND⟩, rfl⟩)
        case measure => simp [intOf]; omega
    · obtain rfl : j = m := by omega
      have HBB := Lib.hid hbo.be
      clear hbo
      go_wp2_with fail
      go_ret
      exact ⟨rfl, HBB.out⟩
end Ag
end Go.Proofs.Ytgeahckblgpnmaa
