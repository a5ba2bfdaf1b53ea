/-
  TopTold: the walk (written by tools/rbtold.py).
-/
import Derived.Test.YtobpinelhjpfgaaDoorTtD
import Derived.Deep.CutBlock
import Derived.Deep.CutRange
import Derived.Deep.DeepCutAuto
import Derived.Deep.QuietTactic
import Derived.BigQuiet
set_option linter.unusedVariables false
set_option maxRecDepth 100000
namespace Go.Proofs.YtobpinelhjpfgaaDoor
namespace Rc
open Go.RowKit Bp Ck Ln Rb Tt
theorem told_one {w w1 : World} {r h s : Nat} {v : Value} {z : R} (g : Rs w w1 r h s v z) (wE : World) (hE : wE = (((((w1.alloc (.cells #[.pointer (some ⟨r, 0, none⟩)] 24)).alloc (.cells #[.int .u64 0, .slice none 0 0] 102)).alloc (.cells #[.int .u64 0] 104)).alloc (.cells #[.pointer (some ⟨w1.heap.size + 1, 0, none⟩)] 63)).alloc (.cells #[.pointer (some ⟨w1.heap.size + 1 + 1, 0, none⟩)] 65))) :
    Tri w wE ⟨r, h, s, w1.heap.size + 1, w1.heap.size + 1 + 1⟩ v (.slice none 0 0) z 0 [] 0 ∧ wE.heap[w1.heap.size]? = some (.cells #[.pointer (some ⟨r, 0, none⟩)] 24 (0, 0)) ∧ wE.heap[w1.heap.size + 1 + 1 + 1]? = some (.cells #[.pointer (some ⟨w1.heap.size + 1, 0, none⟩)] 63 (0, 0)) ∧ wE.heap[w1.heap.size + 1 + 1 + 1 + 1]? = some (.cells #[.pointer (some ⟨w1.heap.size + 1 + 1, 0, none⟩)] 65 (0, 0)) ∧ Below w1.heap.size w1 wE ∧ wE.heap.size = w1.heap.size + 1 + 1 + 1 + 1 + 1 := by
  have x3 := heap_alloc_new w1 (.cells #[.pointer (some ⟨r, 0, none⟩)] 24)
  have ba := below_new w1 (.cells #[.pointer (some ⟨r, 0, none⟩)] 24)
  have sa : (w1.alloc (.cells #[.pointer (some ⟨r, 0, none⟩)] 24)).heap.size = w1.heap.size + 1 := by simp
  generalize w1.alloc (.cells #[.pointer (some ⟨r, 0, none⟩)] 24) = wa at *
  obtain ⟨hs, hr, hb, hz⟩ := both_new wa 0 0 (by decide) (by decide) _ rfl
  have e0 : (wa.alloc (.cells #[.int .u64 ((0 : Nat) : Int), .slice none 0 0] 102)).alloc (.cells #[.int .u64 ((0 : Nat) : Int)] 104) = (wa.alloc (.cells #[.int .u64 0, .slice none 0 0] 102)).alloc (.cells #[.int .u64 0] 104) := rfl
  rw [e0] at hs hr hb hz
  generalize (wa.alloc (.cells #[.int .u64 0, .slice none 0 0] 102)).alloc (.cells #[.int .u64 0] 104) = wc at *
  have x5 := heap_alloc_new wc (.cells #[.pointer (some ⟨w1.heap.size + 1, 0, none⟩)] 63)
  have bd := below_new wc (.cells #[.pointer (some ⟨w1.heap.size + 1, 0, none⟩)] 63)
  have sd : (wc.alloc (.cells #[.pointer (some ⟨w1.heap.size + 1, 0, none⟩)] 63)).heap.size = wc.heap.size + 1 := by simp
  generalize wc.alloc (.cells #[.pointer (some ⟨w1.heap.size + 1, 0, none⟩)] 63) = wd at *
  have x6 := heap_alloc_new wd (.cells #[.pointer (some ⟨w1.heap.size + 1 + 1, 0, none⟩)] 65)
  have be := below_new wd (.cells #[.pointer (some ⟨w1.heap.size + 1 + 1, 0, none⟩)] 65)
  have se : (wd.alloc (.cells #[.pointer (some ⟨w1.heap.size + 1 + 1, 0, none⟩)] 65)).heap.size = wd.heap.size + 1 := by simp
  rw [← hE] at x6 be se
  clear hE e0
  have hce := bd.trans (be.mono (by omega))
  have hae := hb.trans (hce.mono (by omega))
  have h1e := ba.trans (hae.mono (by omega))
  rw [sa] at hs hr
  rw [hz, sa] at sd
  rw [show wc.heap.size = w1.heap.size + 1 + 1 + 1 by omega] at x5
  rw [sd] at se
  rw [show wd.heap.size = w1.heap.size + 1 + 1 + 1 + 1 by omega] at x6
  refine ⟨Tri.new g (hs.later hce) (hr.later hce) h1e (by omega) (by omega) rfl, (hae.block _ (by omega)).trans x3, (be.block _ (by omega)).trans x5, x6, h1e, by omega⟩
theorem told_two {w w1 wE w4 w5 : World} {r h s q g b3 b5 b6 : Nat} {v : Value} {z : R} (ht : Tri w wE ⟨r, h, s, q, g⟩ v (.slice none 0 0) z 0 [] 0) (x3 : wE.heap[b3]? = some (.cells #[.pointer (some ⟨r, 0, none⟩)] 24 (0, 0))) (x5 : wE.heap[b5]? = some (.cells #[.pointer (some ⟨q, 0, none⟩)] 63 (0, 0))) (x6 : wE.heap[b6]? = some (.cells #[.pointer (some ⟨g, 0, none⟩)] 65 (0, 0)))
    (hn4 : Nw.NAt w4 wE.heap.size wE.heap.size (.slice none 0 0) [] []) (hb4 : Below wE.heap.size wE w4) (hn5 : Nw.NAt w5 w4.heap.size w4.heap.size (.slice none 0 0) [] []) (hb5 : Below w4.heap.size w4 w5) (wF : World) (hF : wF = (w5.alloc (.cells #[.pointer (some ⟨wE.heap.size, 0, none⟩)] 75)).alloc (.cells #[.pointer (some ⟨w4.heap.size, 0, none⟩)] 75)) :
    Sm w wF ⟨⟨r, h, s, q, g⟩, wE.heap.size, w4.heap.size, b3, b5, b6, w5.heap.size, w5.heap.size + 1⟩ ⟨v, .slice none 0 0, z, 0, [], 0, .slice none 0 0, [], [], .slice none 0 0, [], [], .slice none 0 0, [], .slice none 0 0, []⟩ := by
  have x7 := heap_alloc_new w5 (.cells #[.pointer (some ⟨wE.heap.size, 0, none⟩)] 75)
  have ba := below_new w5 (.cells #[.pointer (some ⟨wE.heap.size, 0, none⟩)] 75)
  have sa : (w5.alloc (.cells #[.pointer (some ⟨wE.heap.size, 0, none⟩)] 75)).heap.size = w5.heap.size + 1 := by simp
  generalize w5.alloc (.cells #[.pointer (some ⟨wE.heap.size, 0, none⟩)] 75) = wa at *
  have x8 := heap_alloc_new wa (.cells #[.pointer (some ⟨w4.heap.size, 0, none⟩)] 75)
  have bb := below_new wa (.cells #[.pointer (some ⟨w4.heap.size, 0, none⟩)] 75)
  rw [← hF] at x8 bb
  rw [sa] at x8
  have h5F := ba.trans (bb.mono (by omega))
  have h4F := hb5.trans (h5F.mono hb5.size)
  have hEF := hb4.trans (h4F.mono hb4.size)
  have hB := ht.below.size
  have l4 : wE.heap.size < w4.heap.size := hn4.lt
  have l5 : w4.heap.size < w5.heap.size := hn5.lt
  have lb := hb4.size
  refine Sm.start (ht.later hEF) (nat_low (hn4.later h4F) hB) (nat_low (hn5.later h5F) (Nat.le_trans hB hb4.size)) ((hEF.block _ (lt_of_heap x3)).trans x3) ((hEF.block _ (lt_of_heap x5)).trans x5) ((hEF.block _ (lt_of_heap x6)).trans x6) (show _ from (bb.block w5.heap.size (by omega)).trans x7) x8 (by show wE.heap.size ≠ w4.heap.size; omega) (fun e => ?_) (fun e => ?_)
  · have e2 : wE.heap.size < wE.heap.size := ht.lt _ e
    omega
  · have e2 := ht.lt _ e
    have e3 : w4.heap.size < wE.heap.size := e2
    omega
set_option maxHeartbeats 8000000 in
theorem topTold_walk (A : Option Addr) (n cap : Nat) (f : Nat → S18) (w : World) (h : Sts w.heap.size w A n cap f) (hS : Shp w) :
    Calls Tryd.prog 8 #[.slice A n cap] w fun e w' => e = .returned (.bool true) ∧ Below w.heap.size w w' := by
  have HA := Lib.hid h
  have hle := h.le
  have hmx := h.max
  unfold maxLen at hmx
  have HN := Lib.hid (rs_new w hS 3 1000 (by decide) (by decide))
  clear h hS
  go_enter Tryd.func8, Tryd.ntmps8
  go_wp2_with fail
  refine HN.out.mono ?_
  rintro e w1 ⟨r, h, s, rfl, v, hg1⟩
  have HG1 := Lib.hid hg1
  clear hg1 HN
  go_wp2_with fail
  refine (newSender_any 0 _).mono ?_
  rintro e w3 ⟨rfl, rfl⟩
  go_wp2_with fail
  refine (newReceiver_any 0 _).mono ?_
  rintro e w3 ⟨rfl, rfl⟩
  go_wp2_with fail
  obtain ⟨wE, hwE⟩ : ∃ wE, wE = (((((w1.alloc (.cells #[.pointer (some ⟨r, 0, none⟩)] 24)).alloc (.cells #[.int .u64 0, .slice none 0 0] 102)).alloc (.cells #[.int .u64 0] 104)).alloc (.cells #[.pointer (some ⟨w1.heap.size + 1, 0, none⟩)] 63)).alloc (.cells #[.pointer (some ⟨w1.heap.size + 1 + 1, 0, none⟩)] 65)) := ⟨_, rfl⟩
  obtain ⟨ht, x3, x5, x6, hbE, hzE⟩ := told_one HG1.out wE hwE
  rw [← hwE]
  have HT := Lib.hid ht
  have HX3 := Lib.hid x3
  have HX5 := Lib.hid x5
  have HX6 := Lib.hid x6
  clear ht x3 x5 x6 hbE hzE hwE HG1
  generalize w1.heap.size + 1 + 1 + 1 + 1 = b6 at *
  generalize w1.heap.size + 1 + 1 + 1 = b5 at *
  generalize w1.heap.size + 1 + 1 = g at *
  generalize w1.heap.size + 1 = q at *
  generalize w1.heap.size = b3 at *
  refine (Nw.new_any wE).mono ?_
  rintro e w4 ⟨rfl, hn4, hb4⟩
  have HN4 := Lib.hid hn4
  have HB4 := Lib.hid hb4
  clear hn4 hb4
  go_wp2_with fail
  refine (Nw.new_any w4).mono ?_
  rintro e w5 ⟨rfl, hn5, hb5⟩
  obtain ⟨wF, hwF⟩ : ∃ wF, wF = (w5.alloc (.cells #[.pointer (some ⟨wE.heap.size, 0, none⟩)] 75)).alloc (.cells #[.pointer (some ⟨w4.heap.size, 0, none⟩)] 75) := ⟨_, rfl⟩
  have hsm := told_two (w1 := w1) HT.out HX3.out HX5.out HX6.out HN4.out HB4.out hn5 hb5 wF hwF
  have HSM := Lib.hid hsm
  have HWF := Lib.hid hwF
  obtain ⟨k3, -⟩ := cell_one hsm.x3
  obtain ⟨k5, -⟩ := cell_one hsm.x5
  obtain ⟨k6, -⟩ := cell_one hsm.x6
  obtain ⟨k7, -⟩ := cell_one hsm.x7
  obtain ⟨k8, -⟩ := cell_one hsm.x8
  simp only at k3 k5 k6 k7 k8
  rw [hwF] at k3 k5 k6 k7 k8
  clear hn5 hb5 hsm hwF HT HX3 HX5 HX6 HN4 HB4
  go_wp2_with fail
  rw [← HWF.out]
  clear k3 k5 k6 k7 k8 HWF
  generalize w5.heap.size + 1 = b8 at *
  generalize w5.heap.size = b7 at *
  generalize w4.heap.size = g2 at *
  generalize wE.heap.size = g1 at *
  go_loopw [9, 10, 64] (fun tv dv iv wr => ∃ (k : Nat) (y : Zt), tv = y.vT ∧ dv = y.vD ∧ iv = .int .i64 (k : Int) ∧ k ≤ n ∧ k ≤ 200 ∧ Hid (Sm w wr ⟨⟨r, h, s, q, g⟩, g1, g2, b3, b5, b6, b7, b8⟩ y ∧ IvZ k y)) (fun _ _ iv _ => n - (intOf iv).toNat)
  case atStart => exact ⟨0, _, rfl, rfl, rfl, Nat.zero_le _, Nat.zero_le _, Lib.hid ⟨HSM.out, Iv.start _ _ (by decide)⟩⟩
  case round =>
    rename World => wr
    clear HSM
    obtain ⟨k, y, rfl, rfl, rfl, hk, hk200, HY⟩ := hrel
    obtain ⟨hsm, hiv⟩ := HY.out
    have HBR := Lib.hid hsm.below
    by_cases hlt : k < n
    · have hltI : (k : Int) < (n : Int) := by omega
      obtain ⟨ga, off, rfl, hg, hc⟩ := HA.out.cell (by omega)
      have hat := (hc k hlt).below hg HBR.out
      have hft := HA.out.fits k hlt
      clear hc
      generalize f k = x at *
      obtain ⟨kd, xk, xc, xp, at_⟩ := x
      obtain ⟨q0, q1, q2, q3, q4⟩ := hat
      obtain ⟨hkd, hxk, hat0, hat1⟩ := hft
      simp only at q0 q1 q2 q3 q4 hkd hxk hat0 hat1
      obtain ⟨m10, hm10, hm11⟩ : ∃ m10 : Nat, (kd : Int).tmod 10 = (m10 : Int) ∧ m10 < 10 := ⟨kd % 10, by rw [Int.tmod_eq_emod_of_nonneg (by omega)]; omega, Nat.mod_lt _ (by omega)⟩
      have hal := below_new wr (.cells #[.int .u8 (kd : Int), .int .u8 (xk : Int), .int .i64 xc, .int .i64 xp, .int .i64 at_] 80)
      have hbx := heap_alloc_new wr (.cells #[.int .u8 (kd : Int), .int .u8 (xk : Int), .int .i64 xc, .int .i64 xp, .int .i64 at_] 80)
      obtain ⟨v, u, z, ts, ps, hh, v1, P1, L1, v2, P2, L2, vT, T, vD, D⟩ := y
      obtain ⟨AT, cT, eT⟩ : ∃ A c, vT = .slice A T.length c := hsm.rt.form
      obtain ⟨AD, cD, eD⟩ : ∃ A c, vD = .slice A D.length c := hsm.rd.form
      subst eT eD
      obtain ⟨-, ft1, ft2⟩ := Aw.fits hsm.rt
      obtain ⟨-, fd1, fd2⟩ := Aw.fits hsm.rd
      have hlot : T.length ≤ 200 ∧ D.length ≤ 200 ∧ hh ≤ 1000 ∧ ts ≤ 1000 := by have e1 := Iv.few hiv; have e2 := (Iv.lens hiv).1; have e3 := Iv.lot hiv; simp only at e1 e2 e3; omega
      simp only at ft1 ft2 fd1 fd2 ⊢
      have HS := Lib.hid (hsm.later hal)
      have HI := Lib.hid hiv
      have HBX := Lib.hid hbx
      obtain ⟨b0, b1, b2, b3', b4⟩ := box5 hbx
      clear hsm hiv HY hal hbx hg
      by_cases h200 : k = 200
      · have d200 : decide ((200 : Int) ≤ (k : Int)) = true := decide_eq_true (by omega)
        have HBE := Lib.hid HS.out.below
        clear h200
        go_wp2_with fail
        go_ret
        exact ⟨rfl, HBE.out⟩
      · have d200 : decide ((200 : Int) ≤ (k : Int)) = false := decide_eq_false (by omega)
        have hk1000 : k + 1 ≤ 1000 := by omega
        have hk201 : k + 1 ≤ 200 := by omega
        clear h200
        go_upto_block 2 with fail
        generalize wr.alloc (.cells #[.int .u8 (kd : Int), .int .u8 (xk : Int), .int .i64 xc, .int .i64 xp, .int .i64 at_] 80) = wB at *
        generalize wr.heap.size = bx at *
        go_cut [9, 10] (fun tv dv wz => ∃ y' : Zt, tv = y'.vT ∧ dv = y'.vD ∧ Hid (Sm w wz ⟨⟨r, h, s, q, g⟩, g1, g2, b3, b5, b6, b7, b8⟩ y' ∧ IvZ (k + 1) y'))
        case first =>
          as_aux_lemma =>
          obtain rfl | rfl | rfl | rfl | rfl | rfl | rfl | rfl | rfl | rfl : m10 = 0 ∨ m10 = 1 ∨ m10 = 2 ∨ m10 = 3 ∨ m10 = 4 ∨ m10 = 5 ∨ m10 = 6 ∨ m10 = 7 ∨ m10 = 8 ∨ m10 = 9 := by omega
          · as_aux_lemma =>
              have hsh := HS.out.tri.rb.sh
              by_cases hok : Aok xk xc xp
              · have HL := Lib.hid (layAct_ok xk xc xp wB hok hsh)
                have HOK := Lib.hid hok
                clear hok hsh
                go_wp2_with fail
                refine HL.out.mono ?_
                intro e w5 hx
                obtain ⟨A5, c5, rfl, hy5, hb5⟩ := hx.own (pack_byte _)
                have hy5' : By w5.heap.size w5 A5 (actB xk xc xp).length c5 (actB xk xc xp) := hy5
                have hf5 : ∀ a, A5 = some a → wB.heap.size ≤ a.block := by
                  obtain ⟨A6, c6, e6, ho6, _⟩ := hx
                  injection e6 with e6
                  injection e6 with e6
                  have e7 := congrArg (fun l : List Value => l.head?) (Array.mk.inj e6)
                  simp at e7
                  obtain ⟨rfl, -, rfl⟩ := e7
                  exact own_low ho6
                have h5 := HS.out.later hb5
                have HY5 := Lib.hid hy5'
                have HF5 := Lib.hid hf5
                have HHD := Lib.hid (heard_any h5.tri.rat)
                have H5 := Lib.hid h5
                have HBX5 := Lib.hid ((hb5.block bx (lt_of_heap HBX.out)).trans HBX.out)
                have HZ5 := Lib.hid hb5.size
                obtain ⟨k6, -⟩ := cell_one h5.x6
                clear hx hy5 hy5' hf5 hb5 h5 HL b0 b1 b2 b3' b4
                go_wp2_with fail
                refine HHD.out.mono ?_
                rintro e w6 ⟨rfl, rfl⟩
                by_cases hT : hh = T.length
                · have tne : ((hh : Int) != (T.length : Int)) = false := by rw [bne_eq_false_iff_eq]; omega
                  obtain ⟨k5, -⟩ := cell_one H5.out.x5
                  by_cases hp : ps = []
                  · have HPK := Lib.hid (packet_any H5.out.tri.sat)
                    have HIA := Lib.hid (Iv.acked HI.out)
                    have hts : ts = T.length := by
                      have e := Iv.sn HI.out
                      simp only at e
                      rw [if_pos hp] at e
                      omega
                    unfold PktTold at HPK
                    simp only at HPK
                    rw [hp, decide_eq_false (show ¬ ([] : List Nat) ≠ [] by simp)] at HPK
                    have H5b : Hid (Sm w w5 ⟨⟨r, h, s, q, g⟩, g1, g2, b3, b5, b6, b7, b8⟩ ⟨v, u, z, T.length, [], hh, v1, P1, L1, v2, P2, L2, .slice AT T.length cT, T, .slice AD D.length cD, D⟩) := Lib.hid (by have e := H5.out; rw [hp, hts] at e; exact e)
                    clear HHD k6
                    go_wp2_with fail
                    refine HPK.out.mono ?_
                    rintro e w7 ⟨A7, c7, rfl, -, hb7⟩
                    have H7 := Lib.hid (H5b.out.later hb7)
                    have HY7 := Lib.hid (Ln.by_later HY5.out hb7)
                    have HBX7 := Lib.hid ((hb7.block bx (lt_of_heap HBX5.out)).trans HBX5.out)
                    clear hb7 HPK H5 H5b k5
                    have htl1 : T.length ≤ 1000 := by omega
                    have HOK2 := Lib.hid (okp (n := T.length) (xk, xc, xp) (by omega))
                    have HTL : Hid (Calls Tryd.prog 33 #[.pointer (some ⟨q, 0, none⟩), .slice A5 (actB xk xc xp).length c5] w7 (STold q u T.length (play false (T.length + 1) (acB (xk, xc, xp))) (.int .i64 0) w7)) := Lib.hid (tell_new H7.out.tri.sat (by omega) HY7.out (Nat.le_refl _) (by rw [actB_len]; decide))
                    obtain ⟨k5, -⟩ := cell_one H7.out.x5
                    go_wp2_with fail
                    refine HTL.out.mono ?_
                    rintro e wt ⟨ut, rfl, hst, htt, hvt⟩
                    obtain ⟨htrt, httt⟩ := H7.out.tri.sender hst htt hvt
                    have hst2 := H7.out.trio htrt httt
                    have HST := Lib.hid hst2
                    have hbxt := H7.out.box 0 httt HBX7.out (by decide)
                    obtain ⟨b0, b1, b2, b3', b4⟩ := box5 hbxt
                    have HIT := Lib.hid (Iv.tell (x := (xk, xc, xp)) HIA.out hT hk1000 HOK.out)
                    have hrt := hst2.rt
                    have hB := hst2.below.size
                    clear hst htt hvt htrt httt hbxt HTL k5
                    go_wp2_with (at_builtin; refine app_act rfl _ _ rfl w.heap.size (.slice AT T.length cT) T rfl (xk, xc, xp) hrt rfl rfl (by omega) hB ?_)
                    intro A9 c9 w9 hr9 ht9
                    have H9 := Lib.hid (HST.out.rowT hr9 ht9)
                    clear hr9 ht9 hrt hst2 hB HST b0 b1 b2 b3' b4
                    go_wp2_with fail
                    go_meet
                    exact ⟨_, rfl, rfl, Lib.hid ⟨H9.out, HIT.out⟩⟩
                  · have HPK := Lib.hid (packet_yes H5.out.tri.sat hp)
                    obtain ⟨x, hx1, hx2⟩ := Iv.sp HI.out hp
                    simp only at hx1 hx2
                    have HX2 := Lib.hid hx2
                    have hok7 := okp (n := ts) x (by omega)
                    have HOK7 := Lib.hid hok7
                    have hts : T.length = ts + 1 := by
                      have e := Iv.sn HI.out
                      simp only at e
                      rw [if_neg hp] at e
                      exact e
                    have HTS := Lib.hid hts
                    clear hts
                    have HIA := Lib.hid (Iv.acked HI.out)
                    have HPNE := Lib.hid hp
                    clear HHD k6 hx1 hx2 hok7
                    simp only at HPK
                    go_wp2_with fail
                    refine HPK.out.mono ?_
                    rintro e w7 ⟨A7, c7, rfl, ⟨hy7, -⟩, hb7⟩
                    have HTK : Hid (Calls Tryd.prog 41 #[.slice A7 ps.length c7] w7 fun e w' => ∃ A1 c1, e = .returned (.tuple #[.agg #[.bool false, .int .u64 ((ts : Int) + 1), .slice A1 (acB x).length c1], .int .i64 0]) ∧ Below w7.heap.size w7 w') := Lib.hid (take_is HOK7.out (by rw [← HX2.out]; exact hy7) (Nat.le_refl _))
                    have HB7 := Lib.hid hb7
                    clear hy7 hb7 HPK k5
                    go_wp2_with fail
                    refine HTK.out.mono ?_
                    rintro e w8 ⟨A8, c8, rfl, hb8⟩
                    have hal8 := box3_below w8 (.bool false) (.int .u64 ((ts : Int) + 1)) (.slice A8 (acB x).length c8)
                    have hal80 := box3 w8 (.bool false) (.int .u64 ((ts : Int) + 1)) (.slice A8 (acB x).length c8)
                    obtain ⟨d0, d1, d2⟩ := pkt_cells hal80
                    have HB8 := Lib.hid ((HB7.out.trans (hb8.mono HB7.out.size)).trans (hal8.mono (Nat.le_trans HB7.out.size hb8.size)))
                    have HLY : Hid (∀ W, Calls Tryd.prog 45 #[.agg #[.bool true, .int .u64 ((ts : Int) + 1), .slice none 0 0]] W (Ln.LayTold W (play true (ts + 1) []))) := Lib.hid (fun W => Ln.lay_ok (n := ts + 1) (okh (by omega)) (By.none_ 0 W) (Nat.zero_le _))
                    clear hb8 hal8 hal80 HTK
                    go_wp2_with fail
                    generalize w8.alloc (.cells #[.bool false, .int .u64 ((ts : Int) + 1), .slice A8 (acB x).length c8] 48) = w9 at *
                    refine (HLY.out _).mono ?_
                    rintro e w10 ⟨g10, c10, rfl, ho10, hb10⟩
                    have hb610 := HB8.out.trans (hb10.mono HB8.out.size)
                    have h10 := H5.out.later hb610
                    have HSY := Lib.hid (shear_yes h10.tri.sat HPNE.out (By.own ho10 (okh (n := ts) (by omega)).play_byte) (Nat.le_refl _))
                    have HY10 := Lib.hid (Ln.by_later HY5.out hb610)
                    have HBX10 := Lib.hid ((hb610.block bx (lt_of_heap HBX5.out)).trans HBX5.out)
                    have H10 := Lib.hid h10
                    obtain ⟨k5, -⟩ := cell_one h10.x5
                    simp only at HSY
                    clear ho10 hb10 hb610 h10 HLY HB8 HB7 H5 d0 d1 d2
                    go_wp2_with fail
                    refine HSY.out.mono ?_
                    rintro e w11 ⟨u11, rfl, hs11, ht11, hv11⟩
                    obtain ⟨htr11, htt11⟩ := H10.out.tri.sender hs11 ht11 hv11
                    have h11 := H10.out.trio htr11 htt11
                    simp only at h11
                    rw [← HTS.out] at h11
                    have H11 := Lib.hid h11
                    have HBX11 := Lib.hid (H10.out.box 0 htt11 HBX10.out (by decide))
                    have HY11 := Lib.hid (by_turnF HY10.out ht11 (B := wB.heap.size) (fun j hj => by have e : j = q := hj; rw [e]; exact HS.out.tri.sat.lt q (.inl rfl)) HF5.out)
                    clear hs11 ht11 hv11 htr11 htt11 h11 HSY H10 k5
                    have htl1 : T.length ≤ 1000 := by omega
                    have HOK2 := Lib.hid (okp (n := T.length) (xk, xc, xp) (by omega))
                    have HTL : Hid (Calls Tryd.prog 33 #[.pointer (some ⟨q, 0, none⟩), .slice A5 (actB xk xc xp).length c5] w11 (STold q u11 T.length (play false (T.length + 1) (acB (xk, xc, xp))) (.int .i64 0) w11)) := Lib.hid (tell_new H11.out.tri.sat (by omega) HY11.out (Nat.le_refl _) (by rw [actB_len]; decide))
                    obtain ⟨k5, -⟩ := cell_one H11.out.x5
                    go_wp2_with fail
                    refine HTL.out.mono ?_
                    rintro e wt ⟨ut, rfl, hst, htt, hvt⟩
                    obtain ⟨htrt, httt⟩ := H11.out.tri.sender hst htt hvt
                    have hst2 := H11.out.trio htrt httt
                    have HST := Lib.hid hst2
                    have hbxt := H11.out.box 0 httt HBX11.out (by decide)
                    obtain ⟨b0, b1, b2, b3', b4⟩ := box5 hbxt
                    have HIT := Lib.hid (Iv.tell (x := (xk, xc, xp)) HIA.out hT hk1000 HOK.out)
                    have hrt := hst2.rt
                    have hB := hst2.below.size
                    clear hst htt hvt htrt httt hbxt HTL k5
                    go_wp2_with (at_builtin; refine app_act rfl _ _ rfl w.heap.size (.slice AT T.length cT) T rfl (xk, xc, xp) hrt rfl rfl (by omega) hB ?_)
                    intro A9 c9 w9 hr9 ht9
                    have H9 := Lib.hid (HST.out.rowT hr9 ht9)
                    clear hr9 ht9 hrt hst2 hB HST b0 b1 b2 b3' b4
                    go_wp2_with fail
                    go_meet
                    exact ⟨_, rfl, rfl, Lib.hid ⟨H9.out, HIT.out⟩⟩
                · have tne : ((hh : Int) != (T.length : Int)) = true := by rw [bne_iff_ne]; omega
                  clear HHD k6
                  go_wp2_with fail
                  go_roundw
                  case rel => exact ⟨k + 1, _, rfl, rfl, by go_num, by omega, by omega, Lib.hid ⟨H5.out, Iv.more HI.out hk1000⟩⟩
                  case measure => simp [intOf]; try omega
              · have HL := Lib.hid (layAct_no xk xc xp wB hok hsh)
                clear hok hsh
                go_wp2_with fail
                refine HL.out.mono ?_
                rintro e w5 ⟨rfl, hb5⟩
                have H5 := Lib.hid (HS.out.later hb5)
                clear hb5 HL b0 b1 b2 b3' b4
                go_wp2_with fail
                go_roundw
                case rel => exact ⟨k + 1, _, rfl, rfl, by go_num, by omega, by omega, Lib.hid ⟨H5.out, Iv.more HI.out hk1000⟩⟩
                case measure => simp [intOf]; try omega
          · as_aux_lemma =>
              obtain ⟨ks, -⟩ := cell_one HS.out.x5
              by_cases hp : ps = []
              · have HPK := Lib.hid (packet_no (by have e := HS.out.tri.sat; simp only at e; rw [hp] at e; exact e))
                clear b0 b1 b2 b3' b4
                go_wp2_with fail
                refine HPK.out.mono ?_
                rintro e w7 ⟨A7, c7, rfl, hb7⟩
                have H7 := Lib.hid (HS.out.later hb7)
                clear hb7 HPK
                go_wp2_with fail
                go_meet
                exact ⟨_, rfl, rfl, Lib.hid ⟨H7.out, Iv.more HI.out hk1000⟩⟩
              · have HPK := Lib.hid (packet_yes HS.out.tri.sat hp)
                have HIS := Lib.hid (Iv.more (Iv.sends HI.out hp) hk1000)
                have hln : (ps).length ≤ 300 := HS.out.tri.sat.few
                simp only at HPK
                clear b0 b1 b2 b3' b4
                go_wp2_with fail
                refine HPK.out.mono ?_
                rintro e w7 ⟨A7, c7, rfl, ⟨hy7, -⟩, hb7⟩
                have h7 := HS.out.later hb7
                have HSN := Lib.hid (Nw.Send_any h7.n1 h7.below.size A7 _ c7 _ (by_yb hy7) (by omega))
                obtain ⟨kn, -⟩ := cell_one h7.x7
                have H7 := Lib.hid h7
                clear hy7 hb7 h7 HPK
                simp only at HSN
                go_wp2_with fail
                refine HSN.out.mono ?_
                rintro e w8 ⟨v8, P8, rfl, hn8, ht8⟩
                have H8 := Lib.hid (H7.out.net1 hn8 ht8)
                clear hn8 ht8 HSN H7 kn
                go_wp2_with fail
                go_meet
                exact ⟨_, rfl, rfl, Lib.hid ⟨H8.out, HIS.out⟩⟩
          · as_aux_lemma =>
              obtain ⟨kn, -⟩ := cell_one HS.out.x7
              have HTK := Lib.hid (take1 HS.out HI.out at_ hat1)
              simp only at HTK
              clear b0 b1 b2 b3'
              go_wp2_with fail
              refine HTK.out.mono ?_
              rintro e w7 ⟨A7, n7, c7, bs7, bb7, rfl, hy7, hn7, hto7, v7, P7, h7, iv7⟩
              have HCM := Lib.hid (comes_any h7 iv7 hy7 hto7)
              have hn8 := hy7.le
              have hn9 := hy7.max
              unfold maxLen at hn9
              clear hy7 hto7 h7 iv7 HTK kn b4
              simp only at HCM
              go_wp2_with fail
              refine HCM.out.mono ?_
              rintro e w8 ⟨rfl, y8, h8, iv8, e1, -, e2, -⟩
              have H8 := Lib.hid h8
              have HI8 := Lib.hid (Iv.more iv8 hk1000)
              have E1 := Lib.hid e1
              have E2 := Lib.hid e2
              clear h8 iv8 e1 e2 HCM
              go_wp2_with fail
              go_meet
              exact ⟨y8, E1.out.symm, E2.out.symm, Lib.hid ⟨H8.out, HI8.out⟩⟩
          · as_aux_lemma =>
              obtain ⟨kn, -⟩ := cell_one HS.out.x8
              have HTK := Lib.hid (take2 HS.out HI.out at_ hat1)
              simp only at HTK
              clear b0 b1 b2 b3'
              go_wp2_with fail
              refine HTK.out.mono ?_
              rintro e w7 ⟨A7, n7, c7, bs7, bb7, rfl, hy7, hn7, hto7, v7, P7, h7, iv7⟩
              have HCM := Lib.hid (back_any h7 iv7 hy7 hto7)
              have hn8 := hy7.le
              have hn9 := hy7.max
              unfold maxLen at hn9
              clear hy7 hto7 h7 iv7 HTK kn b4
              simp only at HCM
              go_wp2_with fail
              refine HCM.out.mono ?_
              rintro e w8 ⟨rfl, y8, h8, iv8, e1, -, e2, -⟩
              have H8 := Lib.hid h8
              have HI8 := Lib.hid (Iv.more iv8 hk1000)
              have E1 := Lib.hid e1
              have E2 := Lib.hid e2
              clear h8 iv8 e1 e2 HCM
              go_wp2_with fail
              go_meet
              exact ⟨y8, E1.out.symm, E2.out.symm, Lib.hid ⟨H8.out, HI8.out⟩⟩
          · as_aux_lemma =>
              obtain ⟨kn, -⟩ := cell_one HS.out.x7
              have HTK := Lib.hid (peek1 HS.out HI.out at_)
              simp only at HTK
              clear b0 b1 b2 b3'
              go_wp2_with fail
              refine HTK.out.mono ?_
              rintro e w7 ⟨A7, n7, c7, bs7, bb7, rfl, hy7, hn7, hto7, h7, iv7⟩
              have HCM := Lib.hid (comes_any h7 iv7 hy7 hto7)
              have hn8 := hy7.le
              have hn9 := hy7.max
              unfold maxLen at hn9
              clear hy7 hto7 h7 iv7 HTK kn b4
              simp only at HCM
              go_wp2_with fail
              refine HCM.out.mono ?_
              rintro e w8 ⟨rfl, y8, h8, iv8, e1, -, e2, -⟩
              have H8 := Lib.hid h8
              have HI8 := Lib.hid (Iv.more iv8 hk1000)
              have E1 := Lib.hid e1
              have E2 := Lib.hid e2
              clear h8 iv8 e1 e2 HCM
              go_wp2_with fail
              go_meet
              exact ⟨y8, E1.out.symm, E2.out.symm, Lib.hid ⟨H8.out, HI8.out⟩⟩
          · as_aux_lemma =>
              obtain ⟨kn, -⟩ := cell_one HS.out.x8
              have HTK := Lib.hid (peek2 HS.out HI.out at_)
              simp only at HTK
              clear b0 b1 b2 b3'
              go_wp2_with fail
              refine HTK.out.mono ?_
              rintro e w7 ⟨A7, n7, c7, bs7, bb7, rfl, hy7, hn7, hto7, h7, iv7⟩
              have HCM := Lib.hid (back_any h7 iv7 hy7 hto7)
              have hn8 := hy7.le
              have hn9 := hy7.max
              unfold maxLen at hn9
              clear hy7 hto7 h7 iv7 HTK kn b4
              simp only at HCM
              go_wp2_with fail
              refine HCM.out.mono ?_
              rintro e w8 ⟨rfl, y8, h8, iv8, e1, -, e2, -⟩
              have H8 := Lib.hid h8
              have HI8 := Lib.hid (Iv.more iv8 hk1000)
              have E1 := Lib.hid e1
              have E2 := Lib.hid e2
              clear h8 iv8 e1 e2 HCM
              go_wp2_with fail
              go_meet
              exact ⟨y8, E1.out.symm, E2.out.symm, Lib.hid ⟨H8.out, HI8.out⟩⟩
          · as_aux_lemma =>
              obtain ⟨kn, -⟩ := cell_one HS.out.x7
              have HTK := Lib.hid (lose1 HS.out HI.out at_ hat1)
              simp only at HTK
              clear b0 b1 b2 b3'
              go_wp2_with fail
              refine HTK.out.mono ?_
              rintro e w7 ⟨⟨bb7, rfl⟩, v7, P7, h7, iv7⟩
              have H7 := Lib.hid h7
              have HI7 := Lib.hid (Iv.more iv7 hk1000)
              clear h7 iv7 HTK kn b4
              go_wp2_with fail
              go_meet
              exact ⟨_, rfl, rfl, Lib.hid ⟨H7.out, HI7.out⟩⟩
          · as_aux_lemma =>
              obtain ⟨kn, -⟩ := cell_one HS.out.x8
              have HTK := Lib.hid (lose2 HS.out HI.out at_ hat1)
              simp only at HTK
              clear b0 b1 b2 b3'
              go_wp2_with fail
              refine HTK.out.mono ?_
              rintro e w7 ⟨⟨bb7, rfl⟩, v7, P7, h7, iv7⟩
              have H7 := Lib.hid h7
              have HI7 := Lib.hid (Iv.more iv7 hk1000)
              clear h7 iv7 HTK kn b4
              go_wp2_with fail
              go_meet
              exact ⟨_, rfl, rfl, Lib.hid ⟨H7.out, HI7.out⟩⟩
          · as_aux_lemma =>
              obtain ⟨k3, -⟩ := cell_one HS.out.x3
              have HNX := Lib.hid (next_any HS.out.tri.rb.at_)
              generalize hzb : decide (z.k ≠ 0) = zb at HNX
              clear hzb b0 b1 b2 b3' b4
              go_wp2_with fail
              refine HNX.out.mono ?_
              rintro e w7 ⟨rfl, hb7⟩
              have hal7 := below_new w7 (.cells #[.int .u8 (z.k : Int), .int .i64 z.c, .int .i64 z.p] 33)
              have hbx7 := heap_alloc_new w7 (.cells #[.int .u8 (z.k : Int), .int .i64 z.c, .int .i64 z.p] 33)
              have h8 := HS.out.later (hb7.trans (hal7.mono hb7.size))
              have H8 := Lib.hid h8
              have HX7 := Lib.hid hbx7
              have HST := Lib.hid (h8.tri.rb.step (Gd.chg (Iv.gd HI.out)))
              obtain ⟨k3, -⟩ := cell_one h8.x3
              clear hb7 hal7 hbx7 h8 HNX
              simp only at HST
              go_wp2_with fail
              generalize w7.alloc (.cells #[.int .u8 (z.k : Int), .int .i64 z.c, .int .i64 z.p] 33) = w8 at *
              generalize w7.heap.size = X at *
              refine HST.out.mono ?_
              rintro e w9 ⟨rfl, v9, hr9, ht9⟩
              obtain ⟨htr9, htt9⟩ := H8.out.tri.robot hr9 ht9
              have hx9 := H8.out.tri.keep HX7.out (by decide) (by decide) (by decide) (by decide) htt9
              have h9 := H8.out.trio htr9 htt9
              have H9 := Lib.hid h9
              clear hr9 ht9 htr9 htt9 HST H8 k3
              cases hok : (stD z).2 with
              | false =>
                have HIS := Lib.hid (Iv.steps HI.out hk1000 hok)
                clear hx9 h9
                go_wp2_with fail
                go_meet
                exact ⟨_, rfl, rfl, Lib.hid ⟨H9.out, HIS.out⟩⟩
              | true =>
                have HIS := Lib.hid (Iv.does HI.out hk1000 hok)
                have x0 := cell_of_row w9 X 0 _ _ _ hx9
                have x1 := cell_of_row w9 X 1 _ _ _ hx9
                have x2 := cell_of_row w9 X 2 _ _ _ hx9
                have hrd := h9.rd
                have hB := h9.below.size
                clear hx9 h9
                go_wp2_with (at_builtin; refine app_act rfl _ _ rfl w.heap.size (.slice AD D.length cD) D rfl (z.k, z.c, z.p) hrd rfl rfl (by omega) hB ?_)
                intro A10 c10 w10 hr10 ht10
                have H10 := Lib.hid (H9.out.rowD hr10 ht10)
                clear hr10 ht10 hrd hB H9 x0 x1 x2
                go_wp2_with fail
                go_meet
                exact ⟨_, rfl, rfl, Lib.hid ⟨H10.out, HIS.out⟩⟩
          · as_aux_lemma =>
              obtain ⟨ks, -⟩ := cell_one HS.out.x3
              by_cases hp : z.pk = []
              · have HPK := Lib.hid (rb_packet_no HS.out.tri.rb hp)
                clear b0 b1 b2 b3' b4
                go_wp2_with fail
                refine HPK.out.mono ?_
                rintro e w7 ⟨A7, c7, rfl, hb7⟩
                have H7 := Lib.hid (HS.out.later hb7)
                clear hb7 HPK
                go_wp2_with fail
                go_meet
                exact ⟨_, rfl, rfl, Lib.hid ⟨H7.out, Iv.more HI.out hk1000⟩⟩
              · have HPK := Lib.hid (rb_packet_yes HS.out.tri.rb rfl hp)
                have HIS := Lib.hid (Iv.more (Iv.tells HI.out hp) hk1000)
                have hln : (z.pk).length ≤ 300 := HS.out.tri.rb.at_.sat.few
                simp only at HPK
                clear b0 b1 b2 b3' b4
                go_wp2_with fail
                refine HPK.out.mono ?_
                rintro e w7 ⟨A7, c7, rfl, ⟨hy7, -⟩, hb7⟩
                have h7 := HS.out.later hb7
                have HSN := Lib.hid (Nw.Send_any h7.n2 h7.below.size A7 _ c7 _ (by_yb hy7) (by omega))
                obtain ⟨kn, -⟩ := cell_one h7.x8
                have H7 := Lib.hid h7
                clear hy7 hb7 h7 HPK
                simp only at HSN
                go_wp2_with fail
                refine HSN.out.mono ?_
                rintro e w8 ⟨v8, P8, rfl, hn8, ht8⟩
                have H8 := Lib.hid (H7.out.net2 hn8 ht8)
                clear hn8 ht8 HSN H7 kn
                go_wp2_with fail
                go_meet
                exact ⟨_, rfl, rfl, Lib.hid ⟨H8.out, HIS.out⟩⟩
        case rest =>
          as_aux_lemma =>
            obtain ⟨y', rfl, rfl, HC⟩ := hcut
            obtain ⟨v, u, z, ts, ps, hh, v1, P1, L1, v2, P2, L2, vT, T, vD, D⟩ := y'
            obtain ⟨hsm, hiv⟩ := HC.out
            obtain ⟨AT, cT, eT⟩ : ∃ A c, vT = .slice A T.length c := hsm.rt.form
            obtain ⟨AD, cD, eD⟩ : ∃ A c, vD = .slice A D.length c := hsm.rd.form
            subst eT eD
            obtain ⟨-, ft1, ft2⟩ := Aw.fits hsm.rt
            obtain ⟨-, fd1, fd2⟩ := Aw.fits hsm.rd
            have hlot := Iv.lot hiv
            have hln := Iv.lens hiv
            have hh3 := Iv.h3 hiv
            have hh4 := Iv.h4 hiv
            simp only at hlot hln hh3 hh4 ft1 ft2 fd1 fd2 ⊢
            have HS := Lib.hid hsm
            have HI := Lib.hid hiv
            have HB0 : Hid (Below wc.heap.size wc wc.drew) := Lib.hid (Below.refl _ _).drew
            have HDN : Hid (∀ W, Below wc.heap.size wc W → Calls Tryd.prog 29 #[.pointer (some ⟨r, 0, none⟩)] W fun e w' => e = .returned (.int .u64 (D.length : Int)) ∧ Below W.heap.size W w') := Lib.hid (fun W hb => (HS.out.tri.rb.later hb).done (Iv.dn HI.out))
            have HHD : Hid (∀ W, Below wc.heap.size wc W → Calls Tryd.prog 37 #[.pointer (some ⟨g, 0, none⟩)] W fun e w' => e = .returned (.int .u64 (hh : Int)) ∧ W = w') := Lib.hid (fun W hb => heard_any (HS.out.tri.rat.later hb))
            have HKP : Hid (∀ w' : World, Below wc.heap.size wc w' → w'.cell? ⟨b3, 0, none⟩ = some (.pointer (some ⟨r, 0, none⟩)) ∧ w'.cell? ⟨b6, 0, none⟩ = some (.pointer (some ⟨g, 0, none⟩))) := Lib.hid (fun w' hb => ⟨(cell_one (HS.out.later hb).x3).1, (cell_one (HS.out.later hb).x6).1⟩)
            have w1' : IntKind.i64.wrap ((D.length : Int) + 1) = (D.length : Int) + 1 := IntWalk.i64_in _ (by omega)
            have w2' : IntKind.u64.wrap (D.length : Int) = (D.length : Int) := IntWalk.u64_in _ (by omega)
            have w3' : IntKind.u64.wrap ((hh : Int) + 1) = (hh : Int) + 1 := IntWalk.u64_in _ (by omega)
            have n1' : ¬ (T.length : Int) < (D.length : Int) := by omega
            have n2' : ¬ (D.length : Int) + 1 < (T.length : Int) := by omega
            have n3' : ¬ (D.length : Int) < (hh : Int) := by omega
            have n4' : ¬ (hh : Int) + 1 < (D.length : Int) := by have := hln.2; omega
            have d1' : decide ((T.length : Int) < (D.length : Int)) = false := decide_eq_false n1'
            have d2' : decide ((D.length : Int) + 1 < (T.length : Int)) = false := decide_eq_false n2'
            have d3' : decide ((D.length : Int) < (hh : Int)) = false := decide_eq_false n3'
            have d4' : decide ((hh : Int) + 1 < (D.length : Int)) = false := decide_eq_false n4'
            clear hsm hiv HC hm10 b0 b1 b2 b3' b4
            go_wp2_with fail
            as_aux_lemma =>
            refine wp_region_held_drew (S := fun w' => w'.cell? ⟨b3, 0, none⟩ = some (.pointer (some ⟨r, 0, none⟩)) ∧ w'.cell? ⟨b6, 0, none⟩ = some (.pointer (some ⟨g, 0, none⟩))) (by kernel_rfl) (by simp; exact (HKP.out _ (Below.refl _ _))) (fun hS0 => ?_)
            (refine wpAnyH_take (i := 0) (oi := ⟨some 207, _, _, _, _, _⟩) (v := .slice AD D.length cD) rfl (by kernel_rfl) (by kernel_rfl) (by kernel_rfl) (fun _ _ _ h => h) (Or.inl ⟨by rfl, ?_⟩) (by assumption) ?_; (intro w hSw; (try dsimp only at hSw); go_simp); (try simp only [Act.put, List.setIfInBounds_toArray, List.set_cons_zero, List.set_cons_succ]))
            (refine wpAnyH_take (i := 1) (oi := ⟨some 208, _, _, _, _, _⟩) (v := .int .i64 (D.length : Int)) rfl (by kernel_rfl) (by kernel_rfl) (by kernel_rfl) (fun _ _ _ h => h) (Or.inl ⟨by rfl, ?_⟩) (by assumption) ?_; (intro w hSw; (try dsimp only at hSw); go_simp); (try simp only [Act.put, List.setIfInBounds_toArray, List.set_cons_zero, List.set_cons_succ]))
            (refine wpAnyH_take (i := 2) (oi := ⟨some 209, _, _, _, _, _⟩) (v := .slice AT T.length cT) rfl (by kernel_rfl) (by kernel_rfl) (by kernel_rfl) (fun _ _ _ h => h) (Or.inl ⟨by rfl, ?_⟩) (by assumption) ?_; (intro w hSw; (try dsimp only at hSw); go_simp); (try simp only [Act.put, List.setIfInBounds_toArray, List.set_cons_zero, List.set_cons_succ]))
            (refine wpAnyH_take (i := 3) (oi := ⟨some 210, _, _, _, _, _⟩) (v := .int .i64 (T.length : Int)) rfl (by kernel_rfl) (by kernel_rfl) (by kernel_rfl) (fun _ _ _ h => h) (Or.inl ⟨by rfl, ?_⟩) (by assumption) ?_; (intro w hSw; (try dsimp only at hSw); go_simp); (try simp only [Act.put, List.setIfInBounds_toArray, List.set_cons_zero, List.set_cons_succ]))
            (refine wpAnyH_take (i := 4) (oi := ⟨some 211, _, _, _, _, _⟩) (v := .bool false) rfl (by kernel_rfl) (by kernel_rfl) (by kernel_rfl) (fun _ _ _ h => h) (Or.inl ⟨by rfl, ?_⟩) (by assumption) ?_; (intro w hSw; (try dsimp only at hSw); go_simp); (try simp only [Act.put, List.setIfInBounds_toArray, List.set_cons_zero, List.set_cons_succ]))
            (refine wpAnyH_take (i := 5) (oi := ⟨some 212, _, _, _, _, _⟩) (v := .bool false) rfl (by kernel_rfl) (by kernel_rfl) (by kernel_rfl) (fun _ _ _ h => h) (Or.inl ⟨by rfl, ?_⟩) (by assumption) ?_; (intro w hSw; (try dsimp only at hSw); go_simp); (try simp only [Act.put, List.setIfInBounds_toArray, List.set_cons_zero, List.set_cons_succ]))
            (refine wpAnyH_take (i := 6) (oi := ⟨some 213, _, _, _, _, _⟩) (v := .slice AD D.length cD) rfl (by kernel_rfl) (by kernel_rfl) (by kernel_rfl) (fun _ _ _ h => h) (Or.inl ⟨by rfl, ?_⟩) (by assumption) ?_; (intro w hSw; (try dsimp only at hSw); go_simp); (try simp only [Act.put, List.setIfInBounds_toArray, List.set_cons_zero, List.set_cons_succ]))
            (refine wpAnyH_take (i := 7) (oi := ⟨some 214, _, _, _, _, _⟩) (v := .int .i64 (D.length : Int)) rfl (by kernel_rfl) (by kernel_rfl) (by kernel_rfl) (fun _ _ _ h => h) (Or.inl ⟨by rfl, ?_⟩) (by assumption) ?_; (intro w hSw; (try dsimp only at hSw); go_simp); (try simp only [Act.put, List.setIfInBounds_toArray, List.set_cons_zero, List.set_cons_succ]))
            (refine wpAnyH_take (i := 8) (oi := ⟨some 215, _, _, _, _, _⟩) (v := .int .i64 ((D.length : Int) + 1)) rfl (by kernel_rfl) (by kernel_rfl) (by kernel_rfl) (fun _ _ _ h => h) (Or.inl ⟨by rfl, ?_⟩) (by assumption) ?_; (intro w hSw; (try dsimp only at hSw); go_simp); (try simp only [Act.put, List.setIfInBounds_toArray, List.set_cons_zero, List.set_cons_succ]))
            (refine wpAnyH_take (i := 9) (oi := ⟨some 216, _, _, _, _, _⟩) (v := .slice AT T.length cT) rfl (by kernel_rfl) (by kernel_rfl) (by kernel_rfl) (fun _ _ _ h => h) (Or.inl ⟨by rfl, ?_⟩) (by assumption) ?_; (intro w hSw; (try dsimp only at hSw); go_simp); (try simp only [Act.put, List.setIfInBounds_toArray, List.set_cons_zero, List.set_cons_succ]))
            (refine wpAnyH_take (i := 10) (oi := ⟨some 217, _, _, _, _, _⟩) (v := .int .i64 (T.length : Int)) rfl (by kernel_rfl) (by kernel_rfl) (by kernel_rfl) (fun _ _ _ h => h) (Or.inl ⟨by rfl, ?_⟩) (by assumption) ?_; (intro w hSw; (try dsimp only at hSw); go_simp); (try simp only [Act.put, List.setIfInBounds_toArray, List.set_cons_zero, List.set_cons_succ]))
            (refine wpAnyH_take (i := 11) (oi := ⟨some 218, _, _, _, _, _⟩) (v := .bool false) rfl (by kernel_rfl) (by kernel_rfl) (by kernel_rfl) (fun _ _ _ h => h) (Or.inl ⟨by rfl, ?_⟩) (by assumption) ?_; (intro w hSw; (try dsimp only at hSw); go_simp); (try simp only [Act.put, List.setIfInBounds_toArray, List.set_cons_zero, List.set_cons_succ]))
            (refine wpAnyH_take (i := 12) (oi := ⟨some 219, _, _, _, _, _⟩) (v := .bool false) rfl (by kernel_rfl) (by kernel_rfl) (by kernel_rfl) (fun _ _ _ h => h) (Or.inl ⟨by rfl, ?_⟩) (by assumption) ?_; (intro w hSw; (try dsimp only at hSw); go_simp); (try simp only [Act.put, List.setIfInBounds_toArray, List.set_cons_zero, List.set_cons_succ]))
            (refine wpAnyH_take (i := 13) (oi := ⟨some 220, _, _, _, _, _⟩) (v := .bool false) rfl (by kernel_rfl) (by kernel_rfl) (by kernel_rfl) (fun _ _ _ h => h) (Or.inl ⟨by rfl, ?_⟩) (by assumption) ?_; (intro w hSw; (try dsimp only at hSw); go_simp); (try simp only [Act.put, List.setIfInBounds_toArray, List.set_cons_zero, List.set_cons_succ]))
            (refine wpAnyH_take (i := 14) (oi := ⟨some 221, _, _, _, _, _⟩) (v := .pointer (some ⟨r, 0, none⟩)) rfl (by kernel_rfl) (by kernel_rfl) (by kernel_rfl) (fun _ _ _ h => h) (Or.inl ⟨by rfl, ?_⟩) (by assumption) ?_; (intro w hSw; (try dsimp only at hSw); go_simp); (try simp only [Act.put, List.setIfInBounds_toArray, List.set_cons_zero, List.set_cons_succ]))
            (refine wpAnyH_take (i := 16) (oi := ⟨some 223, _, _, _, _, _⟩) (v := .slice AD D.length cD) rfl (by kernel_rfl) (by kernel_rfl) (by kernel_rfl) (fun _ _ _ h => h) (Or.inl ⟨by rfl, ?_⟩) (by assumption) ?_; (intro w hSw; (try dsimp only at hSw); go_simp); (try simp only [Act.put, List.setIfInBounds_toArray, List.set_cons_zero, List.set_cons_succ]))
            (refine wpAnyH_take (i := 17) (oi := ⟨some 224, _, _, _, _, _⟩) (v := .int .i64 (D.length : Int)) rfl (by kernel_rfl) (by kernel_rfl) (by kernel_rfl) (fun _ _ _ h => h) (Or.inl ⟨by rfl, ?_⟩) (by assumption) ?_; (intro w hSw; (try dsimp only at hSw); go_simp); (try simp only [Act.put, List.setIfInBounds_toArray, List.set_cons_zero, List.set_cons_succ]))
            (refine wpAnyH_take (i := 18) (oi := ⟨some 225, _, _, _, _, _⟩) (v := .int .u64 (D.length : Int)) rfl (by kernel_rfl) (by kernel_rfl) (by kernel_rfl) (fun _ _ _ h => h) (Or.inl ⟨by rfl, ?_⟩) (by assumption) ?_; (intro w hSw; (try dsimp only at hSw); go_simp); (try simp only [Act.put, List.setIfInBounds_toArray, List.set_cons_zero, List.set_cons_succ]))
            refine wpAnyH_ready (rs := [15]) (by kernel_rfl) (by simp) ?_
            refine AllReadyH.cons (o := ⟨some 222, _, _, _, _, _⟩) rfl (fun K hK => ?_) AllReadyH.nil
            go_simp
            refine (HDN.out _ HB0.out).mono ?_
            rintro e wdB1 ⟨rfl, hbdB1⟩
            have HB1 := Lib.hid (HB0.out.trans (hbdB1.mono HB0.out.size))
            clear hbdB1
            refine hK.out _ _ (HKP.out _ HB1.out) (fun hS222 => ?_)
            clear hK
            (try simp only [Act.put, List.setIfInBounds_toArray, List.set_cons_zero, List.set_cons_succ])
            as_aux_lemma =>
            (refine wpAnyH_take (i := 19) (oi := ⟨some 226, _, _, _, _, _⟩) (v := .bool false) rfl (by kernel_rfl) (by kernel_rfl) (by kernel_rfl) (fun _ _ _ h => h) (Or.inl ⟨by rfl, ?_⟩) (by assumption) ?_; (intro w hSw; (try dsimp only at hSw); go_simp); (try simp only [Act.put, List.setIfInBounds_toArray, List.set_cons_zero, List.set_cons_succ]))
            (refine wpAnyH_take (i := 20) (oi := ⟨some 227, _, _, _, _, _⟩) (v := .bool false) rfl (by kernel_rfl) (by kernel_rfl) (by kernel_rfl) (fun _ _ _ h => h) (Or.inl ⟨by rfl, ?_⟩) (by assumption) ?_; (intro w hSw; (try dsimp only at hSw); go_simp); (try simp only [Act.put, List.setIfInBounds_toArray, List.set_cons_zero, List.set_cons_succ]))
            (refine wpAnyH_take (i := 21) (oi := ⟨some 228, _, _, _, _, _⟩) (v := .bool false) rfl (by kernel_rfl) (by kernel_rfl) (by kernel_rfl) (fun _ _ _ h => h) (Or.inl ⟨by rfl, ?_⟩) (by assumption) ?_; (intro w hSw; (try dsimp only at hSw); go_simp); (try simp only [Act.put, List.setIfInBounds_toArray, List.set_cons_zero, List.set_cons_succ]))
            (refine wpAnyH_take (i := 22) (oi := ⟨some 229, _, _, _, _, _⟩) (v := .pointer (some ⟨g, 0, none⟩)) rfl (by kernel_rfl) (by kernel_rfl) (by kernel_rfl) (fun _ _ _ h => h) (Or.inl ⟨by rfl, ?_⟩) (by assumption) ?_; (intro w hSw; (try dsimp only at hSw); go_simp); (try simp only [Act.put, List.setIfInBounds_toArray, List.set_cons_zero, List.set_cons_succ]))
            (refine wpAnyH_take (i := 24) (oi := ⟨some 231, _, _, _, _, _⟩) (v := .pointer (some ⟨r, 0, none⟩)) rfl (by kernel_rfl) (by kernel_rfl) (by kernel_rfl) (fun _ _ _ h => h) (Or.inl ⟨by rfl, ?_⟩) (by assumption) ?_; (intro w hSw; (try dsimp only at hSw); go_simp); (try simp only [Act.put, List.setIfInBounds_toArray, List.set_cons_zero, List.set_cons_succ]))
            refine wpAnyH_ready (rs := [23]) (by kernel_rfl) (by simp) ?_
            refine AllReadyH.cons (o := ⟨some 230, _, _, _, _, _⟩) rfl (fun K hK => ?_) AllReadyH.nil
            go_simp
            refine (HHD.out _ HB1.out).mono ?_
            rintro e wh ⟨rfl, rfl⟩
            refine hK.out _ _ (HKP.out _ HB1.out) (fun hS230 => ?_)
            clear hK
            (try simp only [Act.put, List.setIfInBounds_toArray, List.set_cons_zero, List.set_cons_succ])
            as_aux_lemma =>
            refine wpAnyH_ready (rs := [25]) (by kernel_rfl) (by simp) ?_
            refine AllReadyH.cons (o := ⟨some 232, _, _, _, _, _⟩) rfl (fun K hK => ?_) AllReadyH.nil
            go_simp
            refine (HDN.out _ HB1.out).mono ?_
            rintro e wdB2 ⟨rfl, hbdB2⟩
            have HB2 := Lib.hid (HB1.out.trans (hbdB2.mono HB1.out.size))
            clear hbdB2
            refine hK.out _ _ (HKP.out _ HB2.out) (fun hS232 => ?_)
            clear hK
            (try simp only [Act.put, List.setIfInBounds_toArray, List.set_cons_zero, List.set_cons_succ])
            as_aux_lemma =>
            (refine wpAnyH_take (i := 26) (oi := ⟨some 233, _, _, _, _, _⟩) (v := .bool false) rfl (by kernel_rfl) (by kernel_rfl) (by kernel_rfl) (fun _ _ _ h => h) (Or.inl ⟨by rfl, ?_⟩) (by assumption) ?_; (intro w hSw; (try dsimp only at hSw); go_simp); (try simp only [Act.put, List.setIfInBounds_toArray, List.set_cons_zero, List.set_cons_succ]))
            (refine wpAnyH_take (i := 27) (oi := ⟨some 234, _, _, _, _, _⟩) (v := .bool false) rfl (by kernel_rfl) (by kernel_rfl) (by kernel_rfl) (fun _ _ _ h => h) (Or.inl ⟨by rfl, ?_⟩) (by assumption) ?_; (intro w hSw; (try dsimp only at hSw); go_simp); (try simp only [Act.put, List.setIfInBounds_toArray, List.set_cons_zero, List.set_cons_succ]))
            (refine wpAnyH_take (i := 28) (oi := ⟨some 235, _, _, _, _, _⟩) (v := .bool false) rfl (by kernel_rfl) (by kernel_rfl) (by kernel_rfl) (fun _ _ _ h => h) (Or.inl ⟨by rfl, ?_⟩) (by assumption) ?_; (intro w hSw; (try dsimp only at hSw); go_simp); (try simp only [Act.put, List.setIfInBounds_toArray, List.set_cons_zero, List.set_cons_succ]))
            (refine wpAnyH_take (i := 29) (oi := ⟨some 236, _, _, _, _, _⟩) (v := .pointer (some ⟨g, 0, none⟩)) rfl (by kernel_rfl) (by kernel_rfl) (by kernel_rfl) (fun _ _ _ h => h) (Or.inl ⟨by rfl, ?_⟩) (by assumption) ?_; (intro w hSw; (try dsimp only at hSw); go_simp); (try simp only [Act.put, List.setIfInBounds_toArray, List.set_cons_zero, List.set_cons_succ]))
            (refine wpAnyH_take (i := 32) (oi := ⟨some 239, _, _, _, _, _⟩) (v := .pointer (some ⟨r, 0, none⟩)) rfl (by kernel_rfl) (by kernel_rfl) (by kernel_rfl) (fun _ _ _ h => h) (Or.inl ⟨by rfl, ?_⟩) (by assumption) ?_; (intro w hSw; (try dsimp only at hSw); go_simp); (try simp only [Act.put, List.setIfInBounds_toArray, List.set_cons_zero, List.set_cons_succ]))
            refine wpAnyH_ready (rs := [30]) (by kernel_rfl) (by simp) ?_
            refine AllReadyH.cons (o := ⟨some 237, _, _, _, _, _⟩) rfl (fun K hK => ?_) AllReadyH.nil
            go_simp
            refine (HHD.out _ HB2.out).mono ?_
            rintro e wh ⟨rfl, rfl⟩
            refine hK.out _ _ (HKP.out _ HB2.out) (fun hS237 => ?_)
            clear hK
            (try simp only [Act.put, List.setIfInBounds_toArray, List.set_cons_zero, List.set_cons_succ])
            as_aux_lemma =>
            (refine wpAnyH_take (i := 31) (oi := ⟨some 238, _, _, _, _, _⟩) (v := .int .u64 ((hh : Int) + 1)) rfl (by kernel_rfl) (by kernel_rfl) (by kernel_rfl) (fun _ _ _ h => h) (Or.inl ⟨by rfl, ?_⟩) (by assumption) ?_; (intro w hSw; (try dsimp only at hSw); go_simp); (try simp only [Act.put, List.setIfInBounds_toArray, List.set_cons_zero, List.set_cons_succ]))
            refine wpAnyH_ready (rs := [33]) (by kernel_rfl) (by simp) ?_
            refine AllReadyH.cons (o := ⟨some 240, _, _, _, _, _⟩) rfl (fun K hK => ?_) AllReadyH.nil
            go_simp
            refine (HDN.out _ HB2.out).mono ?_
            rintro e wdB3 ⟨rfl, hbdB3⟩
            have HB3 := Lib.hid (HB2.out.trans (hbdB3.mono HB2.out.size))
            clear hbdB3
            refine hK.out _ _ (HKP.out _ HB3.out) (fun hS240 => ?_)
            clear hK
            (try simp only [Act.put, List.setIfInBounds_toArray, List.set_cons_zero, List.set_cons_succ])
            as_aux_lemma =>
            (refine wpAnyH_take (i := 34) (oi := ⟨some 241, _, _, _, _, _⟩) (v := .bool false) rfl (by kernel_rfl) (by kernel_rfl) (by kernel_rfl) (fun _ _ _ h => h) (Or.inl ⟨by rfl, ?_⟩) (by assumption) ?_; (intro w hSw; (try dsimp only at hSw); go_simp); (try simp only [Act.put, List.setIfInBounds_toArray, List.set_cons_zero, List.set_cons_succ]))
            (refine wpAnyH_take (i := 35) (oi := ⟨some 242, _, _, _, _, _⟩) (v := .bool false) rfl (by kernel_rfl) (by kernel_rfl) (by kernel_rfl) (fun _ _ _ h => h) (Or.inl ⟨by rfl, ?_⟩) (by assumption) ?_; (intro w hSw; (try dsimp only at hSw); go_simp); (try simp only [Act.put, List.setIfInBounds_toArray, List.set_cons_zero, List.set_cons_succ]))
            refine wpAnyH_done (by kernel_rfl) ?_ _
            as_aux_lemma =>
            go_wp2_with fail
            have HSJ := Lib.hid (HS.out.later HB3.out)
            go_loopw [245] (fun jv wz => ∃ j : Nat, jv = .int .i64 (j : Int) ∧ j ≤ D.length ∧ Hid (Sm w wz ⟨⟨r, h, s, q, g⟩, g1, g2, b3, b5, b6, b7, b8⟩ ⟨v, u, z, ts, ps, hh, v1, P1, L1, v2, P2, L2, .slice AT T.length cT, T, .slice AD D.length cD, D⟩)) (fun jv _ => D.length - (intOf jv).toNat)
            case atStart => exact ⟨0, rfl, Nat.zero_le _, HSJ⟩
            case round =>
              rename World => wz
              clear HSJ
              obtain ⟨j, rfl, hj, HZ⟩ := hrel
              by_cases hjl : j < D.length
              · have hjI : (j : Int) < (D.length : Int) := by omega
                have hjT : (j : Int) < (T.length : Int) := by omega
                obtain ⟨x, hx⟩ : ∃ x, D[j]? = some x := ⟨_, List.getElem?_eq_getElem hjl⟩
                have hxT : T[j]? = some x := by
                  have e := Iv.done HI.out
                  simp only at e
                  rw [e, List.getElem?_take, if_pos hjl] at hx
                  exact hx
                obtain ⟨-, -, -, gd, rfl, hgd, x0, x1, x2⟩ := Aw.at_ HZ.out.rd hx
                obtain ⟨-, -, -, gt, rfl, hgt, y0, y1, y2⟩ := Aw.at_ HZ.out.rt hxT
                clear hx hxT hgd hgt
                go_wp2_with fail
                go_big_quiet (fail)
                clear x0 x1 x2 y0 y1 y2
                go_wp2_with fail
                go_roundw
                case rel => exact ⟨j + 1, by go_num, by omega, Lib.hid (HZ.out.later (Bk.below_drewN _ _ _))⟩
                case measure => simp [intOf]; try omega
              · obtain rfl : j = D.length := by omega
                go_wp2_with fail
                go_roundw
                case rel => exact ⟨k + 1, _, rfl, rfl, by go_num, by omega, by omega, Lib.hid ⟨HZ.out, HI.out⟩⟩
                case measure => simp [intOf]; try omega
    · obtain rfl : k = n := by omega
      clear hsm hiv HY
      go_wp2_with fail
      go_ret
      exact ⟨rfl, HBR.out⟩
end Rc
end Go.Proofs.YtobpinelhjpfgaaDoor
