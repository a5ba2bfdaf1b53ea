/-
  RobotPlays: the walk (written by tools/rbplays.py).
-/
import Derived.Test.YtobpinelhjpfgaaDoorRbK
import Derived.Deep.CutBlock
import Derived.Deep.CutRange
import Derived.Deep.DeepCutAuto
import Derived.Deep.QuietTactic
import Derived.BigQuiet
set_option linter.unusedVariables false
set_option maxRecDepth 100000
namespace Go.Proofs.YtobpinelhjpfgaaDoor
namespace Rc
open Go.RowKit Bp Ck Ln Rb
theorem plays_made {w0 w w' : World} {r h s q : Nat} {v : Value} {z y : R} (g : Rs w0 w r h s v z) (hd : DAt w' w.heap.size y) (hb : Below w.heap.size w w') : Rb.Pl w0 w' r h s w.heap.size v z y :=
  ⟨g.later hb, hd, g.below.size, fun k hk e => by have := g.lt k hk; omega⟩
def R31 (w' : World) (X q : Nat) (z : R) (A22 : Option Addr) (n c22 : Nat) (A24 : Option Addr) (c24 : Nat) (sp : ByteArray) : Prop := True
set_option maxHeartbeats 8000000 in
theorem robotPlays_walk (dock : Int) (hdock : -9223372036854775808 ≤ dock ∧ dock ≤ 9223372036854775807) (chg : Int) (hchg : -9223372036854775808 ≤ chg ∧ chg ≤ 9223372036854775807) (A : Option Addr) (n cap : Nat) (f : Nat → A18) (w : World) (h : Rb.Acs w.heap.size w A n cap f) (hS : Shp w) :
    Calls Tryd.prog 3 #[.int .i64 dock, .int .i64 chg, .slice A n cap] w fun e w' => e = .returned (.bool true) ∧ Below w.heap.size w w' := by
  have HA := Lib.hid h
  have hle := h.le
  have hmx := h.max
  unfold maxLen at hmx
  have HS := Lib.hid (shown18_any w hS)
  have HSH := Lib.hid hS
  clear h hS
  by_cases hno : dock < 0 ∨ 255 < dock ∨ chg < 0
  · have HN := Lib.hid (fun W => new_no dock chg hno W)
    have HM := Lib.hid (fun W => r18new_no dock chg hno W)
    clear hno hdock hchg
    go_enter Tryd.func3, Tryd.ntmps3
    go_wp2_with fail
    refine HS.out.mono ?_
    rintro e w1 ⟨rfl, hb1⟩
    have HB1 := Lib.hid hb1
    clear hb1 HS
    go_wp2_with fail
    refine (HN.out _).mono ?_
    rintro e w2 ⟨rfl, rfl⟩
    go_wp2_with fail
    refine (HM.out _).mono ?_
    rintro e w2 ⟨rfl, rfl⟩
    go_wp2_with fail
    go_ret
    exact ⟨rfl, HB1.out⟩
  have hd0 : 0 ≤ dock ∧ dock ≤ 255 := by omega
  have hc0 : 0 ≤ chg := by omega
  have HN := Lib.hid (fun (W : World) (hW : Shp W) => rs_new W hW dock chg hd0 hc0)
  have HM := Lib.hid (fun W => r18new_any dock chg hd0 hc0 W)
  have HG0 := Lib.hid (Gd.new (dock := dock) hchg.2)
  clear hno hdock hchg hd0 hc0
  go_enter Tryd.func3, Tryd.ntmps3
  go_wp2_with fail
  refine HS.out.mono ?_
  rintro e w1 ⟨rfl, hb1⟩
  have HB1 := Lib.hid hb1
  have HNW := Lib.hid (HN.out w1 (HSH.out.later hb1))
  clear hb1 HS HN
  go_wp2_with fail
  refine HNW.out.mono ?_
  rintro e w2 ⟨r, h, s, rfl, v, hg2⟩
  have HG2 := Lib.hid hg2
  clear hg2 HNW
  go_wp2_with fail
  refine (HM.out _).mono ?_
  rintro e w3 ⟨rfl, hd3, hb3⟩
  have HPL := Lib.hid (plays_made (q := 0) HG2.out hd3 hb3)
  clear hd3 hb3 HG2 HM
  generalize w2.heap.size = q at *
  go_wp2_with fail
  refine (few18_any (HA.out.below (HB1.out.trans (HPL.out.rb.below.mono HB1.out.size)))).mono ?_
  rintro e w4 ⟨N, hkn, hk150, -, rfl, rfl⟩
  have HAK := Lib.hid (HA.out.cut hkn)
  clear HA
  go_wp2_with fail
  go_loopw [61] (fun iv wr => ∃ i : Nat, iv = .int .i64 (i : Int) ∧ i ≤ N ∧ Hid (∃ v z, Rb.Pl w1 wr r h s q v z z ∧ Gd i z ∧ Gx z)) (fun iv _ => N - (intOf iv).toNat)
  case atStart => exact ⟨0, rfl, Nat.zero_le _, Lib.hid ⟨v, _, HPL.out, HG0.out, Gx.new _ _⟩⟩
  case round =>
    rename World => wr
    clear HPL HG0
    obtain ⟨i, rfl, hi, HI⟩ := hrel
    obtain ⟨v, z, hpl, hgd, hgx⟩ := HI.out
    have HP := Lib.hid hpl
    have HG := Lib.hid hgd
    have HX := Lib.hid hgx
    have HBR := Lib.hid (HB1.out.trans (hpl.rb.below.mono HB1.out.size))
    clear hpl hgd hgx HI
    by_cases hlt : i < N
    · have hltI : (i : Int) < (N : Int) := by omega
      obtain ⟨g, off, rfl, hg, hc⟩ := HAK.out.cell (by omega)
      have hat := (hc i hlt).below hg HBR.out
      have hft := HAK.out.fits i hlt
      clear hc
      generalize f i = x at *
      obtain ⟨kd, k, c, p, xn, xb⟩ := x
      obtain ⟨q0, q1, q2, q3, q4, A1, n1, c1, q5, hy⟩ := hat
      obtain ⟨hkd, hxk, hxn⟩ := hft
      simp only at q0 q1 q2 q3 q4 q5 hy hkd hxk hxn
      have hn1 := hy.le
      have hm1 := hy.max
      unfold maxLen at hm1
      obtain ⟨m6, hm6, hm7⟩ : ∃ m6 : Nat, (kd : Int).tmod 6 = (m6 : Int) ∧ m6 < 6 := ⟨kd % 6, by rw [Int.tmod_eq_emod_of_nonneg (by omega)]; omega, Nat.mod_lt _ (by omega)⟩
      obtain ⟨bc, hbc⟩ : ∃ bc : Array Value, #[.int .u8 (kd : Int), .int .u8 (k : Int), .int .i64 c, .int .i64 p, .int .u64 (xn : Int), .slice A1 n1 c1] = bc := ⟨_, rfl⟩
      have HBX : Hid (∀ (W : World) (bx : Nat), W.heap[bx]? = some (.cells bc 37 (0, 0)) → W.cell? ⟨bx, 0, none⟩ = some (.int .u8 (kd : Int)) ∧ W.cell? ⟨bx, 1, none⟩ = some (.int .u8 (k : Int)) ∧ W.cell? ⟨bx, 2, none⟩ = some (.int .i64 c) ∧ W.cell? ⟨bx, 3, none⟩ = some (.int .i64 p) ∧ W.cell? ⟨bx, 4, none⟩ = some (.int .u64 (xn : Int)) ∧ W.cell? ⟨bx, 5, none⟩ = some (.slice A1 n1 c1)) := Lib.hid (fun W bx hw => by
        rw [← hbc] at hw
        exact box18 hw)
      have hpb : PB w1 (wr.alloc (.cells #[.int .u8 (kd : Int), .int .u8 (k : Int), .int .i64 c, .int .i64 p, .int .u64 (xn : Int), .slice A1 n1 c1] 37)) r h s q v z wr.heap.size bc A1 n1 c1 xb := by
        have hal := below_new wr (.cells #[.int .u8 (kd : Int), .int .u8 (k : Int), .int .i64 c, .int .i64 p, .int .u64 (xn : Int), .slice A1 n1 c1] 37)
        refine ⟨HP.out.later hal, by rw [hbc]; exact heap_alloc_new wr _, Pc.old (hy.below (hal.mono HBR.out.size)) (Nat.le_trans HBR.out.size hal.size) (fun k hk => ?_)⟩
        rcases hk with e | e
        · exact Nat.le_trans HB1.out.size (HP.out.rb.at_.lo k e)
        · rw [e]; exact Nat.le_trans HB1.out.size HP.out.lo
      have HPB := Lib.hid hpb
      obtain ⟨b0, b1, b2, b3, b4, b5⟩ := HBX.out _ _ hpb.2.1
      clear hpb hy HP hg hbc
      go_upto_if 70 with fail
      generalize wr.alloc (.cells #[.int .u8 (kd : Int), .int .u8 (k : Int), .int .i64 c, .int .i64 p, .int .u64 (xn : Int), .slice A1 n1 c1] 37) = wB at *
      generalize wr.heap.size = bx at *
      go_cut [14] (fun bv wz => ∃ A n c bs, bv = .slice A n c ∧ Hid (PB w1 wz r h s q v z bx bc A n c bs))
      case first =>
        as_aux_lemma =>
        by_cases hm0 : m6 = 0
        · subst hm0
          obtain ⟨c10, -⟩ := HPB.out.1.da.heardC
          have hnum := HPB.out.1.da.num
          have htl := HG.out.few
          obtain ⟨mm, hmm, hml⟩ : ∃ mm : Nat, IntKind.u64.wrap ((z.heard : Int) + 1) = (mm : Int) ∧ mm < 18446744073709551616 := ⟨(z.heard + 1) % 18446744073709551616, by simp [IntKind.wrap, IntKind.signed, IntKind.bits], Nat.mod_lt _ (by decide)⟩
          have HPK : Hid (∀ W, Calls Tryd.prog 13 #[.int .u64 (IntKind.u64.wrap ((z.heard : Int) + 1)), .agg #[.int .u8 (k : Int), .int .i64 c, .int .i64 p]] W fun e w' => ∃ A cp, e = .returned (.slice A (pkB mm k c p).length cp) ∧ (By w'.heap.size w' A (pkB mm k c p).length cp (pkB mm k c p) ∧ ∀ a, A = some a → W.heap.size ≤ a.block) ∧ Below W.heap.size W w') := Lib.hid (fun W => by rw [hmm]; exact packet_new mm k hml c p W)
          generalize pkB mm k c p = pz at *
          clear hmm hnum htl
          go_wp2_with fail
          go_region_with (go_simp; go_at_call 13; refine (HPK.out _).mono ?_; rintro e w7 ⟨A7, c7, rfl, ⟨hy7, hf7⟩, hb7⟩)
          all_goals (go_wp2_with fail; go_meet; exact ⟨A7, _, c7, _, rfl, Lib.hid (HPB.out.other ((Below.refl _ _).drew.trans hb7) hy7 hf7)⟩)
        · have tm : ((m6 : Int) == 0) = false := by rw [beq_eq_false_iff_ne]; omega
          go_wp2_with fail
          go_meet
          exact ⟨A1, n1, c1, xb, rfl, HPB⟩
      case rest =>
        as_aux_lemma =>
        obtain ⟨A2, n2, c2, bs2, rfl, HP2⟩ := hcut
        clear HPB b0 b1 b2 b3 b4 b5
        obtain ⟨b0, b1, b2, b3, b4, b5⟩ := HBX.out _ _ HP2.out.2.1
        go_upto_if 83 with fail
        go_cut [14] (fun bv wz => ∃ A n c bs, bv = .slice A n c ∧ Hid (PB w1 wz r h s q v z bx bc A n c bs))
        case first =>
          as_aux_lemma =>
          by_cases hm0 : m6 = 1
          · subst hm0
            have HPK := Lib.hid (fun W => packet_new xn k hxn c p W)
            generalize pkB xn k c p = pz at *
            go_wp2_with fail
            refine (HPK.out _).mono ?_
            rintro e w7 ⟨A7, c7, rfl, ⟨hy7, hf7⟩, hb7⟩
            go_wp2_with fail
            go_meet
            exact ⟨A7, _, c7, _, rfl, Lib.hid (HP2.out.other hb7 hy7 hf7)⟩
          · have tm : ((m6 : Int) == 1) = false := by rw [beq_eq_false_iff_ne]; omega
            go_wp2_with fail
            go_meet
            exact ⟨A2, n2, c2, bs2, rfl, HP2⟩
        case rest =>
          as_aux_lemma =>
          obtain ⟨A3, n3, c3, bs3, rfl, HP3⟩ := hcut
          clear HP2 b0 b1 b2 b3 b4 b5
          have HLK : Hid (z.pk ≠ [] → z.pk = play false (z.told + 1) [] ∧ Ok false (z.told + 1) []) := Lib.hid (fun hp => ⟨HX.out.link hp, ok_told HG.out.told (by simp) (by simp)⟩)
          have HDP := Lib.hid (d_packet HP3.out.1.da HLK.out)
          go_wp2_with fail
          refine HDP.out.mono ?_
          rintro e w8 ⟨A8, c8, rfl, hy8, hb8⟩
          have HP8 := Lib.hid (HP3.out.later hb8)
          have HY8 := Lib.hid hy8
          obtain ⟨b0, b1, b2, b3, b4, b5⟩ := HBX.out _ _ HP8.out.2.1
          obtain ⟨pkb, hpkb⟩ : ∃ b, decide (z.pk ≠ []) = b := ⟨_, rfl⟩
          obtain ⟨pl, hpl⟩ : ∃ b, z.pk.length = b := ⟨_, rfl⟩
          rw [hpkb, hpl]
          rw [hpl] at HY8
          have HPKB := Lib.hid hpkb
          clear hy8 hb8 HP3 HDP hpkb hpl
          have hn8 := HY8.out.le
          have hm8 := HY8.out.max
          unfold maxLen at hm8
          obtain ⟨iq, hiq⟩ : ∃ b, (decide (m6 = 3) && pkb) = b := ⟨_, rfl⟩
          go_upto_region 17 with fail
          go_cut [102] (fun bv wz => bv = .bool iq ∧ wz = w8)
          case first =>
            as_aux_lemma =>
            by_cases hm0 : m6 = 3
            · subst hm0
              have e : pkb = iq := by simpa using hiq
              subst e
              go_wp2_with fail
              go_meet
              exact ⟨rfl, rfl⟩
            · have tm : ((m6 : Int) == 3) = false := by rw [beq_eq_false_iff_ne]; omega
              have e : false = iq := by simpa [hm0] using hiq
              subst e
              go_wp2_with fail
              go_meet
              exact ⟨rfl, rfl⟩
          case rest =>
            as_aux_lemma =>
            obtain ⟨rfl, rfl⟩ := hcut
            go_upto_if 102 with fail
            go_cut [14] (fun bv wz => ∃ A n c bs, bv = .slice A n c ∧ Hid (PB w1 wz r h s q v z bx bc A n c bs))
            case first =>
              as_aux_lemma =>
              cases iq with
              | false =>
                go_wp2_with fail
                go_meet
                exact ⟨A3, n3, c3, bs3, rfl, HP8⟩
              | true =>
                have hp : z.pk ≠ [] := by
                  have e := (Bool.and_eq_true _ _).mp hiq
                  have e2 := HPKB.out.trans e.2
                  exact of_decide_eq_true e2
                obtain ⟨hpk, hok⟩ := HLK.out hp
                have HTK : Hid (Calls Tryd.prog 15 #[.slice A8 pl c8] wc (Ln.TakeTold wc (play false (z.told + 1) []))) := Lib.hid (by rw [← hpk]; exact Ln.rtake_any HY8.out (Nat.le_refl _))
                have HOK := Lib.hid hok
                have htl := HG.out.told
                clear hp hpk hok
                go_wp2_with fail
                refine HTK.out.mono ?_
                intro e w9 hx9
                obtain ⟨A9, c9, rfl, hy9, hb9⟩ := take_play HOK.out hx9
                have hal := box3_below w9 (.bool false) (.int .u64 ((z.told : Int) + 1)) (.slice A9 0 c9)
                have hal0 := box3 w9 (.bool false) (.int .u64 ((z.told : Int) + 1)) (.slice A9 0 c9)
                obtain ⟨d0, d1, d2⟩ := pkt_cells hal0
                have HB9 := Lib.hid (hb9.trans (hal.mono hb9.size))
                have HLH : Hid (Calls Tryd.prog 16 #[.agg #[.bool true, .int .u64 ((z.told : Int) + 1), .slice none 0 0]] (w9.alloc (.cells #[.bool false, .int .u64 ((z.told : Int) + 1), .slice A9 0 c9] 48)) fun e w' => ∃ A c, e = .returned (.tuple #[.slice A (play true (z.told + 1) []).length c, .int .i64 0]) ∧ (By w'.heap.size w' A (play true (z.told + 1) []).length c (play true (z.told + 1) []) ∧ ∀ a, A = some a → (w9.alloc (.cells #[.bool false, .int .u64 ((z.told : Int) + 1), .slice A9 0 c9] 48)).heap.size ≤ a.block) ∧ Below (w9.alloc (.cells #[.bool false, .int .u64 ((z.told : Int) + 1), .slice A9 0 c9] 48)).heap.size (w9.alloc (.cells #[.bool false, .int .u64 ((z.told : Int) + 1), .slice A9 0 c9] 48)) w') := Lib.hid (rlay_heardn (n := z.told + 1) (by omega))
                clear hx9 hy9 hb9 hal hal0 HTK
                go_wp2_with fail
                generalize w9.alloc (.cells #[.bool false, .int .u64 ((z.told : Int) + 1), .slice A9 0 c9] 48) = w10 at *
                refine HLH.out.mono ?_
                rintro e w11 ⟨A11, c11, rfl, ⟨hy11, hf11⟩, hb11⟩
                go_wp2_with fail
                go_meet
                exact ⟨A11, _, c11, _, rfl, Lib.hid (HP8.out.other (HB9.out.trans (hb11.mono HB9.out.size)) hy11 (fun a ha => Nat.le_trans HB9.out.size (hf11 a ha)))⟩
            case rest =>
              as_aux_lemma =>
              obtain ⟨A4, n4, c4, bs4, rfl, HP4⟩ := hcut
              clear HP8 HY8 HPKB hiq b0 b1 b2 b3 b4 b5
              obtain ⟨b0, b1, b2, b3, b4, b5⟩ := HBX.out _ _ HP4.out.2.1
              have hi1000 : i + 1 ≤ 1000 := by omega
              go_upto_block 2 with fail
              go_cut [19] (fun bv wz => bv = .bool true ∧ Hid (∃ v z, Rb.Pl w1 wz r h s q v z z ∧ Gd (i + 1) z ∧ Gx z))
              case first =>
                as_aux_lemma =>
                by_cases hw2 : m6 = 2
                · subst hw2
                  have HST := Lib.hid (HP4.out.1.rb.step HG.out.chg)
                  have HGS := Lib.hid (HG.out.step hi1000).1
                  have HXS := Lib.hid (HX.out.step HG.out)
                  have HDS := Lib.hid (fun (W : World) (hd : DAt W q z) => r18step_any hd HG.out HX.out)
                  generalize (stD z).1 = z2 at *
                  generalize (stD z).2 = b2 at *
                  go_wp2_with fail
                  refine HST.out.mono ?_
                  rintro e w9 ⟨rfl, v9, hr9, ht9⟩
                  obtain ⟨hp9, htt9⟩ := HP4.out.1.robot hr9 ht9
                  have HP9 := Lib.hid hp9
                  have HD9 := Lib.hid (HDS.out w9 hp9.da)
                  clear hr9 ht9 hp9 htt9 HST HDS
                  go_wp2_with fail
                  refine HD9.out.mono ?_
                  rintro e w10 ⟨rfl, ht10, hd10⟩
                  obtain ⟨hp10, -⟩ := HP9.out.doc hd10 ht10
                  have HP10 := Lib.hid hp10
                  clear ht10 hd10 hp10 HD9 HP9
                  have tb : (b2 == b2) = true := by simp
                  go_wp2_with fail
                  go_meet
                  exact ⟨by simp, Lib.hid ⟨v9, z2, HP10.out, HGS.out, HXS.out⟩⟩
                · have tm2 : ((m6 : Int) == 2) = false := by rw [beq_eq_false_iff_ne]; omega
                  by_cases hw3 : m6 = 3 ∨ m6 = 5
                  · have HHE := Lib.hid (HP4.out.1.rb.heard (w := wc) HP4.out.2.2.by_)
                    have HGS := Lib.hid (((HG.out.heard bs4).1).more (Nat.le_succ i) hi1000)
                    have HXS := Lib.hid (HX.out.heard bs4)
                    have HST : Hid (∀ W : World, Below wc.heap.size wc W → Calls Tryd.prog 19 #[.pointer (some ⟨r, 0, none⟩), .slice A4 n4 c4] W (STo w1 W r h s v (hdD z bs4) (.bool (heB z.told z.pk bs4)))) := Lib.hid (fun W hb => (HP4.out.1.rb.later hb).heard (Ln.by_later HP4.out.2.2.by_ hb))
                    have HDS := Lib.hid (fun (W : World) (A : Option Addr) (n c : Nat) (hd : DAt W q z) (hy : By W.heap.size W A n c bs4) => d_shear hd (fun _ => HG.out.told) hy (Nat.le_refl _))
                    have HPD := Lib.hid (HP4.out.later ((Below.refl _ _).drew : Below wc.heap.size wc wc.drew))
                    generalize hdD z bs4 = z2 at *
                    generalize heB z.told z.pk bs4 = b2 at *
                    have tb : (b2 == b2) = true := by simp
                    obtain rfl | rfl := hw3
                    · clear HHE
                      go_wp2_with fail
                      go_region_with (first | (go_simp; go_at_call 19; refine (HST.out _ (Below.refl _ _).drew).mono ?_; rintro e w9 ⟨rfl, v9, hr9, ht9⟩; obtain ⟨hp9, htt9⟩ := HPD.out.1.robot hr9 ht9; have HP9 := Lib.hid hp9; have HD9 := Lib.hid (HDS.out w9 A4 n4 c4 hp9.da (HPD.out.2.2.turn htt9).by_); clear hr9 ht9 hp9 htt9 HST HDS) | (go_simp; go_at_call 20; refine HD9.out.mono ?_; rintro e w10 ⟨rfl, ht10, hd10⟩; obtain ⟨hp10, -⟩ := HP9.out.doc hd10 ht10; have HP10 := Lib.hid hp10; clear ht10 hd10 hp10 HD9 HP9))
                      all_goals (go_wp2_with fail; go_meet; exact ⟨by simp, Lib.hid ⟨v9, z2, HP10.out, HGS.out, HXS.out⟩⟩)
                    · clear HHE
                      go_wp2_with fail
                      go_region_with (first | (go_simp; go_at_call 19; refine (HST.out _ (Below.refl _ _).drew).mono ?_; rintro e w9 ⟨rfl, v9, hr9, ht9⟩; obtain ⟨hp9, htt9⟩ := HPD.out.1.robot hr9 ht9; have HP9 := Lib.hid hp9; have HD9 := Lib.hid (HDS.out w9 A4 n4 c4 hp9.da (HPD.out.2.2.turn htt9).by_); clear hr9 ht9 hp9 htt9 HST HDS) | (go_simp; go_at_call 20; refine HD9.out.mono ?_; rintro e w10 ⟨rfl, ht10, hd10⟩; obtain ⟨hp10, -⟩ := HP9.out.doc hd10 ht10; have HP10 := Lib.hid hp10; clear ht10 hd10 hp10 HD9 HP9))
                      all_goals (go_wp2_with fail; go_meet; exact ⟨by simp, Lib.hid ⟨v9, z2, HP10.out, HGS.out, HXS.out⟩⟩)
                  · have tm3 : ((m6 : Int) == 3) = false := by rw [beq_eq_false_iff_ne]; omega
                    have tm5 : ((m6 : Int) == 5) = false := by rw [beq_eq_false_iff_ne]; omega
                    have HQL : Hid (q < wc.heap.size) := Lib.hid (lt_of_heap HP4.out.1.da.box)
                    have HST : Hid (∀ W : World, Below wc.heap.size wc W → Calls Tryd.prog 21 #[.pointer (some ⟨r, 0, none⟩), .slice A4 n4 c4] W (HTo w1 W r h s v z bs4)) := Lib.hid (fun W hb => (HP4.out.1.rb.later hb).hear HG.out.told (Ln.by_later HP4.out.2.2.by_ hb))
                    have HDS := Lib.hid (fun (W : World) (A : Option Addr) (n c : Nat) (hd : DAt W q z) (hy : By W.heap.size W A n c bs4) => r18hear_any hd HG.out hy (Nat.le_refl _))
                    have HPD := Lib.hid (HP4.out.later ((Below.refl _ _).drew : Below wc.heap.size wc wc.drew))
                    go_wp2_with fail
                    go_region_with (first | (go_simp; go_at_call 21; refine (HST.out _ (Below.refl _ _).drew).mono ?_; rintro e w9 ⟨bb, z2, A9, c9, rfl, ⟨hy9, hf9⟩, hhr, v9, hr9, ht9⟩; obtain ⟨hp9, htt9⟩ := HPD.out.1.robot hr9 ht9; have HP9 := Lib.hid hp9; have HHR := Lib.hid hhr; have HDB := Lib.hid hy9; have HFB := Lib.hid hf9; have HD9 := Lib.hid (HDS.out w9 A4 n4 c4 hp9.da (HPD.out.2.2.turn htt9).by_); have kc9 := hy9.conv; clear hr9 ht9 hp9 htt9 hhr hy9 hf9 HST HDS) | (go_simp; go_at_call 22; refine HD9.out.mono ?_; rintro e w10 ⟨bb', z3, A10, c10, rfl, hy10, ht10, hd10, hhr⟩; obtain ⟨rfl, rfl⟩ := HHR.out.uniq hhr; obtain ⟨hp10, htt10⟩ := HP9.out.doc hd10 ht10; have HP10 := Lib.hid hp10; have kd9 := (by_turnF HDB.out ht10 (fun j hj => by have e : j = q := hj; rw [e]; exact HQL.out) HFB.out).conv; have kc10 := hy10.conv; clear ht10 hd10 hp10 htt10 hy10 hhr HD9 HP9))
                    all_goals (go_wp2_with fail; go_meet; exact ⟨by simp, Lib.hid ⟨v9, z2, HP10.out, ((HG.out.hear HHR.out).1).more (Nat.le_succ i) hi1000, HX.out.hear HHR.out⟩⟩)
              case rest =>
                as_aux_lemma =>
                obtain ⟨rfl, HC⟩ := hcut
                obtain ⟨v5, z5, hp5, hg5, hx5⟩ := HC.out
                have HP5 := Lib.hid hp5
                have HG5 := Lib.hid hg5
                have HX5 := Lib.hid hx5
                clear hp5 hg5 hx5 HC HP4 HG HX b0 b1 b2 b3 b4 b5 hm6
                clear HLK
                obtain ⟨kb, hkb⟩ : ∃ b, decide (z5.k ≠ 0) = b := ⟨_, rfl⟩
                obtain ⟨pb, hpb5⟩ : ∃ b, decide (z5.pk ≠ []) = b := ⟨_, rfl⟩
                obtain ⟨pl, hpl⟩ : ∃ b, z5.pk.length = b := ⟨_, rfl⟩
                obtain ⟨d, hd⟩ : ∃ b, dn z5 = b := ⟨_, rfl⟩
                obtain ⟨sp, hsp⟩ : ∃ b, strOf z5.pk = b := ⟨_, rfl⟩
                have HKB := Lib.hid hkb
                have HD := Lib.hid hd
                have HSP := Lib.hid hsp
                have hdl : d ≤ 1000 := by have := HG5.out.few; have := HG5.out.lot; omega
                have HNX := Lib.hid (next_any HP5.out.rb.at_)
                have HPA := Lib.hid (fun (W : World) (hb : Below wc.heap.size wc W) => (HP5.out.rb.later hb).packet)
                have HPD := Lib.hid (fun (W : World) (hb : Below wc.heap.size wc W) => d_packet (HP5.out.da.later hb) (fun hp => ⟨HX5.out.link hp, ok_told HG5.out.told (by simp) (by simp)⟩))
                rw [hkb] at HNX
                rw [hpb5, hpl] at HPA HPD
                have HPL := Lib.hid hpl
                clear hkb hd hsp hpb5 hpl
                go_wp2_with fail
                refine HNX.out.mono ?_
                rintro e w7 ⟨rfl, hb7⟩
                have hal7 := below_new w7 (.cells #[.int .u8 (z5.k : Int), .int .i64 z5.c, .int .i64 z5.p] 33)
                have hbx7 := heap_alloc_new w7 (.cells #[.int .u8 (z5.k : Int), .int .i64 z5.c, .int .i64 z5.p] 33)
                have HB7 := Lib.hid (hb7.trans (hal7.mono hb7.size))
                have HX7 := Lib.hid hbx7
                have HPA7 := Lib.hid (HPA.out _ HB7.out)
                clear hb7 hal7 hbx7 HNX HPA
                as_aux_lemma =>
                go_wp2_with fail
                generalize w7.alloc (.cells #[.int .u8 (z5.k : Int), .int .i64 z5.c, .int .i64 z5.p] 33) = w8 at *
                generalize w7.heap.size = X at *
                refine HPA7.out.mono ?_
                rintro e w9 ⟨A22, c22, rfl, hy22, hb9⟩
                have HB9 := Lib.hid (HB7.out.trans (hb9.mono HB7.out.size))
                have HX9 := Lib.hid ((hb9.block X (lt_of_heap HX7.out)).trans HX7.out)
                have HY22 := Lib.hid hy22
                have HPD9 := Lib.hid (HPD.out _ HB9.out)
                clear hy22 hb9 HPA7 HPD
                go_wp2_with fail
                refine HPD9.out.mono ?_
                rintro e wT ⟨A24, c24, rfl, hy24, hb10⟩
                have HBT := Lib.hid (HB9.out.trans (hb10.mono HB9.out.size))
                have HXT := Lib.hid ((hb10.block X (lt_of_heap HX9.out)).trans HX9.out)
                have HY22T := Lib.hid (Ln.by_later HY22.out hb10)
                have HY24T := Lib.hid hy24
                have HP6 := Lib.hid (HP5.out.later HBT.out)
                have hn22 := HY22T.out.le
                have hn24 := hy24.le
                have hm22 := HY22T.out.max
                have hm24 := hy24.max
                unfold maxLen at hm22 hm24
                clear hy24 hb10 HPD9
                obtain ⟨L, hL⟩ : ∃ L, cls z5 = L := ⟨_, rfl⟩
                obtain ⟨nL, hnL⟩ : ∃ nL : Nat, nL = L.length := ⟨_, rfl⟩
                have hcl := cls_len z5
                rw [hL, ← hnL] at hcl
                have HCE := Lib.hid (fun (W : World) (hb : Below wT.heap.size wT W) => (HP6.out.rb.later hb).cells hL hnL)
                have HCD := Lib.hid (fun (W : World) (hb : Below wT.heap.size wT W) => r18cells_any (HP6.out.da.later hb) HX5.out HG5.out hL hnL)
                have HCH := Lib.hid (fun (W : World) (hb : Below wT.heap.size wT W) => (HP6.out.rb.later hb).charge rfl)
                have HDN := Lib.hid (fun (W : World) (hb : Below wT.heap.size wT W) => (HP6.out.rb.later hb).done HD.out)
                have HK0 : Hid (Below wT.heap.size wT wT.drew) := Lib.hid (Below.refl _ _).drew
                have HKEEP : Hid (∀ w' : World, Below wT.heap.size wT w' → w'.cell? ⟨X, 0, none⟩ = some (.int .u8 (z5.k : Int)) ∧ w'.cell? ⟨X, 1, none⟩ = some (.int .i64 z5.c) ∧ w'.cell? ⟨X, 2, none⟩ = some (.int .i64 z5.p) ∧ w'.cell? ⟨q, 4, none⟩ = some (.int .i64 z5.chg) ∧ w'.cell? ⟨q, 5, none⟩ = some (.bool kb) ∧ w'.cell? ⟨q, 6, none⟩ = some (.int .u8 (z5.k : Int)) ∧ w'.cell? ⟨q, 7, none⟩ = some (.int .i64 z5.c) ∧ w'.cell? ⟨q, 8, none⟩ = some (.int .i64 z5.p) ∧ w'.cell? ⟨q, 9, none⟩ = some (.int .u64 (d : Int)) ∧ (convert 35 9 (.slice A22 pl c22)).run Tryd.prog w' = .ok (.string sp) w' ∧ (convert 35 9 (.slice A24 pl c24)).run Tryd.prog w' = .ok (.string sp) w') := Lib.hid (fun w' hb => by
                  have hx := (hb.block X (lt_of_heap HXT.out)).trans HXT.out
                  have hd := HP6.out.da.later hb
                  have k1 := (Ln.by_later HY22T.out hb).conv
                  have k2 := (Ln.by_later HY24T.out hb).conv
                  rw [HSP.out] at k1 k2
                  have y5 := (hd.row 5).1
                  have y9 := (hd.row 9).1
                  refine ⟨cell_of_row _ X 0 _ _ _ hx, cell_of_row _ X 1 _ _ _ hx, cell_of_row _ X 2 _ _ _ hx, (hd.row 4).1, ?_, (hd.row 6).1, (hd.row 7).1, (hd.row 8).1, ?_, k1, k2⟩
                  · rw [← HKB.out]; exact y5
                  · rw [← HD.out]; exact y9)
                clear hL hnL
                go_wp2_with fail
                as_aux_lemma =>
                refine wp_region_held_drew (S := fun w' => w'.cell? ⟨X, 0, none⟩ = some (.int .u8 (z5.k : Int)) ∧ w'.cell? ⟨X, 1, none⟩ = some (.int .i64 z5.c) ∧ w'.cell? ⟨X, 2, none⟩ = some (.int .i64 z5.p) ∧ w'.cell? ⟨q, 4, none⟩ = some (.int .i64 z5.chg) ∧ w'.cell? ⟨q, 5, none⟩ = some (.bool kb) ∧ w'.cell? ⟨q, 6, none⟩ = some (.int .u8 (z5.k : Int)) ∧ w'.cell? ⟨q, 7, none⟩ = some (.int .i64 z5.c) ∧ w'.cell? ⟨q, 8, none⟩ = some (.int .i64 z5.p) ∧ w'.cell? ⟨q, 9, none⟩ = some (.int .u64 (d : Int)) ∧ (convert 35 9 (.slice A22 pl c22)).run Tryd.prog w' = .ok (.string sp) w' ∧ (convert 35 9 (.slice A24 pl c24)).run Tryd.prog w' = .ok (.string sp) w') (by kernel_rfl) (by simp; exact (HKEEP.out _ HK0.out)) (fun hS0 => ?_)
                (refine wpAnyH_take (i := 0) (oi := ⟨some 163, _, _, _, _, _⟩) (v := .bool true) rfl (by kernel_rfl) (by kernel_rfl) (by kernel_rfl) (fun _ _ _ h => h) (Or.inl ⟨by rfl, ?_⟩) (by assumption) ?_; (intro w hSw; (try dsimp only at hSw); go_simp); (try simp only [Act.put, List.setIfInBounds_toArray, List.set_cons_zero, List.set_cons_succ]))
                (refine wpAnyH_take (i := 1) (oi := ⟨some 164, _, _, _, _, _⟩) (v := .bool false) rfl (by kernel_rfl) (by kernel_rfl) (by kernel_rfl) (fun _ _ _ h => h) (Or.inl ⟨by rfl, ?_⟩) (by assumption) ?_; (intro w hSw; (try dsimp only at hSw); go_simp); (try simp only [Act.put, List.setIfInBounds_toArray, List.set_cons_zero, List.set_cons_succ]))
                (refine wpAnyH_take (i := 2) (oi := ⟨some 165, _, _, _, _, _⟩) (v := .bool false) rfl (by kernel_rfl) (by kernel_rfl) (by kernel_rfl) (fun _ _ _ h => h) (Or.inl ⟨by rfl, ?_⟩) (by assumption) ?_; (intro w hSw; (try dsimp only at hSw); go_simp); (try simp only [Act.put, List.setIfInBounds_toArray, List.set_cons_zero, List.set_cons_succ]))
                (refine wpAnyH_take (i := 3) (oi := ⟨some 166, _, _, _, _, _⟩) (v := .agg #[.int .u8 (z5.k : Int), .int .i64 z5.c, .int .i64 z5.p]) rfl (by kernel_rfl) (by kernel_rfl) (by kernel_rfl) (fun _ _ _ h => h) (Or.inl ⟨by rfl, ?_⟩) (by assumption) ?_; (intro w hSw; (try dsimp only at hSw); go_simp); (try simp only [Act.put, List.setIfInBounds_toArray, List.set_cons_zero, List.set_cons_succ]))
                (refine wpAnyH_take (i := 4) (oi := ⟨some 167, _, _, _, _, _⟩) (v := .pointer (some ⟨q, 0, none⟩)) rfl (by kernel_rfl) (by kernel_rfl) (by kernel_rfl) (fun _ _ _ h => h) (Or.inl ⟨by rfl, ?_⟩) (by assumption) ?_; (intro w hSw; (try dsimp only at hSw); go_simp); (try simp only [Act.put, List.setIfInBounds_toArray, List.set_cons_zero, List.set_cons_succ]))
                (refine wpAnyH_take (i := 5) (oi := ⟨some 168, _, _, _, _, _⟩) (v := .pointer (some ⟨q, 0, none⟩)) rfl (by kernel_rfl) (by kernel_rfl) (by kernel_rfl) (fun _ _ _ h => h) (Or.inl ⟨by rfl, ?_⟩) (by assumption) ?_; (intro w hSw; (try dsimp only at hSw); go_simp); (try simp only [Act.put, List.setIfInBounds_toArray, List.set_cons_zero, List.set_cons_succ]))
                (refine wpAnyH_take (i := 6) (oi := ⟨some 169, _, _, _, _, _⟩) (v := .pointer (some ⟨q, 6, none⟩)) rfl (by kernel_rfl) (by kernel_rfl) (by kernel_rfl) (fun _ _ _ h => h) (Or.inl ⟨by rfl, ?_⟩) (by assumption) ?_; (intro w hSw; (try dsimp only at hSw); go_simp); (try simp only [Act.put, List.setIfInBounds_toArray, List.set_cons_zero, List.set_cons_succ]))
                (refine wpAnyH_take (i := 7) (oi := ⟨some 170, _, _, _, _, _⟩) (v := .agg #[.int .u8 (z5.k : Int), .int .i64 z5.c, .int .i64 z5.p]) rfl (by kernel_rfl) (by kernel_rfl) (by kernel_rfl) (fun _ _ _ h => h) (Or.inl ⟨by rfl, ?_⟩) (by assumption) ?_; (intro w hSw; (try dsimp only at hSw); go_simp); (try simp only [Act.put, List.setIfInBounds_toArray, List.set_cons_zero, List.set_cons_succ]))
                (refine wpAnyH_take (i := 8) (oi := ⟨some 171, _, _, _, _, _⟩) (v := .bool false) rfl (by kernel_rfl) (by kernel_rfl) (by kernel_rfl) (fun _ _ _ h => h) (Or.inl ⟨by rfl, ?_⟩) (by assumption) ?_; (intro w hSw; (try dsimp only at hSw); go_simp); (try simp only [Act.put, List.setIfInBounds_toArray, List.set_cons_zero, List.set_cons_succ]))
                (refine wpAnyH_take (i := 9) (oi := ⟨some 172, _, _, _, _, _⟩) (v := .bool false) rfl (by kernel_rfl) (by kernel_rfl) (by kernel_rfl) (fun _ _ _ h => h) (Or.inl ⟨by rfl, ?_⟩) (by assumption) ?_; (intro w hSw; (try dsimp only at hSw); go_simp); (try simp only [Act.put, List.setIfInBounds_toArray, List.set_cons_zero, List.set_cons_succ]))
                (refine wpAnyH_take (i := 10) (oi := ⟨some 173, _, _, _, _, _⟩) (v := .bool false) rfl (by kernel_rfl) (by kernel_rfl) (by kernel_rfl) (fun _ _ _ h => h) (Or.inl ⟨by rfl, ?_⟩) (by assumption) ?_; (intro w hSw; (try dsimp only at hSw); go_simp); (try simp only [Act.put, List.setIfInBounds_toArray, List.set_cons_zero, List.set_cons_succ]))
                (refine wpAnyH_take (i := 11) (oi := ⟨some 174, _, _, _, _, _⟩) (v := .bool kb) rfl (by kernel_rfl) (by kernel_rfl) (by kernel_rfl) (fun _ _ _ h => h) (Or.inl ⟨by rfl, ?_⟩) (by assumption) ?_; (intro w hSw; (try dsimp only at hSw); go_simp); (try simp only [Act.put, List.setIfInBounds_toArray, List.set_cons_zero, List.set_cons_succ]))
                (refine wpAnyH_take (i := 12) (oi := ⟨some 175, _, _, _, _, _⟩) (v := .pointer (some ⟨q, 0, none⟩)) rfl (by kernel_rfl) (by kernel_rfl) (by kernel_rfl) (fun _ _ _ h => h) (Or.inl ⟨by rfl, ?_⟩) (by assumption) ?_; (intro w hSw; (try dsimp only at hSw); go_simp); (try simp only [Act.put, List.setIfInBounds_toArray, List.set_cons_zero, List.set_cons_succ]))
                (refine wpAnyH_take (i := 13) (oi := ⟨some 176, _, _, _, _, _⟩) (v := .pointer (some ⟨q, 0, none⟩)) rfl (by kernel_rfl) (by kernel_rfl) (by kernel_rfl) (fun _ _ _ h => h) (Or.inl ⟨by rfl, ?_⟩) (by assumption) ?_; (intro w hSw; (try dsimp only at hSw); go_simp); (try simp only [Act.put, List.setIfInBounds_toArray, List.set_cons_zero, List.set_cons_succ]))
                (refine wpAnyH_take (i := 14) (oi := ⟨some 177, _, _, _, _, _⟩) (v := .pointer (some ⟨q, 5, none⟩)) rfl (by kernel_rfl) (by kernel_rfl) (by kernel_rfl) (fun _ _ _ h => h) (Or.inl ⟨by rfl, ?_⟩) (by assumption) ?_; (intro w hSw; (try dsimp only at hSw); go_simp); (try simp only [Act.put, List.setIfInBounds_toArray, List.set_cons_zero, List.set_cons_succ]))
                (refine wpAnyH_take (i := 15) (oi := ⟨some 178, _, _, _, _, _⟩) (v := .bool kb) rfl (by kernel_rfl) (by kernel_rfl) (by kernel_rfl) (fun _ _ _ h => h) (Or.inl ⟨by rfl, ?_⟩) (by assumption) ?_; (intro w hSw; (try dsimp only at hSw); go_simp); (try simp only [Act.put, List.setIfInBounds_toArray, List.set_cons_zero, List.set_cons_succ]))
                (refine wpAnyH_take (i := 16) (oi := ⟨some 179, _, _, _, _, _⟩) (v := .bool false) rfl (by kernel_rfl) (by kernel_rfl) (by kernel_rfl) (fun _ _ _ h => h) (Or.inl ⟨by rfl, ?_⟩) (by assumption) ?_; (intro w hSw; (try dsimp only at hSw); go_simp); (try simp only [Act.put, List.setIfInBounds_toArray, List.set_cons_zero, List.set_cons_succ]))
                (refine wpAnyH_take (i := 17) (oi := ⟨some 180, _, _, _, _, _⟩) (v := .bool false) rfl (by kernel_rfl) (by kernel_rfl) (by kernel_rfl) (fun _ _ _ h => h) (Or.inl ⟨by rfl, ?_⟩) (by assumption) ?_; (intro w hSw; (try dsimp only at hSw); go_simp); (try simp only [Act.put, List.setIfInBounds_toArray, List.set_cons_zero, List.set_cons_succ]))
                (refine wpAnyH_take (i := 18) (oi := ⟨some 181, _, _, _, _, _⟩) (v := .bool false) rfl (by kernel_rfl) (by kernel_rfl) (by kernel_rfl) (fun _ _ _ h => h) (Or.inl ⟨by rfl, ?_⟩) (by assumption) ?_; (intro w hSw; (try dsimp only at hSw); go_simp); (try simp only [Act.put, List.setIfInBounds_toArray, List.set_cons_zero, List.set_cons_succ]))
                (refine wpAnyH_take (i := 19) (oi := ⟨some 182, _, _, _, _, _⟩) (v := .slice A22 pl c22) rfl (by kernel_rfl) (by kernel_rfl) (by kernel_rfl) (fun _ _ _ h => h) (Or.inl ⟨by rfl, ?_⟩) (by assumption) ?_; (intro w hSw; (try dsimp only at hSw); go_simp); (try simp only [Act.put, List.setIfInBounds_toArray, List.set_cons_zero, List.set_cons_succ]))
                (refine wpAnyH_take (i := 20) (oi := ⟨some 183, _, _, _, _, _⟩) (v := .string sp) rfl (by kernel_rfl) (by kernel_rfl) (by kernel_rfl) (fun _ _ _ h => h) (Or.inl ⟨by rfl, ?_⟩) (by assumption) ?_; (intro w hSw; (try dsimp only at hSw); go_simp); (try simp only [Act.put, List.setIfInBounds_toArray, List.set_cons_zero, List.set_cons_succ]))
                (refine wpAnyH_take (i := 21) (oi := ⟨some 184, _, _, _, _, _⟩) (v := .slice A24 pl c24) rfl (by kernel_rfl) (by kernel_rfl) (by kernel_rfl) (fun _ _ _ h => h) (Or.inl ⟨by rfl, ?_⟩) (by assumption) ?_; (intro w hSw; (try dsimp only at hSw); go_simp); (try simp only [Act.put, List.setIfInBounds_toArray, List.set_cons_zero, List.set_cons_succ]))
                (refine wpAnyH_take (i := 22) (oi := ⟨some 185, _, _, _, _, _⟩) (v := .string sp) rfl (by kernel_rfl) (by kernel_rfl) (by kernel_rfl) (fun _ _ _ h => h) (Or.inl ⟨by rfl, ?_⟩) (by assumption) ?_; (intro w hSw; (try dsimp only at hSw); go_simp); (try simp only [Act.put, List.setIfInBounds_toArray, List.set_cons_zero, List.set_cons_succ]))
                (refine wpAnyH_take (i := 23) (oi := ⟨some 186, _, _, _, _, _⟩) (v := .bool false) rfl (by kernel_rfl) (by kernel_rfl) (by kernel_rfl) (fun _ _ _ h => h) (Or.inl ⟨by rfl, ?_⟩) (by assumption) ?_; (intro w hSw; (try dsimp only at hSw); go_simp); (try simp only [Act.put, List.setIfInBounds_toArray, List.set_cons_zero, List.set_cons_succ]))
                (refine wpAnyH_take (i := 24) (oi := ⟨some 187, _, _, _, _, _⟩) (v := .bool false) rfl (by kernel_rfl) (by kernel_rfl) (by kernel_rfl) (fun _ _ _ h => h) (Or.inl ⟨by rfl, ?_⟩) (by assumption) ?_; (intro w hSw; (try dsimp only at hSw); go_simp); (try simp only [Act.put, List.setIfInBounds_toArray, List.set_cons_zero, List.set_cons_succ]))
                (refine wpAnyH_take (i := 25) (oi := ⟨some 188, _, _, _, _, _⟩) (v := .bool false) rfl (by kernel_rfl) (by kernel_rfl) (by kernel_rfl) (fun _ _ _ h => h) (Or.inl ⟨by rfl, ?_⟩) (by assumption) ?_; (intro w hSw; (try dsimp only at hSw); go_simp); (try simp only [Act.put, List.setIfInBounds_toArray, List.set_cons_zero, List.set_cons_succ]))
                (refine wpAnyH_take (i := 26) (oi := ⟨some 189, _, _, _, _, _⟩) (v := .bool pb) rfl (by kernel_rfl) (by kernel_rfl) (by kernel_rfl) (fun _ _ _ h => h) (Or.inl ⟨by rfl, ?_⟩) (by assumption) ?_; (intro w hSw; (try dsimp only at hSw); go_simp); (try simp only [Act.put, List.setIfInBounds_toArray, List.set_cons_zero, List.set_cons_succ]))
                (refine wpAnyH_take (i := 27) (oi := ⟨some 190, _, _, _, _, _⟩) (v := .bool pb) rfl (by kernel_rfl) (by kernel_rfl) (by kernel_rfl) (fun _ _ _ h => h) (Or.inl ⟨by rfl, ?_⟩) (by assumption) ?_; (intro w hSw; (try dsimp only at hSw); go_simp); (try simp only [Act.put, List.setIfInBounds_toArray, List.set_cons_zero, List.set_cons_succ]))
                (refine wpAnyH_take (i := 28) (oi := ⟨some 191, _, _, _, _, _⟩) (v := .bool false) rfl (by kernel_rfl) (by kernel_rfl) (by kernel_rfl) (fun _ _ _ h => h) (Or.inl ⟨by rfl, ?_⟩) (by assumption) ?_; (intro w hSw; (try dsimp only at hSw); go_simp); (try simp only [Act.put, List.setIfInBounds_toArray, List.set_cons_zero, List.set_cons_succ]))
                (refine wpAnyH_take (i := 29) (oi := ⟨some 192, _, _, _, _, _⟩) (v := .bool false) rfl (by kernel_rfl) (by kernel_rfl) (by kernel_rfl) (fun _ _ _ h => h) (Or.inl ⟨by rfl, ?_⟩) (by assumption) ?_; (intro w hSw; (try dsimp only at hSw); go_simp); (try simp only [Act.put, List.setIfInBounds_toArray, List.set_cons_zero, List.set_cons_succ]))
                (refine wpAnyH_take (i := 30) (oi := ⟨some 193, _, _, _, _, _⟩) (v := .bool false) rfl (by kernel_rfl) (by kernel_rfl) (by kernel_rfl) (fun _ _ _ h => h) (Or.inl ⟨by rfl, ?_⟩) (by assumption) ?_; (intro w hSw; (try dsimp only at hSw); go_simp); (try simp only [Act.put, List.setIfInBounds_toArray, List.set_cons_zero, List.set_cons_succ]))
                (refine wpAnyH_take (i := 31) (oi := ⟨some 194, _, _, _, _, _⟩) (v := .pointer (some ⟨r, 0, none⟩)) rfl (by kernel_rfl) (by kernel_rfl) (by kernel_rfl) (fun _ _ _ h => h) (Or.inl ⟨by rfl, ?_⟩) (by assumption) ?_; (intro w hSw; (try dsimp only at hSw); go_simp); (try simp only [Act.put, List.setIfInBounds_toArray, List.set_cons_zero, List.set_cons_succ]))
                (refine wpAnyH_take (i := 33) (oi := ⟨some 196, _, _, _, _, _⟩) (v := .pointer (some ⟨q, 0, none⟩)) rfl (by kernel_rfl) (by kernel_rfl) (by kernel_rfl) (fun _ _ _ h => h) (Or.inl ⟨by rfl, ?_⟩) (by assumption) ?_; (intro w hSw; (try dsimp only at hSw); go_simp); (try simp only [Act.put, List.setIfInBounds_toArray, List.set_cons_zero, List.set_cons_succ]))
                refine wpAnyH_ready (rs := [32]) (by kernel_rfl) (by simp) ?_
                refine AllReadyH.cons (o := ⟨some 195, _, _, _, _, _⟩) rfl (fun K hK => ?_) AllReadyH.nil
                go_simp
                refine (HCE.out _ HK0.out).mono ?_
                rintro e wp ⟨A25, c25, rfl, hl25, hb25, -⟩
                have HBp := Lib.hid (HK0.out.trans (hb25.mono HK0.out.size))
                have HLp := Lib.hid hl25
                have HCEd := Lib.hid (HCD.out _ HBp.out)
                have hc25 := Bk.Gt.size hl25
                have hc251 := hc25.1
                have hc252 := hc25.2
                clear hl25 hb25 hc25
                refine hK.out _ _ (HKEEP.out _ HBp.out) (fun hS195 => ?_)
                clear hK
                (try simp only [Act.put, List.setIfInBounds_toArray, List.set_cons_zero, List.set_cons_succ])
                as_aux_lemma =>
                refine wpAnyH_ready (rs := [34]) (by kernel_rfl) (by simp) ?_
                refine AllReadyH.cons (o := ⟨some 197, _, _, _, _, _⟩) rfl (fun K hK => ?_) AllReadyH.nil
                go_simp
                refine HCEd.out.mono ?_
                rintro e wq ⟨A26, c26, rfl, hl26, hb26⟩
                have HBq := Lib.hid (HBp.out.trans (hb26.mono HBp.out.size))
                have HSM := Lib.hid (same18 _ _ _ _ _ _ _ (Bk.Gt.later HLp.out hb26) hl26 (by omega))
                have hc26 := Bk.Gt.size hl26
                have hc261 := hc26.1
                have hc262 := hc26.2
                clear hl26 hb26 hc26
                refine hK.out _ _ (HKEEP.out _ HBq.out) (fun hS197 => ?_)
                clear hK
                (try simp only [Act.put, List.setIfInBounds_toArray, List.set_cons_zero, List.set_cons_succ])
                as_aux_lemma =>
                refine wpAnyH_ready (rs := [35]) (by kernel_rfl) (by simp) ?_
                refine AllReadyH.cons (o := ⟨some 198, _, _, _, _, _⟩) rfl (fun K hK => ?_) AllReadyH.nil
                go_simp
                refine HSM.out.mono ?_
                rintro e ws ⟨rfl, hb27⟩
                have HBs := Lib.hid (HBq.out.trans (hb27.mono HBq.out.size))
                clear hb27
                refine hK.out _ _ (HKEEP.out _ HBs.out) (fun hS198 => ?_)
                clear hK
                (try simp only [Act.put, List.setIfInBounds_toArray, List.set_cons_zero, List.set_cons_succ])
                as_aux_lemma =>
                (refine wpAnyH_take (i := 36) (oi := ⟨some 199, _, _, _, _, _⟩) (v := .bool false) rfl (by kernel_rfl) (by kernel_rfl) (by kernel_rfl) (fun _ _ _ h => h) (Or.inl ⟨by rfl, ?_⟩) (by assumption) ?_; (intro w hSw; (try dsimp only at hSw); go_simp); (try simp only [Act.put, List.setIfInBounds_toArray, List.set_cons_zero, List.set_cons_succ]))
                (refine wpAnyH_take (i := 37) (oi := ⟨some 200, _, _, _, _, _⟩) (v := .bool false) rfl (by kernel_rfl) (by kernel_rfl) (by kernel_rfl) (fun _ _ _ h => h) (Or.inl ⟨by rfl, ?_⟩) (by assumption) ?_; (intro w hSw; (try dsimp only at hSw); go_simp); (try simp only [Act.put, List.setIfInBounds_toArray, List.set_cons_zero, List.set_cons_succ]))
                (refine wpAnyH_take (i := 38) (oi := ⟨some 201, _, _, _, _, _⟩) (v := .bool false) rfl (by kernel_rfl) (by kernel_rfl) (by kernel_rfl) (fun _ _ _ h => h) (Or.inl ⟨by rfl, ?_⟩) (by assumption) ?_; (intro w hSw; (try dsimp only at hSw); go_simp); (try simp only [Act.put, List.setIfInBounds_toArray, List.set_cons_zero, List.set_cons_succ]))
                (refine wpAnyH_take (i := 39) (oi := ⟨some 202, _, _, _, _, _⟩) (v := .pointer (some ⟨r, 0, none⟩)) rfl (by kernel_rfl) (by kernel_rfl) (by kernel_rfl) (fun _ _ _ h => h) (Or.inl ⟨by rfl, ?_⟩) (by assumption) ?_; (intro w hSw; (try dsimp only at hSw); go_simp); (try simp only [Act.put, List.setIfInBounds_toArray, List.set_cons_zero, List.set_cons_succ]))
                (refine wpAnyH_take (i := 41) (oi := ⟨some 204, _, _, _, _, _⟩) (v := .pointer (some ⟨q, 0, none⟩)) rfl (by kernel_rfl) (by kernel_rfl) (by kernel_rfl) (fun _ _ _ h => h) (Or.inl ⟨by rfl, ?_⟩) (by assumption) ?_; (intro w hSw; (try dsimp only at hSw); go_simp); (try simp only [Act.put, List.setIfInBounds_toArray, List.set_cons_zero, List.set_cons_succ]))
                (refine wpAnyH_take (i := 42) (oi := ⟨some 205, _, _, _, _, _⟩) (v := .pointer (some ⟨q, 0, none⟩)) rfl (by kernel_rfl) (by kernel_rfl) (by kernel_rfl) (fun _ _ _ h => h) (Or.inl ⟨by rfl, ?_⟩) (by assumption) ?_; (intro w hSw; (try dsimp only at hSw); go_simp); (try simp only [Act.put, List.setIfInBounds_toArray, List.set_cons_zero, List.set_cons_succ]))
                (refine wpAnyH_take (i := 43) (oi := ⟨some 206, _, _, _, _, _⟩) (v := .pointer (some ⟨q, 4, none⟩)) rfl (by kernel_rfl) (by kernel_rfl) (by kernel_rfl) (fun _ _ _ h => h) (Or.inl ⟨by rfl, ?_⟩) (by assumption) ?_; (intro w hSw; (try dsimp only at hSw); go_simp); (try simp only [Act.put, List.setIfInBounds_toArray, List.set_cons_zero, List.set_cons_succ]))
                (refine wpAnyH_take (i := 44) (oi := ⟨some 207, _, _, _, _, _⟩) (v := .int .i64 z5.chg) rfl (by kernel_rfl) (by kernel_rfl) (by kernel_rfl) (fun _ _ _ h => h) (Or.inl ⟨by rfl, ?_⟩) (by assumption) ?_; (intro w hSw; (try dsimp only at hSw); go_simp); (try simp only [Act.put, List.setIfInBounds_toArray, List.set_cons_zero, List.set_cons_succ]))
                refine wpAnyH_ready (rs := [40]) (by kernel_rfl) (by simp) ?_
                refine AllReadyH.cons (o := ⟨some 203, _, _, _, _, _⟩) rfl (fun K hK => ?_) AllReadyH.nil
                go_simp
                refine (HCH.out _ HBs.out).mono ?_
                rintro e wt ⟨rfl, rfl⟩
                refine hK.out _ _ (HKEEP.out _ HBs.out) (fun hS203 => ?_)
                clear hK
                (try simp only [Act.put, List.setIfInBounds_toArray, List.set_cons_zero, List.set_cons_succ])
                as_aux_lemma =>
                (refine wpAnyH_take (i := 45) (oi := ⟨some 208, _, _, _, _, _⟩) (v := .bool false) rfl (by kernel_rfl) (by kernel_rfl) (by kernel_rfl) (fun _ _ _ h => h) (Or.inl ⟨by rfl, ?_⟩) (by assumption) ?_; (intro w hSw; (try dsimp only at hSw); go_simp); (try simp only [Act.put, List.setIfInBounds_toArray, List.set_cons_zero, List.set_cons_succ]))
                (refine wpAnyH_take (i := 46) (oi := ⟨some 209, _, _, _, _, _⟩) (v := .bool false) rfl (by kernel_rfl) (by kernel_rfl) (by kernel_rfl) (fun _ _ _ h => h) (Or.inl ⟨by rfl, ?_⟩) (by assumption) ?_; (intro w hSw; (try dsimp only at hSw); go_simp); (try simp only [Act.put, List.setIfInBounds_toArray, List.set_cons_zero, List.set_cons_succ]))
                (refine wpAnyH_take (i := 47) (oi := ⟨some 210, _, _, _, _, _⟩) (v := .bool false) rfl (by kernel_rfl) (by kernel_rfl) (by kernel_rfl) (fun _ _ _ h => h) (Or.inl ⟨by rfl, ?_⟩) (by assumption) ?_; (intro w hSw; (try dsimp only at hSw); go_simp); (try simp only [Act.put, List.setIfInBounds_toArray, List.set_cons_zero, List.set_cons_succ]))
                (refine wpAnyH_take (i := 48) (oi := ⟨some 211, _, _, _, _, _⟩) (v := .pointer (some ⟨r, 0, none⟩)) rfl (by kernel_rfl) (by kernel_rfl) (by kernel_rfl) (fun _ _ _ h => h) (Or.inl ⟨by rfl, ?_⟩) (by assumption) ?_; (intro w hSw; (try dsimp only at hSw); go_simp); (try simp only [Act.put, List.setIfInBounds_toArray, List.set_cons_zero, List.set_cons_succ]))
                (refine wpAnyH_take (i := 50) (oi := ⟨some 213, _, _, _, _, _⟩) (v := .pointer (some ⟨q, 0, none⟩)) rfl (by kernel_rfl) (by kernel_rfl) (by kernel_rfl) (fun _ _ _ h => h) (Or.inl ⟨by rfl, ?_⟩) (by assumption) ?_; (intro w hSw; (try dsimp only at hSw); go_simp); (try simp only [Act.put, List.setIfInBounds_toArray, List.set_cons_zero, List.set_cons_succ]))
                (refine wpAnyH_take (i := 51) (oi := ⟨some 214, _, _, _, _, _⟩) (v := .pointer (some ⟨q, 0, none⟩)) rfl (by kernel_rfl) (by kernel_rfl) (by kernel_rfl) (fun _ _ _ h => h) (Or.inl ⟨by rfl, ?_⟩) (by assumption) ?_; (intro w hSw; (try dsimp only at hSw); go_simp); (try simp only [Act.put, List.setIfInBounds_toArray, List.set_cons_zero, List.set_cons_succ]))
                (refine wpAnyH_take (i := 52) (oi := ⟨some 215, _, _, _, _, _⟩) (v := .pointer (some ⟨q, 9, none⟩)) rfl (by kernel_rfl) (by kernel_rfl) (by kernel_rfl) (fun _ _ _ h => h) (Or.inl ⟨by rfl, ?_⟩) (by assumption) ?_; (intro w hSw; (try dsimp only at hSw); go_simp); (try simp only [Act.put, List.setIfInBounds_toArray, List.set_cons_zero, List.set_cons_succ]))
                (refine wpAnyH_take (i := 53) (oi := ⟨some 216, _, _, _, _, _⟩) (v := .int .u64 (d : Int)) rfl (by kernel_rfl) (by kernel_rfl) (by kernel_rfl) (fun _ _ _ h => h) (Or.inl ⟨by rfl, ?_⟩) (by assumption) ?_; (intro w hSw; (try dsimp only at hSw); go_simp); (try simp only [Act.put, List.setIfInBounds_toArray, List.set_cons_zero, List.set_cons_succ]))
                refine wpAnyH_ready (rs := [49]) (by kernel_rfl) (by simp) ?_
                refine AllReadyH.cons (o := ⟨some 212, _, _, _, _, _⟩) rfl (fun K hK => ?_) AllReadyH.nil
                go_simp
                refine (HDN.out _ HBs.out).mono ?_
                rintro e wu ⟨rfl, hb28⟩
                have HBu := Lib.hid (HBs.out.trans (hb28.mono HBs.out.size))
                clear hb28
                refine hK.out _ _ (HKEEP.out _ HBu.out) (fun hS212 => ?_)
                clear hK
                (try simp only [Act.put, List.setIfInBounds_toArray, List.set_cons_zero, List.set_cons_succ])
                as_aux_lemma =>
                (refine wpAnyH_take (i := 54) (oi := ⟨some 217, _, _, _, _, _⟩) (v := .bool false) rfl (by kernel_rfl) (by kernel_rfl) (by kernel_rfl) (fun _ _ _ h => h) (Or.inl ⟨by rfl, ?_⟩) (by assumption) ?_; (intro w hSw; (try dsimp only at hSw); go_simp); (try simp only [Act.put, List.setIfInBounds_toArray, List.set_cons_zero, List.set_cons_succ]))
                (refine wpAnyH_take (i := 55) (oi := ⟨some 218, _, _, _, _, _⟩) (v := .bool false) rfl (by kernel_rfl) (by kernel_rfl) (by kernel_rfl) (fun _ _ _ h => h) (Or.inl ⟨by rfl, ?_⟩) (by assumption) ?_; (intro w hSw; (try dsimp only at hSw); go_simp); (try simp only [Act.put, List.setIfInBounds_toArray, List.set_cons_zero, List.set_cons_succ]))
                refine wpAnyH_done (by kernel_rfl) ?_ _
                as_aux_lemma =>
                go_wp2_with fail
                go_roundw
                case rel => exact ⟨i + 1, by go_num, by omega, Lib.hid ⟨v5, z5, HP6.out.later HBu.out, HG5.out, HX5.out⟩⟩
                case measure => simp [intOf]; try omega
    · obtain rfl : i = N := by omega
      clear HP
      go_wp2_with fail
      go_ret
      exact ⟨rfl, HBR.out⟩
end Rc
end Go.Proofs.YtobpinelhjpfgaaDoor
