/-
  RobotOnce: the walk (written by tools/rbonce.py).
-/
import Derived.Test.YtobpinelhjpfgaaDoorRbG
import Derived.Deep.QuietTactic
import Derived.BigQuiet
set_option linter.unusedVariables false
set_option maxRecDepth 100000
namespace Go.Proofs.YtobpinelhjpfgaaDoor
namespace Rc
open Go.RowKit Bp Ck Ln Rb
/-- The robot ahead of an act, when it has heard it, when it is begun, when it is done. -/
def onA (n : Nat) (at_ ch : Int) : R := ⟨7, 1000, at_, ch, 0, 0, 0, false, n, n, []⟩
def onB (n : Nat) (at_ ch : Int) (k : Nat) (c p : Int) : R := ⟨7, 1000, at_, ch, k, c, p, false, n + 1, n, []⟩
def onC (n : Nat) (at_ ch : Int) (c p : Int) : R := ⟨7, 1000, at_, ch - 1, 1, c, p, true, n + 1, n, []⟩
def onD (n : Nat) (at_ ch : Int) : R := ⟨7, 1000, at_, ch, 0, 0, 0, false, n + 1, n, play false (n + 1) []⟩
theorem on1 (n : Nat) (at_ ch : Int) (k : Nat) (c p : Int) : nx (onA n at_ ch) k c p = onB n at_ ch k c p := rfl
theorem on2 (n : Nat) (at_ ch c p : Int) (h : 0 < ch) : stD (onB n at_ ch 1 c p) = (onC n at_ ch c p, false) := by
  rw [st_go rfl rfl, lv_yes (show 0 < (onB n at_ ch 1 c p).chg from h)]
  rfl
theorem on3 (n : Nat) (at_ ch c p : Int) (h : n + 2 < 18446744073709551616) : stD (onC n at_ ch c p) = (onD n c (if c = 7 then 1000 else ch - 1), true) := by
  rw [st_arr rfl rfl]
  unfold onD
  rw [← tl_new h]
  rfl
theorem on4 (n : Nat) (at_ ch : Int) (k : Nat) (c p : Int) (h0 : k ≠ 0) (h1 : k ≠ 1) (h : n + 2 < 18446744073709551616) : stD (onB n at_ ch k c p) = (onD n at_ ch, true) := by
  rw [st_do h0 h1]
  unfold onD
  rw [← tl_new h]
  rfl
theorem on5 (n : Nat) (at_ ch : Int) (h : n + 2 < 18446744073709551616) : hdD (onD n at_ ch) (play true (n + 1) []) = onA (n + 1) at_ ch := by
  have q := he_play h
  unfold hdD
  rw [show heB (onD n at_ ch).told (onD n at_ ch).pk (play true (n + 1) []) = true from q]
  rfl
theorem on6 (n : Nat) (at_ ch : Int) (bs : List Nat) : hdD (onA n at_ ch) bs = onA n at_ ch := rfl
theorem on_act {k : Nat} {c p : Int} (h : Aok k c p) : k ≠ 0 := by have := h.1; omega
/-- The first loop: what it is told comes, again and again. -/
def On1 (w1 : World) (a : Tb) (bx : Nat) (bc : Array Value) (A : Option Addr) (m cq : Nat) (n : Nat) (at_ ch : Int) (k : Nat) (c p : Int) (j : Nat) (wr : World) : Prop := wr.heap[bx]? = some (.cells bc 37 (0, 0)) ∧ ∃ v u, Pb (UF a v u) wr A m cq (play false (n + 1) (actB k c p)) ∧
  ((j = 0 ∧ Tri w1 wr a v u (onA n at_ ch) n (play false (n + 1) (actB k c p)) n) ∨ (0 < j ∧ Tri w1 wr a v u (onB n at_ ch k c p) (n + 1) [] n))
/-- The loop of its steps. -/
def On2 (w1 : World) (a : Tb) (bx : Nat) (bc : Array Value) (n : Nat) (z0 z1 z2 : R) (j : Nat) (wr : World) : Prop := wr.heap[bx]? = some (.cells bc 37 (0, 0)) ∧ ∃ v u, (j = 0 ∧ Tri w1 wr a v u z0 (n + 1) [] n) ∨ (j = 1 ∧ Tri w1 wr a v u z1 (n + 1) [] n) ∨ (j = 2 ∧ Tri w1 wr a v u z2 (n + 1) [] n)
/-- The last loop: what it tells comes, again and again. -/
def On3 (w1 : World) (a : Tb) (A : Option Addr) (m cq : Nat) (n : Nat) (at_ ch : Int) (j : Nat) (wr : World) : Prop := ∃ v u, Pb (UF a v u) wr A m cq (play false (n + 1) []) ∧
  ((j = 0 ∧ Tri w1 wr a v u (onD n at_ ch) (n + 1) [] n) ∨ (0 < j ∧ Tri w1 wr a v u (onA (n + 1) at_ ch) (n + 1) [] (n + 1)))
/-- What always holds. -/
def OnI (w1 : World) (a : Tb) (n i : Nat) (at_ ch : Int) (wr : World) : Prop := n ≤ i ∧ n ≤ 60 ∧ (1000 - (n : Int) ≤ ch ∧ ch ≤ 1000) ∧ ∃ v u, Tri w1 wr a v u (onA n at_ ch) n [] n
set_option maxHeartbeats 8000000 in
theorem robotOnce_walk (A : Option Addr) (n cap : Nat) (f : Nat → A18) (often : Nat) (hoften : often ≤ 255) (w : World) (h : Rb.Acs w.heap.size w A n cap f) (hS : Shp w) :
    Calls Tryd.prog 4 #[.slice A n cap, .int .u8 (often : Int)] w fun e w' => e = .returned (.bool true) ∧ Below w.heap.size w w' := by
  have HA := Lib.hid h
  have hle := h.le
  have hmx := h.max
  unfold maxLen at hmx
  have HS := Lib.hid (shown18_any w hS)
  have HSH := Lib.hid hS
  obtain ⟨M, hM, hM4⟩ : ∃ M : Nat, (often : Int).tmod 4 = (M : Int) ∧ M < 4 := ⟨often % 4, by rw [Int.tmod_eq_emod_of_nonneg (by omega)]; omega, Nat.mod_lt _ (by omega)⟩
  clear h hS
  go_enter Tryd.func4, Tryd.ntmps4
  go_wp2_with fail
  refine HS.out.mono ?_
  rintro e w1 ⟨rfl, hb1⟩
  have HB1 := Lib.hid hb1
  have HN := Lib.hid (rs_new w1 (HSH.out.later hb1) 7 1000 (by decide) (by decide))
  clear hb1 HS
  go_wp2_with fail
  refine HN.out.mono ?_
  rintro e w2 ⟨r, h, s, rfl, v, hg2⟩
  have HG2 := Lib.hid hg2
  clear hg2 HN
  go_wp2_with fail
  refine (newSender_any 0 _).mono ?_
  rintro e w3 ⟨rfl, rfl⟩
  go_wp2_with fail
  refine (newReceiver_any 0 _).mono ?_
  rintro e w3 ⟨rfl, rfl⟩
  have hbn := both_new w2 0 0 (by decide) (by decide) _ rfl
  generalize hW : (w2.alloc (.cells #[.int .u64 ((0 : Nat) : Int), .slice none 0 0] 102)).alloc (.cells #[.int .u64 ((0 : Nat) : Int)] 104) = w3 at hbn
  have hW2 : (w2.alloc (.cells #[.int .u64 0, .slice none 0 0] 102)).alloc (.cells #[.int .u64 0] 104) = w3 := hW
  try rw [hW2]
  have e1 : (w2.alloc (.cells #[.int .u64 0, .slice none 0 0] 102)).heap.size = w2.heap.size + 1 := by simp
  rw [e1]
  obtain ⟨hs3, hr3, hb3, hz3⟩ := hbn
  have HTR := Lib.hid (Tri.new HG2.out hs3 hr3 hb3 (Nat.le_refl _) (Nat.le_succ _) rfl)
  obtain ⟨a, ha⟩ : ∃ a : Tb, (⟨r, h, s, w2.heap.size, w2.heap.size + 1⟩ : Tb) = a := ⟨_, rfl⟩
  rw [ha] at HTR
  have hr : r = a.r := by rw [← ha]
  have hq : w2.heap.size = a.q := by rw [← ha]
  have hg : w2.heap.size + 1 = a.g := by rw [← ha]
  rw [hr, hg, hq]
  clear hs3 hr3 hb3 hz3 e1 hW hW2 HG2 ha hr hq hg
  go_wp2_with fail
  refine (few18_any (HA.out.below (HB1.out.trans (HTR.out.below.mono HB1.out.size)))).mono ?_
  rintro e w4 ⟨N, hkn, hk150, -, rfl, rfl⟩
  have HAK := Lib.hid (HA.out.cut hkn)
  clear HA
  go_wp2_with fail
  go_loopw [10, 11, 54] (fun tv nv iv wr => ∃ (i n : Nat) (at_ ch : Int), tv = .int .i64 at_ ∧ nv = .int .u64 (n : Int) ∧ iv = .int .i64 (i : Int) ∧ i ≤ N ∧ Hid (OnI w1 a n i at_ ch wr)) (fun _ _ iv _ => N - (intOf iv).toNat)
  case atStart => exact ⟨0, 0, 7, 1000, rfl, rfl, rfl, Nat.zero_le _, Lib.hid ⟨Nat.le_refl _, Nat.zero_le _, by decide, _, _, HTR.out⟩⟩
  case round =>
    rename World => wr
    clear HTR
    obtain ⟨i, n, at_, ch, rfl, rfl, rfl, hi, HI⟩ := hrel
    obtain ⟨hni, hn60, ⟨hch0, hch1⟩, v, u, ht⟩ := HI.out
    have HT := Lib.hid ht
    have HBR := Lib.hid (HB1.out.trans (ht.below.mono HB1.out.size))
    clear ht HI
    by_cases hlt : i < N
    · have hltI : (i : Int) < (N : Int) := by omega
      obtain ⟨g, off, rfl, hg, hc⟩ := HAK.out.cell (by omega)
      have hat := (hc i hlt).below hg HBR.out
      have hft := HAK.out.fits i hlt
      clear hc
      generalize f i = x at *
      obtain ⟨kd, k, c, p, xn, xb⟩ := x
      obtain ⟨q0, q1, q2, q3, q4, A1, n1, c1, q5, -⟩ := hat
      obtain ⟨hkd, hxk, hxn⟩ := hft
      simp only at q0 q1 q2 q3 q4 q5 hkd hxk hxn
      have hal := below_new wr (.cells #[.int .u8 (kd : Int), .int .u8 (k : Int), .int .i64 c, .int .i64 p, .int .u64 (xn : Int), .slice A1 n1 c1] 37)
      have hbx := heap_alloc_new wr (.cells #[.int .u8 (kd : Int), .int .u8 (k : Int), .int .i64 c, .int .i64 p, .int .u64 (xn : Int), .slice A1 n1 c1] 37)
      obtain ⟨bc, hbc⟩ : ∃ bc : Array Value, #[.int .u8 (kd : Int), .int .u8 (k : Int), .int .i64 c, .int .i64 p, .int .u64 (xn : Int), .slice A1 n1 c1] = bc := ⟨_, rfl⟩
      have HBC := Lib.hid hbc
      have HBX := Lib.hid hbx
      have HTB := Lib.hid (HT.out.later hal)
      have HBX4 : Hid (∀ (W : World) (bx : Nat), W.heap[bx]? = some (.cells bc 37 (0, 0)) → W.cell? ⟨bx, 0, none⟩ = some (.int .u8 (kd : Int)) ∧ W.cell? ⟨bx, 1, none⟩ = some (.int .u8 (k : Int)) ∧ W.cell? ⟨bx, 2, none⟩ = some (.int .i64 c) ∧ W.cell? ⟨bx, 3, none⟩ = some (.int .i64 p)) := Lib.hid (fun W bx hw => by
        rw [← hbc] at hw
        obtain ⟨b0, b1, b2, b3, -⟩ := box18 hw
        exact ⟨b0, b1, b2, b3⟩)
      obtain ⟨b0, b1, b2, b3, -⟩ := box18 hbx
      rw [hbc] at HBX
      clear hal hbx HT hg hbc
      by_cases hok : Aok k c p
      · have HL := Lib.hid (rlayAct_ok k c p (wr.alloc (.cells #[.int .u8 (kd : Int), .int .u8 (k : Int), .int .i64 c, .int .i64 p, .int .u64 (xn : Int), .slice A1 n1 c1] 37)) hok)
        have HOK := Lib.hid hok
        clear hok
        go_wp2_with fail
        rw [HBC.out] at HTB HL b0 b1 b2 b3 ⊢
        generalize wr.alloc (.cells bc 37) = wB at *
        generalize wr.heap.size = bx at *
        refine HL.out.mono ?_
        intro e w5 hx
        obtain ⟨A5, c5, rfl, hy5, hb5⟩ := hx.own (pack_byte _)
        have HBX5 := Lib.hid ((hb5.block bx (lt_of_heap HBX.out)).trans HBX.out)
        have ht5 := HTB.out.later hb5
        by_cases h60 : 60 ≤ i
        · have HTF := Lib.hid ht5
          have hd60 : decide ((60 : Int) ≤ (i : Int)) = true := decide_eq_true (by omega)
          clear hx hy5 hb5 ht5 b0 b1 b2 b3 HL HTB HBX
          go_wp2_with fail
          go_roundw
          case rel => exact ⟨i + 1, n, at_, ch, rfl, rfl, by go_num, by omega, Lib.hid ⟨by omega, by omega, ⟨hch0, hch1⟩, v, u, HTF.out⟩⟩
          case measure => simp [intOf]; try omega
        · have hd60 : decide ((60 : Int) ≤ (i : Int)) = false := decide_eq_false (by omega)
          have hy5' : By w5.heap.size w5 A5 (actB k c p).length c5 (actB k c p) := hy5
          have hbyt : ∀ y ∈ actB k c p, y ≤ 255 := pack_byte _
          have hokp : Ok false (n + 1) (actB k c p) := ok_told (by omega) (by rw [actB_len]; decide) hbyt
          have HTL : Hid (Calls Tryd.prog 33 #[.pointer (some ⟨a.q, 0, none⟩), .slice A5 (actB k c p).length c5] w5 (STold a.q u n (play false (n + 1) (actB k c p)) (.int .i64 0) w5)) := Lib.hid (tell_new ht5.sat (by omega) hy5' (Nat.le_refl _) (by rw [actB_len]; decide))
          have HT5 := Lib.hid ht5
          have HOP := Lib.hid hokp
          clear hx hy5 hb5 ht5 b0 b1 b2 b3 HL HTB HBX hy5' hbyt hokp
          go_wp2_with fail
          refine HTL.out.mono ?_
          rintro e w6 ⟨u6, rfl, hs6, ht6, hu6⟩
          obtain ⟨htr6, htt6⟩ := HT5.out.sender hs6 ht6 hu6
          have HBX6 := Lib.hid (HT5.out.keep HBX5.out (by decide) (by decide) (by decide) (by decide) htt6)
          have HT6 := Lib.hid htr6
          have HPK := Lib.hid (packet_yes htr6.sat (play_ne HOP.out))
          clear hs6 ht6 hu6 htr6 htt6 HT5 HTL HBX5
          go_wp2_with fail
          refine HPK.out.mono ?_
          rintro e w7 ⟨A7, c7, rfl, ⟨hy7, hf7⟩, hb7⟩
          have hpb : Pb (UF a v u6) w7 A7 _ c7 _ := Pb.new hy7 HOP.out.size.1 HT6.out.lt hf7
          have HO7 : Hid (On1 w1 a bx bc A7 (play false (n + 1) (actB k c p)).length c7 n at_ ch k c p 0 w7) := Lib.hid ⟨(hb7.block bx (lt_of_heap HBX6.out)).trans HBX6.out, v, u6, hpb, .inl ⟨rfl, HT6.out.later hb7⟩⟩
          have hps := HOP.out.size
          have HKN := Lib.hid (fun e => on_act HOK.out e)
          clear hy7 hf7 hb7 hpb HPK HT6 HBX6
          generalize (play false (n + 1) (actB k c p)).length = pl at *
          go_wp2_with fail
          go_loopw [84] (fun jv wz => ∃ j : Nat, jv = .int .i64 (j : Int) ∧ j ≤ M + 1 ∧ Hid (On1 w1 a bx bc A7 pl c7 n at_ ch k c p j wz)) (fun jv _ => M + 1 - (intOf jv).toNat)
          case atStart => exact ⟨0, rfl, Nat.zero_le _, HO7⟩
          case round =>
            rename World => wz
            clear HO7
            obtain ⟨j, rfl, hj, HJ⟩ := hrel
            obtain ⟨hbz, vz, uz, hpz, hcz⟩ := HJ.out
            have HBZ := Lib.hid hbz
            have HPZ := Lib.hid hpz
            clear hbz hpz HJ
            by_cases hjl : j < M + 1
            · have hjI : (j : Int) < (M : Int) + 1 := by omega
              rcases hcz with ⟨hj0, htz⟩ | ⟨hj0, htz⟩
              · subst hj0
                have hnw := htz.rb.new (k := k) (c := c) (p := p) (A := A7) (n := pl) (cp := c7) (show n + 2 < 18446744073709551616 by omega) (show n + 2 < 18446744073709551616 by omega) rfl HOK.out (by
                  rw [show (onA n at_ ch).heard = n from rfl, pkB_play (by omega), show pkD k c p = actB k c p by unfold pkD; rw [if_pos HOK.out]]
                  exact HPZ.out.by_)
                rw [on1] at hnw
                have HNW := Lib.hid hnw
                have HTZ := Lib.hid htz
                clear htz hnw
                go_wp2_with fail
                refine HNW.out.mono ?_
                rintro e w8 ⟨A8, c8, rfl, ⟨hy8, hf8⟩, v8, hr8, ht8⟩
                obtain ⟨htr8, htt8⟩ := HTZ.out.robot hr8 ht8
                have HB8 := Lib.hid (HTZ.out.keep HBZ.out (by decide) (by decide) (by decide) (by decide) htt8)
                have HP8 := Lib.hid (HPZ.out.turn htt8)
                have HT8 := Lib.hid htr8
                have HSY := Lib.hid (shear_yes htr8.sat (play_ne HOP.out) hy8 (Nat.le_refl _))
                rw [show (onA n at_ ch).heard + 1 = n + 1 from rfl] at HSY ⊢
                clear hy8 hf8 hr8 ht8 htr8 htt8 HNW HTZ
                go_wp2_with fail
                refine HSY.out.mono ?_
                rintro e w9 ⟨u9, rfl, hs9, ht9, hu9⟩
                obtain ⟨htr9, htt9⟩ := HT8.out.sender hs9 ht9 hu9
                have HO9 : Hid (On1 w1 a bx bc A7 pl c7 n at_ ch k c p 1 w9) := Lib.hid ⟨HT8.out.keep HB8.out (by decide) (by decide) (by decide) (by decide) htt9, v8, u9, HP8.out.turn htt9, .inr ⟨Nat.one_pos, htr9⟩⟩
                clear hs9 ht9 hu9 htr9 htt9 HSY HT8 HB8 HP8
                go_wp2_with fail
                go_roundw
                case rel => exact ⟨1, by go_num, by omega, HO9⟩
                case measure => simp [intOf]; try omega
              · have hnw := htz.rb.again (A := A7) (m := pl) (c := c7) (show n + 2 < 18446744073709551616 by omega) (show (onB n at_ ch k c p).heard = n + 1 from rfl) (Nat.succ_ne_zero n) HOP.out HPZ.out.by_
                have HNW := Lib.hid hnw
                have HTZ := Lib.hid htz
                clear htz hnw
                go_wp2_with fail
                refine HNW.out.mono ?_
                rintro e w8 ⟨A8, c8, rfl, ⟨hy8, hf8⟩, v8, hr8, ht8⟩
                obtain ⟨htr8, htt8⟩ := HTZ.out.robot hr8 ht8
                have HB8 := Lib.hid (HTZ.out.keep HBZ.out (by decide) (by decide) (by decide) (by decide) htt8)
                have HP8 := Lib.hid (HPZ.out.turn htt8)
                have HT8 := Lib.hid htr8
                have HSY := Lib.hid (shear_none htr8.sat hy8 (Nat.le_refl _))
                clear hy8 hf8 hr8 ht8 htr8 htt8 HNW HTZ
                go_wp2_with fail
                refine HSY.out.mono ?_
                rintro e w9 ⟨u9, rfl, hs9, ht9, hu9⟩
                obtain ⟨htr9, htt9⟩ := HT8.out.sender hs9 ht9 hu9
                have HO9 : Hid (On1 w1 a bx bc A7 pl c7 n at_ ch k c p (j + 1) w9) := Lib.hid ⟨HT8.out.keep HB8.out (by decide) (by decide) (by decide) (by decide) htt9, v8, u9, HP8.out.turn htt9, .inr ⟨Nat.succ_pos _, htr9⟩⟩
                clear hs9 ht9 hu9 htr9 htt9 HSY HT8 HB8 HP8
                go_wp2_with fail
                go_roundw
                case rel => exact ⟨j + 1, by go_num, by omega, HO9⟩
                case measure => simp [intOf]; try omega
            · obtain rfl : j = M + 1 := by omega
              obtain ⟨-, htz⟩ : 0 < M + 1 ∧ Tri w1 wz a vz uz (onB n at_ ch k c p) (n + 1) [] n := by
                rcases hcz with ⟨h0, _⟩ | q
                · omega
                · exact q
              have HTZ := Lib.hid htz
              have HNX := Lib.hid (next_any htz.rb.at_)
              rw [show decide ((onB n at_ ch k c p).k ≠ 0) = true from decide_eq_true (on_act HOK.out), show (onB n at_ ch k c p).k = k from rfl, show (onB n at_ ch k c p).c = c from rfl, show (onB n at_ ch k c p).p = p from rfl] at HNX
              clear hcz htz HPZ
              go_wp2_with fail
              refine HNX.out.mono ?_
              rintro e w8 ⟨rfl, hb8⟩
              have hal8 := below_new w8 (.cells #[.int .u8 (k : Int), .int .i64 c, .int .i64 p] 33)
              have hbx8 := heap_alloc_new w8 (.cells #[.int .u8 (k : Int), .int .i64 c, .int .i64 p] 33)
              have hb88 := hb8.trans (hal8.mono hb8.size)
              have HT8 := Lib.hid (HTZ.out.later hb88)
              have hbz8 := (hb88.block bx (lt_of_heap HBZ.out)).trans HBZ.out
              have HBZ8 := Lib.hid hbz8
              obtain ⟨b0, b1, b2, b3⟩ := HBX4.out _ _ hbz8
              have y0 := cell_of_row _ w8.heap.size 0 _ _ _ hbx8
              have y1 := cell_of_row _ w8.heap.size 1 _ _ _ hbx8
              have y2 := cell_of_row _ w8.heap.size 2 _ _ _ hbx8
              have HTO : Hid (Calls Tryd.prog 36 #[.pointer (some ⟨a.q, 0, none⟩)] (w8.alloc (.cells #[.int .u8 (k : Int), .int .i64 c, .int .i64 p] 33)) fun e w' => e = .returned (.int .u64 ((n : Int) + 1)) ∧ (w8.alloc (.cells #[.int .u8 (k : Int), .int .i64 c, .int .i64 p] 33)) = w') := Lib.hid (told_any HT8.out.sat)
              clear hb8 hal8 hbx8 hb88 hbz8 HTZ HBZ HNX
              go_wp2_with fail
              generalize w8.alloc (.cells #[.int .u8 (k : Int), .int .i64 c, .int .i64 p] 33) = w9 at *
              refine HTO.out.mono ?_
              rintro e w10 ⟨rfl, rfl⟩
              clear y0 y1 y2 HTO
              by_cases hk1 : k = 1
              · subst hk1
                have HO0 : Hid (On2 w1 a bx bc n (onB n at_ ch 1 c p) (onC n at_ ch c p) (onD n c (if c = 7 then 1000 else ch - 1)) 0 w9) := Lib.hid ⟨HBZ8.out, _, _, .inl ⟨rfl, HT8.out⟩⟩
                clear HT8 HBZ8
                go_wp2_with fail
                go_loopw [120] (fun jv wz => ∃ j : Nat, jv = .int .i64 (j : Int) ∧ j ≤ 2 ∧ Hid (On2 w1 a bx bc n (onB n at_ ch 1 c p) (onC n at_ ch c p) (onD n c (if c = 7 then 1000 else ch - 1)) j wz)) (fun jv _ => 2 - (intOf jv).toNat)
                case atStart => exact ⟨0, rfl, Nat.zero_le _, HO0⟩
                case round =>
                  rename World => wz
                  clear HO0 b0 b1 b2 b3
                  obtain ⟨j, rfl, hj, HJ⟩ := hrel
                  obtain ⟨hbz, vz, uz, hcz⟩ := HJ.out
                  have HBZ := Lib.hid hbz
                  clear hbz HJ
                  obtain rfl | rfl | rfl : j = 0 ∨ j = 1 ∨ j = 2 := by omega
                  · obtain htz : Tri w1 wz a vz uz (onB n at_ ch 1 c p) (n + 1) [] n := by
                      rcases hcz with ⟨_, q⟩ | ⟨q, _⟩ | ⟨q, _⟩
                      · exact q
                      · omega
                      · omega
                    clear hcz
                    have hst := htz.rb.step (show (onB n at_ ch 1 c p).chg ≤ 9223372036854775807 by show ch ≤ _; omega)
                    rw [on2 n at_ ch c p (by omega)] at hst
                    have HST := Lib.hid hst
                    have HTZ := Lib.hid htz
                    clear hst htz
                    go_wp2_with fail
                    refine HST.out.mono ?_
                    rintro e w11 ⟨rfl, v11, hr11, ht11⟩
                    obtain ⟨htr11, htt11⟩ := HTZ.out.robot hr11 ht11
                    have HO11 : Hid (On2 w1 a bx bc n (onB n at_ ch 1 c p) (onC n at_ ch c p) (onD n c (if c = 7 then 1000 else ch - 1)) 1 w11) := Lib.hid ⟨HTZ.out.keep HBZ.out (by decide) (by decide) (by decide) (by decide) htt11, v11, uz, .inr (.inl ⟨rfl, htr11⟩)⟩
                    clear hr11 ht11 htr11 htt11 HST HTZ HBZ
                    go_wp2_with fail
                    go_roundw
                    case rel => exact ⟨1, by go_num, by omega, HO11⟩
                    case measure => simp [intOf]; try omega
                  · obtain htz : Tri w1 wz a vz uz (onC n at_ ch c p) (n + 1) [] n := by
                      rcases hcz with ⟨q, _⟩ | ⟨_, q⟩ | ⟨q, _⟩
                      · omega
                      · exact q
                      · omega
                    clear hcz
                    have hst := htz.rb.step (show (onC n at_ ch c p).chg ≤ 9223372036854775807 by show ch - 1 ≤ _; omega)
                    rw [on3 n at_ ch c p (by omega)] at hst
                    have HST := Lib.hid hst
                    have HTZ := Lib.hid htz
                    clear hst htz
                    go_wp2_with fail
                    refine HST.out.mono ?_
                    rintro e w11 ⟨rfl, v11, hr11, ht11⟩
                    obtain ⟨htr11, htt11⟩ := HTZ.out.robot hr11 ht11
                    have HO11 : Hid (On2 w1 a bx bc n (onB n at_ ch 1 c p) (onC n at_ ch c p) (onD n c (if c = 7 then 1000 else ch - 1)) 2 w11) := Lib.hid ⟨HTZ.out.keep HBZ.out (by decide) (by decide) (by decide) (by decide) htt11, v11, uz, .inr (.inr ⟨rfl, htr11⟩)⟩
                    clear hr11 ht11 htr11 htt11 HST HTZ HBZ
                    go_wp2_with fail
                    go_roundw
                    case rel => exact ⟨2, by go_num, by omega, HO11⟩
                    case measure => simp [intOf]; try omega
                  · obtain htz : Tri w1 wz a vz uz (onD n c (if c = 7 then 1000 else ch - 1)) (n + 1) [] n := by
                      rcases hcz with ⟨q, _⟩ | ⟨q, _⟩ | ⟨_, q⟩
                      · omega
                      · omega
                      · exact q
                    obtain ⟨ch2, hch2, hch3⟩ : ∃ ch2 : Int, (if c = 7 then 1000 else ch - 1) = ch2 ∧ 1000 - ((n : Int) + 1) ≤ ch2 ∧ ch2 ≤ 1000 := ⟨_, rfl, by split <;> omega⟩
                    rw [hch2] at htz
                    clear hcz hch2
                    have HOQ : Hid (Ok false (n + 1) []) := Lib.hid (ok_told (by omega) (by simp) (by simp))
                    have hpk := htz.rb.at_
                    have HPK : Hid (Calls Tryd.prog 24 #[.pointer (some ⟨a.r, 0, none⟩)] wz fun e w' => ∃ A c, e = .returned (.tuple #[.slice A (play false (n + 1) []).length c, .bool true]) ∧ (By w'.heap.size w' A (play false (n + 1) []).length c (play false (n + 1) []) ∧ ∀ y, A = some y → wz.heap.size ≤ y.block) ∧ Below wz.heap.size wz w') := Lib.hid (rb_packet_yes htz.rb rfl (play_ne HOQ.out))
                    have HTZ := Lib.hid htz
                    clear htz hpk HBZ
                    go_wp2_with fail
                    refine HPK.out.mono ?_
                    rintro e w12 ⟨A12, c12, rfl, ⟨hy12, hf12⟩, hb12⟩
                    have hpb : Pb (UF a vz uz) w12 A12 _ c12 _ := Pb.new hy12 HOQ.out.size.1 HTZ.out.lt hf12
                    have HO12 : Hid (On3 w1 a A12 (play false (n + 1) []).length c12 n c ch2 0 w12) := Lib.hid ⟨vz, uz, hpb, .inl ⟨rfl, HTZ.out.later hb12⟩⟩
                    have hqs := HOQ.out.size
                    clear hy12 hf12 hb12 hpb HPK HTZ
                    generalize (play false (n + 1) []).length = ql at *
                    go_wp2_with fail
                    go_loopw [142] (fun jv wy => ∃ j : Nat, jv = .int .i64 (j : Int) ∧ j ≤ M + 1 ∧ Hid (On3 w1 a A12 ql c12 n c ch2 j wy)) (fun jv _ => M + 1 - (intOf jv).toNat)
                    case atStart => exact ⟨0, rfl, Nat.zero_le _, HO12⟩
                    case round =>
                      rename World => wy
                      clear HO12
                      obtain ⟨j, rfl, hj, HJ⟩ := hrel
                      obtain ⟨vy, uy, hpy, hcy⟩ := HJ.out
                      have HPY := Lib.hid hpy
                      clear hpy HJ
                      by_cases hjl : j < M + 1
                      · have hjI : (j : Int) < (M : Int) + 1 := by omega
                        rcases hcy with ⟨hj0, hty⟩ | ⟨hj0, hty⟩
                        · subst hj0
                          have HTY := Lib.hid hty
                          have HHD := Lib.hid (heard_any hty.rat)
                          have HRH := Lib.hid (rhear_new hty.rat (show n + 2 < 18446744073709551616 by omega) HOQ.out HPY.out.by_ (Nat.le_refl _))
                          clear hty
                          go_wp2_with fail
                          refine HHD.out.mono ?_
                          rintro e w13 ⟨rfl, rfl⟩
                          go_wp2_with fail
                          refine HRH.out.mono ?_
                          rintro e w13 ⟨ht13, A13, c13, A14, c14, rfl, -, ⟨hy14, -⟩, hr13⟩
                          obtain ⟨htr13, htt13⟩ := HTY.out.receiver hr13 ht13
                          have HHE := Lib.hid (htr13.rb.heard hy14)
                          have HTR := Lib.hid htr13
                          have HP13 := Lib.hid (HPY.out.turn htt13)
                          clear ht13 hy14 hr13 htr13 htt13 HTY HHD HRH
                          go_wp2_with fail
                          refine HHE.out.mono ?_
                          rintro e w14 ⟨rfl, v14, hr14, ht14⟩
                          have hr14' : Rs w1 w14 a.r a.h a.s v14 (onA (n + 1) c ch2) := by rw [← on5 n c ch2 (by omega)]; exact hr14
                          obtain ⟨htr14, htt14⟩ := HTR.out.robot hr14' ht14
                          have HO14 : Hid (On3 w1 a A12 ql c12 n c ch2 1 w14) := Lib.hid ⟨v14, uy, HP13.out.turn htt14, .inr ⟨Nat.one_pos, htr14⟩⟩
                          clear hr14 hr14' ht14 htr14 htt14 HHE HTR HP13
                          go_wp2_with fail
                          go_roundw
                          case rel => exact ⟨1, by go_num, by omega, HO14⟩
                          case measure => simp [intOf]; try omega
                        · have HTY := Lib.hid hty
                          have HHD : Hid (Calls Tryd.prog 37 #[.pointer (some ⟨a.g, 0, none⟩)] wy fun e w' => e = .returned (.int .u64 ((n : Int) + 1)) ∧ wy = w') := Lib.hid (heard_any hty.rat)
                          have HRH := Lib.hid (rhear_old hty.rat (Nat.succ_ne_zero n) HOQ.out HPY.out.by_ (Nat.le_refl _))
                          have tn1 : (((n : Int) + 1) == (n : Int)) = false := by rw [beq_eq_false_iff_ne]; omega
                          clear hty
                          go_wp2_with fail
                          refine HHD.out.mono ?_
                          rintro e w13 ⟨rfl, rfl⟩
                          go_wp2_with fail
                          refine HRH.out.mono ?_
                          rintro e w13 ⟨ht13, A14, c14, rfl, ⟨hy14, -⟩, hr13⟩
                          obtain ⟨htr13, htt13⟩ := HTY.out.receiver hr13 ht13
                          have HHE := Lib.hid (htr13.rb.heard hy14)
                          have HTR := Lib.hid htr13
                          have HP13 := Lib.hid (HPY.out.turn htt13)
                          clear ht13 hy14 hr13 htr13 htt13 HTY HHD HRH
                          go_wp2_with fail
                          refine HHE.out.mono ?_
                          rintro e w14 ⟨rfl, v14, hr14, ht14⟩
                          obtain ⟨htr14, htt14⟩ := HTR.out.robot (z' := onA (n + 1) c ch2) hr14 ht14
                          have HO14 : Hid (On3 w1 a A12 ql c12 n c ch2 (j + 1) w14) := Lib.hid ⟨v14, uy, HP13.out.turn htt14, .inr ⟨Nat.succ_pos _, htr14⟩⟩
                          clear hr14 ht14 htr14 htt14 HHE HTR HP13
                          go_wp2_with fail
                          go_roundw
                          case rel => exact ⟨j + 1, by go_num, by omega, HO14⟩
                          case measure => simp [intOf]; try omega
                      · obtain rfl : j = M + 1 := by omega
                        obtain ⟨-, hty⟩ : 0 < M + 1 ∧ Tri w1 wy a vy uy (onA (n + 1) c ch2) (n + 1) [] (n + 1) := by
                          rcases hcy with ⟨h0, _⟩ | q
                          · omega
                          · exact q
                        have HTY := Lib.hid hty
                        have HPN := Lib.hid (rb_packet_no hty.rb rfl)
                        clear hcy hty HPY
                        go_wp2_with fail
                        refine HPN.out.mono ?_
                        rintro e w13 ⟨A13, c13, rfl, hb13⟩
                        have HT13 := Lib.hid (HTY.out.later hb13)
                        have HD : Hid (Calls Tryd.prog 29 #[.pointer (some ⟨a.r, 0, none⟩)] w13 fun e w' => e = .returned (.int .u64 ((n : Int) + 1)) ∧ Below w13.heap.size w13 w') := Lib.hid (done_any HT13.out.rb.at_)
                        clear hb13 HPN HTY
                        go_wp2_with fail
                        refine HD.out.mono ?_
                        rintro e w14 ⟨rfl, hb14⟩
                        have HT14 := Lib.hid (HT13.out.later hb14)
                        have HHD : Hid (Calls Tryd.prog 37 #[.pointer (some ⟨a.g, 0, none⟩)] w14 fun e w' => e = .returned (.int .u64 ((n : Int) + 1)) ∧ w14 = w') := Lib.hid (heard_any HT14.out.rat)
                        have HCE : Hid (Calls Tryd.prog 26 #[.pointer (some ⟨a.r, 0, none⟩)] w14 fun e w' => ∃ A cc, e = .returned (.slice A 1 cc) ∧ Bk.Lt w'.heap.size w' A 1 cc [c] ∧ Below w14.heap.size w14 w' ∧ ∀ y, A = some y → w14.heap.size ≤ y.block) := Lib.hid (HT14.out.rb.cells rfl rfl)
                        clear hb14 HD HT13
                        go_wp2_with fail
                        refine HHD.out.mono ?_
                        rintro e w15 ⟨rfl, rfl⟩
                        go_wp2_with fail
                        refine HCE.out.mono ?_
                        rintro e w15 ⟨A15, c15, rfl, hl15, hb15, -⟩
                        have hal15 := below_new w15 (.cells #[.int .i64 c] 3)
                        have HT15 := Lib.hid ((HT14.out.later hb15).later hal15)
                        have HSM := Lib.hid (same18 _ _ _ _ _ _ _ (Bk.Gt.later hl15 hal15) (Bk.Lt.one w15 c) (by decide))
                        have hc15 := Bk.Gt.size hl15
                        have hc151 := hc15.1
                        have hc152 := hc15.2
                        clear hb15 hl15 hal15 hc15 HCE HHD HT14
                        go_wp2_with fail
                        refine HSM.out.mono ?_
                        rintro e w16 ⟨rfl, hb16⟩
                        have HT16 := Lib.hid (HT15.out.later hb16)
                        clear hb16 HSM HT15
                        go_wp2_with fail
                        go_roundw
                        case rel => exact ⟨i + 1, n + 1, c, ch2, rfl, by go_num, by go_num, by omega, Lib.hid ⟨by omega, by omega, ⟨by omega, by omega⟩, vy, uy, HT16.out⟩⟩
                        case measure => simp [intOf]; try omega
              · have tk1 : ((k : Int) == 1) = false := by rw [beq_eq_false_iff_ne]; omega
                have HO0 : Hid (On2 w1 a bx bc n (onB n at_ ch k c p) (onD n at_ ch) (onD n at_ ch) 0 w9) := Lib.hid ⟨HBZ8.out, _, _, .inl ⟨rfl, HT8.out⟩⟩
                clear HT8 HBZ8
                go_wp2_with fail
                go_loopw [120] (fun jv wz => ∃ j : Nat, jv = .int .i64 (j : Int) ∧ j ≤ 1 ∧ Hid (On2 w1 a bx bc n (onB n at_ ch k c p) (onD n at_ ch) (onD n at_ ch) j wz)) (fun jv _ => 1 - (intOf jv).toNat)
                case atStart => exact ⟨0, rfl, Nat.zero_le _, HO0⟩
                case round =>
                  rename World => wz
                  clear HO0 b0 b1 b2 b3
                  obtain ⟨j, rfl, hj, HJ⟩ := hrel
                  obtain ⟨hbz, vz, uz, hcz⟩ := HJ.out
                  have HBZ := Lib.hid hbz
                  clear hbz HJ
                  obtain rfl | rfl : j = 0 ∨ j = 1 := by omega
                  · obtain htz : Tri w1 wz a vz uz (onB n at_ ch k c p) (n + 1) [] n := by
                      rcases hcz with ⟨_, q⟩ | ⟨q, _⟩ | ⟨q, _⟩
                      · exact q
                      · omega
                      · omega
                    clear hcz
                    have hst := htz.rb.step (show (onB n at_ ch k c p).chg ≤ 9223372036854775807 by show ch ≤ _; omega)
                    rw [on4 n at_ ch k c p (on_act HOK.out) hk1 (by omega)] at hst
                    have HST := Lib.hid hst
                    have HTZ := Lib.hid htz
                    clear hst htz
                    go_wp2_with fail
                    refine HST.out.mono ?_
                    rintro e w11 ⟨rfl, v11, hr11, ht11⟩
                    obtain ⟨htr11, htt11⟩ := HTZ.out.robot hr11 ht11
                    have HO11 : Hid (On2 w1 a bx bc n (onB n at_ ch k c p) (onD n at_ ch) (onD n at_ ch) 1 w11) := Lib.hid ⟨HTZ.out.keep HBZ.out (by decide) (by decide) (by decide) (by decide) htt11, v11, uz, .inr (.inl ⟨rfl, htr11⟩)⟩
                    clear hr11 ht11 htr11 htt11 HST HTZ HBZ
                    go_wp2_with fail
                    go_roundw
                    case rel => exact ⟨1, by go_num, by omega, HO11⟩
                    case measure => simp [intOf]; try omega
                  · obtain htz : Tri w1 wz a vz uz (onD n at_ ch) (n + 1) [] n := by
                      rcases hcz with ⟨q, _⟩ | ⟨_, q⟩ | ⟨q, _⟩
                      · omega
                      · exact q
                      · omega
                    obtain ⟨ch2, hch2, hch3⟩ : ∃ ch2 : Int, ch = ch2 ∧ 1000 - ((n : Int) + 1) ≤ ch2 ∧ ch2 ≤ 1000 := ⟨_, rfl, by omega⟩
                    rw [hch2] at htz
                    clear hcz
                    have HOQ : Hid (Ok false (n + 1) []) := Lib.hid (ok_told (by omega) (by simp) (by simp))
                    have hpk := htz.rb.at_
                    have HPK : Hid (Calls Tryd.prog 24 #[.pointer (some ⟨a.r, 0, none⟩)] wz fun e w' => ∃ A c, e = .returned (.tuple #[.slice A (play false (n + 1) []).length c, .bool true]) ∧ (By w'.heap.size w' A (play false (n + 1) []).length c (play false (n + 1) []) ∧ ∀ y, A = some y → wz.heap.size ≤ y.block) ∧ Below wz.heap.size wz w') := Lib.hid (rb_packet_yes htz.rb rfl (play_ne HOQ.out))
                    have HTZ := Lib.hid htz
                    clear htz hpk HBZ
                    go_wp2_with fail
                    refine HPK.out.mono ?_
                    rintro e w12 ⟨A12, c12, rfl, ⟨hy12, hf12⟩, hb12⟩
                    have hpb : Pb (UF a vz uz) w12 A12 _ c12 _ := Pb.new hy12 HOQ.out.size.1 HTZ.out.lt hf12
                    have HO12 : Hid (On3 w1 a A12 (play false (n + 1) []).length c12 n at_ ch2 0 w12) := Lib.hid ⟨vz, uz, hpb, .inl ⟨rfl, HTZ.out.later hb12⟩⟩
                    have hqs := HOQ.out.size
                    clear hy12 hf12 hb12 hpb HPK HTZ
                    generalize (play false (n + 1) []).length = ql at *
                    go_wp2_with fail
                    go_loopw [142] (fun jv wy => ∃ j : Nat, jv = .int .i64 (j : Int) ∧ j ≤ M + 1 ∧ Hid (On3 w1 a A12 ql c12 n at_ ch2 j wy)) (fun jv _ => M + 1 - (intOf jv).toNat)
                    case atStart => exact ⟨0, rfl, Nat.zero_le _, HO12⟩
                    case round =>
                      rename World => wy
                      clear HO12
                      obtain ⟨j, rfl, hj, HJ⟩ := hrel
                      obtain ⟨vy, uy, hpy, hcy⟩ := HJ.out
                      have HPY := Lib.hid hpy
                      clear hpy HJ
                      by_cases hjl : j < M + 1
                      · have hjI : (j : Int) < (M : Int) + 1 := by omega
                        rcases hcy with ⟨hj0, hty⟩ | ⟨hj0, hty⟩
                        · subst hj0
                          have HTY := Lib.hid hty
                          have HHD := Lib.hid (heard_any hty.rat)
                          have HRH := Lib.hid (rhear_new hty.rat (show n + 2 < 18446744073709551616 by omega) HOQ.out HPY.out.by_ (Nat.le_refl _))
                          clear hty
                          go_wp2_with fail
                          refine HHD.out.mono ?_
                          rintro e w13 ⟨rfl, rfl⟩
                          go_wp2_with fail
                          refine HRH.out.mono ?_
                          rintro e w13 ⟨ht13, A13, c13, A14, c14, rfl, -, ⟨hy14, -⟩, hr13⟩
                          obtain ⟨htr13, htt13⟩ := HTY.out.receiver hr13 ht13
                          have HHE := Lib.hid (htr13.rb.heard hy14)
                          have HTR := Lib.hid htr13
                          have HP13 := Lib.hid (HPY.out.turn htt13)
                          clear ht13 hy14 hr13 htr13 htt13 HTY HHD HRH
                          go_wp2_with fail
                          refine HHE.out.mono ?_
                          rintro e w14 ⟨rfl, v14, hr14, ht14⟩
                          have hr14' : Rs w1 w14 a.r a.h a.s v14 (onA (n + 1) at_ ch2) := by rw [← on5 n at_ ch2 (by omega)]; exact hr14
                          obtain ⟨htr14, htt14⟩ := HTR.out.robot hr14' ht14
                          have HO14 : Hid (On3 w1 a A12 ql c12 n at_ ch2 1 w14) := Lib.hid ⟨v14, uy, HP13.out.turn htt14, .inr ⟨Nat.one_pos, htr14⟩⟩
                          clear hr14 hr14' ht14 htr14 htt14 HHE HTR HP13
                          go_wp2_with fail
                          go_roundw
                          case rel => exact ⟨1, by go_num, by omega, HO14⟩
                          case measure => simp [intOf]; try omega
                        · have HTY := Lib.hid hty
                          have HHD : Hid (Calls Tryd.prog 37 #[.pointer (some ⟨a.g, 0, none⟩)] wy fun e w' => e = .returned (.int .u64 ((n : Int) + 1)) ∧ wy = w') := Lib.hid (heard_any hty.rat)
                          have HRH := Lib.hid (rhear_old hty.rat (Nat.succ_ne_zero n) HOQ.out HPY.out.by_ (Nat.le_refl _))
                          have tn1 : (((n : Int) + 1) == (n : Int)) = false := by rw [beq_eq_false_iff_ne]; omega
                          clear hty
                          go_wp2_with fail
                          refine HHD.out.mono ?_
                          rintro e w13 ⟨rfl, rfl⟩
                          go_wp2_with fail
                          refine HRH.out.mono ?_
                          rintro e w13 ⟨ht13, A14, c14, rfl, ⟨hy14, -⟩, hr13⟩
                          obtain ⟨htr13, htt13⟩ := HTY.out.receiver hr13 ht13
                          have HHE := Lib.hid (htr13.rb.heard hy14)
                          have HTR := Lib.hid htr13
                          have HP13 := Lib.hid (HPY.out.turn htt13)
                          clear ht13 hy14 hr13 htr13 htt13 HTY HHD HRH
                          go_wp2_with fail
                          refine HHE.out.mono ?_
                          rintro e w14 ⟨rfl, v14, hr14, ht14⟩
                          obtain ⟨htr14, htt14⟩ := HTR.out.robot (z' := onA (n + 1) at_ ch2) hr14 ht14
                          have HO14 : Hid (On3 w1 a A12 ql c12 n at_ ch2 (j + 1) w14) := Lib.hid ⟨v14, uy, HP13.out.turn htt14, .inr ⟨Nat.succ_pos _, htr14⟩⟩
                          clear hr14 ht14 htr14 htt14 HHE HTR HP13
                          go_wp2_with fail
                          go_roundw
                          case rel => exact ⟨j + 1, by go_num, by omega, HO14⟩
                          case measure => simp [intOf]; try omega
                      · obtain rfl : j = M + 1 := by omega
                        obtain ⟨-, hty⟩ : 0 < M + 1 ∧ Tri w1 wy a vy uy (onA (n + 1) at_ ch2) (n + 1) [] (n + 1) := by
                          rcases hcy with ⟨h0, _⟩ | q
                          · omega
                          · exact q
                        have HTY := Lib.hid hty
                        have HPN := Lib.hid (rb_packet_no hty.rb rfl)
                        clear hcy hty HPY
                        go_wp2_with fail
                        refine HPN.out.mono ?_
                        rintro e w13 ⟨A13, c13, rfl, hb13⟩
                        have HT13 := Lib.hid (HTY.out.later hb13)
                        have HD : Hid (Calls Tryd.prog 29 #[.pointer (some ⟨a.r, 0, none⟩)] w13 fun e w' => e = .returned (.int .u64 ((n : Int) + 1)) ∧ Below w13.heap.size w13 w') := Lib.hid (done_any HT13.out.rb.at_)
                        clear hb13 HPN HTY
                        go_wp2_with fail
                        refine HD.out.mono ?_
                        rintro e w14 ⟨rfl, hb14⟩
                        have HT14 := Lib.hid (HT13.out.later hb14)
                        have HHD : Hid (Calls Tryd.prog 37 #[.pointer (some ⟨a.g, 0, none⟩)] w14 fun e w' => e = .returned (.int .u64 ((n : Int) + 1)) ∧ w14 = w') := Lib.hid (heard_any HT14.out.rat)
                        have HCE : Hid (Calls Tryd.prog 26 #[.pointer (some ⟨a.r, 0, none⟩)] w14 fun e w' => ∃ A cc, e = .returned (.slice A 1 cc) ∧ Bk.Lt w'.heap.size w' A 1 cc [at_] ∧ Below w14.heap.size w14 w' ∧ ∀ y, A = some y → w14.heap.size ≤ y.block) := Lib.hid (HT14.out.rb.cells rfl rfl)
                        clear hb14 HD HT13
                        go_wp2_with fail
                        refine HHD.out.mono ?_
                        rintro e w15 ⟨rfl, rfl⟩
                        go_wp2_with fail
                        refine HCE.out.mono ?_
                        rintro e w15 ⟨A15, c15, rfl, hl15, hb15, -⟩
                        have hal15 := below_new w15 (.cells #[.int .i64 at_] 3)
                        have HT15 := Lib.hid ((HT14.out.later hb15).later hal15)
                        have HSM := Lib.hid (same18 _ _ _ _ _ _ _ (Bk.Gt.later hl15 hal15) (Bk.Lt.one w15 at_) (by decide))
                        have hc15 := Bk.Gt.size hl15
                        have hc151 := hc15.1
                        have hc152 := hc15.2
                        clear hb15 hl15 hal15 hc15 HCE HHD HT14
                        go_wp2_with fail
                        refine HSM.out.mono ?_
                        rintro e w16 ⟨rfl, hb16⟩
                        have HT16 := Lib.hid (HT15.out.later hb16)
                        clear hb16 HSM HT15
                        go_wp2_with fail
                        go_roundw
                        case rel => exact ⟨i + 1, n + 1, at_, ch2, rfl, by go_num, by go_num, by omega, Lib.hid ⟨by omega, by omega, ⟨by omega, by omega⟩, vy, uy, HT16.out⟩⟩
                        case measure => simp [intOf]; try omega
            
      · have HL := Lib.hid (rlayAct_no k c p (wr.alloc (.cells #[.int .u8 (kd : Int), .int .u8 (k : Int), .int .i64 c, .int .i64 p, .int .u64 (xn : Int), .slice A1 n1 c1] 37)) hok)
        go_wp2_with fail
        generalize wr.alloc (.cells #[.int .u8 (kd : Int), .int .u8 (k : Int), .int .i64 c, .int .i64 p, .int .u64 (xn : Int), .slice A1 n1 c1] 37) = wB at *
        refine HL.out.mono ?_
        rintro e w5 ⟨rfl, hb5⟩
        have HTF := Lib.hid (HTB.out.later hb5)
        clear hb5 HL b0 b1 b2 b3 HTB HBX
        by_cases h60 : 60 ≤ i
        · have hd60 : decide ((60 : Int) ≤ (i : Int)) = true := decide_eq_true (by omega)
          go_wp2_with fail
          go_roundw
          case rel => exact ⟨i + 1, n, at_, ch, rfl, rfl, by go_num, by omega, Lib.hid ⟨by omega, by omega, ⟨hch0, hch1⟩, v, u, HTF.out⟩⟩
          case measure => simp [intOf]; try omega
        · have hd60 : decide ((60 : Int) ≤ (i : Int)) = false := decide_eq_false (by omega)
          go_wp2_with fail
          go_roundw
          case rel => exact ⟨i + 1, n, at_, ch, rfl, rfl, by go_num, by omega, Lib.hid ⟨by omega, by omega, ⟨hch0, hch1⟩, v, u, HTF.out⟩⟩
          case measure => simp [intOf]; try omega
    · obtain rfl : i = N := by omega
      have HD : Hid (Calls Tryd.prog 29 #[.pointer (some ⟨a.r, 0, none⟩)] wr fun e w' => e = .returned (.int .u64 (n : Int)) ∧ Below wr.heap.size wr w') := Lib.hid (done_any HT.out.rb.at_)
      go_wp2_with fail
      refine HD.out.mono ?_
      rintro e w5 ⟨rfl, hb5⟩
      have HBF := Lib.hid (HBR.out.trans (hb5.mono HBR.out.size))
      clear hb5 HD HT
      go_wp2_with fail
      go_ret
      exact ⟨rfl, HBF.out⟩
end Rc
end Go.Proofs.YtobpinelhjpfgaaDoor
