/-
  JournalCrashes: the walk (written by tools/jrcrash.py).
-/
import Derived.Test.YtnamnikelgcepaaJrH
import Derived.Deep.QuietTactic
import Derived.BigQuiet
set_option linter.unusedVariables false
set_option maxRecDepth 100000
namespace Go.Proofs.Ytnamnikelgcepaa
namespace Jr
open Go.RowKit Go.Maps Bp Ck
open Dk (D DAt DF op kp pwE apE apD syD cuE cuD IW crN crD)

theorem act_cells (w : World) (x : Int) (A : Option Addr) (n c : Nat) (i : Int) : (w.alloc (.cells #[.int .u8 x, .slice A n c, .int .i64 i] 42)).cell? ⟨w.heap.size, 0, none⟩ = some (.int .u8 x) ∧ (w.alloc (.cells #[.int .u8 x, .slice A n c, .int .i64 i] 42)).cell? ⟨w.heap.size, 1, none⟩ = some (.slice A n c) ∧ (w.alloc (.cells #[.int .u8 x, .slice A n c, .int .i64 i] 42)).cell? ⟨w.heap.size, 2, none⟩ = some (.int .i64 i) := by
  refine ⟨?_, ?_, ?_⟩ <;> simp [World.cell?_alloc_new]
set_option maxHeartbeats 8000000 in
theorem journalCrashes_walk (A : Option Addr) (n cap : Nat) (f : Nat → A16) (w : World) (h : Acts16 w.heap.size w A n cap f) (_ : True) :
    Calls Try.prog 4 #[.slice A n cap] w fun e w' => e = .returned (.bool true) ∧ Below w.heap.size w w' := by
  have HA := Lib.hid h
  clear h
  go_enter Try.func4, Try.ntmps4
  go_wp2_with fail
  refine (shown16_any w).mono ?_
  rintro e w1 ⟨rfl, hb1⟩
  have HB1 := Lib.hid hb1
  clear hb1
  go_wp2_with fail
  refine (Dk.new_any w1).mono ?_
  rintro e w2 ⟨rfl, hn2, hb2⟩
  have HO := Lib.hid (open_new (HB1.out.trans (hb2.mono HB1.out.size)) (hn2.lower HB1.out.size))
  clear hn2 hb2 HB1
  generalize w1.heap.size = g at *
  go_wp2_with fail
  refine HO.out.mono ?_
  rintro e w3 ⟨j0, c3, v3, d3, A3, rfl, hj3, hL3⟩
  have HJ3 := Lib.hid hj3
  clear hj3 hL3 HO
  have HLat : Hid (∀ w', Below w3.heap.size w3 w' → Jo w w' j0 g v3 d3 [] 0) := Lib.hid (fun w' hb => HJ3.out.later hb)
  have hal := (Below.refl w3.heap.size w3).alloc (Nat.le_refl _) (.cells #[] 42)
  have HJ4 := Lib.hid (HJ3.out.later hal)
  have HF := Lib.hid (few_any A n cap f (w3.alloc (.cells #[] 42)) (acts_raise (HA.out.below HJ4.out.below) HJ4.out.below.size))
  have HE : Hid ((w3.alloc (.cells #[] 42)).ownsRow w3.heap.size 42 3 (.slice (some ⟨w3.heap.size, 0, none⟩) 0 0) 0 (tc [])) := Lib.hid (Bk.own_empty w3 42 3 w3.heap.size (Nat.le_refl _))
  have HB4 : Hid (Below w3.heap.size w3 (w3.alloc (.cells #[] 42))) := Lib.hid hal
  have HS3 : Hid (w3.heap.size ≤ (w3.alloc (.cells #[] 42)).heap.size) := Lib.hid hal.size
  have HW3 : Hid (w.heap.size ≤ w3.heap.size) := Lib.hid HJ3.out.below.size
  clear hal HJ3
  go_wp2_with fail
  generalize w3.alloc (.cells #[] 42) = w4 at *
  generalize w3.heap.size = k3 at *
  refine HF.out.mono ?_
  rintro e w5 ⟨rfl, m, hm, hm60, rfl, _⟩
  obtain ⟨q, hql, hqg, hqo⟩ := acts_gt HA.out hm rfl
  have HQG : Hid (Bk.Gt 3 w4.heap.size w4 A m cap (tc q)) := Lib.hid ((hqg.below HJ4.out.below).raise HJ4.out.below.size)
  have HQO := Lib.hid hqo
  have HQL := Lib.hid hql
  clear hql hqg hqo HF
  go_wp2_with (at_builtin; refine app_acts (w0 := w) rfl _ _ rfl k3 _ 0 [] rfl HE.out A m cap q rfl HQG.out HQO.out (by omega) HS3.out ?_)
  intro A5 c5 w5 ho5 hb5 hg5
  have hC := (Below.refl w5.heap.size w5).alloc (Nat.le_refl _) (.cells #[.int .u8 3, .slice none 0 0, .int .i64 2, .int .u8 3, .slice none 0 0, .int .i64 0] 42)
  have HO5 : Hid ((w5.alloc (.cells #[.int .u8 3, .slice none 0 0, .int .i64 2, .int .u8 3, .slice none 0 0, .int .i64 0] 42)).ownsRow k3 42 3 (.slice A5 m c5) m (tc q)) := Lib.hid (ho5.alloc _)
  have HTG : Hid (Bk.Gt 3 (w5.alloc (.cells #[.int .u8 3, .slice none 0 0, .int .i64 2, .int .u8 3, .slice none 0 0, .int .i64 0] 42)).heap.size (w5.alloc (.cells #[.int .u8 3, .slice none 0 0, .int .i64 2, .int .u8 3, .slice none 0 0, .int .i64 0] 42)) (some ⟨w5.heap.size, 0, none⟩) 2 2 (tc two16)) := Lib.hid (two_gt w5)
  have HB5 : Hid (Below k3 w3 (w5.alloc (.cells #[.int .u8 3, .slice none 0 0, .int .i64 2, .int .u8 3, .slice none 0 0, .int .i64 0] 42))) := Lib.hid ((HB4.out.trans hb5).trans (hC.mono (Nat.le_trans HS3.out hb5.size)))
  have HSb : Hid (k3 ≤ (w5.alloc (.cells #[.int .u8 3, .slice none 0 0, .int .i64 2, .int .u8 3, .slice none 0 0, .int .i64 0] 42)).heap.size) := Lib.hid (Nat.le_trans HS3.out (Nat.le_trans hb5.size hC.size))
  clear ho5 hb5 hg5 hC HE HQG HB4 HS3
  go_wp2_with (at_builtin; refine app_acts (w0 := w) rfl _ _ rfl k3 _ m q rfl HO5.out (some ⟨w5.heap.size, 0, none⟩) 2 2 two16 rfl HTG.out (two_ok w) (by omega) HSb.out ?_)
  intro A6 c6 w6 ho6 hb6 hg6
  have HJ6 := Lib.hid (HLat.out w6 (HB5.out.trans hb6))
  obtain ⟨ga, rfl, hga1, hga2, hact⟩ := acts_at (w0 := w) ho6 (by simp [two16, HQL.out]) (by omega) (fun p hp => (List.mem_append.1 hp).elim (HQO.out p) (two_ok w p)) HJ6.out.at_
  have HAct := Lib.hid hact
  have HS : Hid (∃ v d, Js w w6 w6 (JF j0 g v3) j0 g v d [] 0) := Lib.hid ⟨v3, d3, HJ6.out, Turn.refl _ _⟩
  have HW6 : Hid (w.heap.size ≤ w6.heap.size) := Lib.hid HJ6.out.below.size
  clear ho6 hb6 hg6 hact HO5 HTG HB5 HSb HLat HQO HQL HJ6 HJ4
  obtain ⟨N, hN⟩ : ∃ N, N = m + 2 := ⟨_, rfl⟩
  have hN62 : N ≤ 62 := by omega
  rw [← hN] at HAct hga1 ⊢
  clear hN hm hm60
  go_wp2_with fail
  go_loopw [5, 8, 9, 39] (fun jv av sv iv wr => ∃ (k s j : Nat) (ms : List (List Nat)), jv = .pointer (some ⟨j, 0, none⟩) ∧ sv = .int .i64 (s : Int) ∧ iv = .int .i64 (k : Int) ∧ k ≤ N ∧ Hid (ms.length ≤ k ∧ Lq (By w.heap.size w) wr w6.heap.size av ms ∧ ∃ v d, Js w w6 wr (JF j0 g v3) j g v d ms s)) (fun _ _ _ iv _ => N - (intOf iv).toNat)
  case atStart => exact ⟨0, 0, j0, [], rfl, rfl, rfl, Nat.zero_le _, Lib.hid ⟨Nat.le_refl _, (Ls.nil _ _ _).lq, HS.out⟩⟩
  case round =>
    rename World => wr
    clear HS
    obtain ⟨k, s, j, ms, rfl, rfl, rfl, hk, HI⟩ := hrel
    obtain ⟨hn, hlq, v, d, hj⟩ := HI.out
    have HN := Lib.hid hn
    have HLq := Lib.hid hlq
    have HJ := Lib.hid hj
    clear hn hlq hj HI
    by_cases hlk : k < N
    · obtain ⟨⟨qk, sv, x⟩, ⟨hq1, hx, A1, n1, c1, zs, rfl, hzs⟩, k0, k1, k2⟩ := HAct.out _ wr HJ.out.tn k hlk
      have k0 : wr.cell? ⟨ga, k * 3, none⟩ = some (.int .u8 (qk : Int)) := k0
      have k1 : wr.cell? ⟨ga, k * 3 + 1, none⟩ = some (.slice A1 n1 c1) := k1
      have k2 : wr.cell? ⟨ga, k * 3 + 2, none⟩ = some (.int .i64 x) := k2
      have hkI : (k : Int) < (N : Int) := by omega
      obtain ⟨b0, b1, b2⟩ := act_cells wr qk A1 n1 c1 x
      have hbA := (Below.refl wr.heap.size wr).alloc (Nat.le_refl _) (.cells #[.int .u8 (qk : Int), .slice A1 n1 c1, .int .i64 x] 42)
      have HJA := Lib.hid (HJ.out.later hbA)
      have HLA := Lib.hid (HLq.out.later hbA)
      have HP := Lib.hid hzs
      have HX : Hid (IW x) := Lib.hid hx
      have hqk : qk % 5 < 5 := Nat.mod_lt _ (by decide)
      clear hbA hzs hx HJ HLq hq1
      rcases (by omega : qk % 5 = 0 ∨ qk % 5 = 1 ∨ qk % 5 = 2 ∨ qk % 5 = 3 ∨ qk % 5 = 4) with hr | hr | hr | hr | hr
      · have hrI : (qk : Int) % 5 = 0 := by omega
        have HXB : Hid ((wr.alloc (.cells #[.int .u8 (qk : Int), .slice A1 n1 c1, .int .i64 x] 42)).heap[wr.heap.size]? = some (.cells #[.int .u8 (qk : Int), .slice A1 n1 c1, .int .i64 x] 42 (0, 0))) := Lib.hid (heap_alloc_new wr _)
        have HT := Lib.hid (HJA.out.note (by have := HN.out; omega) A1 n1 c1 zs ((HP.out.below HJA.out.jo.below).mono HJA.out.jo.below.size))
        obtain ⟨vA, vc, rfl⟩ := HLA.out.form
        clear hr hqk HX
        go_wp2_with fail
        generalize wr.alloc (.cells #[.int .u8 (qk : Int), .slice A1 n1 c1, .int .i64 x] 42) = wB at *
        generalize wr.heap.size = bx at *
        refine HT.out.mono ?_
        rintro e w7 ⟨v7, d7, ht7, ⟨rfl, hj7⟩ | ⟨rfl, hbig, hj7⟩ | ⟨rfl, hdd, hj7⟩⟩
        · have HL7 := Lib.hid (HLA.out.turn HJA.out.jo.at_ ht7)
          have e1 := (box_cells (box_turn HXB.out HJA.out.jo.at_ ht7)).2.1
          have HJ7 := Lib.hid hj7
          have HSz : Hid (w6.heap.size ≤ w7.heap.size) := Lib.hid hj7.tn.size
          clear hj7 ht7 HT HJA HLA HXB b0 b1 b2 k0 k1 k2
          go_wp2_with (at_builtin; refine app_lq rfl _ _ rfl w6.heap.size _ ms rfl A1 n1 c1 zs w7 rfl HL7.out rfl HP.out (by have := HN.out; omega) HSz.out ?_)
          intro A8 c8 w8 hl8 hg8
          have hal := (Below.refl w7.heap.size w7).alloc (Nat.le_refl _) (.cells #[.slice A1 n1 c1] 22)
          have HJ8 := Lib.hid ((HJ7.out.later hal).grown (HL7.out.later hal) hg8 HW6.out)
          have HL8 := Lib.hid hl8.lq
          clear hl8 hg8 hal HL7 HJ7 e1
          go_wp2_with fail
          go_roundw
          case rel => exact ⟨k + 1, s, j, ms ++ [zs], rfl, rfl, by go_num, by omega, Lib.hid ⟨by have := HN.out; rw [List.length_append, List.length_singleton]; omega, HL8.out, _, _, HJ8.out⟩⟩
          case measure => simp [intOf]; omega
        · have HL7 := Lib.hid (HLA.out.turn HJA.out.jo.at_ ht7)
          have e1 := (box_cells (box_turn HXB.out HJA.out.jo.at_ ht7)).2.1
          have HJ7 := Lib.hid hj7
          have d0 : decide ((n1 : Int) ≤ 1000) = false := decide_eq_false (by omega)
          clear hj7 ht7 HT HJA HLA HXB b0 b1 b2 k0 k1 k2
          go_wp2_with fail
          go_roundw
          case rel => exact ⟨k + 1, s, j, ms, rfl, rfl, by go_num, by omega, Lib.hid ⟨by have := HN.out; omega, HL7.out, _, _, HJ7.out⟩⟩
          case measure => simp [intOf]; omega
        · have HL7 := Lib.hid (HLA.out.turn HJA.out.jo.at_ ht7)
          have e1 := (box_cells (box_turn HXB.out HJA.out.jo.at_ ht7)).2.1
          have HJ7 := Lib.hid hj7
          have HDd := Lib.hid (hj7.dead hdd)
          clear hj7 ht7 HT HJA HLA HXB b0 b1 b2 k0 k1 k2 hdd
          go_wp2_with fail
          refine HDd.out.mono ?_
          rintro e w8 ⟨rfl, rfl⟩
          clear HDd
          go_wp2_with fail
          go_roundw
          case rel => exact ⟨k + 1, s, j, ms, rfl, rfl, by go_num, by omega, Lib.hid ⟨by have := HN.out; omega, HL7.out, _, _, HJ7.out⟩⟩
          case measure => simp [intOf]; omega
      · have hrI : (qk : Int) % 5 = 1 := by omega
        have HT := Lib.hid HJA.out.sync
        obtain ⟨vA, vc, rfl⟩ := HLA.out.form
        clear hr hqk HX
        go_wp2_with fail
        generalize wr.alloc (.cells #[.int .u8 (qk : Int), .slice A1 n1 c1, .int .i64 x] 42) = wB at *
        refine HT.out.mono ?_
        rintro e w7 ⟨v7, d7, ht7, ⟨rfl, hj7⟩ | ⟨rfl, hj7⟩⟩
        · have HL7 := Lib.hid (HLA.out.turn HJA.out.jo.at_ ht7)
          have HJ7 := Lib.hid hj7
          clear hj7 ht7 HT HJA HLA b0 b1 b2 k0 k1 k2
          go_wp2_with fail
          go_roundw
          case rel => exact ⟨k + 1, ms.length, j, ms, rfl, rfl, by go_num, by omega, Lib.hid ⟨by have := HN.out; omega, HL7.out, _, _, HJ7.out⟩⟩
          case measure => simp [intOf]; omega
        · have HL7 := Lib.hid (HLA.out.turn HJA.out.jo.at_ ht7)
          have HJ7 := Lib.hid hj7
          clear hj7 ht7 HT HJA HLA b0 b1 b2 k0 k1 k2
          go_wp2_with fail
          go_roundw
          case rel => exact ⟨k + 1, s, j, ms, rfl, rfl, by go_num, by omega, Lib.hid ⟨by have := HN.out; omega, HL7.out, _, _, HJ7.out⟩⟩
          case measure => simp [intOf]; omega
      · have hrI : (qk : Int) % 5 = 2 := by omega
        have HT := Lib.hid (HJA.out.cut x HX.out)
        clear hr hqk HX
        go_wp2_with fail
        generalize wr.alloc (.cells #[.int .u8 (qk : Int), .slice A1 n1 c1, .int .i64 x] 42) = wB at *
        refine HT.out.mono ?_
        rintro e w7 ⟨v7, d7, rfl, ht7, hj7⟩
        have HL7 := Lib.hid (HLA.out.turn HJA.out.jo.at_ ht7)
        have HJ7 := Lib.hid hj7
        clear hj7 ht7 HT HJA HLA b0 b1 b2 k0 k1 k2
        go_wp2_with fail
        go_roundw
        case rel => exact ⟨k + 1, s, j, ms, rfl, rfl, by go_num, by omega, Lib.hid ⟨by have := HN.out; omega, HL7.out, _, _, HJ7.out⟩⟩
        case measure => simp [intOf]; omega
      · have hrI : (qk : Int) % 5 = 3 := by omega
        obtain ⟨i, i1, i2, hT⟩ := HJA.out.crash x
        have HT := Lib.hid hT
        obtain ⟨vA, vc, rfl⟩ := HLA.out.form
        clear hr hqk HX hT
        go_wp2_with fail
        generalize wr.alloc (.cells #[.int .u8 (qk : Int), .slice A1 n1 c1, .int .i64 x] 42) = wB at *
        refine HT.out.mono ?_
        rintro e w7 ⟨v7, rfl, hn7, ht7, hO⟩
        have HL7 := Lib.hid (HLA.out.turnD HJA.out.jo.at_.disk ht7)
        have HN7 := Lib.hid hn7
        have HO := Lib.hid hO
        clear hn7 ht7 hO HT HJA HLA b0 b1 b2 k0 k1 k2
        go_wp2_with fail
        refine HO.out.mono ?_
        rintro e w8 ⟨j8, A8, c8, v8, d8, rfl, hj8, hl8, ht8⟩
        have hlq := HL7.out.turnD HN7.out ht8
        have hbs := (hlq.bss (fun A n c zs h => (h.below hj8.jo.below).mono hj8.jo.below.size)).2
        have hvc := hbs.le
        have HSm := Lib.hid (refSame_eq hl8 (hbs.take i i2) (Nat.le_refl _))
        have HL8 := Lib.hid hlq
        have HJ8 := Lib.hid hj8
        have hI2 : Hid (i ≤ ms.length) := Lib.hid i2
        have hNL := HN.out
        have q1 := fun W => slice_h2 vA ms.length vc i W (by omega)
        have q2 := fun W => slice_hm2 vA ms.length vc i W (by omega)
        obtain ⟨mn, hmn⟩ : ∃ mn, mn = ms.length := ⟨_, rfl⟩
        have HMN := Lib.hid hmn
        rw [← hmn] at q1 q2 hvc i2 hNL ⊢
        have g1 : ¬ (i : Int) < (s : Int) := by omega
        have g2 : ¬ (mn : Int) < (i : Int) := by omega
        have g3 : (i : Int) ≤ (vc : Int) := by omega
        clear hj8 hl8 ht8 hlq hbs HL7 HN7 HO hmn
        go_wp2_with fail
        refine HSm.out.mono ?_
        rintro e w9 ⟨rfl, hb9⟩
        have HJ9 := Lib.hid (HJ8.out.later hb9)
        have HL9 := Lib.hid (HL8.out.later hb9)
        have HLn := Lib.hid HJ9.out.len
        rw [show (ms.take i).length = i by rw [List.length_take]; have := hI2.out; omega] at HLn
        clear hb9 HJ8 HL8 HSm
        go_wp2_with fail
        refine HLn.out.mono ?_
        rintro e w10 ⟨rfl, rfl⟩
        clear HLn
        go_wp2_with fail
        have HL10 := Lib.hid (HL9.out.cut hI2.out)
        go_big_quiet (fail)
        have hbd : Below w9.heap.size w9 (w9.drewN nq) := drawn_below ⟨nq, rfl⟩
        have HJB := Lib.hid (HJ9.out.later hbd)
        have HLB := Lib.hid (HL10.out.later hbd)
        clear hbd HJ9 HL9 HL10
        go_wp2_with fail
        go_roundw
        case rel => exact ⟨k + 1, i, j8, ms.take i, rfl, rfl, by go_num, by omega, Lib.hid ⟨by rw [List.length_take]; have := HN.out; omega, HLB.out, _, _, HJB.out⟩⟩
        case measure => simp [intOf]; omega
      · have hrI : (qk : Int) % 5 = 4 := by omega
        clear hr hqk
        go_wp2_with fail
        go_roundw
        case rel => exact ⟨k + 1, s, j, ms, rfl, rfl, by go_num, by omega, Lib.hid ⟨by have := HN.out; omega, HLA.out, _, _, HJA.out⟩⟩
        case measure => simp [intOf]; omega
    · obtain rfl : k = N := by omega
      have HBE := Lib.hid HJ.out.jo.below
      clear HJ HLq
      go_wp2_with fail
      go_ret
      exact ⟨rfl, HBE.out⟩
end Jr
end Go.Proofs.Ytnamnikelgcepaa
