/-
  DiskBegins: the walk (written by tools/dkbegins.py).
-/
import Derived.Test.YtlelmffemlgenaaDkH
set_option linter.unusedVariables false
set_option maxRecDepth 100000
namespace Go.Proofs.Ytlelmffemlgenaa
namespace Dk
open Go.RowKit Bk Nw

theorem hasPrefix_in (s p : ByteArray) (h1 : p.size ≤ s.size) (h2 : s.extract 0 p.size = p) (w : World) : Calls Try.prog 34 #[.string s, .string p] w fun e w' => e = .returned (.bool true) ∧ w = w' := by
  have hI : (p.size : Int) ≤ (s.size : Int) := by omega
  go_enter Try.func34, Try.ntmps34
  go_wp2_with fail
  go_ret
  exact ⟨rfl, rfl⟩
theorem hasPrefix_any (s p : ByteArray) (h1 : p.size ≤ s.size) (h2 : s.extract 0 p.size = p) (w : World) : Calls Try.prog 22 #[.string s, .string p] w fun e w' => e = .returned (.bool true) ∧ w = w' := by
  have HC := Lib.hid (hasPrefix_in s p h1 h2 w)
  go_enter Try.func22, Try.ntmps22
  go_wp2_with fail
  refine HC.out.mono ?_
  rintro e w1 ⟨rfl, rfl⟩
  go_wp2_with fail
  go_ret
  exact ⟨rfl, rfl⟩
theorem ext_self (s : ByteArray) (n : Nat) (h : n ≤ s.size) : s.extract 0 (s.extract 0 n).size = s.extract 0 n := by rw [size_ext s n h]
/-- A disk whose bytes are just these; nothing older is written. -/
def Be (w0 : World) (g : Nat) (S : ByteArray) (w : World) : Prop := ∃ v d, DAt w w0.heap.size g v d ∧ d.s = S ∧ Below w0.heap.size w0 w
theorem Be.below {w0 w : World} {g : Nat} {S : ByteArray} (h : Be w0 g S w) : Below w0.heap.size w0 w := by obtain ⟨_, _, _, _, h⟩ := h; exact h
theorem Be.later {w0 w w' : World} {g : Nat} {S : ByteArray} (h : Be w0 g S w) (hb : Below w.heap.size w w') : Be w0 g S w' := by
  obtain ⟨v, d, h1, h2, h3⟩ := h
  exact ⟨v, d, h1.later hb, h2, h3.trans (hb.mono h3.size)⟩
/-! What the acts come to. -/
section
variable {d : D} {k : Nat} {s : ByteArray} {x : Int}
theorem do0 (hr : k % 7 = 0) : doE d k s x = apE d s ∧ doD d k s x = apD d s := ⟨by unfold doE; simp [hr], by unfold doD; simp [hr]⟩
theorem do1 (hr : k % 7 = 1) : doE d k s x = pwE (op d) ∧ doD d k s x = syD d := ⟨by unfold doE; simp [hr], by unfold doD; simp [hr]⟩
theorem do3 (hr : k % 7 = 3) : doE d k s x = 0 ∧ doD d k s x = ctD d x := ⟨by unfold doE; simp [hr], by unfold doD; simp [hr]⟩
theorem do4 (hr : k % 7 = 4) : doE d k s x = 0 ∧ doD d k s x = crD d x := ⟨by unfold doE; simp [hr], by unfold doD; simp [hr]⟩
theorem f0y (h : apE d s = 0) : (apD d s).s = d.s ++ s ∧ (apD d s).safe = d.safe ∧ (apD d s).dead = false := by
  have hd : (op d).dead = false := by
    cases q : (op d).dead with
    | true => unfold apE at h; rw [if_pos q] at h; omega
    | false => rfl
  unfold apD
  rw [if_pos h]
  exact ⟨rfl, rfl, hd⟩
theorem f0n (h : apE d s ≠ 0) : (apD d s).s = d.s ∧ (apD d s).safe = d.safe := by
  unfold apD
  rw [if_neg h]
  exact ⟨op_s d, op_safe d⟩
theorem f1y (h : pwE (op d) = 0) : (syD d).s = d.s ∧ (syD d).safe = d.s.size ∧ (syD d).dead = false := by
  have hd : (op d).dead = false := by
    cases q : (op d).dead with
    | true => rw [pw_dead q] at h; omega
    | false => rfl
  unfold syD
  rw [if_neg (by rw [hd]; simp)]
  exact ⟨by show (op d).s.extract 0 d.s.size = d.s; rw [op_s, ext_all], rfl, hd⟩
theorem f1n (h : pwE (op d) ≠ 0) : (syD d).s = d.s ∧ (syD d).safe = d.safe ∧ (syD d).dead = true := by
  have hd : (op d).dead = true := by
    cases q : (op d).dead with
    | false => exact absurd (pw_on q) h
    | true => rfl
  unfold syD
  rw [if_pos hd]
  exact ⟨op_s d, op_safe d, hd⟩
theorem f3 : (ctD d x).s = d.s ∧ (ctD d x).safe = d.safe := by unfold ctD; split <;> exact ⟨rfl, rfl⟩
theorem f4 (hle : d.safe ≤ d.s.size) : (crD d x).s = d.s.extract 0 (crN d x) ∧ (crD d x).safe = crN d x ∧ (crD d x).dead = false ∧ d.safe ≤ crN d x ∧ crN d x ≤ d.s.size := ⟨rfl, rfl, rfl, by unfold crN; omega, crN_le hle x⟩
end
set_option maxHeartbeats 8000000 in
theorem diskBegins_walk (A : Option Addr) (n cap : Nat) (f : Nat → A15) (w : World) (h : Acts15 w.heap.size w A n cap f) (_ : True) :
    Calls Try.prog 4 #[.slice A n cap] w fun e w' => e = .returned (.bool true) ∧ Below w.heap.size w w' := by
  have HA := Lib.hid h
  clear h
  go_enter Try.func4, Try.ntmps4
  go_wp2_with fail
  refine (shown15_any w).mono ?_
  rintro e w1 ⟨rfl, hb1⟩
  have HB1 := Lib.hid hb1
  clear hb1
  go_wp2_with fail
  refine (new_any w1).mono ?_
  rintro e w2 ⟨rfl, hn2, hb2⟩
  have HS : Hid (Be w w1.heap.size { data := #[] } w2) := Lib.hid ⟨_, _, hn2.lower HB1.out.size, rfl, HB1.out.trans (hb2.mono HB1.out.size)⟩
  clear hn2 hb2 HB1
  generalize w1.heap.size = g at *
  go_wp2_with fail
  have HF := Lib.hid (few_any A n cap f w2 (acts_raise (HA.out.below HS.out.below) HS.out.below.size))
  refine HF.out.mono ?_
  rintro e w3 ⟨rfl, m, hm, hm1, rfl, hsz⟩
  have HSZ := Lib.hid hsz
  have hcs : m ≤ cap := Nat.le_trans hm HA.out.le
  have hcs1 : cap ≤ 9223372036854775807 := by have := HA.out.max; unfold maxLen at this; omega
  clear HF hsz
  go_wp2_with fail
  go_loopw [5, 20] (fun sv iv wr => ∃ (j : Nat) (S : ByteArray), iv = .int .i64 (j : Int) ∧ sv = .string S ∧ j ≤ m ∧ Hid (Be w g S wr)) (fun _ iv _ => m - (intOf iv).toNat)
  case atStart => exact ⟨0, _, rfl, rfl, Nat.zero_le _, HS⟩
  case round =>
    rename World => wr
    clear HS
    obtain ⟨j, S, rfl, rfl, hj, HI⟩ := hrel
    by_cases hlj : j < m
    · obtain ⟨ga, off, A1, n1, c1, rfl, hga, k0, k1, k2, hy, hf1, hf2⟩ := act_at (HA.out.below HI.out.below) (show j < n by omega)
      have hjI : (j : Int) < (m : Int) := by omega
      have hga2 : ga < wr.heap.size := Nat.lt_of_lt_of_le hga HI.out.below.size
      have hs := HSZ.out j hlj
      generalize f j = fj at *
      obtain ⟨qk, s, x⟩ := fj
      have k0 : wr.cell? ⟨ga, off + j * 3, none⟩ = some (.int .u8 (qk : Int)) := k0
      have k1 : wr.cell? ⟨ga, off + j * 3 + 1, none⟩ = some (.slice A1 n1 c1) := k1
      have k2 : wr.cell? ⟨ga, off + j * 3 + 2, none⟩ = some (.int .i64 x) := k2
      obtain ⟨b0, b1, b2⟩ := act_cells wr qk A1 n1 c1 x
      have hbA := (Below.refl wr.heap.size wr).alloc (Nat.le_refl _) (.cells #[.int .u8 (qk : Int), .slice A1 n1 c1, .int .i64 x] 31)
      have HYA := Lib.hid ((hy.raise HI.out.below.size).later hbA)
      have HLA := Lib.hid (HI.out.later hbA)
      have HYW : Hid (∀ wx, Below w.heap.size (wr.alloc (.cells #[.int .u8 (qk : Int), .slice A1 n1 c1, .int .i64 x] 31)) wx → (convert 29 9 (.slice A1 n1 c1)).run Try.prog wx = .ok (.string s) wx) := Lib.hid (fun wx hb => ((hy.below (hbA.mono HI.out.below.size)).below hb).conv)
      have hbx : wr.heap.size < (wr.alloc (.cells #[.int .u8 (qk : Int), .slice A1 n1 c1, .int .i64 x] 31)).heap.size := by simp
      have HBX : Hid (w.heap.size ≤ wr.heap.size ∧ ∃ cc, (wr.alloc (.cells #[.int .u8 (qk : Int), .slice A1 n1 c1, .int .i64 x] 31)).heap[wr.heap.size]? = some (.cells cc 31 (0, 0))) := Lib.hid ⟨HI.out.below.size, _, heap_alloc_new wr _⟩
      have HX : Hid (IW x) := Lib.hid hf2
      clear hga hf1 hf2 hy hbA HI
      have hss : s.size ≤ 10000 := hs
      clear hs
      rcases (by omega : (qk % 7 = 2 ∨ qk % 7 = 5 ∨ qk % 7 = 6) ∨ qk % 7 = 0 ∨ qk % 7 = 1 ∨ qk % 7 = 3 ∨ qk % 7 = 4) with hr | hr | hr | hr | hr
      · rcases hr with hr | hr | hr
        all_goals
          have hrI : (qk : Int) % 7 = ((qk % 7 : Nat) : Int) := by omega
          rw [hr] at hrI
          simp at hrI
          clear hr HYA HYW
          go_wp2_with fail
          go_roundw
          case rel => exact ⟨j + 1, _, by go_num, rfl, by omega, HLA⟩
          case measure => simp [intOf]; omega
      · have hrI : (qk : Int) % 7 = 0 := by omega
        obtain ⟨v, d, hd, rfl, hbd⟩ := HLA.out
        obtain ⟨eE, eD⟩ := do0 (d := d) (s := s) (x := x) hr
        have HS1 := Lib.hid (Safe_any hd)
        have HD := Lib.hid (does_any hd qk A1 n1 c1 s x HYA.out HX.out)
        rw [eE, eD] at HD
        have HBD := Lib.hid hbd
        have hle := hd.le
        have HDA := Lib.hid hd
        have hfw := hd.few
        clear hr hd hbd eE eD HLA HYA
        go_wp2_with fail
        generalize wr.alloc (.cells #[.int .u8 (qk : Int), .slice A1 n1 c1, .int .i64 x] 31) = wA at *
        generalize wr.heap.size = bx at *
        refine HS1.out.mono ?_
        rintro e w4 ⟨rfl, rfl⟩
        go_wp2_with fail
        refine HD.out.mono ?_
        rintro e w5 ⟨v5, rfl, hn5, ht5⟩
        have HN5 := Lib.hid hn5
        have hb5 := ht5.below w.heap.size HBD.out.size (fun k hk => (HDA.out.blocks k hk).1)
        have HB5 := Lib.hid (HBD.out.trans hb5)
        have q5 := HYW.out w5 hb5
        have e1 : w5.cell? ⟨bx, 1, none⟩ = some (.slice A1 n1 c1) := (cell_block (ht5.block bx hbx (fun e => by
          obtain ⟨_, cc, hh⟩ := HBX.out
          obtain ⟨c2, t2, fz, h2, ht⟩ := HDA.out.kind bx e
          have := hh.symm.trans h2
          injection this with this
          injection this with _ this _
          subst this
          revert ht
          decide))).trans b1
        clear hn5 ht5 hb5 b0 b1 b2 k0 k1 k2 HS1 HD HDA HBD HYW HBX
        by_cases hz : apE d s = 0
        · obtain ⟨fs, fsf, fd⟩ := f0y hz
          rw [hz]
          go_upto_region 15 with (fail)
          obtain ⟨T, hT⟩ : ∃ T, T = d.s ++ s := ⟨_, rfl⟩
          have hTs : T.size = d.s.size + s.size := by rw [hT, ByteArray.size_append]
          rw [← hT] at fs ⊢
          generalize apD d s = d2 at *
          have hds := fs
          have hdd := fd
          obtain ⟨sf, hsf0⟩ : ∃ sf, sf = d.safe := ⟨_, rfl⟩
          have hsf : d2.safe = sf := fsf.trans hsf0.symm
          have hs1 : d.safe ≤ sf := by omega
          have hs2 : sf ≤ T.size := by omega
          clear fs fsf fd hz e1 q5 hT hTs hsf0
          have HS5 := Lib.hid (Safe_any HN5.out)
          have HD5 := Lib.hid (Dead_any HN5.out)
          rw [hsf] at HS5
          rw [hdd] at HD5
          have t1 : ¬ ((sf : Int) < (d.safe : Int)) := by omega
          have t2 : ¬ ((T.size : Int) < (sf : Int)) := by omega
          have t3 : decide ((sf : Int) < (d.safe : Int)) = false := decide_eq_false t1
          have t4 : decide ((T.size : Int) < (sf : Int)) = false := decide_eq_false t2
          go_wp2_with fail
          refine HS5.out.mono ?_
          rintro e w6 ⟨rfl, rfl⟩
          go_wp2_with fail
          refine HS5.out.mono ?_
          rintro e w6 ⟨rfl, rfl⟩
          go_wp2_with fail
          refine HD5.out.mono ?_
          rintro e w6 ⟨rfl, rfl⟩
          have HR5 := Lib.hid (Read_any HN5.out)
          unfold ReadTold at HR5
          rw [show rdS d2 = T from (by unfold rdS; rw [if_neg (by rw [hdd]; simp), hds]), pw_on hdd] at HR5
          go_wp2_with fail
          refine HR5.out.mono ?_
          rintro e w7 ⟨A7, c7, rfl, hy7, hb7⟩
          have q7 := hy7.yb.conv
          have HN7 := Lib.hid (HN5.out.later hb7)
          have HB7 := Lib.hid (HB5.out.trans (hb7.mono HB5.out.size))
          have HS7 := Lib.hid (Safe_any HN7.out)
          rw [hsf] at HS7
          have HP := Lib.hid (hasPrefix_any T T (Nat.le_refl _) (ext_all _) w7)
          clear hy7 hb7 HR5 HN5 HB5
          go_wp2_with fail
          refine HP.out.mono ?_
          rintro e w8 ⟨rfl, rfl⟩
          go_wp2_with fail
          refine HS7.out.mono ?_
          rintro e w8 ⟨rfl, rfl⟩
          go_wp2_with fail
          go_roundw
          case rel => exact ⟨j + 1, T, by go_num, rfl, by omega, Lib.hid ⟨v5, _, HN7.out, hds, HB7.out⟩⟩
          case measure => simp [intOf]; omega
        · obtain ⟨fs, fsf⟩ := f0n hz
          generalize apE d s = z at *
          have hz0 : (z == 0) = false := by simpa using hz
          generalize apD d s = d2 at *
          obtain ⟨T, hT⟩ : ∃ T, T = d.s := ⟨_, rfl⟩
          have hTs : T.size = d.s.size := by rw [hT]
          rw [← hT] at fs ⊢
          have hds := fs
          obtain ⟨sf, hsf0⟩ : ∃ sf, sf = d.safe := ⟨_, rfl⟩
          have hsf : d2.safe = sf := fsf.trans hsf0.symm
          have hs1 : d.safe ≤ sf := by omega
          have hs2 : sf ≤ T.size := by omega
          clear fs fsf e1 q5 hT hTs hsf0
          cases hdd : d2.dead with
          | true =>
            have HS5 := Lib.hid (Safe_any HN5.out)
            have HD5 := Lib.hid (Dead_any HN5.out)
            rw [hsf] at HS5
            rw [hdd] at HD5
            have t1 : ¬ ((sf : Int) < (d.safe : Int)) := by omega
            have t2 : ¬ ((T.size : Int) < (sf : Int)) := by omega
            have t3 : decide ((sf : Int) < (d.safe : Int)) = false := decide_eq_false t1
            have t4 : decide ((T.size : Int) < (sf : Int)) = false := decide_eq_false t2
            go_wp2_with fail
            refine HS5.out.mono ?_
            rintro e w6 ⟨rfl, rfl⟩
            go_wp2_with fail
            refine HS5.out.mono ?_
            rintro e w6 ⟨rfl, rfl⟩
            go_wp2_with fail
            refine HD5.out.mono ?_
            rintro e w6 ⟨rfl, rfl⟩
            go_wp2_with fail
            go_roundw
            case rel => exact ⟨j + 1, T, by go_num, rfl, by omega, Lib.hid ⟨v5, _, HN5.out, hds, HB5.out⟩⟩
            case measure => simp [intOf]; omega
          | false =>
            have HS5 := Lib.hid (Safe_any HN5.out)
            have HD5 := Lib.hid (Dead_any HN5.out)
            rw [hsf] at HS5
            rw [hdd] at HD5
            have t1 : ¬ ((sf : Int) < (d.safe : Int)) := by omega
            have t2 : ¬ ((T.size : Int) < (sf : Int)) := by omega
            have t3 : decide ((sf : Int) < (d.safe : Int)) = false := decide_eq_false t1
            have t4 : decide ((T.size : Int) < (sf : Int)) = false := decide_eq_false t2
            go_wp2_with fail
            refine HS5.out.mono ?_
            rintro e w6 ⟨rfl, rfl⟩
            go_wp2_with fail
            refine HS5.out.mono ?_
            rintro e w6 ⟨rfl, rfl⟩
            go_wp2_with fail
            refine HD5.out.mono ?_
            rintro e w6 ⟨rfl, rfl⟩
            have HR5 := Lib.hid (Read_any HN5.out)
            unfold ReadTold at HR5
            rw [show rdS d2 = T from (by unfold rdS; rw [if_neg (by rw [hdd]; simp), hds]), pw_on hdd] at HR5
            go_wp2_with fail
            refine HR5.out.mono ?_
            rintro e w7 ⟨A7, c7, rfl, hy7, hb7⟩
            have q7 := hy7.yb.conv
            have HN7 := Lib.hid (HN5.out.later hb7)
            have HB7 := Lib.hid (HB5.out.trans (hb7.mono HB5.out.size))
            have HS7 := Lib.hid (Safe_any HN7.out)
            rw [hsf] at HS7
            have HP := Lib.hid (hasPrefix_any T T (Nat.le_refl _) (ext_all _) w7)
            clear hy7 hb7 HR5 HN5 HB5
            go_wp2_with fail
            refine HP.out.mono ?_
            rintro e w8 ⟨rfl, rfl⟩
            go_wp2_with fail
            refine HS7.out.mono ?_
            rintro e w8 ⟨rfl, rfl⟩
            go_wp2_with fail
            go_roundw
            case rel => exact ⟨j + 1, T, by go_num, rfl, by omega, Lib.hid ⟨v5, _, HN7.out, hds, HB7.out⟩⟩
            case measure => simp [intOf]; omega
      · have hrI : (qk : Int) % 7 = 1 := by omega
        obtain ⟨v, d, hd, rfl, hbd⟩ := HLA.out
        obtain ⟨eE, eD⟩ := do1 (d := d) (s := s) (x := x) hr
        have HS1 := Lib.hid (Safe_any hd)
        have HD := Lib.hid (does_any hd qk A1 n1 c1 s x HYA.out HX.out)
        rw [eE, eD] at HD
        have HBD := Lib.hid hbd
        have hle := hd.le
        have HDA := Lib.hid hd
        have hfw := hd.few
        clear hr hd hbd eE eD HLA HYA
        go_wp2_with fail
        generalize wr.alloc (.cells #[.int .u8 (qk : Int), .slice A1 n1 c1, .int .i64 x] 31) = wA at *
        generalize wr.heap.size = bx at *
        refine HS1.out.mono ?_
        rintro e w4 ⟨rfl, rfl⟩
        go_wp2_with fail
        refine HD.out.mono ?_
        rintro e w5 ⟨v5, rfl, hn5, ht5⟩
        have HN5 := Lib.hid hn5
        have hb5 := ht5.below w.heap.size HBD.out.size (fun k hk => (HDA.out.blocks k hk).1)
        have HB5 := Lib.hid (HBD.out.trans hb5)
        have q5 := HYW.out w5 hb5
        have e1 : w5.cell? ⟨bx, 1, none⟩ = some (.slice A1 n1 c1) := (cell_block (ht5.block bx hbx (fun e => by
          obtain ⟨_, cc, hh⟩ := HBX.out
          obtain ⟨c2, t2, fz, h2, ht⟩ := HDA.out.kind bx e
          have := hh.symm.trans h2
          injection this with this
          injection this with _ this _
          subst this
          revert ht
          decide))).trans b1
        clear hn5 ht5 hb5 b0 b1 b2 k0 k1 k2 HS1 HD HDA HBD HYW HBX
        by_cases hz : pwE (op d) = 0
        · obtain ⟨fs, fsf, fd⟩ := f1y hz
          rw [hz]
          generalize syD d = d2 at *
          obtain ⟨T, hT⟩ : ∃ T, T = d.s := ⟨_, rfl⟩
          have hTs : T.size = d.s.size := by rw [hT]
          rw [← hT] at fs ⊢
          have hds := fs
          have hdd := fd
          obtain ⟨sf, hsf0⟩ : ∃ sf, sf = d.s.size := ⟨_, rfl⟩
          have hsf : d2.safe = sf := fsf.trans hsf0.symm
          have hs1 : d.safe ≤ sf := by omega
          have hs2 : sf ≤ T.size := by omega
          have hse : (sf : Int) = (T.size : Int) := by omega
          clear fs fsf fd hz e1 q5 hT hTs hsf0
          have HS5 := Lib.hid (Safe_any HN5.out)
          have HD5 := Lib.hid (Dead_any HN5.out)
          rw [hsf] at HS5
          rw [hdd] at HD5
          have t1 : ¬ ((sf : Int) < (d.safe : Int)) := by omega
          have t2 : ¬ ((T.size : Int) < (sf : Int)) := by omega
          have t3 : decide ((sf : Int) < (d.safe : Int)) = false := decide_eq_false t1
          have t4 : decide ((T.size : Int) < (sf : Int)) = false := decide_eq_false t2
          go_wp2_with fail
          refine HS5.out.mono ?_
          rintro e w6 ⟨rfl, rfl⟩
          go_wp2_with fail
          refine HS5.out.mono ?_
          rintro e w6 ⟨rfl, rfl⟩
          go_wp2_with fail
          refine HS5.out.mono ?_
          rintro e w6 ⟨rfl, rfl⟩
          go_wp2_with fail
          refine HD5.out.mono ?_
          rintro e w6 ⟨rfl, rfl⟩
          have HR5 := Lib.hid (Read_any HN5.out)
          unfold ReadTold at HR5
          rw [show rdS d2 = T from (by unfold rdS; rw [if_neg (by rw [hdd]; simp), hds]), pw_on hdd] at HR5
          go_wp2_with fail
          refine HR5.out.mono ?_
          rintro e w7 ⟨A7, c7, rfl, hy7, hb7⟩
          have q7 := hy7.yb.conv
          have HN7 := Lib.hid (HN5.out.later hb7)
          have HB7 := Lib.hid (HB5.out.trans (hb7.mono HB5.out.size))
          have HS7 := Lib.hid (Safe_any HN7.out)
          rw [hsf] at HS7
          have HP := Lib.hid (hasPrefix_any T T (Nat.le_refl _) (ext_all _) w7)
          clear hy7 hb7 HR5 HN5 HB5
          go_wp2_with fail
          refine HP.out.mono ?_
          rintro e w8 ⟨rfl, rfl⟩
          go_wp2_with fail
          refine HS7.out.mono ?_
          rintro e w8 ⟨rfl, rfl⟩
          go_wp2_with fail
          go_roundw
          case rel => exact ⟨j + 1, T, by go_num, rfl, by omega, Lib.hid ⟨v5, _, HN7.out, hds, HB7.out⟩⟩
          case measure => simp [intOf]; omega
        · obtain ⟨fs, fsf, fd⟩ := f1n hz
          generalize pwE (op d) = z at *
          have hz0 : (z == 0) = false := by simpa using hz
          generalize syD d = d2 at *
          obtain ⟨T, hT⟩ : ∃ T, T = d.s := ⟨_, rfl⟩
          have hTs : T.size = d.s.size := by rw [hT]
          rw [← hT] at fs ⊢
          have hds := fs
          have hdd := fd
          obtain ⟨sf, hsf0⟩ : ∃ sf, sf = d.safe := ⟨_, rfl⟩
          have hsf : d2.safe = sf := fsf.trans hsf0.symm
          have hs1 : d.safe ≤ sf := by omega
          have hs2 : sf ≤ T.size := by omega
          clear fs fsf fd e1 q5 hT hTs hsf0
          have HS5 := Lib.hid (Safe_any HN5.out)
          have HD5 := Lib.hid (Dead_any HN5.out)
          rw [hsf] at HS5
          rw [hdd] at HD5
          have t1 : ¬ ((sf : Int) < (d.safe : Int)) := by omega
          have t2 : ¬ ((T.size : Int) < (sf : Int)) := by omega
          have t3 : decide ((sf : Int) < (d.safe : Int)) = false := decide_eq_false t1
          have t4 : decide ((T.size : Int) < (sf : Int)) = false := decide_eq_false t2
          go_wp2_with fail
          refine HS5.out.mono ?_
          rintro e w6 ⟨rfl, rfl⟩
          go_wp2_with fail
          refine HS5.out.mono ?_
          rintro e w6 ⟨rfl, rfl⟩
          go_wp2_with fail
          refine HD5.out.mono ?_
          rintro e w6 ⟨rfl, rfl⟩
          go_wp2_with fail
          go_roundw
          case rel => exact ⟨j + 1, T, by go_num, rfl, by omega, Lib.hid ⟨v5, _, HN5.out, hds, HB5.out⟩⟩
          case measure => simp [intOf]; omega
      · have hrI : (qk : Int) % 7 = 3 := by omega
        obtain ⟨v, d, hd, rfl, hbd⟩ := HLA.out
        obtain ⟨eE, eD⟩ := do3 (d := d) (s := s) (x := x) hr
        have HS1 := Lib.hid (Safe_any hd)
        have HD := Lib.hid (does_any hd qk A1 n1 c1 s x HYA.out HX.out)
        rw [eE, eD] at HD
        have HBD := Lib.hid hbd
        have hle := hd.le
        have HDA := Lib.hid hd
        have hfw := hd.few
        clear hr hd hbd eE eD HLA HYA
        go_wp2_with fail
        generalize wr.alloc (.cells #[.int .u8 (qk : Int), .slice A1 n1 c1, .int .i64 x] 31) = wA at *
        generalize wr.heap.size = bx at *
        refine HS1.out.mono ?_
        rintro e w4 ⟨rfl, rfl⟩
        go_wp2_with fail
        refine HD.out.mono ?_
        rintro e w5 ⟨v5, rfl, hn5, ht5⟩
        have HN5 := Lib.hid hn5
        have hb5 := ht5.below w.heap.size HBD.out.size (fun k hk => (HDA.out.blocks k hk).1)
        have HB5 := Lib.hid (HBD.out.trans hb5)
        have q5 := HYW.out w5 hb5
        have e1 : w5.cell? ⟨bx, 1, none⟩ = some (.slice A1 n1 c1) := (cell_block (ht5.block bx hbx (fun e => by
          obtain ⟨_, cc, hh⟩ := HBX.out
          obtain ⟨c2, t2, fz, h2, ht⟩ := HDA.out.kind bx e
          have := hh.symm.trans h2
          injection this with this
          injection this with _ this _
          subst this
          revert ht
          decide))).trans b1
        clear hn5 ht5 hb5 b0 b1 b2 k0 k1 k2 HS1 HD HDA HBD HYW HBX
        obtain ⟨fs, fsf⟩ := f3 (d := d) (x := x)
        generalize ctD d x = d2 at *
        obtain ⟨T, hT⟩ : ∃ T, T = d.s := ⟨_, rfl⟩
        have hTs : T.size = d.s.size := by rw [hT]
        rw [← hT] at fs ⊢
        have hds := fs
        obtain ⟨sf, hsf0⟩ : ∃ sf, sf = d.safe := ⟨_, rfl⟩
        have hsf : d2.safe = sf := fsf.trans hsf0.symm
        have hs1 : d.safe ≤ sf := by omega
        have hs2 : sf ≤ T.size := by omega
        clear fs fsf e1 q5 hT hTs hsf0
        cases hdd : d2.dead with
        | true =>
          have HS5 := Lib.hid (Safe_any HN5.out)
          have HD5 := Lib.hid (Dead_any HN5.out)
          rw [hsf] at HS5
          rw [hdd] at HD5
          have t1 : ¬ ((sf : Int) < (d.safe : Int)) := by omega
          have t2 : ¬ ((T.size : Int) < (sf : Int)) := by omega
          have t3 : decide ((sf : Int) < (d.safe : Int)) = false := decide_eq_false t1
          have t4 : decide ((T.size : Int) < (sf : Int)) = false := decide_eq_false t2
          go_wp2_with fail
          refine HS5.out.mono ?_
          rintro e w6 ⟨rfl, rfl⟩
          go_wp2_with fail
          refine HS5.out.mono ?_
          rintro e w6 ⟨rfl, rfl⟩
          go_wp2_with fail
          refine HD5.out.mono ?_
          rintro e w6 ⟨rfl, rfl⟩
          go_wp2_with fail
          go_roundw
          case rel => exact ⟨j + 1, T, by go_num, rfl, by omega, Lib.hid ⟨v5, _, HN5.out, hds, HB5.out⟩⟩
          case measure => simp [intOf]; omega
        | false =>
          have HS5 := Lib.hid (Safe_any HN5.out)
          have HD5 := Lib.hid (Dead_any HN5.out)
          rw [hsf] at HS5
          rw [hdd] at HD5
          have t1 : ¬ ((sf : Int) < (d.safe : Int)) := by omega
          have t2 : ¬ ((T.size : Int) < (sf : Int)) := by omega
          have t3 : decide ((sf : Int) < (d.safe : Int)) = false := decide_eq_false t1
          have t4 : decide ((T.size : Int) < (sf : Int)) = false := decide_eq_false t2
          go_wp2_with fail
          refine HS5.out.mono ?_
          rintro e w6 ⟨rfl, rfl⟩
          go_wp2_with fail
          refine HS5.out.mono ?_
          rintro e w6 ⟨rfl, rfl⟩
          go_wp2_with fail
          refine HD5.out.mono ?_
          rintro e w6 ⟨rfl, rfl⟩
          have HR5 := Lib.hid (Read_any HN5.out)
          unfold ReadTold at HR5
          rw [show rdS d2 = T from (by unfold rdS; rw [if_neg (by rw [hdd]; simp), hds]), pw_on hdd] at HR5
          go_wp2_with fail
          refine HR5.out.mono ?_
          rintro e w7 ⟨A7, c7, rfl, hy7, hb7⟩
          have q7 := hy7.yb.conv
          have HN7 := Lib.hid (HN5.out.later hb7)
          have HB7 := Lib.hid (HB5.out.trans (hb7.mono HB5.out.size))
          have HS7 := Lib.hid (Safe_any HN7.out)
          rw [hsf] at HS7
          have HP := Lib.hid (hasPrefix_any T T (Nat.le_refl _) (ext_all _) w7)
          clear hy7 hb7 HR5 HN5 HB5
          go_wp2_with fail
          refine HP.out.mono ?_
          rintro e w8 ⟨rfl, rfl⟩
          go_wp2_with fail
          refine HS7.out.mono ?_
          rintro e w8 ⟨rfl, rfl⟩
          go_wp2_with fail
          go_roundw
          case rel => exact ⟨j + 1, T, by go_num, rfl, by omega, Lib.hid ⟨v5, _, HN7.out, hds, HB7.out⟩⟩
          case measure => simp [intOf]; omega
      · have hrI : (qk : Int) % 7 = 4 := by omega
        obtain ⟨v, d, hd, rfl, hbd⟩ := HLA.out
        obtain ⟨eE, eD⟩ := do4 (d := d) (s := s) (x := x) hr
        have HS1 := Lib.hid (Safe_any hd)
        have HD := Lib.hid (does_any hd qk A1 n1 c1 s x HYA.out HX.out)
        rw [eE, eD] at HD
        have HBD := Lib.hid hbd
        have hle := hd.le
        have HDA := Lib.hid hd
        have hfw := hd.few
        clear hr hd hbd eE eD HLA HYA
        go_wp2_with fail
        generalize wr.alloc (.cells #[.int .u8 (qk : Int), .slice A1 n1 c1, .int .i64 x] 31) = wA at *
        generalize wr.heap.size = bx at *
        refine HS1.out.mono ?_
        rintro e w4 ⟨rfl, rfl⟩
        go_wp2_with fail
        refine HD.out.mono ?_
        rintro e w5 ⟨v5, rfl, hn5, ht5⟩
        have HN5 := Lib.hid hn5
        have hb5 := ht5.below w.heap.size HBD.out.size (fun k hk => (HDA.out.blocks k hk).1)
        have HB5 := Lib.hid (HBD.out.trans hb5)
        have q5 := HYW.out w5 hb5
        have e1 : w5.cell? ⟨bx, 1, none⟩ = some (.slice A1 n1 c1) := (cell_block (ht5.block bx hbx (fun e => by
          obtain ⟨_, cc, hh⟩ := HBX.out
          obtain ⟨c2, t2, fz, h2, ht⟩ := HDA.out.kind bx e
          have := hh.symm.trans h2
          injection this with this
          injection this with _ this _
          subst this
          revert ht
          decide))).trans b1
        clear hn5 ht5 hb5 b0 b1 b2 k0 k1 k2 HS1 HD HDA HBD HYW HBX
        obtain ⟨fs, fsf, fd, fa, fb⟩ := f4 (x := x) hle
        generalize crD d x = d2 at *
        obtain ⟨sf, hsf0⟩ : ∃ sf, sf = crN d x := ⟨_, rfl⟩
        rw [← hsf0] at fs fsf fa fb
        obtain ⟨T, hT⟩ : ∃ T, T = d.s := ⟨_, rfl⟩
        have hTs : T.size = d.s.size := by rw [hT]
        rw [← hT] at fs fb ⊢
        obtain ⟨U, hU⟩ : ∃ U, U = T.extract 0 sf := ⟨_, rfl⟩
        have hUs : U.size = sf := by rw [hU, size_ext _ _ fb]
        have hu1 : U.size ≤ T.size := by omega
        have hu2 : T.extract 0 U.size = U := by rw [hUs, hU]
        have hds : d2.s = U := fs.trans hU.symm
        have hdd := fd
        have hsf := fsf
        have hs1 : d.safe ≤ sf := fa
        have hs2 : sf ≤ T.size := fb
        have t5 : ¬ ((U.size : Int) < (sf : Int)) := by omega
        clear fs fsf fd fa fb e1 q5 hT hU hsf0 hTs hUs
        have HS5 := Lib.hid (Safe_any HN5.out)
        have HD5 := Lib.hid (Dead_any HN5.out)
        rw [hsf] at HS5
        rw [hdd] at HD5
        have t1 : ¬ ((sf : Int) < (d.safe : Int)) := by omega
        have t2 : ¬ ((T.size : Int) < (sf : Int)) := by omega
        have t3 : decide ((sf : Int) < (d.safe : Int)) = false := decide_eq_false t1
        have t4 : decide ((T.size : Int) < (sf : Int)) = false := decide_eq_false t2
        go_wp2_with fail
        refine HS5.out.mono ?_
        rintro e w6 ⟨rfl, rfl⟩
        go_wp2_with fail
        refine HS5.out.mono ?_
        rintro e w6 ⟨rfl, rfl⟩
        go_wp2_with fail
        refine HD5.out.mono ?_
        rintro e w6 ⟨rfl, rfl⟩
        have HR5 := Lib.hid (Read_any HN5.out)
        unfold ReadTold at HR5
        rw [show rdS d2 = U from (by unfold rdS; rw [if_neg (by rw [hdd]; simp), hds]), pw_on hdd] at HR5
        go_wp2_with fail
        refine HR5.out.mono ?_
        rintro e w7 ⟨A7, c7, rfl, hy7, hb7⟩
        have q7 := hy7.yb.conv
        have HN7 := Lib.hid (HN5.out.later hb7)
        have HB7 := Lib.hid (HB5.out.trans (hb7.mono HB5.out.size))
        have HS7 := Lib.hid (Safe_any HN7.out)
        rw [hsf] at HS7
        have HP := Lib.hid (hasPrefix_any T U hu1 hu2 w7)
        clear hy7 hb7 HR5 HN5 HB5
        go_wp2_with fail
        refine HP.out.mono ?_
        rintro e w8 ⟨rfl, rfl⟩
        go_wp2_with fail
        refine HS7.out.mono ?_
        rintro e w8 ⟨rfl, rfl⟩
        go_wp2_with fail
        go_roundw
        case rel => exact ⟨j + 1, U, by go_num, rfl, by omega, Lib.hid ⟨v5, _, HN7.out, hds, HB7.out⟩⟩
        case measure => simp [intOf]; omega
    · obtain rfl : j = m := by omega
      have HB := Lib.hid HI.out.below
      clear HI
      go_wp2_with fail
      go_ret
      exact ⟨rfl, HB.out⟩
end Dk
end Go.Proofs.Ytlelmffemlgenaa
