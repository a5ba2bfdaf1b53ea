/-
  Layer 11: of the laws: few, acts, does.
-/
import Derived.Test.YtakgkocdkondhaaGreatDoorTfArgs
set_option linter.unusedVariables false
set_option maxRecDepth 100000
namespace Go.Proofs.YtakgkocdkondhaaGreatDoor
namespace Tf
open Go.RowKit Fl Tr Pt
open Lk (Ow T0)

/-! ### few -/
theorem Ls.cut {B : Nat} {w : World} {A : Option Addr} {n cap : Nat} {L : List Sp11} (h : Ls B w A n cap L) {m : Nat} (hm : m ≤ n) : Ls B w A m cap (L.take m) :=
  ⟨by rw [List.length_take, h.len]; omega, Nat.le_trans hm h.le, h.max, fun j hj => by
    obtain ⟨g, off, A2, n2, c2, e, hg, k0, k1, k2, k3, k4, hal, hk⟩ := h.cell j (by omega)
    have e2 : (L.take m).getD j (0, 0, 0, 0, []) = L.getD j (0, 0, 0, 0, []) := by simp [List.getD, hj]
    rw [e2]
    exact ⟨g, off, A2, n2, c2, e, hg, k0, k1, k2, k3, k4, hal, hk⟩⟩
def FewTold11 (A : Option Addr) (n cap : Nat) (L : List Sp11) (w : World) (e : Ending) (w' : World) : Prop := ∃ m, e = .returned (.slice A m cap) ∧ m ≤ n ∧ m ≤ 100 ∧ (∀ j, j < m → (L.getD j (0, 0, 0, 0, [])).2.2.2.2.length ≤ 60) ∧ w = w'
set_option maxHeartbeats 2000000 in
theorem few11_any (A : Option Addr) (n cap B : Nat) (L : List Sp11) (w : World) (h : Ls B w A n cap L) : Calls Tryz.prog 14 #[.slice A n cap] w (FewTold11 A n cap L w) := by
  have HL := Lib.hid h
  have hc1 := h.le
  have hc2 := h.max
  clear h
  go_enter Tryz.func14, Tryz.ntmps14
  go_wp2_with fail
  go_loop [6] (fun iv => ∃ j : Nat, j ≤ n ∧ j ≤ 100 ∧ iv = .int .i64 (j : Int) ∧ Hid (∀ i, i < j → (L.getD i (0, 0, 0, 0, [])).2.2.2.2.length ≤ 60)) (fun iv => n - (intOf iv).toNat)
  case atStart => exact ⟨0, by omega, by omega, rfl, Lib.hid (fun i hi => by omega)⟩
  case round =>
    obtain ⟨j, hj, hj2, rfl, HJ⟩ := hrel
    by_cases hlt : j < n
    · obtain ⟨g, off, A2, n2, c2, rfl, hg, k0, k1, k2, k3, k4, hal, hk⟩ := HL.out.cell j hlt
      have hjI : (j : Int) < (n : Int) := by omega
      have HN : Hid ((L.getD j (0, 0, 0, 0, [])).2.2.2.2.length = n2) := Lib.hid hal.len
      obtain ⟨hd1, hd2⟩ := hal.size
      clear hal hk k0 k1 k2 k3
      by_cases h1 : 100 ≤ j
      · have d1 : decide ((100 : Int) ≤ (j : Int)) = true := decide_eq_true (by omega)
        go_wp2_with fail
        go_ret
        exact ⟨j, rfl, hj, hj2, HJ.out, rfl⟩
      · have d1 : decide ((100 : Int) ≤ (j : Int)) = false := decide_eq_false (by omega)
        by_cases h2 : 60 < n2
        · have d2 : decide ((60 : Int) < (n2 : Int)) = true := decide_eq_true (by omega)
          go_wp2_with fail
          go_ret
          exact ⟨j, rfl, hj, hj2, HJ.out, rfl⟩
        · have d2 : decide ((60 : Int) < (n2 : Int)) = false := decide_eq_false (by omega)
          go_wp2_with fail
          go_round
          case rel => exact ⟨j + 1, by omega, by omega, by go_num, Lib.hid (fun i hi => by
            rcases Nat.lt_succ_iff_lt_or_eq.1 hi with q | q
            · exact HJ.out i q
            · subst q; rw [HN.out]; omega)⟩
          case measure => simp [intOf]; omega
    · obtain rfl : j = n := by omega
      go_wp2_with fail
      go_ret
      exact ⟨j, rfl, hj, hj2, HJ.out, rfl⟩

/-! ### acts -/
/-- What a step gives a robot to do. -/
def ActsIs (W H : Int) (s : ByteArray) (p : Sp11) (L' : List Ac) : Prop := (p.1 % 4 = 1 ∧ L' = p.2.2.2.2) ∨ (p.1 % 4 ≠ 1 ∧ ∃ er, MakeIs W H s p.2.1 5 p.2.2.1 p.2.2.2.1 Bn L' er)
theorem ActsIs.uniq {W H : Int} {s : ByteArray} {p : Sp11} {L L' : List Ac} (h : ActsIs W H s p L) (h' : ActsIs W H s p L') : L = L' := by
  rcases h with ⟨h1, rfl⟩ | ⟨h1, er, h2⟩ <;> rcases h' with ⟨k1, rfl⟩ | ⟨k1, er', k2⟩
  · rfl
  · exact absurd h1 k1
  · exact absurd k1 h1
  · exact (h2.uniq k2).1
def ActsTold (W H : Int) (s : ByteArray) (p : Sp11) (w : World) (e : Ending) (w' : World) : Prop := ∃ A n c L, e = .returned (.slice A n c) ∧ ActsIs W H s p L ∧ Al w'.heap.size w' A n c L ∧ Below w.heap.size w w'
theorem rem4 (k : Nat) (hk : k ≤ 255) : (k : Int) % 4 = ((k % 4 : Nat) : Int) := by omega
set_option maxHeartbeats 2000000 in
theorem acts11_any (W H : Int) (s : ByteArray) (hs : s.size ≤ maxLen) (k : Nat) (hk : k ≤ 255) (r f t : Int) (A : Option Addr) (n c : Nat) (L : List Ac) (w : World) (hA : Al w.heap.size w A n c L) :
    Calls Tryz.prog 31 #[.agg #[.int .i64 W, .int .i64 H, .string s], stepV k r f t A n c] w (ActsTold W H s (k, r, f, t, L) w) := by
  unfold stepV
  have HA := Lib.hid hA
  have HMK := Lib.hid (fun wx => rmake_any W H s hs r 5 f t none 0 0 (fun _ => 0) wx (Il.empty _ _ _))
  have hB : Below w.heap.size w ((w.alloc (.cells #[.int .i64 W, .int .i64 H, .string s] 25)).alloc (.cells #[.int .u8 (k : Int), .int .i64 r, .int .i64 f, .int .i64 t, .slice A n c] 37)) := ((Below.refl w.heap.size w).alloc (Nat.le_refl _) _).alloc (by simp) _
  have HB := Lib.hid hB
  have hsz : (w.alloc (.cells #[.int .i64 W, .int .i64 H, .string s] 25)).heap.size = w.heap.size + 1 := by simp
  have hSx := Sx.new (w.alloc (.cells #[.int .i64 W, .int .i64 H, .string s] 25)) k r f t A n c
  have hFb := (Fb.new w W H s).later ((Below.refl _ _).alloc (Nat.le_refl _) (.cells #[.int .u8 (k : Int), .int .i64 r, .int .i64 f, .int .i64 t, .slice A n c] 37))
  rw [hsz] at hSx
  obtain ⟨c0, c1, c2, c3, c4, cl⟩ := hSx.cells
  obtain ⟨f0, f1, f2, fl, _⟩ := hFb.cells
  clear hA hB hsz hSx hFb
  have hr := rem4 k hk
  by_cases h1 : k % 4 = 1
  · have d1 : ((k : Int) % 4 == 1) = true := by rw [hr, h1]; rfl
    have H1 := Lib.hid h1
    clear hr h1
    go_enter Tryz.func31, Tryz.ntmps31
    go_wp2_with fail
    go_ret
    exact ⟨A, n, c, L, rfl, .inl ⟨H1.out, rfl⟩, HA.out.later HB.out, HB.out⟩
  · have d1 : ((k : Int) % 4 == 1) = false := by rw [hr, beq_eq_false_iff_ne]; omega
    have H1 := Lib.hid h1
    clear hr h1
    go_enter Tryz.func31, Tryz.ntmps31
    go_wp2_with fail
    refine (HMK.out _).mono ?_
    rintro e w2 ⟨A2, n2, k2, L2, er, rfl, hm, _, _, hal, hb2⟩
    have HM := Lib.hid (And.intro hm (And.intro hal (HB.out.trans (hb2.mono HB.out.size))))
    clear hm hal hb2
    go_wp2_with fail
    go_ret
    exact ⟨A2, n2, k2, L2, rfl, .inr ⟨H1.out, er, HM.out.1⟩, HM.out.2.1, HM.out.2.2⟩

/-! ### does -/
/-- What a step does. -/
def DoesR (W H : Int) (s : ByteArray) (R : List Mv) (T : List Ow) (p : Sp11) (x : Ac) (er : Int) (R' : List Mv) (T' : List Ow) : Prop :=
  (p.1 % 4 = 2 ∧ grantF s R T p.2.1 = ((x, er), R', T')) ∨ (p.1 % 4 = 3 ∧ x = (0, 0, 0) ∧ doneF s R T p.2.1 = (er, R', T')) ∨
  (p.1 % 4 ≠ 2 ∧ p.1 % 4 ≠ 3 ∧ x = (0, 0, 0) ∧ T' = T ∧ ∃ L, ActsIs W H s p L ∧ startF W H s R p.2.1 L = (er, R'))
theorem DoesR.inv {W H : Int} {s : ByteArray} {R R' : List Mv} {T T' : List Ow} {p : Sp11} {x : Ac} {er : Int} (h : Inv W H s R T) (hd : DoesR W H s R T p x er R' T') : Inv W H s R' T' := by
  rcases hd with ⟨_, h1⟩ | ⟨_, _, h1⟩ | ⟨_, _, _, rfl, L, _, h1⟩
  · have := h.grantF p.2.1; rw [h1] at this; exact this
  · have := h.doneF p.2.1; rw [h1] at this; exact this
  · have := h.startF p.2.1 L; rw [h1] at this; exact this
def DoesTold (S g M cap top : Nat) (W H : Int) (s : ByteArray) (R : List Mv) (T : List Ow) (p : Sp11) (w : World) (e : Ending) (w' : World) : Prop :=
  ∃ x er R' T', e = .returned (.tuple #[actV x, .int .i64 er]) ∧ DoesR W H s R T p x er R' T' ∧ St w' S g M cap top W H s R' T' ∧ Fr g M w w'
/-- The boxes of a step: a floor, a step, an act. -/
structure Db3 (w0 : World) (b1 b2 b3 : Nat) (W H : Int) (s : ByteArray) (k : Nat) (r f t : Int) (A : Option Addr) (n c : Nat) (w : World) : Prop where
  below : Below w0.heap.size w0 w
  fb : Fb b1 W H s w
  sx : Sx b2 k r f t A n c w
  ab : Ab b3 (0, 0, 0) w
  ge : w0.heap.size ≤ b1 ∧ w0.heap.size ≤ b2 ∧ w0.heap.size ≤ b3 ∧ b1 ≠ b3 ∧ b2 ≠ b3
theorem Db3.later {w0 : World} {b1 b2 b3 : Nat} {W H : Int} {s : ByteArray} {k : Nat} {r f t : Int} {A : Option Addr} {n c : Nat} {w w' : World} (h : Db3 w0 b1 b2 b3 W H s k r f t A n c w) (hb : Below w.heap.size w w') : Db3 w0 b1 b2 b3 W H s k r f t A n c w' :=
  ⟨h.below.trans (hb.mono h.below.size), h.fb.later hb, h.sx.later hb, h.ab.later hb, h.ge⟩
theorem Db3.start (w : World) (W H : Int) (s : ByteArray) (k : Nat) (r f t : Int) (A : Option Addr) (n c : Nat) : Db3 w w.heap.size (w.heap.size + 1) (w.heap.size + 1 + 1) W H s k r f t A n c (((w.alloc (.cells #[.int .i64 W, .int .i64 H, .string s] 25)).alloc (.cells #[.int .u8 (k : Int), .int .i64 r, .int .i64 f, .int .i64 t, .slice A n c] 37)).alloc (.cells #[.int .u8 0, .int .i64 0, .int .i64 0] 39)) := by
  have h1 := Fb.new w W H s
  have s1 : (w.alloc (.cells #[.int .i64 W, .int .i64 H, .string s] 25)).heap.size = w.heap.size + 1 := by simp
  have b1 : Below w.heap.size w (w.alloc (.cells #[.int .i64 W, .int .i64 H, .string s] 25)) := (Below.refl _ _).alloc (Nat.le_refl _) _
  generalize w.alloc (.cells #[.int .i64 W, .int .i64 H, .string s] 25) = x1 at *
  have h2 := Sx.new x1 k r f t A n c
  have s2 : (x1.alloc (.cells #[.int .u8 (k : Int), .int .i64 r, .int .i64 f, .int .i64 t, .slice A n c] 37)).heap.size = w.heap.size + 1 + 1 := by simp [s1]
  have b2 : Below x1.heap.size x1 (x1.alloc (.cells #[.int .u8 (k : Int), .int .i64 r, .int .i64 f, .int .i64 t, .slice A n c] 37)) := (Below.refl _ _).alloc (Nat.le_refl _) _
  rw [s1] at h2
  generalize x1.alloc (.cells #[.int .u8 (k : Int), .int .i64 r, .int .i64 f, .int .i64 t, .slice A n c] 37) = x2 at *
  have h3 := Ab.new x2
  rw [s2] at h3
  have b3 : Below x2.heap.size x2 (x2.alloc (.cells #[.int .u8 0, .int .i64 0, .int .i64 0] 39)) := (Below.refl _ _).alloc (Nat.le_refl _) _
  exact ⟨(b1.trans (b2.mono b1.size)).trans (b3.mono (Nat.le_trans b1.size b2.size)), (h1.later b2).later b3, h2.later b3, h3, ⟨by omega, by omega, by omega, by omega, by omega⟩⟩
/-- A zero act is laid where one lies. -/
theorem same_zero {b : Nat} {w : World} (h : Ab b (0, 0, 0) w) : ∀ k : Nat, (((w.setCell ⟨b, 0, none⟩ (.int .u8 0)).setCell ⟨b, 1, none⟩ (.int .i64 0)).setCell ⟨b, 2, none⟩ (.int .i64 0)).heap[k]? = w.heap[k]? := fun k => by
  by_cases e : k = b
  · subst e
    exact (h.put 0 0 0).trans h.symm
  · rw [heap_setCell_other _ ⟨b, 2, none⟩ k _ e, heap_setCell_other _ ⟨b, 1, none⟩ k _ e, heap_setCell_other _ ⟨b, 0, none⟩ k _ e]
theorem put3 {w : World} {g x0 x1 x2 : Nat} {u0 u1 u2 : Value} {p : Addr} (h : p.block ≠ g) : (((w.setCell ⟨g, x0, none⟩ u0).setCell ⟨g, x1, none⟩ u1).setCell ⟨g, x2, none⟩ u2).cell? p = w.cell? p :=
  (World.cell?_of_block (a := p) (heap_setCell_other _ ⟨g, x2, none⟩ p.block _ h)).trans (two_put h)
theorem Fr.same {g M : Nat} {w0 w w' : World} (h : Fr g M w0 w) (hos : w'.os = w.os) (htp : w'.tape = w.tape) (hout : w'.output = w.output) (hsz : w.heap.size ≤ w'.heap.size) (hk : ∀ k, k < w0.heap.size → w'.heap[k]? = w.heap[k]?) : Fr g M w0 w' :=
  ⟨hos.trans h.os, htp.trans h.tape, hout.trans h.output, Nat.le_trans h.size hsz, fun k hk2 hF => (hk k hk2).trans (h.block k hk2 hF), fun k hk => .inl hk⟩
section
variable {w : World} {S g M cap top : Nat} {W H : Int} {s : ByteArray} {R : List Mv} {T : List Ow}
set_option maxHeartbeats 8000000 in
theorem does11_any (h : St w S g M cap top W H s R T) (hI : Inv W H s R T) (hs : s.size ≤ maxLen) (k : Nat) (hk : k ≤ 255) (r f t : Int) (A : Option Addr) (n c : Nat) (L : List Ac) (hA : Al w.heap.size w A n c L) :
    Calls Tryz.prog 15 #[.agg #[.int .i64 W, .int .i64 H, .string s], .pointer (some ⟨S, 0, none⟩), stepV k r f t A n c] w (DoesTold S g M cap top W H s R T (k, r, f, t, L) w) := by
  unfold stepV
  have hD := Db3.start w W H s k r f t A n c
  have HH := Lib.hid h
  have HI := Lib.hid hI
  have HAL := Lib.hid hA
  have hr := rem4 k hk
  have HT := Lib.hid h.tops
  have HAC := Lib.hid (fun wx (hb : Below w.heap.size w wx) => acts11_any W H s hs k hk r f t A n c L wx (hA.later hb))
  unfold stepV at HAC
  go_enter Tryz.func15, Tryz.ntmps15
  go_upto_region 1 with (fail)
  obtain ⟨b3, hb3⟩ : ∃ b3, b3 = w.heap.size + 1 + 1 := ⟨_, rfl⟩
  obtain ⟨b2, hb2⟩ : ∃ b2, b2 = w.heap.size + 1 := ⟨_, rfl⟩
  obtain ⟨b1, hb1⟩ : ∃ b1, b1 = w.heap.size := ⟨_, rfl⟩
  rw [← hb3, ← hb2, ← hb1] at hD
  rw [← hb3, ← hb2, ← hb1]
  clear hb1 hb2 hb3
  generalize (((w.alloc (.cells #[.int .i64 W, .int .i64 H, .string s] 25)).alloc (.cells #[.int .u8 (k : Int), .int .i64 r, .int .i64 f, .int .i64 t, .slice A n c] 37)).alloc (.cells #[.int .u8 0, .int .i64 0, .int .i64 0] 39)) = w1 at *
  have HD := Lib.hid hD
  obtain ⟨c0, c1, c2, c3, c4, cl⟩ := hD.sx.cells
  obtain ⟨f0, f1, f2, fl, _⟩ := hD.fb.cells
  obtain ⟨z0, z1, z2, z3, z4, z5, z6⟩ := hD.ab.cells
  have HNE : Hid (¬ (b3 = g ∨ b3 = M)) := Lib.hid (by have := hD.ge.2.2.1; have := h.tops; omega)
  clear hD hA h hI
  by_cases h2 : k % 4 = 2
  · have d2 : ((k : Int) % 4 == 2) = true := by rw [hr, h2]; rfl
    have H2 := Lib.hid h2
    clear hr h2
    have HG := Lib.hid (grant_near HH.out HD.out.below HI.out r)
    go_wp2_with fail
    refine HG.out.mono ?_
    rintro e w2 ⟨rfl, hn2, hf2⟩
    have ha2 : Ab b3 (0, 0, 0) w2 := (hf2.block b3 z3 HNE.out).trans HD.out.ab
    generalize hG : grantF s R T r = G at *
    obtain ⟨⟨⟨x, y, z⟩, er⟩, R', T'⟩ := G
    simp only at hn2 ⊢
    have HFB := Lib.hid (ha2.put x y z)
    have HST : Hid (St (((w2.setCell ⟨b3, 0, none⟩ (.int .u8 (x : Int))).setCell ⟨b3, 1, none⟩ (.int .i64 y)).setCell ⟨b3, 2, none⟩ (.int .i64 z)) S g M cap top W H s R' T') := Lib.hid (hn2 _ (by simp [World.setCell]) (fun q hq => by
      have h1 := HD.out.ge.2.2.1
      rw [heap_setCell_other _ ⟨b3, 2, none⟩ q _ (by show q ≠ b3; omega), heap_setCell_other _ ⟨b3, 1, none⟩ q _ (by show q ≠ b3; omega), heap_setCell_other _ ⟨b3, 0, none⟩ q _ (by show q ≠ b3; omega)]))
    have HFF : Hid (Fr g M w (((w2.setCell ⟨b3, 0, none⟩ (.int .u8 (x : Int))).setCell ⟨b3, 1, none⟩ (.int .i64 y)).setCell ⟨b3, 2, none⟩ (.int .i64 z))) := Lib.hid (((Fr.of HD.out.below).trans hf2).same rfl rfl rfl (by simp [World.setCell]) (fun q hq => by
      have h1 := HD.out.ge.2.2.1
      rw [heap_setCell_other _ ⟨b3, 2, none⟩ q _ (by show q ≠ b3; omega), heap_setCell_other _ ⟨b3, 1, none⟩ q _ (by show q ≠ b3; omega), heap_setCell_other _ ⟨b3, 0, none⟩ q _ (by show q ≠ b3; omega)]))
    have HGE := Lib.hid hG
    clear z0 z1 z2 z3 z4 z5 z6 hG hn2 hf2
    obtain ⟨z0, z1, z2, z3, z4, z5, z6⟩ := ha2.cells
    clear ha2
    dsimp only [actV]
    go_wp2_with fail
    obtain ⟨r0, r1, r2, _⟩ := HFB.out.cells
    exact bodyPost_ret (v := .tuple #[.agg #[.int .u8 (x : Int), .int .i64 y, .int .i64 z], .int .i64 er]) (by simp [results, Tryz.results15, go_sem, r0, r1, r2]) rfl ⟨(x, y, z), er, R', T', rfl, .inl ⟨H2.out, HGE.out⟩, HST.out, HFF.out⟩
  · have d2 : ((k : Int) % 4 == 2) = false := by rw [hr, beq_eq_false_iff_ne]; omega
    have H2 := Lib.hid h2
    clear h2
    by_cases h3 : k % 4 = 3
    · have d3 : ((k : Int) % 4 == 3) = true := by rw [hr, h3]; rfl
      have H3 := Lib.hid h3
      clear hr h3
      have HG := Lib.hid (done_any (HH.out.later HD.out.below) HI.out r)
      go_wp2_with fail
      refine HG.out.mono ?_
      rintro e w2 ⟨rfl, hs2, hf2⟩
      have ha2 : Ab b3 (0, 0, 0) w2 := (hf2.block b3 z3 HNE.out).trans HD.out.ab
      have HSE := Lib.hid (same_zero ha2)
      have HST : Hid (St (((w2.setCell ⟨b3, 0, none⟩ (.int .u8 0)).setCell ⟨b3, 1, none⟩ (.int .i64 0)).setCell ⟨b3, 2, none⟩ (.int .i64 0)) S g M cap top W H s (doneF s R T r).2.1 (doneF s R T r).2.2) := Lib.hid (hs2.eq (by simp [World.setCell]) (fun q _ => HSE.out q))
      have HFF : Hid (Fr g M w (((w2.setCell ⟨b3, 0, none⟩ (.int .u8 0)).setCell ⟨b3, 1, none⟩ (.int .i64 0)).setCell ⟨b3, 2, none⟩ (.int .i64 0))) := Lib.hid (((Fr.of HD.out.below).trans hf2).same rfl rfl rfl (by simp [World.setCell]) (fun q _ => HSE.out q))
      have HFB : Hid (Ab b3 (0, 0, 0) (((w2.setCell ⟨b3, 0, none⟩ (.int .u8 0)).setCell ⟨b3, 1, none⟩ (.int .i64 0)).setCell ⟨b3, 2, none⟩ (.int .i64 0))) := Lib.hid (ha2.put 0 0 0)
      clear z0 z1 z2 z3 z4 z5 z6 hs2 hf2
      obtain ⟨z0, z1, z2, z3, z4, z5, z6⟩ := ha2.cells
      clear ha2
      go_wp2_with fail
      obtain ⟨r0, r1, r2, _⟩ := HFB.out.cells
      exact bodyPost_ret (v := .tuple #[.agg #[.int .u8 0, .int .i64 0, .int .i64 0], .int .i64 (doneF s R T r).1]) (by simp [results, Tryz.results15, go_sem, r0, r1, r2]) rfl ⟨(0, 0, 0), (doneF s R T r).1, _, _, rfl, .inr (.inl ⟨H3.out, rfl, rfl⟩), HST.out, HFF.out⟩
    · have d3 : ((k : Int) % 4 == 3) = false := by rw [hr, beq_eq_false_iff_ne]; omega
      have H3 := Lib.hid h3
      clear hr h3
      have HKB : Hid (b1 ≠ g ∧ b1 ≠ M ∧ b2 ≠ g ∧ b2 ≠ M) := Lib.hid (by have h1 := HD.out.ge.1; have h2 := HD.out.ge.2.1; have ht := HT.out; omega)
      have HR := Lib.hid (And.intro HI.out.right HI.out.n)
      have HNB := Lib.hid (And.intro HD.out.ge.2.2.2.1 HD.out.ge.2.2.2.2)
      go_upto_region 6 with (fail)
      go_region_held3 (fun w' => (w'.cell? ⟨b1, 0, none⟩ = some (.int .i64 W) ∧ w'.cell? ⟨b1, 1, none⟩ = some (.int .i64 H) ∧ w'.cell? ⟨b1, 2, none⟩ = some (.string s)) ∧ w'.cell? ⟨b2, 0, none⟩ = some (.int .u8 (k : Int)) ∧ w'.cell? ⟨b2, 1, none⟩ = some (.int .i64 r) ∧ w'.cell? ⟨b2, 2, none⟩ = some (.int .i64 f) ∧ w'.cell? ⟨b2, 3, none⟩ = some (.int .i64 t) ∧ w'.cell? ⟨b2, 4, none⟩ = some (.slice A n c)) (first | go_keep | exact ⟨⟨by rw [put3 (p := ⟨b1, 0, none⟩) HNB.out.1]; assumption, by rw [put3 (p := ⟨b1, 1, none⟩) HNB.out.1]; assumption, by rw [put3 (p := ⟨b1, 2, none⟩) HNB.out.1]; assumption⟩, by rw [put3 (p := ⟨b2, 0, none⟩) HNB.out.2]; assumption, by rw [put3 (p := ⟨b2, 1, none⟩) HNB.out.2]; assumption, by rw [put3 (p := ⟨b2, 2, none⟩) HNB.out.2]; assumption, by rw [put3 (p := ⟨b2, 3, none⟩) HNB.out.2]; assumption, by rw [put3 (p := ⟨b2, 4, none⟩) HNB.out.2]; assumption⟩)
        ((first
          | (go_at_call 31; refine (HAC.out _ (by first | exact HD.out.below | exact HD.out.below.trans ((Below.refl _ _).drew.mono HD.out.below.size))).mono ?_; rintro e w2 ⟨A2, n2, c2', L2, rfl, hact, hal, hb2⟩; have HB2 : Hid (Below w1.heap.size w1 w2) := Lib.hid (by first | exact (Below.refl _ w1).drew.trans hb2 | exact hb2); have HACT := Lib.hid hact; have HAL2 := Lib.hid hal; have HD2 := Lib.hid (HD.out.later HB2.out); obtain ⟨x0, x1, x2, x3, x4, xl⟩ := HD2.out.sx.cells; obtain ⟨y0, y1, y2, yl, _⟩ := HD2.out.fb.cells; have HSA := Lib.hid (start_any (HH.out.later HD2.out.below) hs HR.out.1 HR.out.2 r A2 n2 c2' L2 hal); clear hact hal hb2)
          | (go_at_call 32; refine HSA.out.mono ?_; rintro e w3 ⟨rfl, hs3, hf3⟩; have HS3 := Lib.hid hs3; have HF3 := Lib.hid ((Fr.of HD2.out.below).trans hf3); have ha3 : Ab b3 (0, 0, 0) w3 := (hf3.block b3 (lt_of_heap HD2.out.ab) HNE.out).trans HD2.out.ab; have hb3' : Fb b1 W H s w3 := (hf3.block b1 (lt_of_heap HD2.out.fb) (fun q => by rcases q with q | q; exact HKB.out.1 q; exact HKB.out.2.1 q)).trans HD2.out.fb; have hs3' : Sx b2 k r f t A n c w3 := (hf3.block b2 (lt_of_heap HD2.out.sx) (fun q => by rcases q with q | q; exact HKB.out.2.2.1 q; exact HKB.out.2.2.2 q)).trans HD2.out.sx; have HA3 := Lib.hid ha3; obtain ⟨p0, p1, p2, p3, p4, pl⟩ := hs3'.cells; obtain ⟨q0, q1, q2, ql, _⟩ := hb3'.cells; obtain ⟨m0, m1, m2, m3, m4, m5, m6⟩ := ha3.cells; clear hs3 hf3 ha3 hb3' hs3')))
      all_goals
        have HSE := Lib.hid (same_zero HA3.out)
        have HST : Hid (St (((w3.setCell ⟨b3, 0, none⟩ (.int .u8 0)).setCell ⟨b3, 1, none⟩ (.int .i64 0)).setCell ⟨b3, 2, none⟩ (.int .i64 0)) S g M cap top W H s (startF W H s R r L2).2 T) := Lib.hid (HS3.out.eq (by simp [World.setCell]) (fun q _ => HSE.out q))
        have HFF : Hid (Fr g M w (((w3.setCell ⟨b3, 0, none⟩ (.int .u8 0)).setCell ⟨b3, 1, none⟩ (.int .i64 0)).setCell ⟨b3, 2, none⟩ (.int .i64 0))) := Lib.hid (HF3.out.same rfl rfl rfl (by simp [World.setCell]) (fun q _ => HSE.out q))
        have HFB : Hid (Ab b3 (0, 0, 0) (((w3.setCell ⟨b3, 0, none⟩ (.int .u8 0)).setCell ⟨b3, 1, none⟩ (.int .i64 0)).setCell ⟨b3, 2, none⟩ (.int .i64 0))) := Lib.hid (HA3.out.put 0 0 0)
        go_wp2_with fail
        obtain ⟨r0, r1, r2, _⟩ := HFB.out.cells
        exact bodyPost_ret (v := .tuple #[.agg #[.int .u8 0, .int .i64 0, .int .i64 0], .int .i64 (startF W H s R r L2).1]) (by simp [results, Tryz.results15, go_sem, r0, r1, r2]) rfl ⟨(0, 0, 0), (startF W H s R r L2).1, _, _, rfl, .inr (.inr ⟨H2.out, H3.out, rfl, rfl, L2, HACT.out, rfl⟩), HST.out, HFF.out⟩
end
end Tf
end Go.Proofs.YtakgkocdkondhaaGreatDoor
